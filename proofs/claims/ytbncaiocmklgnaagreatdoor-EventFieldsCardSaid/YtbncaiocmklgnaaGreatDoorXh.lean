/- lex: isAll; the reference's atomByte, plain, null. -/
import Derived.Test.YtbncaiocmklgnaaGreatDoorXd
namespace Go.Proofs.YtbncaiocmklgnaaGreatDoor
open Go.RowKit

set_option maxHeartbeats 4000000 in
theorem isAll_at (bit : Nat) (b : Int) (s : ByteArray) (w : World) (hbit : (bit = 1 ∧ b = 1) ∨ (bit = 2 ∧ b = 2) ∨ (bit = 4 ∧ b = 4) ∨ (bit = 16 ∧ b = 16)) (hs : s.size ≤ 140737488355328) :
    Calls Tryz.prog 39 #[.int .i64 b, .string s] w fun e w' => e = .returned (.bool (allB bit (L s))) ∧ w' = w := by
  go_enter Tryz.func39, Tryz.ntmps39
  go_wp2
  go_loop [8] (fun i => ∃ k : Nat, k ≤ s.size ∧ i = .int .i64 k ∧ ((L s).take k).all (bitB bit) = true) (fun i => s.size - (intOf i).toNat)
  case atStart => exact ⟨0, Nat.zero_le _, rfl, by simp⟩
  case round =>
    obtain ⟨k, hk, rfl, hall⟩ := hrel
    by_cases hlt : k < s.size
    · have ea := get_btx s k hlt
      have hD := Lib.hid (fun W => bitsOf_any (bt (L s) k) W)
      have HS := Lib.hid (all_snocP (bitB bit) (L s) k hlt hall)
      have HN := Lib.hid (all_noP (bitB bit) (L s) k hlt)
      have c0 : (bt (L s) k).toNat < 256 := bt_lt _ _
      have h6 := bits_six (bt (L s) k)
      clear hall
      cases hb : bitB bit (bt (L s) k) with
      | false =>
        have HF : Hid (allB bit (L s) = false) := Lib.hid (HN.out hb)
        unfold bitB at hb
        clear HN HS
        generalize hB : bitsN (bt (L s) k) = B at *
        clear hB
        rcases hbit with ⟨rfl, rfl⟩ | ⟨rfl, rfl⟩ | ⟨rfl, rfl⟩ | ⟨rfl, rfl⟩
        all_goals rcases h6 with rfl | rfl | rfl | rfl | rfl | rfl
        all_goals first
          | (exfalso; revert hb; decide)
          | (clear hb
             go_wp2_with (go_at_call 54; refine (hD.out _).mono ?_; rintro e w' ⟨rfl, rfl⟩)
             go_ret
             exact ⟨ret_bool HF.out.symm, rfl⟩)
      | true =>
        have HS2 := Lib.hid (HS.out hb)
        unfold bitB at hb
        clear HN HS
        generalize hB : bitsN (bt (L s) k) = B at *
        clear hB
        rcases hbit with ⟨rfl, rfl⟩ | ⟨rfl, rfl⟩ | ⟨rfl, rfl⟩ | ⟨rfl, rfl⟩
        all_goals rcases h6 with rfl | rfl | rfl | rfl | rfl | rfl
        all_goals first
          | (exfalso; revert hb; decide)
          | (clear hb
             go_wp2_with (go_at_call 54; refine (hD.out _).mono ?_; rintro e w' ⟨rfl, rfl⟩)
             go_round
             case rel => exact ⟨k + 1, by omega, by go_num, HS2.out⟩
             case measure => simp [intOf]; omega)
    · have HT : Hid (allB bit (L s) = true) := Lib.hid (by
        rw [List.take_of_length_le (by rw [L_length]; omega)] at hall
        exact hall)
      clear hall
      go_wp2
      go_ret
      exact ⟨ret_bool HT.out.symm, rfl⟩
theorem word_class (c : UInt8) : (c.toNat < 33 ∧ wordC c = false) ∨ (126 < c.toNat ∧ wordC c = false) ∨ (c.toNat = 40 ∧ wordC c = false) ∨ (c.toNat = 41 ∧ wordC c = false) ∨ (c.toNat = 91 ∧ wordC c = false) ∨ (c.toNat = 93 ∧ wordC c = false)
    ∨ (c.toNat = 123 ∧ wordC c = false) ∨ (c.toNat = 125 ∧ wordC c = false) ∨ (c.toNat = 34 ∧ wordC c = false)
    ∨ ((33 ≤ c.toNat ∧ c.toNat ≤ 126 ∧ c.toNat ≠ 40 ∧ c.toNat ≠ 41 ∧ c.toNat ≠ 91 ∧ c.toNat ≠ 93 ∧ c.toNat ≠ 123 ∧ c.toNat ≠ 125 ∧ c.toNat ≠ 34) ∧ wordC c = true) :=
  all_bytes (p := fun c => (c.toNat < 33 ∧ wordC c = false) ∨ (126 < c.toNat ∧ wordC c = false) ∨ (c.toNat = 40 ∧ wordC c = false) ∨ (c.toNat = 41 ∧ wordC c = false) ∨ (c.toNat = 91 ∧ wordC c = false) ∨ (c.toNat = 93 ∧ wordC c = false)
    ∨ (c.toNat = 123 ∧ wordC c = false) ∨ (c.toNat = 125 ∧ wordC c = false) ∨ (c.toNat = 34 ∧ wordC c = false)
    ∨ ((33 ≤ c.toNat ∧ c.toNat ≤ 126 ∧ c.toNat ≠ 40 ∧ c.toNat ≠ 41 ∧ c.toNat ≠ 91 ∧ c.toNat ≠ 93 ∧ c.toNat ≠ 123 ∧ c.toNat ≠ 125 ∧ c.toNat ≠ 34) ∧ wordC c = true)) (by decide +kernel) c
theorem bneI_no {n k : Int} (h : n ≠ k) : (n != k) = true := by rw [bne_iff_ne]; exact h
set_option maxHeartbeats 1000000 in
theorem atomByte_any (c : UInt8) (w : World) :
    Calls Tryz.prog 60 #[.int .u8 (c.toNat : Int)] w fun e w' => e = .returned (.bool (wordC c)) ∧ w' = w := by
  have h256 : c.toNat < 256 := c.toNat_lt
  rcases word_class c with ⟨h, e⟩ | ⟨h, e⟩ | ⟨h, e⟩ | ⟨h, e⟩ | ⟨h, e⟩ | ⟨h, e⟩ | ⟨h, e⟩ | ⟨h, e⟩ | ⟨h, e⟩ | ⟨⟨h1, h2, h3, h4, h5, h6, h7, h8, h9⟩, e⟩
  all_goals rw [e]
  all_goals clear e
  all_goals generalize c.toNat = n at *
  all_goals try subst h
  all_goals try have a0 := bneI_no (n := (n : Int)) (k := 40) (by omega)
  all_goals try have a1 := bneI_no (n := (n : Int)) (k := 41) (by omega)
  all_goals try have a2 := bneI_no (n := (n : Int)) (k := 91) (by omega)
  all_goals try have a3 := bneI_no (n := (n : Int)) (k := 93) (by omega)
  all_goals try have a4 := bneI_no (n := (n : Int)) (k := 123) (by omega)
  all_goals try have a5 := bneI_no (n := (n : Int)) (k := 125) (by omega)
  all_goals try have a6 := bneI_no (n := (n : Int)) (k := 34) (by omega)
  all_goals (
    go_enter Tryz.func60, Tryz.ntmps60
    go_wp2
    go_ret
    exact ⟨ret_bool (by first | rfl | simp_all | (simp; omega)), rfl⟩)
theorem atom_class (c : UInt8) : (wordC c = false ∧ atomC c = false) ∨ (c.toNat = 37 ∧ wordC c = true ∧ atomC c = false) ∨ (c.toNat = 42 ∧ wordC c = true ∧ atomC c = false) ∨ (c.toNat = 92 ∧ wordC c = true ∧ atomC c = false)
    ∨ ((c.toNat ≠ 37 ∧ c.toNat ≠ 42 ∧ c.toNat ≠ 92) ∧ wordC c = true ∧ atomC c = true) :=
  all_bytes (p := fun c => (wordC c = false ∧ atomC c = false) ∨ (c.toNat = 37 ∧ wordC c = true ∧ atomC c = false) ∨ (c.toNat = 42 ∧ wordC c = true ∧ atomC c = false) ∨ (c.toNat = 92 ∧ wordC c = true ∧ atomC c = false)
    ∨ ((c.toNat ≠ 37 ∧ c.toNat ≠ 42 ∧ c.toNat ≠ 92) ∧ wordC c = true ∧ atomC c = true)) (by decide +kernel) c
set_option maxHeartbeats 1000000 in
theorem plain_any (c : UInt8) (w : World) :
    Calls Tryz.prog 51 #[.int .u8 (c.toNat : Int)] w fun e w' => e = .returned (.bool (atomC c)) ∧ w' = w := by
  have h256 : c.toNat < 256 := c.toNat_lt
  have hA := Lib.hid (fun W => atomByte_any c W)
  rcases atom_class c with ⟨hw, e⟩ | ⟨h, hw, e⟩ | ⟨h, hw, e⟩ | ⟨h, hw, e⟩ | ⟨⟨h1, h2, h3⟩, hw, e⟩
  all_goals rw [e]
  all_goals rw [hw] at hA
  all_goals clear e hw
  all_goals generalize c.toNat = n at *
  all_goals try subst h
  all_goals try have a0 := bneI_no (n := (n : Int)) (k := 37) (by omega)
  all_goals try have a1 := bneI_no (n := (n : Int)) (k := 42) (by omega)
  all_goals try have a2 := bneI_no (n := (n : Int)) (k := 92) (by omega)
  all_goals (
    go_enter Tryz.func51, Tryz.ntmps51
    go_wp2_with (go_at_call 60; refine (hA.out _).mono ?_; rintro e w' ⟨rfl, rfl⟩)
    go_ret
    exact ⟨ret_bool (by first | rfl | simp_all | (simp; omega)), rfl⟩)
end Go.Proofs.YtbncaiocmklgnaaGreatDoor

/- The reference's atom, null and Is. -/
namespace Go.Proofs.YtbncaiocmklgnaaGreatDoor
open Go.RowKit

theorem isEmpty_L (s : ByteArray) (h : s.size = 0) : (L s).isEmpty = true := by
  cases hl : L s with
  | nil => rfl
  | cons a b => exact absurd (by rw [← L_length, hl] at h; exact h) (by simp)
theorem isEmpty_Ln (s : ByteArray) (h : s.size ≠ 0) : (L s).isEmpty = false := by
  cases hl : L s with
  | nil => exact absurd (by rw [← L_length, hl]; rfl) h
  | cons a b => rfl
theorem isAtom_no (s : ByteArray) (k : Nat) (hk : k < s.size) (h : atomC (bt (L s) k) = false) : isAtom (L s) = false := by
  unfold isAtom; rw [all_noP atomC (L s) k hk h, Bool.and_false]
theorem isAtom_yes (s : ByteArray) (h0 : s.size ≠ 0) (h : (L s).all atomC = true) : isAtom (L s) = true := by
  unfold isAtom; rw [h, isEmpty_Ln s h0]; rfl
theorem isAtom_nil (s : ByteArray) (h0 : s.size = 0) : isAtom (L s) = false := by
  unfold isAtom; rw [isEmpty_L s h0]; rfl
set_option maxHeartbeats 1000000 in
theorem ratom_any (s : ByteArray) (w : World) (hs : s.size ≤ 140737488355328) :
    Calls Tryz.prog 49 #[.string s] w fun e w' => e = .returned (.bool (isAtom (L s))) ∧ w' = w := by
  go_enter Tryz.func49, Tryz.ntmps49
  go_wp2
  go_loop [3] (fun i => ∃ k : Nat, k ≤ s.size ∧ i = .int .i64 k ∧ ((L s).take k).all atomC = true) (fun i => s.size - (intOf i).toNat)
  case atStart => exact ⟨0, Nat.zero_le _, rfl, by simp⟩
  case round =>
    obtain ⟨k, hk, rfl, hall⟩ := hrel
    by_cases hlt : k < s.size
    · have ea := get_btx s k hlt
      have hD := Lib.hid (fun W => plain_any (bt (L s) k) W)
      have HS := Lib.hid (all_snocP atomC (L s) k hlt hall)
      have HN := Lib.hid (isAtom_no s k hlt)
      have c0 : (bt (L s) k).toNat < 256 := bt_lt _ _
      clear hall
      cases hb : atomC (bt (L s) k) with
      | false =>
        have HF := Lib.hid (HN.out hb)
        rw [hb] at hD
        clear HN HS
        go_wp2_with (go_at_call 51; refine (hD.out _).mono ?_; rintro e w' ⟨rfl, rfl⟩)
        go_ret
        exact ⟨ret_bool HF.out.symm, rfl⟩
      | true =>
        have HS2 := Lib.hid (HS.out hb)
        rw [hb] at hD
        clear HN HS
        go_wp2_with (go_at_call 51; refine (hD.out _).mono ?_; rintro e w' ⟨rfl, rfl⟩)
        go_round
        case rel => exact ⟨k + 1, by omega, by go_num, HS2.out⟩
        case measure => simp [intOf]; omega
    · rw [List.take_of_length_le (by rw [L_length]; omega)] at hall
      by_cases h0 : s.size = 0
      · have HF := Lib.hid (isAtom_nil s h0)
        clear hall
        go_wp2
        go_ret
        exact ⟨ret_bool (by first | exact HF.out.symm | (rw [HF.out, decide_eq_false_iff_not]; omega)), rfl⟩
      · have HF := Lib.hid (isAtom_yes s h0 hall)
        have h1 : 0 < s.size := by omega
        clear hall
        go_wp2
        go_ret
        exact ⟨ret_bool (by first | exact HF.out.symm | (rw [HF.out, decide_eq_true_iff]; omega)), rfl⟩
theorem sm_n (c : UInt8) : (sm c == 110) = (((c.toNat : Int) == 78) || ((c.toNat : Int) == 110)) := all_bytes (p := fun c => (sm c == 110) = (((c.toNat : Int) == 78) || ((c.toNat : Int) == 110))) (by decide +kernel) c
theorem sm_i (c : UInt8) : (sm c == 105) = (((c.toNat : Int) == 73) || ((c.toNat : Int) == 105)) := all_bytes (p := fun c => (sm c == 105) = (((c.toNat : Int) == 73) || ((c.toNat : Int) == 105))) (by decide +kernel) c
theorem sm_l (c : UInt8) : (sm c == 108) = (((c.toNat : Int) == 76) || ((c.toNat : Int) == 108)) := all_bytes (p := fun c => (sm c == 108) = (((c.toNat : Int) == 76) || ((c.toNat : Int) == 108))) (by decide +kernel) c
theorem list3 (s : ByteArray) (h : s.size = 3) : L s = [bt (L s) 0, bt (L s) 1, bt (L s) 2] := by
  have hl : (L s).length = 3 := h
  apply List.ext_getElem?
  intro j
  rcases j with _ | _ | _ | j
  · simp [bt, hl]
  · simp [bt, hl]
  · simp [bt, hl]
  · simp [hl]
theorem same_nil3 (s : ByteArray) (h : s.size = 3) : same (L s) nilL = ((((bt (L s) 0).toNat : Int) == 78 || ((bt (L s) 0).toNat : Int) == 110) && ((((bt (L s) 1).toNat : Int) == 73 || ((bt (L s) 1).toNat : Int) == 105) && (((bt (L s) 2).toNat : Int) == 76 || ((bt (L s) 2).toNat : Int) == 108))) := by
  have e : same (L s) nilL = ([sm (bt (L s) 0), sm (bt (L s) 1), sm (bt (L s) 2)] == [110, 105, 108]) := by
    rw [list3 s h]; rfl
  rw [e, ← sm_n, ← sm_i, ← sm_l]
  simp [List.cons_beq_cons]
set_option maxHeartbeats 4000000 in
theorem null_any (s : ByteArray) (w : World) :
    Calls Tryz.prog 50 #[.string s] w fun e w' => e = .returned (.bool (same (L s) nilL)) ∧ w' = w := by
  by_cases h3 : s.size = 3
  · have HV := Lib.hid (same_nil3 s h3)
    have e0 := get_btx s 0 (by omega)
    have e1 := get_btx s 1 (by omega)
    have e2 := get_btx s 2 (by omega)
    have c0 : (bt (L s) 0).toNat < 256 := bt_lt _ _
    have c1 : (bt (L s) 1).toNat < 256 := bt_lt _ _
    have c2 : (bt (L s) 2).toNat < 256 := bt_lt _ _
    generalize hx : (bt (L s) 0).toNat = x at *
    generalize hy : (bt (L s) 1).toNat = y at *
    generalize hz : (bt (L s) 2).toNat = z at *
    rcases (by omega : (x ≠ 78 ∧ x ≠ 110) ∨ ((x = 78 ∨ x = 110) ∧ y ≠ 73 ∧ y ≠ 105) ∨ ((x = 78 ∨ x = 110) ∧ (y = 73 ∨ y = 105) ∧ z ≠ 76 ∧ z ≠ 108) ∨ ((x = 78 ∨ x = 110) ∧ (y = 73 ∨ y = 105) ∧ (z = 76 ∨ z = 108))) with ⟨h, h'⟩ | ⟨h | h, g, g'⟩ | ⟨h | h, g | g, f, f'⟩ | ⟨h | h, g | g, f | f⟩
    all_goals try subst h
    all_goals try subst g
    all_goals try subst f
    all_goals try have a0 := beqI_no (n := (x : Int)) (k := 78) (by omega)
    all_goals try have a1 := beqI_no (n := (x : Int)) (k := 110) (by omega)
    all_goals try have b0 := beqI_no (n := (y : Int)) (k := 73) (by omega)
    all_goals try have b1 := beqI_no (n := (y : Int)) (k := 105) (by omega)
    all_goals try have d0 := beqI_no (n := (z : Int)) (k := 76) (by omega)
    all_goals try have d1 := beqI_no (n := (z : Int)) (k := 108) (by omega)
    all_goals (
      go_enter Tryz.func50, Tryz.ntmps50
      go_wp2
      go_ret
      exact ⟨ret_bool (by rw [HV.out]; first | rfl | simp_all), rfl⟩)
  · have HF := Lib.hid (same_len (L s) nilL (show (L s).length ≠ 3 from h3))
    have hb : ((s.size : Int) == 3) = false := beqI_no (by omega)
    go_enter Tryz.func50, Tryz.ntmps50
    go_wp2
    go_ret
    exact ⟨ret_bool HF.out.symm, rfl⟩
end Go.Proofs.YtbncaiocmklgnaaGreatDoor

/- The reference's Is. -/
namespace Go.Proofs.YtbncaiocmklgnaaGreatDoor
open Go.RowKit

theorem tag_eq (l : List UInt8) : isTag l = (!(l.any (fun c => c == 43)) && (isAtom l && decide (l.length ≤ 32))) := by
  have h : l.all tagC = (l.all atomC && !(l.any (fun c => c == 43))) := by
    induction l with
    | nil => rfl
    | cons a l ih =>
      simp only [List.all_cons, List.any_cons, ih, tagC]
      cases atomC a <;> cases (a == 43) <;> simp
  unfold isTag isAtom
  rw [h]
  cases l.isEmpty <;> cases l.all atomC <;> cases (l.any (fun c => c == 43)) <;> simp
def plusFree (l : List UInt8) (k : Nat) : Prop := ∀ j, j < k → bt l j ≠ 43
theorem plus_some {l : List UInt8} (k : Nat) (hk : k < l.length) (h : (bt l k).toNat = 43) : isTag l = false := by
  rw [tag_eq]
  have : l.any (fun c => c == 43) = true := by
    rw [List.any_eq_true]
    exact ⟨bt l k, by rw [bt_getElem l k hk]; exact List.getElem_mem hk, by rw [beq_iff_eq]; exact UInt8.toNat_inj.1 h⟩
  rw [this]; rfl
theorem plus_none {l : List UInt8} (h : (l.take l.length).all (fun c => !(c == 43)) = true) : isTag l = (isAtom l && decide (l.length ≤ 32)) := by
  rw [tag_eq]
  rw [List.take_length] at h
  have : l.any (fun c => c == 43) = false := by
    rw [List.any_eq_false]
    intro c hc
    have := List.all_eq_true.1 h c hc
    simpa using this
  rw [this]; rfl
theorem not43 {c : UInt8} (h : c.toNat ≠ 43) : (!(c == 43)) = true := by
  rw [Bool.not_eq_true', beq_eq_false_iff_ne]
  intro hh; rw [hh] at h; exact h rfl
theorem isPat_no (s : ByteArray) (k : Nat) (hk : k < s.size) (h : patC (bt (L s) k) = false) : isPat (L s) = false := by
  unfold isPat; rw [all_noP patC (L s) k hk h, Bool.and_false]
theorem isPat_yes (s : ByteArray) (h0 : s.size ≠ 0) (h : (L s).all patC = true) : isPat (L s) = true := by
  unfold isPat; rw [h, isEmpty_Ln s h0]; rfl
theorem isPat_nil (s : ByteArray) (h0 : s.size = 0) : isPat (L s) = false := by
  unfold isPat; rw [isEmpty_L s h0]; rfl
theorem pat_class (c : UInt8) : (atomC c = true ∧ patC c = true) ∨ (c.toNat = 37 ∧ atomC c = false ∧ patC c = true) ∨ (c.toNat = 42 ∧ atomC c = false ∧ patC c = true) ∨ ((c.toNat ≠ 37 ∧ c.toNat ≠ 42) ∧ atomC c = false ∧ patC c = false) :=
  all_bytes (p := fun c => (atomC c = true ∧ patC c = true) ∨ (c.toNat = 37 ∧ atomC c = false ∧ patC c = true) ∨ (c.toNat = 42 ∧ atomC c = false ∧ patC c = true) ∨ ((c.toNat ≠ 37 ∧ c.toNat ≠ 42) ∧ atomC c = false ∧ patC c = false)) (by decide +kernel) c
theorem flag_cut (s : ByteArray) (h0 : 0 < s.size) (h : (bt (L s) 0).toNat = 92) : isFlag (L s) = isAtom (L (s.extract 1 s.size)) := by
  have e : L (s.extract 1 s.size) = (L s).tail := by
    have h2 := Lib.extract_data s 1 s.size
    show (s.extract 1 s.size).data.toList = _
    rw [h2]
    show ((L s).drop 1).take (s.size - 1) = (L s).tail
    rw [List.take_of_length_le (by rw [List.length_drop, L_length]; omega), List.drop_one]
  have hc : bt (L s) 0 = 92 := UInt8.toNat_inj.1 h
  rw [e]
  cases hl : L s with
  | nil => exact absurd (show (L s).length = 0 by rw [hl]; rfl) (by rw [L_length]; omega)
  | cons a l =>
    rw [hl] at hc
    obtain rfl : a = 92 := hc
    show (true && isAtom l || isKey (92 :: l)) = isAtom l
    have : isKey (92 :: l) = false := by
      unfold isKey isAtom
      rw [List.all_cons, show atomC 92 = false from rfl]
      simp
    rw [this]; simp
theorem flag_key (s : ByteArray) (h : s.size = 0 ∨ (bt (L s) 0).toNat ≠ 92) : isFlag (L s) = (isAtom (L s) && decide (s.size ≤ 24)) := by
  have hk : isKey (L s) = (isAtom (L s) && decide (s.size ≤ 24)) := by unfold isKey; rw [L_length, Bool.and_comm]
  cases hl : L s with
  | nil => rw [hl] at hk; exact hk
  | cons a l =>
    have h1 : (bt (L s) 0).toNat ≠ 92 := by
      rcases h with h | h
      · exact absurd (show (L s).length = 0 by rw [L_length]; exact h) (by rw [hl]; simp)
      · exact h
    rw [hl] at h1 hk
    have h2 : (a == 92) = false := by
      rw [beq_eq_false_iff_ne]
      rintro rfl
      exact h1 rfl
    have h3 : isFlag (a :: l) = ((a == 92) && isAtom l || isKey (a :: l)) := rfl
    rw [h3, h2, Bool.false_and, Bool.false_or]
    exact hk
theorem isB_other {k : Int} {l : List UInt8} (h1 : k ≠ 1) (h2 : k ≠ 2) (h3 : k ≠ 3) (h4 : k ≠ 4) (h5 : k ≠ 5) (h6 : k ≠ 6) : isB k l = false := by
  unfold isB; rw [if_neg h1, if_neg h2, if_neg h3, if_neg h4, if_neg h5, if_neg h6]
set_option maxHeartbeats 1000000 in
theorem rIs_other (k : Int) (s : ByteArray) (w : World) (h : k ≠ 3 ∧ k ≠ 4 ∧ k ≠ 6) (hs : s.size ≤ 140737488355328) :
    Calls Tryz.prog 30 #[.int .i64 k, .string s] w fun e w' => e = .returned (.bool (isB k (L s))) ∧ w' = w := by
  have hA := Lib.hid (fun W => ratom_any s W hs)
  have hN := Lib.hid (fun W => null_any s W)
  have b3 := beqI_no h.1
  have b4 := beqI_no h.2.1
  have b6 := beqI_no h.2.2
  by_cases h1 : k = 1
  · subst h1
    have HV : Hid (isB 1 (L s) = isAtom (L s)) := Lib.hid rfl
    go_enter Tryz.func30, Tryz.ntmps30
    go_wp2_with (go_at_call 49; refine (hA.out _).mono ?_; rintro e w' ⟨rfl, rfl⟩)
    go_ret
    exact ⟨ret_bool HV.out.symm, rfl⟩
  · have b1 := beqI_no h1
    by_cases h2 : k = 2
    · subst h2
      have HV : Hid (isB 2 (L s) = (isAtom (L s) && !same (L s) nilL)) := Lib.hid rfl
      generalize isAtom (L s) = a at *
      generalize same (L s) nilL = b at *
      cases a
      all_goals (
        go_enter Tryz.func30, Tryz.ntmps30
        go_wp2_with (first | (go_at_call 49; refine (hA.out _).mono ?_; rintro e w' ⟨rfl, rfl⟩) | (go_at_call 50; refine (hN.out _).mono ?_; rintro e w' ⟨rfl, rfl⟩))
        go_ret
        exact ⟨ret_bool (by rw [HV.out]; first | rfl | simp), rfl⟩)
    · have b2 := beqI_no h2
      by_cases h5 : k = 5
      · subst h5
        have HV : Hid (isB 5 (L s) = (decide (s.size ≤ 24) && isAtom (L s))) := Lib.hid rfl
        generalize isAtom (L s) = a at *
        by_cases hl : s.size ≤ 24
        · rw [decide_eq_true hl] at HV
          cases a
          all_goals (
            go_enter Tryz.func30, Tryz.ntmps30
            go_wp2_with (go_at_call 49; refine (hA.out _).mono ?_; rintro e w' ⟨rfl, rfl⟩)
            go_ret
            exact ⟨ret_bool (by rw [HV.out]; first | rfl | (simp; omega)), rfl⟩)
        · rw [decide_eq_false hl] at HV
          cases a
          all_goals (
            go_enter Tryz.func30, Tryz.ntmps30
            go_wp2_with (go_at_call 49; refine (hA.out _).mono ?_; rintro e w' ⟨rfl, rfl⟩)
            go_ret
            exact ⟨ret_bool (by rw [HV.out]; first | rfl | (simp; omega)), rfl⟩)
      · have b5 := beqI_no h5
        have HV := Lib.hid (isB_other (l := L s) h1 h2 h.1 h.2.1 h5 h.2.2)
        go_enter Tryz.func30, Tryz.ntmps30
        go_wp2
        go_ret
        exact ⟨ret_bool HV.out.symm, rfl⟩
end Go.Proofs.YtbncaiocmklgnaaGreatDoor

/- The reference's Is: Tag, Flag, Pattern; in whole. -/
namespace Go.Proofs.YtbncaiocmklgnaaGreatDoor
open Go.RowKit

set_option maxHeartbeats 2000000 in
theorem rIs_tag (s : ByteArray) (w : World) (hs : s.size ≤ 140737488355328) :
    Calls Tryz.prog 30 #[.int .i64 3, .string s] w fun e w' => e = .returned (.bool (isTag (L s))) ∧ w' = w := by
  have hA := Lib.hid (fun W => ratom_any s W hs)
  go_enter Tryz.func30, Tryz.ntmps30
  go_wp2
  go_loop [5] (fun i => ∃ k : Nat, k ≤ s.size ∧ i = .int .i64 k ∧ ((L s).take k).all (fun c => !(c == 43)) = true) (fun i => s.size - (intOf i).toNat)
  case atStart => exact ⟨0, Nat.zero_le _, rfl, by simp⟩
  case round =>
    obtain ⟨k, hk, rfl, hall⟩ := hrel
    by_cases hlt : k < s.size
    · have ea := get_btx s k hlt
      have c0 : (bt (L s) k).toNat < 256 := bt_lt _ _
      have HS := Lib.hid (fun h => all_snocP (fun c => !(c == 43)) (L s) k hlt hall (not43 h))
      have HN := Lib.hid (plus_some (l := L s) k hlt)
      clear hall
      by_cases hp : (bt (L s) k).toNat = 43
      · have HF := Lib.hid (HN.out hp)
        clear HN HS
        go_wp2
        go_ret
        exact ⟨ret_bool HF.out.symm, rfl⟩
      · have HS2 := Lib.hid (HS.out hp)
        have b := beqI_no (n := ((bt (L s) k).toNat : Int)) (k := 43) (by omega)
        clear HN HS
        go_wp2
        go_round
        case rel => exact ⟨k + 1, by omega, by go_num, HS2.out⟩
        case measure => simp [intOf]; omega
    · have HV : Hid (isTag (L s) = (isAtom (L s) && decide (s.size ≤ 32))) := Lib.hid (plus_none (by
        rw [List.take_of_length_le (by rw [L_length]; omega)] at hall
        rw [List.take_length]; exact hall))
      clear hall
      generalize isAtom (L s) = a at *
      by_cases hl : s.size ≤ 32
      · rw [decide_eq_true hl] at HV
        cases a
        all_goals (
          go_wp2_with (go_at_call 49; refine (hA.out _).mono ?_; rintro e w' ⟨rfl, rfl⟩)
          go_ret
          exact ⟨ret_bool (by rw [HV.out]; first | rfl | (simp; omega)), rfl⟩)
      · rw [decide_eq_false hl] at HV
        cases a
        all_goals (
          go_wp2_with (go_at_call 49; refine (hA.out _).mono ?_; rintro e w' ⟨rfl, rfl⟩)
          go_ret
          exact ⟨ret_bool (by rw [HV.out]; first | rfl | (simp; omega)), rfl⟩)
set_option maxHeartbeats 2000000 in
theorem rIs_pat (s : ByteArray) (w : World) (hs : s.size ≤ 140737488355328) :
    Calls Tryz.prog 30 #[.int .i64 6, .string s] w fun e w' => e = .returned (.bool (isPat (L s))) ∧ w' = w := by
  go_enter Tryz.func30, Tryz.ntmps30
  go_wp2
  go_loop [6] (fun i => ∃ k : Nat, k ≤ s.size ∧ i = .int .i64 k ∧ ((L s).take k).all patC = true) (fun i => s.size - (intOf i).toNat)
  case atStart => exact ⟨0, Nat.zero_le _, rfl, by simp⟩
  case round =>
    obtain ⟨k, hk, rfl, hall⟩ := hrel
    by_cases hlt : k < s.size
    · have ea := get_btx s k hlt
      have c0 : (bt (L s) k).toNat < 256 := bt_lt _ _
      have hD := Lib.hid (fun W => plain_any (bt (L s) k) W)
      have HS := Lib.hid (all_snocP patC (L s) k hlt hall)
      have HN := Lib.hid (isPat_no s k hlt)
      clear hall
      rcases pat_class (bt (L s) k) with ⟨ha, hb⟩ | ⟨h, ha, hb⟩ | ⟨h, ha, hb⟩ | ⟨⟨h, h'⟩, ha, hb⟩
      · have HS2 := Lib.hid (HS.out hb)
        rw [ha] at hD
        clear HN HS
        go_wp2_with (go_at_call 51; refine (hD.out _).mono ?_; rintro e w' ⟨rfl, rfl⟩)
        go_round
        case rel => exact ⟨k + 1, by omega, by go_num, HS2.out⟩
        case measure => simp [intOf]; omega
      · have HS2 := Lib.hid (HS.out hb)
        rw [ha] at hD
        have b : (((bt (L s) k).toNat : Int) != 37) = false := by rw [h]; rfl
        clear HN HS h
        go_wp2_with (go_at_call 51; refine (hD.out _).mono ?_; rintro e w' ⟨rfl, rfl⟩)
        go_round
        case rel => exact ⟨k + 1, by omega, by go_num, HS2.out⟩
        case measure => simp [intOf]; omega
      · have HS2 := Lib.hid (HS.out hb)
        rw [ha] at hD
        have b : (((bt (L s) k).toNat : Int) != 37) = true := by rw [h]; rfl
        have b' : (((bt (L s) k).toNat : Int) != 42) = false := by rw [h]; rfl
        clear HN HS h
        go_wp2_with (go_at_call 51; refine (hD.out _).mono ?_; rintro e w' ⟨rfl, rfl⟩)
        go_round
        case rel => exact ⟨k + 1, by omega, by go_num, HS2.out⟩
        case measure => simp [intOf]; omega
      · have HF := Lib.hid (HN.out hb)
        have b := bneI_no (n := ((bt (L s) k).toNat : Int)) (k := 37) (by omega)
        have b' := bneI_no (n := ((bt (L s) k).toNat : Int)) (k := 42) (by omega)
        rw [ha] at hD
        clear HN HS
        go_wp2_with (go_at_call 51; refine (hD.out _).mono ?_; rintro e w' ⟨rfl, rfl⟩)
        go_ret
        exact ⟨ret_bool HF.out.symm, rfl⟩
    · rw [List.take_of_length_le (by rw [L_length]; omega)] at hall
      by_cases h0 : s.size = 0
      · have HF := Lib.hid (isPat_nil s h0)
        clear hall
        go_wp2
        go_ret
        exact ⟨ret_bool (by first | exact HF.out.symm | (rw [HF.out, decide_eq_false_iff_not]; omega)), rfl⟩
      · have HF := Lib.hid (isPat_yes s h0 hall)
        have h1 : 0 < s.size := by omega
        clear hall
        go_wp2
        go_ret
        exact ⟨ret_bool (by first | exact HF.out.symm | (rw [HF.out, decide_eq_true_iff]; omega)), rfl⟩
set_option maxHeartbeats 2000000 in
theorem rIs_flag (s : ByteArray) (w : World) (hs : s.size ≤ 140737488355328) :
    Calls Tryz.prog 30 #[.int .i64 4, .string s] w fun e w' => e = .returned (.bool (isFlag (L s))) ∧ w' = w := by
  by_cases hc : 0 < s.size ∧ (bt (L s) 0).toNat = 92
  · obtain ⟨h0, h92⟩ := hc
    have HV := Lib.hid (flag_cut s h0 h92)
    have ea := get_btx s 0 h0
    have hz : (s.extract 1 s.size).size ≤ 140737488355328 := by rw [ByteArray.size_extract]; omega
    have hA := Lib.hid (fun W => ratom_any (s.extract 1 s.size) W hz)
    clear hz
    generalize isAtom (L (s.extract 1 s.size)) = a at *
    go_enter Tryz.func30, Tryz.ntmps30
    go_wp2_with (go_at_call 49; refine (hA.out _).mono ?_; rintro e w' ⟨rfl, rfl⟩)
    go_ret
    exact ⟨ret_bool HV.out.symm, rfl⟩
  · have HV := Lib.hid (flag_key s (by omega))
    have hA := Lib.hid (fun W => ratom_any s W hs)
    generalize isAtom (L s) = a at *
    rcases (by omega : s.size = 0 ∨ (0 < s.size ∧ (bt (L s) 0).toNat ≠ 92)) with h0 | ⟨h0, h92⟩
    · rw [decide_eq_true (show s.size ≤ 24 by omega)] at HV
      cases a
      all_goals (
        go_enter Tryz.func30, Tryz.ntmps30
        go_wp2_with (go_at_call 49; refine (hA.out _).mono ?_; rintro e w' ⟨rfl, rfl⟩)
        go_ret
        exact ⟨ret_bool (by rw [HV.out]; first | rfl | (simp; omega)), rfl⟩)
    · have ea := get_btx s 0 h0
      have b := beqI_no (n := ((bt (L s) 0).toNat : Int)) (k := 92) (by omega)
      by_cases hl : s.size ≤ 24
      · rw [decide_eq_true hl] at HV
        cases a
        all_goals (
          go_enter Tryz.func30, Tryz.ntmps30
          go_wp2_with (go_at_call 49; refine (hA.out _).mono ?_; rintro e w' ⟨rfl, rfl⟩)
          go_ret
          exact ⟨ret_bool (by rw [HV.out]; first | rfl | (simp; omega)), rfl⟩)
      · rw [decide_eq_false hl] at HV
        cases a
        all_goals (
          go_enter Tryz.func30, Tryz.ntmps30
          go_wp2_with (go_at_call 49; refine (hA.out _).mono ?_; rintro e w' ⟨rfl, rfl⟩)
          go_ret
          exact ⟨ret_bool (by rw [HV.out]; first | rfl | (simp; omega)), rfl⟩)
theorem rIs_any (k : Int) (s : ByteArray) (w : World) (hs : s.size ≤ 140737488355328) :
    Calls Tryz.prog 30 #[.int .i64 k, .string s] w fun e w' => e = .returned (.bool (isB k (L s))) ∧ w' = w := by
  by_cases h3 : k = 3
  · subst h3; exact rIs_tag s w hs
  · by_cases h4 : k = 4
    · subst h4; exact rIs_flag s w hs
    · by_cases h6 : k = 6
      · subst h6; exact rIs_pat s w hs
      · exact rIs_other k s w ⟨h3, h4, h6⟩ hs
end Go.Proofs.YtbncaiocmklgnaaGreatDoor
