/- The reference's atom, null and Is. -/
import Derived.Test.YtgcbindjbgkniaaGreatDoorXh
namespace Go.Proofs.YtgcbindjbgkniaaGreatDoor
open Go.RowKit

theorem isEmpty_L (s : ByteArray) (h : s.size = 0) : (L s).isEmpty = true := by
  cases hl : L s with
  | nil => rfl
  | cons a b => exact absurd (by rw [← L_length, hl] at h; exact h) (by simp)
theorem isEmpty_Ln (s : ByteArray) (h : s.size ≠ 0) : (L s).isEmpty = false := by
  cases hl : L s with
  | nil => exact absurd (by rw [← L_length, hl]; rfl) h
  | cons a b => rfl
theorem isAtom_no (s : ByteArray) (k : Nat) (hk : k < s.size) (h : atomC (bt (L s) k) = false) : isAtom (L s) = false := by
  unfold isAtom; rw [all_noP atomC (L s) k hk h, Bool.and_false]
theorem isAtom_yes (s : ByteArray) (h0 : s.size ≠ 0) (h : (L s).all atomC = true) : isAtom (L s) = true := by
  unfold isAtom; rw [h, isEmpty_Ln s h0]; rfl
theorem isAtom_nil (s : ByteArray) (h0 : s.size = 0) : isAtom (L s) = false := by
  unfold isAtom; rw [isEmpty_L s h0]; rfl
set_option maxHeartbeats 1000000 in
theorem ratom_any (s : ByteArray) (w : World) (hs : s.size ≤ 140737488355328) :
    Calls Tryz.prog 43 #[.string s] w fun e w' => e = .returned (.bool (isAtom (L s))) ∧ w' = w := by
  go_enter Tryz.func43, Tryz.ntmps43
  go_wp2
  go_loop [3] (fun i => ∃ k : Nat, k ≤ s.size ∧ i = .int .i64 k ∧ ((L s).take k).all atomC = true) (fun i => s.size - (intOf i).toNat)
  case atStart => exact ⟨0, Nat.zero_le _, rfl, by simp⟩
  case round =>
    obtain ⟨k, hk, rfl, hall⟩ := hrel
    by_cases hlt : k < s.size
    · have ea := get_btx s k hlt
      have hD := Lib.hid (fun W => plain_any (bt (L s) k) W)
      have HS := Lib.hid (all_snocP atomC (L s) k hlt hall)
      have HN := Lib.hid (isAtom_no s k hlt)
      have c0 : (bt (L s) k).toNat < 256 := bt_lt _ _
      clear hall
      cases hb : atomC (bt (L s) k) with
      | false =>
        have HF := Lib.hid (HN.out hb)
        rw [hb] at hD
        clear HN HS
        go_wp2_with (go_at_call 45; refine (hD.out _).mono ?_; rintro e w' ⟨rfl, rfl⟩)
        go_ret
        exact ⟨ret_bool HF.out.symm, rfl⟩
      | true =>
        have HS2 := Lib.hid (HS.out hb)
        rw [hb] at hD
        clear HN HS
        go_wp2_with (go_at_call 45; refine (hD.out _).mono ?_; rintro e w' ⟨rfl, rfl⟩)
        go_round
        case rel => exact ⟨k + 1, by omega, by go_num, HS2.out⟩
        case measure => simp [intOf]; omega
    · rw [List.take_of_length_le (by rw [L_length]; omega)] at hall
      by_cases h0 : s.size = 0
      · have HF := Lib.hid (isAtom_nil s h0)
        clear hall
        go_wp2
        go_ret
        exact ⟨ret_bool (by first | exact HF.out.symm | (rw [HF.out, decide_eq_false_iff_not]; omega)), rfl⟩
      · have HF := Lib.hid (isAtom_yes s h0 hall)
        have h1 : 0 < s.size := by omega
        clear hall
        go_wp2
        go_ret
        exact ⟨ret_bool (by first | exact HF.out.symm | (rw [HF.out, decide_eq_true_iff]; omega)), rfl⟩
theorem sm_n (c : UInt8) : (sm c == 110) = (((c.toNat : Int) == 78) || ((c.toNat : Int) == 110)) := all_bytes (p := fun c => (sm c == 110) = (((c.toNat : Int) == 78) || ((c.toNat : Int) == 110))) (by decide +kernel) c
theorem sm_i (c : UInt8) : (sm c == 105) = (((c.toNat : Int) == 73) || ((c.toNat : Int) == 105)) := all_bytes (p := fun c => (sm c == 105) = (((c.toNat : Int) == 73) || ((c.toNat : Int) == 105))) (by decide +kernel) c
theorem sm_l (c : UInt8) : (sm c == 108) = (((c.toNat : Int) == 76) || ((c.toNat : Int) == 108)) := all_bytes (p := fun c => (sm c == 108) = (((c.toNat : Int) == 76) || ((c.toNat : Int) == 108))) (by decide +kernel) c
theorem list3 (s : ByteArray) (h : s.size = 3) : L s = [bt (L s) 0, bt (L s) 1, bt (L s) 2] := by
  have hl : (L s).length = 3 := h
  apply List.ext_getElem?
  intro j
  rcases j with _ | _ | _ | j
  · simp [bt, hl]
  · simp [bt, hl]
  · simp [bt, hl]
  · simp [hl]
theorem same_nil3 (s : ByteArray) (h : s.size = 3) : same (L s) nilL = ((((bt (L s) 0).toNat : Int) == 78 || ((bt (L s) 0).toNat : Int) == 110) && ((((bt (L s) 1).toNat : Int) == 73 || ((bt (L s) 1).toNat : Int) == 105) && (((bt (L s) 2).toNat : Int) == 76 || ((bt (L s) 2).toNat : Int) == 108))) := by
  have e : same (L s) nilL = ([sm (bt (L s) 0), sm (bt (L s) 1), sm (bt (L s) 2)] == [110, 105, 108]) := by
    rw [list3 s h]; rfl
  rw [e, ← sm_n, ← sm_i, ← sm_l]
  simp [List.cons_beq_cons]
set_option maxHeartbeats 4000000 in
theorem null_any (s : ByteArray) (w : World) :
    Calls Tryz.prog 44 #[.string s] w fun e w' => e = .returned (.bool (same (L s) nilL)) ∧ w' = w := by
  by_cases h3 : s.size = 3
  · have HV := Lib.hid (same_nil3 s h3)
    have e0 := get_btx s 0 (by omega)
    have e1 := get_btx s 1 (by omega)
    have e2 := get_btx s 2 (by omega)
    have c0 : (bt (L s) 0).toNat < 256 := bt_lt _ _
    have c1 : (bt (L s) 1).toNat < 256 := bt_lt _ _
    have c2 : (bt (L s) 2).toNat < 256 := bt_lt _ _
    generalize hx : (bt (L s) 0).toNat = x at *
    generalize hy : (bt (L s) 1).toNat = y at *
    generalize hz : (bt (L s) 2).toNat = z at *
    rcases (by omega : (x ≠ 78 ∧ x ≠ 110) ∨ ((x = 78 ∨ x = 110) ∧ y ≠ 73 ∧ y ≠ 105) ∨ ((x = 78 ∨ x = 110) ∧ (y = 73 ∨ y = 105) ∧ z ≠ 76 ∧ z ≠ 108) ∨ ((x = 78 ∨ x = 110) ∧ (y = 73 ∨ y = 105) ∧ (z = 76 ∨ z = 108))) with ⟨h, h'⟩ | ⟨h | h, g, g'⟩ | ⟨h | h, g | g, f, f'⟩ | ⟨h | h, g | g, f | f⟩
    all_goals try subst h
    all_goals try subst g
    all_goals try subst f
    all_goals try have a0 := beqI_no (n := (x : Int)) (k := 78) (by omega)
    all_goals try have a1 := beqI_no (n := (x : Int)) (k := 110) (by omega)
    all_goals try have b0 := beqI_no (n := (y : Int)) (k := 73) (by omega)
    all_goals try have b1 := beqI_no (n := (y : Int)) (k := 105) (by omega)
    all_goals try have d0 := beqI_no (n := (z : Int)) (k := 76) (by omega)
    all_goals try have d1 := beqI_no (n := (z : Int)) (k := 108) (by omega)
    all_goals (
      go_enter Tryz.func44, Tryz.ntmps44
      go_wp2
      go_ret
      exact ⟨ret_bool (by rw [HV.out]; first | rfl | simp_all), rfl⟩)
  · have HF := Lib.hid (same_len (L s) nilL (show (L s).length ≠ 3 from h3))
    have hb : ((s.size : Int) == 3) = false := beqI_no (by omega)
    go_enter Tryz.func44, Tryz.ntmps44
    go_wp2
    go_ret
    exact ⟨ret_bool HF.out.symm, rfl⟩
end Go.Proofs.YtgcbindjbgkniaaGreatDoor
