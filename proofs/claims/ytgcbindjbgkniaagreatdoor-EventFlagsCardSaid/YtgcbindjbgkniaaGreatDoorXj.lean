/- The reference's Is. -/
import Derived.Test.YtgcbindjbgkniaaGreatDoorXi
namespace Go.Proofs.YtgcbindjbgkniaaGreatDoor
open Go.RowKit

theorem tag_eq (l : List UInt8) : isTag l = (!(l.any (fun c => c == 43)) && (isAtom l && decide (l.length ≤ 32))) := by
  have h : l.all tagC = (l.all atomC && !(l.any (fun c => c == 43))) := by
    induction l with
    | nil => rfl
    | cons a l ih =>
      simp only [List.all_cons, List.any_cons, ih, tagC]
      cases atomC a <;> cases (a == 43) <;> simp
  unfold isTag isAtom
  rw [h]
  cases l.isEmpty <;> cases l.all atomC <;> cases (l.any (fun c => c == 43)) <;> simp
def plusFree (l : List UInt8) (k : Nat) : Prop := ∀ j, j < k → bt l j ≠ 43
theorem plus_some {l : List UInt8} (k : Nat) (hk : k < l.length) (h : (bt l k).toNat = 43) : isTag l = false := by
  rw [tag_eq]
  have : l.any (fun c => c == 43) = true := by
    rw [List.any_eq_true]
    exact ⟨bt l k, by rw [bt_getElem l k hk]; exact List.getElem_mem hk, by rw [beq_iff_eq]; exact UInt8.toNat_inj.1 h⟩
  rw [this]; rfl
theorem plus_none {l : List UInt8} (h : (l.take l.length).all (fun c => !(c == 43)) = true) : isTag l = (isAtom l && decide (l.length ≤ 32)) := by
  rw [tag_eq]
  rw [List.take_length] at h
  have : l.any (fun c => c == 43) = false := by
    rw [List.any_eq_false]
    intro c hc
    have := List.all_eq_true.1 h c hc
    simpa using this
  rw [this]; rfl
theorem not43 {c : UInt8} (h : c.toNat ≠ 43) : (!(c == 43)) = true := by
  rw [Bool.not_eq_true', beq_eq_false_iff_ne]
  intro hh; rw [hh] at h; exact h rfl
theorem isPat_no (s : ByteArray) (k : Nat) (hk : k < s.size) (h : patC (bt (L s) k) = false) : isPat (L s) = false := by
  unfold isPat; rw [all_noP patC (L s) k hk h, Bool.and_false]
theorem isPat_yes (s : ByteArray) (h0 : s.size ≠ 0) (h : (L s).all patC = true) : isPat (L s) = true := by
  unfold isPat; rw [h, isEmpty_Ln s h0]; rfl
theorem isPat_nil (s : ByteArray) (h0 : s.size = 0) : isPat (L s) = false := by
  unfold isPat; rw [isEmpty_L s h0]; rfl
theorem pat_class (c : UInt8) : (atomC c = true ∧ patC c = true) ∨ (c.toNat = 37 ∧ atomC c = false ∧ patC c = true) ∨ (c.toNat = 42 ∧ atomC c = false ∧ patC c = true) ∨ ((c.toNat ≠ 37 ∧ c.toNat ≠ 42) ∧ atomC c = false ∧ patC c = false) :=
  all_bytes (p := fun c => (atomC c = true ∧ patC c = true) ∨ (c.toNat = 37 ∧ atomC c = false ∧ patC c = true) ∨ (c.toNat = 42 ∧ atomC c = false ∧ patC c = true) ∨ ((c.toNat ≠ 37 ∧ c.toNat ≠ 42) ∧ atomC c = false ∧ patC c = false)) (by decide +kernel) c
theorem flag_cut (s : ByteArray) (h0 : 0 < s.size) (h : (bt (L s) 0).toNat = 92) : isFlag (L s) = isAtom (L (s.extract 1 s.size)) := by
  have e : L (s.extract 1 s.size) = (L s).tail := by
    have h2 := Lib.extract_data s 1 s.size
    show (s.extract 1 s.size).data.toList = _
    rw [h2]
    show ((L s).drop 1).take (s.size - 1) = (L s).tail
    rw [List.take_of_length_le (by rw [List.length_drop, L_length]; omega), List.drop_one]
  have hc : bt (L s) 0 = 92 := UInt8.toNat_inj.1 h
  rw [e]
  cases hl : L s with
  | nil => exact absurd (show (L s).length = 0 by rw [hl]; rfl) (by rw [L_length]; omega)
  | cons a l =>
    rw [hl] at hc
    obtain rfl : a = 92 := hc
    show (true && isAtom l || isKey (92 :: l)) = isAtom l
    have : isKey (92 :: l) = false := by
      unfold isKey isAtom
      rw [List.all_cons, show atomC 92 = false from rfl]
      simp
    rw [this]; simp
theorem flag_key (s : ByteArray) (h : s.size = 0 ∨ (bt (L s) 0).toNat ≠ 92) : isFlag (L s) = (isAtom (L s) && decide (s.size ≤ 24)) := by
  have hk : isKey (L s) = (isAtom (L s) && decide (s.size ≤ 24)) := by unfold isKey; rw [L_length, Bool.and_comm]
  cases hl : L s with
  | nil => rw [hl] at hk; exact hk
  | cons a l =>
    have h1 : (bt (L s) 0).toNat ≠ 92 := by
      rcases h with h | h
      · exact absurd (show (L s).length = 0 by rw [L_length]; exact h) (by rw [hl]; simp)
      · exact h
    rw [hl] at h1 hk
    have h2 : (a == 92) = false := by
      rw [beq_eq_false_iff_ne]
      rintro rfl
      exact h1 rfl
    have h3 : isFlag (a :: l) = ((a == 92) && isAtom l || isKey (a :: l)) := rfl
    rw [h3, h2, Bool.false_and, Bool.false_or]
    exact hk
theorem isB_other {k : Int} {l : List UInt8} (h1 : k ≠ 1) (h2 : k ≠ 2) (h3 : k ≠ 3) (h4 : k ≠ 4) (h5 : k ≠ 5) (h6 : k ≠ 6) : isB k l = false := by
  unfold isB; rw [if_neg h1, if_neg h2, if_neg h3, if_neg h4, if_neg h5, if_neg h6]
set_option maxHeartbeats 1000000 in
theorem rIs_other (k : Int) (s : ByteArray) (w : World) (h : k ≠ 3 ∧ k ≠ 4 ∧ k ≠ 6) (hs : s.size ≤ 140737488355328) :
    Calls Tryz.prog 26 #[.int .i64 k, .string s] w fun e w' => e = .returned (.bool (isB k (L s))) ∧ w' = w := by
  have hA := Lib.hid (fun W => ratom_any s W hs)
  have hN := Lib.hid (fun W => null_any s W)
  have b3 := beqI_no h.1
  have b4 := beqI_no h.2.1
  have b6 := beqI_no h.2.2
  by_cases h1 : k = 1
  · subst h1
    have HV : Hid (isB 1 (L s) = isAtom (L s)) := Lib.hid rfl
    go_enter Tryz.func26, Tryz.ntmps26
    go_wp2_with (go_at_call 43; refine (hA.out _).mono ?_; rintro e w' ⟨rfl, rfl⟩)
    go_ret
    exact ⟨ret_bool HV.out.symm, rfl⟩
  · have b1 := beqI_no h1
    by_cases h2 : k = 2
    · subst h2
      have HV : Hid (isB 2 (L s) = (isAtom (L s) && !same (L s) nilL)) := Lib.hid rfl
      generalize isAtom (L s) = a at *
      generalize same (L s) nilL = b at *
      cases a
      all_goals (
        go_enter Tryz.func26, Tryz.ntmps26
        go_wp2_with (first | (go_at_call 43; refine (hA.out _).mono ?_; rintro e w' ⟨rfl, rfl⟩) | (go_at_call 44; refine (hN.out _).mono ?_; rintro e w' ⟨rfl, rfl⟩))
        go_ret
        exact ⟨ret_bool (by rw [HV.out]; first | rfl | simp), rfl⟩)
    · have b2 := beqI_no h2
      by_cases h5 : k = 5
      · subst h5
        have HV : Hid (isB 5 (L s) = (decide (s.size ≤ 24) && isAtom (L s))) := Lib.hid rfl
        generalize isAtom (L s) = a at *
        by_cases hl : s.size ≤ 24
        · rw [decide_eq_true hl] at HV
          cases a
          all_goals (
            go_enter Tryz.func26, Tryz.ntmps26
            go_wp2_with (go_at_call 43; refine (hA.out _).mono ?_; rintro e w' ⟨rfl, rfl⟩)
            go_ret
            exact ⟨ret_bool (by rw [HV.out]; first | rfl | (simp; omega)), rfl⟩)
        · rw [decide_eq_false hl] at HV
          cases a
          all_goals (
            go_enter Tryz.func26, Tryz.ntmps26
            go_wp2_with (go_at_call 43; refine (hA.out _).mono ?_; rintro e w' ⟨rfl, rfl⟩)
            go_ret
            exact ⟨ret_bool (by rw [HV.out]; first | rfl | (simp; omega)), rfl⟩)
      · have b5 := beqI_no h5
        have HV := Lib.hid (isB_other (l := L s) h1 h2 h.1 h.2.1 h5 h.2.2)
        go_enter Tryz.func26, Tryz.ntmps26
        go_wp2
        go_ret
        exact ⟨ret_bool HV.out.symm, rfl⟩
end Go.Proofs.YtgcbindjbgkniaaGreatDoor
