/- lex.Is. -/
import Derived.Test.YtbncaiocmklgnaaGreatDoorXh
import Derived.Test.YtbncaiocmklgnaaGreatDoorPb
namespace Go.Proofs.YtbncaiocmklgnaaGreatDoor
open Go.RowKit

theorem toListE_size (s : ByteArray) (h : ¬ s.size = 0) : s.toList.isEmpty = false := by
  rw [toList_L]; exact isEmpty_Ln s h
theorem toListE_zero (s : ByteArray) (h : s.size = 0) : s.toList.isEmpty = true := by
  rw [toList_L]; exact isEmpty_L s h
theorem allB_atom (l : List UInt8) : allB 2 l = l.all atomC := by unfold allB; rw [bitB_atom]
theorem allB_tag (l : List UInt8) : allB 1 l = l.all tagC := by unfold allB; rw [bitB_tag]
theorem allB_pat (l : List UInt8) : allB 4 l = l.all patC := by unfold allB; rw [bitB_pat]
theorem allB_quot (l : List UInt8) : allB 16 l = l.all quotC := by unfold allB; rw [bitB_quot]
set_option maxHeartbeats 1000000 in
theorem lIs1 (s : ByteArray) (w : World) (hs : s.size ≤ 140737488355328) :
    Calls Tryz.prog 19 #[.int .i64 1, .string s] w fun e w' => e = .returned (.bool (isAtom (L s))) ∧ w' = w := by
  have hA := Lib.hid (fun W => isAll_at 2 2 s W (by simp) hs)
  by_cases h0 : s.size = 0
  · have HF := Lib.hid (isAtom_nil s h0)
    have hE := toListE_zero s h0
    go_enter Tryz.func19, Tryz.ntmps19
    go_wp2_with (go_at_call 39; refine (hA.out _).mono ?_; rintro e w' ⟨rfl, rfl⟩)
    go_ret
    exact ⟨ret_bool HF.out.symm, rfl⟩
  · have hE := toListE_size s h0
    have HF : Hid (isAtom (L s) = allB 2 (L s)) := Lib.hid (by rw [allB_atom]; unfold isAtom; rw [isEmpty_Ln s h0]; rfl)
    go_enter Tryz.func19, Tryz.ntmps19
    go_wp2_with (go_at_call 39; refine (hA.out _).mono ?_; rintro e w' ⟨rfl, rfl⟩)
    go_ret
    exact ⟨ret_bool HF.out.symm, rfl⟩
set_option maxHeartbeats 1000000 in
theorem lIs6 (s : ByteArray) (w : World) (hs : s.size ≤ 140737488355328) :
    Calls Tryz.prog 19 #[.int .i64 6, .string s] w fun e w' => e = .returned (.bool (isPat (L s))) ∧ w' = w := by
  have hA := Lib.hid (fun W => isAll_at 4 4 s W (by simp) hs)
  by_cases h0 : s.size = 0
  · have HF := Lib.hid (isPat_nil s h0)
    have hE := toListE_zero s h0
    go_enter Tryz.func19, Tryz.ntmps19
    go_wp2_with (go_at_call 39; refine (hA.out _).mono ?_; rintro e w' ⟨rfl, rfl⟩)
    go_ret
    exact ⟨ret_bool HF.out.symm, rfl⟩
  · have hE := toListE_size s h0
    have HF : Hid (isPat (L s) = allB 4 (L s)) := Lib.hid (by rw [allB_pat]; unfold isPat; rw [isEmpty_Ln s h0]; rfl)
    go_enter Tryz.func19, Tryz.ntmps19
    go_wp2_with (go_at_call 39; refine (hA.out _).mono ?_; rintro e w' ⟨rfl, rfl⟩)
    go_ret
    exact ⟨ret_bool HF.out.symm, rfl⟩
set_option maxHeartbeats 1000000 in
theorem lIs3 (s : ByteArray) (w : World) (hs : s.size ≤ 140737488355328) :
    Calls Tryz.prog 19 #[.int .i64 3, .string s] w fun e w' => e = .returned (.bool (isTag (L s))) ∧ w' = w := by
  have hA := Lib.hid (fun W => isAll_at 1 1 s W (by simp) hs)
  by_cases h0 : s.size = 0
  · have HF : Hid (isTag (L s) = false) := Lib.hid (by unfold isTag; rw [isEmpty_L s h0]; rfl)
    have hE := toListE_zero s h0
    go_enter Tryz.func19, Tryz.ntmps19
    go_wp2_with (go_at_call 39; refine (hA.out _).mono ?_; rintro e w' ⟨rfl, rfl⟩)
    go_ret
    exact ⟨ret_bool HF.out.symm, rfl⟩
  · have hE := toListE_size s h0
    have HF : Hid (isTag (L s) = (decide (s.size ≤ 32) && allB 1 (L s))) := Lib.hid (by rw [allB_tag]; unfold isTag; rw [isEmpty_Ln s h0]; rfl)
    by_cases hl : s.size ≤ 32
    · rw [decide_eq_true hl, Bool.true_and] at HF
      go_enter Tryz.func19, Tryz.ntmps19
      go_wp2_with (go_at_call 39; refine (hA.out _).mono ?_; rintro e w' ⟨rfl, rfl⟩)
      go_ret
      exact ⟨ret_bool HF.out.symm, rfl⟩
    · rw [decide_eq_false hl, Bool.false_and] at HF
      go_enter Tryz.func19, Tryz.ntmps19
      go_wp2_with (go_at_call 39; refine (hA.out _).mono ?_; rintro e w' ⟨rfl, rfl⟩)
      go_ret
      exact ⟨ret_bool HF.out.symm, rfl⟩
set_option maxHeartbeats 1000000 in
theorem lIs5 (s : ByteArray) (w : World) (hs : s.size ≤ 140737488355328) :
    Calls Tryz.prog 19 #[.int .i64 5, .string s] w fun e w' => e = .returned (.bool (isKey (L s))) ∧ w' = w := by
  have hA := Lib.hid (fun W => lIs1 s W hs)
  have HF : Hid (isKey (L s) = (decide (s.size ≤ 24) && isAtom (L s))) := Lib.hid rfl
  by_cases hl : s.size ≤ 24
  · rw [decide_eq_true hl, Bool.true_and] at HF
    go_enter Tryz.func19, Tryz.ntmps19
    go_wp2_with (go_at_call 19; refine (hA.out _).mono ?_; rintro e w' ⟨rfl, rfl⟩)
    go_ret
    exact ⟨ret_bool HF.out.symm, rfl⟩
  · rw [decide_eq_false hl, Bool.false_and] at HF
    go_enter Tryz.func19, Tryz.ntmps19
    go_wp2_with (go_at_call 19; refine (hA.out _).mono ?_; rintro e w' ⟨rfl, rfl⟩)
    go_ret
    exact ⟨ret_bool HF.out.symm, rfl⟩
set_option maxHeartbeats 1000000 in
theorem lIs2 (s : ByteArray) (w : World) (hs : s.size ≤ 140737488355328) :
    Calls Tryz.prog 19 #[.int .i64 2, .string s] w fun e w' => e = .returned (.bool (isAstr (L s))) ∧ Below w.heap.size w w' := by
  have hA := Lib.hid (fun W => lIs1 s W hs)
  have hS : Hid (∀ W, Calls Tryz.prog 26 #[.string s, .string ⟨#[78, 73, 76]⟩] W fun e w' => e = .returned (.bool (same (L s) nilL)) ∧ Below W.heap.size W w') := Lib.hid (fun W => Same_any s ⟨#[78, 73, 76]⟩ W (by unfold maxLen; omega))
  have HF : Hid (isAstr (L s) = (isAtom (L s) && !same (L s) nilL)) := Lib.hid rfl
  generalize isAtom (L s) = a at *
  generalize same (L s) nilL = b at *
  cases a
  · go_enter Tryz.func19, Tryz.ntmps19
    go_wp2_with (go_at_call 19; refine (hA.out _).mono ?_; rintro e w' ⟨rfl, rfl⟩)
    go_ret
    exact ⟨ret_bool (by rw [HF.out]; rfl), Below.refl _ _⟩
  · go_enter Tryz.func19, Tryz.ntmps19
    go_wp2_with (first | (go_at_call 19; refine (hA.out _).mono ?_; rintro e w' ⟨rfl, rfl⟩) | (go_at_call 26; refine (hS.out _).mono ?_; rintro e w2 ⟨rfl, hb2⟩))
    go_ret
    exact ⟨ret_bool (by rw [HF.out]; first | rfl | simp), hb2⟩
theorem cut_some (s : ByteArray) (h0 : 0 < s.size) (h : (bt (L s) 0).toNat = 92) : Lib.hasPrefix s.data.toList [92] = true ∧ Lib.trimPrefix s.data.toList [92] = (L s).tail ∧ cutB (L s) = true := by
  have hc : bt (L s) 0 = 92 := UInt8.toNat_inj.1 h
  cases hl : L s with
  | nil => exact absurd (show (L s).length = 0 by rw [hl]; rfl) (by rw [L_length]; omega)
  | cons a l =>
    rw [hl] at hc
    obtain rfl : a = 92 := hc
    have e : s.data.toList = 92 :: l := hl
    rw [e]
    have h1 : Lib.hasPrefix (92 :: l) [92] = true := by simp [Lib.hasPrefix]
    refine ⟨h1, ?_, rfl⟩
    simp [Lib.trimPrefix, h1]
theorem cut_none (s : ByteArray) (h : s.size = 0 ∨ (bt (L s) 0).toNat ≠ 92) : Lib.hasPrefix s.data.toList [92] = false ∧ Lib.trimPrefix s.data.toList [92] = L s ∧ cutB (L s) = false := by
  cases hl : L s with
  | nil =>
    have e : s.data.toList = [] := hl
    rw [e]
    exact ⟨rfl, rfl, rfl⟩
  | cons a l =>
    have e : s.data.toList = a :: l := hl
    have h1 : (bt (L s) 0).toNat ≠ 92 := by
      rcases h with h | h
      · exact absurd (show (L s).length = 0 by rw [L_length]; exact h) (by rw [hl]; simp)
      · exact h
    rw [hl] at h1
    have h2 : (a == 92) = false := by
      rw [beq_eq_false_iff_ne]
      rintro rfl
      exact h1 rfl
    rw [e]
    have h3 : Lib.hasPrefix (a :: l) [92] = false := by
      simp only [Lib.hasPrefix, List.isPrefixOf]
      rw [Bool.and_eq_false_iff]; left
      rw [beq_eq_false_iff_ne] at h2 ⊢
      exact fun hh => h2 hh.symm
    refine ⟨h3, ?_, h2⟩
    simp [Lib.trimPrefix, h3]
set_option maxHeartbeats 1000000 in
theorem lIs4 (s : ByteArray) (w : World) (hs : s.size ≤ 140737488355328) :
    Calls Tryz.prog 19 #[.int .i64 4, .string s] w fun e w' => e = .returned (.bool (isFlag (L s))) ∧ w' = w := by
  have hC := Lib.hid (fun W => Tryz.strings_CutPrefix s ⟨#[92]⟩ W)
  have hK := Lib.hid (fun W => lIs5 s W hs)
  have HF : Hid (isFlag (L s) = (cutB (L s) && isAtom (L s).tail || isKey (L s))) := Lib.hid rfl
  by_cases hc : 0 < s.size ∧ (bt (L s) 0).toNat = 92
  · obtain ⟨c1, c2, c3⟩ := cut_some s hc.1 hc.2
    change Hid (∀ W, Calls _ _ _ W fun e w' => e = .returned (.tuple #[.string ⟨(Lib.trimPrefix s.data.toList [92]).toArray⟩, .bool (Lib.hasPrefix s.data.toList [92])]) ∧ w' = W) at hC
    rw [c1, c2] at hC
    rw [c3] at HF
    have hz : (S (L s).tail).size ≤ 140737488355328 := by rw [S_size, List.length_tail, L_length]; omega
    have hA := Lib.hid (fun W => lIs1 (S (L s).tail) W hz)
    rw [L_S] at hA
    change Hid (∀ W, Calls _ _ _ W fun e w' => e = .returned (.tuple #[.string (S (L s).tail), .bool true]) ∧ w' = W) at hC
    clear hz c1 c2 c3
    generalize isAtom (L s).tail = a at *
    generalize isKey (L s) = b at *
    generalize S (L s).tail = t at *
    cases a
    all_goals (
      go_enter Tryz.func19, Tryz.ntmps19
      go_wp2_with (first | (go_at_call 40; refine (hC.out _).mono ?_; rintro e w' ⟨rfl, rfl⟩) | (go_at_call 19; (first | with_reducible refine (hA.out _).mono ?_ | with_reducible refine (hK.out _).mono ?_); rintro e w' ⟨rfl, rfl⟩))
      go_ret
      exact ⟨ret_bool (by rw [HF.out]; first | rfl | simp), rfl⟩)
  · obtain ⟨c1, c2, c3⟩ := cut_none s (by omega)
    change Hid (∀ W, Calls _ _ _ W fun e w' => e = .returned (.tuple #[.string ⟨(Lib.trimPrefix s.data.toList [92]).toArray⟩, .bool (Lib.hasPrefix s.data.toList [92])]) ∧ w' = W) at hC
    rw [c1, c2] at hC
    rw [c3] at HF
    change Hid (∀ W, Calls _ _ _ W fun e w' => e = .returned (.tuple #[.string (S (L s)), .bool false]) ∧ w' = W) at hC
    clear c1 c2 c3
    generalize isAtom (L s).tail = a at *
    generalize isKey (L s) = b at *
    generalize S (L s) = t at *
    go_enter Tryz.func19, Tryz.ntmps19
    go_wp2_with (first | (go_at_call 40; refine (hC.out _).mono ?_; rintro e w' ⟨rfl, rfl⟩) | (go_at_call 19; refine (hK.out _).mono ?_; rintro e w' ⟨rfl, rfl⟩))
    go_ret
    exact ⟨ret_bool (by rw [HF.out]; first | rfl | simp), rfl⟩
set_option maxHeartbeats 1000000 in
theorem lIs_any (k : Int) (s : ByteArray) (w : World) (hs : s.size ≤ 140737488355328) :
    Calls Tryz.prog 19 #[.int .i64 k, .string s] w fun e w' => e = .returned (.bool (isB k (L s))) ∧ Below w.heap.size w w' := by
  by_cases h1 : k = 1
  · subst h1; exact (lIs1 s w hs).mono (by rintro e w' ⟨rfl, rfl⟩; exact ⟨rfl, Below.refl _ _⟩)
  by_cases h2 : k = 2
  · subst h2; exact lIs2 s w hs
  by_cases h3 : k = 3
  · subst h3; exact (lIs3 s w hs).mono (by rintro e w' ⟨rfl, rfl⟩; exact ⟨rfl, Below.refl _ _⟩)
  by_cases h4 : k = 4
  · subst h4; exact (lIs4 s w hs).mono (by rintro e w' ⟨rfl, rfl⟩; exact ⟨rfl, Below.refl _ _⟩)
  by_cases h5 : k = 5
  · subst h5; exact (lIs5 s w hs).mono (by rintro e w' ⟨rfl, rfl⟩; exact ⟨rfl, Below.refl _ _⟩)
  by_cases h6 : k = 6
  · subst h6; exact (lIs6 s w hs).mono (by rintro e w' ⟨rfl, rfl⟩; exact ⟨rfl, Below.refl _ _⟩)
  have HV := Lib.hid (isB_other (l := L s) h1 h2 h3 h4 h5 h6)
  have b1 := beqI_no h1
  have b2 := beqI_no h2
  have b3 := beqI_no h3
  have b4 := beqI_no h4
  have b5 := beqI_no h5
  have b6 := beqI_no h6
  go_enter Tryz.func19, Tryz.ntmps19
  go_wp2
  go_ret
  exact ⟨ret_bool HV.out.symm, Below.refl _ _⟩
end Go.Proofs.YtbncaiocmklgnaaGreatDoor
