/- The reference of chapter 2: ReadInternal. -/
import Derived.Test.YtibhlmbcohpmlaaGreatDoorGj
import Derived.Deep.DeepCutAuto
namespace Go.Proofs.YtibhlmbcohpmlaaGreatDoor
open Go.RowKit

theorem ri_day (l : List UInt8) (hl : l.length = 26) : ∃ g : Nat, (g = 1 ∨ g = 2) ∧ (riDay l).length = g + 9 ∧ (riDay l).drop g = (l.drop 2).take 9 ∧ (riDay l).take g = (if bt l 0 == 32 then (l.drop 1).take 1 else l.take 2) ∧ (g = 1 ↔ (bt l 0 == 32) = true) := by
  have h11 : (l.take 11).length = 11 := by rw [List.length_take]; omega
  cases hl2 : l.take 11 with
  | nil => rw [hl2] at h11; simp at h11
  | cons a t =>
    have ha : bt l 0 = a := by
      have : bt (l.take 11) 0 = bt l 0 := by unfold bt; rw [List.getElem?_take]; simp
      rw [← this, hl2]; rfl
    have ht : t = (l.drop 1).take 10 := by
      have : (l.take 11).drop 1 = t := by rw [hl2]; rfl
      rw [← this, List.drop_take]
    have htl : t.length = 10 := by rw [hl2] at h11; simpa using h11
    cases hb : (bt l 0 == 32) with
    | true =>
      have e : riDay l = t := by
        unfold riDay; rw [hl2]
        rw [ha, beq_iff_eq] at hb
        subst hb
        simp [Lib.trimPrefix, Lib.hasPrefix]
      refine ⟨1, .inl rfl, by rw [e, htl], ?_, ?_, by simp⟩
      · rw [e, ht, List.drop_take, List.drop_drop]
      · rw [e, ht, List.take_take]; rfl
    | false =>
      have e : riDay l = l.take 11 := by
        unfold riDay
        rw [ha] at hb
        have h2 : Lib.hasPrefix (l.take 11) [32] = false := by
          rw [hl2]
          simp only [Lib.hasPrefix, List.isPrefixOf]
          rw [Bool.and_eq_false_iff]; left
          rw [beq_eq_false_iff_ne] at hb ⊢
          exact fun hh => hb hh.symm
        simp [Lib.trimPrefix, h2]
      refine ⟨2, .inr rfl, by rw [e, h11], ?_, ?_, by simp⟩
      · rw [e, List.drop_take]
      · rw [e, List.take_take]; rfl
/-- What is asked of the whole. -/
def rInB (l : List UInt8) : Bool := tdB (riDay l) && numB ((l.drop 12).take 2) 2 2 && numB ((l.drop 15).take 2) 2 2 && numB ((l.drop 18).take 2) 2 2 && tzB (l.drop 21) && decide (numI ((l.drop 12).take 2) 2 2 ≤ 23) && decide (numI ((l.drop 15).take 2) 2 2 ≤ 59) && decide (numI ((l.drop 18).take 2) 2 2 ≤ 59)
theorem rIn_eq (l : List UInt8) (hl : l.length = 26) (h11 : (bt l 11 == 32) = true) (h14 : (bt l 14 == 58) = true) (h17 : (bt l 17 == 58) = true) (h20 : (bt l 20 == 32) = true) :
    riB l = rInB l ∧ tcH ((l.drop 12).take 8) = numI ((l.drop 12).take 2) 2 2 ∧ tcN ((l.drop 12).take 8) = numI ((l.drop 15).take 2) 2 2 ∧ tcS ((l.drop 12).take 8) = numI ((l.drop 18).take 2) 2 2 := by
  have e1 : ((l.drop 12).take 8).take 2 = (l.drop 12).take 2 := by rw [List.take_take]; rfl
  have e2 : (((l.drop 12).take 8).drop 3).take 2 = (l.drop 15).take 2 := by rw [List.drop_take, List.take_take, List.drop_drop]; rfl
  have e3 : ((l.drop 12).take 8).drop 6 = (l.drop 18).take 2 := by rw [List.drop_take, List.drop_drop]
  have b1 := bt_take_drop l 12 8 2 (by omega)
  have b2 := bt_take_drop l 12 8 5 (by omega)
  refine ⟨?_, by unfold tcH; rw [e1], by unfold tcN; rw [e2], by unfold tcS; rw [e3]⟩
  unfold riB riF rInB tcB
  rw [hl, h11, h20, b1, b2, h14, h17]
  unfold tcH tcN tcS
  rw [e1, e2, e3]
  have n1 := numI_bounds ((l.drop 12).take 2) 2 2
  have n2 := numI_bounds ((l.drop 15).take 2) 2 2
  have n3 := numI_bounds ((l.drop 18).take 2) 2 2
  generalize numI ((l.drop 12).take 2) 2 2 = h at *
  generalize numI ((l.drop 15).take 2) 2 2 = n at *
  generalize numI ((l.drop 18).take 2) 2 2 = s at *
  have hc : clockB h n s = (decide (h ≤ 23) && decide (n ≤ 59) && decide (s ≤ 59)) := by
    obtain ⟨m1, _⟩ := n1
    obtain ⟨m2, _⟩ := n2
    obtain ⟨m3, _⟩ := n3
    unfold clockB wi
    rw [Bool.eq_iff_iff]
    simp
    omega
  rw [hc]
  cases tdB (riDay l) <;> cases numB ((l.drop 12).take 2) 2 2 <;> cases numB ((l.drop 15).take 2) 2 2 <;> cases numB ((l.drop 18).take 2) 2 2 <;> cases tzB (l.drop 21) <;> simp
theorem ri_no (l : List UInt8) (h : ¬ (l.length = 26 ∧ (bt l 11 == 32) = true ∧ (bt l 14 == 58) = true ∧ (bt l 17 == 58) = true ∧ (bt l 20 == 32) = true)) : riB l = false := by
  cases hr : riB l with
  | false => rfl
  | true =>
    exfalso; apply h
    unfold riB riF tcB at hr
    simp only [Bool.and_eq_true, decide_eq_true_eq] at hr
    have b1 := bt_take_drop l 12 8 2 (by omega)
    have b2 := bt_take_drop l 12 8 5 (by omega)
    rw [b1, b2] at hr
    exact ⟨hr.1.1.1, hr.1.1.2, hr.2.1.2.1.1.2, hr.2.1.2.1.2, hr.1.2⟩
set_option maxRecDepth 100000 in
set_option maxHeartbeats 4000000 in
theorem refReadInternal_no (s : ByteArray) (w : World) (hn : ¬ ((L s).length = 26 ∧ (bt (L s) 11 == 32) = true ∧ (bt (L s) 14 == 58) = true ∧ (bt (L s) 17 == 58) = true ∧ (bt (L s) 20 == 32) = true)) :
    Calls Tryz.prog 32 #[.string s] w fun e w' => e = .returned (.tuple #[mom 0 0 0 0 0 0 0, .int .i64 20]) ∧ Below w.heap.size w w' := by
  have G1 := Lib.hid (heap_alloc_new w (.cells #[.int .i64 0, .int .i64 0, .int .i64 0, .int .i64 0, .int .i64 0, .int .i64 0, .int .i64 0] 23))
  have Q0 : Hid (Below w.heap.size w (w.alloc (.cells #[.int .i64 0, .int .i64 0, .int .i64 0, .int .i64 0, .int .i64 0, .int .i64 0, .int .i64 0] 23))) := Lib.hid ((Below.refl _ _).alloc (Nat.le_refl _) _)
  by_cases h26 : s.size = 26
  · have e1 := get_bt s 11 (by omega)
    have e2 := get_bt s 14 (by omega)
    have e3 := get_bt s 17 (by omega)
    have e4 := get_bt s 20 (by omega)
    have t1 := neq_test (bt (L s) 11) 32 32 rfl
    have t2 := neq_test (bt (L s) 14) 58 58 rfl
    have t3 := neq_test (bt (L s) 17) 58 58 rfl
    have t4 := neq_test (bt (L s) 20) 32 32 rfl
    have hl : (L s).length = 26 := h26
    rw [hl] at hn
    generalize (bt (L s) 11 == 32) = p1 at *
    generalize (bt (L s) 14 == 58) = p2 at *
    generalize (bt (L s) 17 == 58) = p3 at *
    generalize (bt (L s) 20 == 32) = p4 at *
    generalize bt (L s) 11 = B1 at *
    generalize bt (L s) 14 = B2 at *
    generalize bt (L s) 17 = B3 at *
    generalize bt (L s) 20 = B4 at *
    have hc : p1 = false ∨ (p1 = true ∧ p2 = false) ∨ (p1 = true ∧ p2 = true ∧ p3 = false) ∨ (p1 = true ∧ p2 = true ∧ p3 = true ∧ p4 = false) := by
      cases p1 <;> cases p2 <;> cases p3 <;> cases p4 <;> simp_all
    clear hn hl
    unfold mom
    rcases hc with rfl | ⟨rfl, rfl⟩ | ⟨rfl, rfl, rfl⟩ | ⟨rfl, rfl, rfl, rfl⟩
    all_goals (
      simp only [Bool.not_false, Bool.not_true] at t1 t2 t3 t4
      go_enter Tryz.func32, Tryz.ntmps32
      go_wp2
      exact bodyPost_ret (v := .tuple #[mom 0 0 0 0 0 0 0, .int .i64 20]) (res2 Tryz.results32 _ _ w.heap.size 23 _ (0, 0) _ rfl G1.out Tryz.underlying23 rfl Tryz.sizeMom) rfl ⟨rfl, Q0.out⟩)
  · have t : ((s.size : Int) != 26) = true := by rw [bne_iff_ne]; omega
    clear hn
    unfold mom
    go_enter Tryz.func32, Tryz.ntmps32
    go_wp2
    exact bodyPost_ret (v := .tuple #[mom 0 0 0 0 0 0 0, .int .i64 20]) (res2 Tryz.results32 _ _ w.heap.size 23 _ (0, 0) _ rfl G1.out Tryz.underlying23 rfl Tryz.sizeMom) rfl ⟨rfl, Q0.out⟩
end Go.Proofs.YtibhlmbcohpmlaaGreatDoor
