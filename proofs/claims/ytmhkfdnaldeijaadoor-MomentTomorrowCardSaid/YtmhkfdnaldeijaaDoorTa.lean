/- The law's 'behind': the day behind a day. -/
import Derived.Test.YtmhkfdnaldeijaaDoorMa
import Derived.Test.YtmhkfdnaldeijaaDoorDy
namespace Go.Proofs.YtmhkfdnaldeijaaDoor
open Go.RowKit

def behV (Y M D : Nat) (h n s z : Int) : Value := .tuple #[.agg #[.int .i64 (nextD Y M D).1, .int .i64 (nextD Y M D).2.1, .int .i64 (nextD Y M D).2.2, .int .i64 h, .int .i64 n, .int .i64 s, .int .i64 z], .bool (decide (((nextD Y M D).1 : Int) ≤ 9999))]
theorem behV_of (Y M D : Nat) (h n s z : Int) (a b c : Nat) (y' m' d' : Int) (q : Bool) (hn : nextD Y M D = (a, b, c)) (ha : (a : Int) = y') (hb : (b : Int) = m') (hc : (c : Int) = d') (hq : decide (y' ≤ 9999) = q) :
    Value.tuple #[.agg #[.int .i64 y', .int .i64 m', .int .i64 d', .int .i64 h, .int .i64 n, .int .i64 s, .int .i64 z], .bool q] = behV Y M D h n s z := by
  unfold behV
  rw [hn, ← hq, ← ha, ← hb, ← hc]
theorem blk2 (w : World) (a : Obj) (cs : Array Value) (t : TypeId) : ((w.alloc a).alloc (.cells cs t)).drew.heap[w.heap.size + 1]? = some (.cells cs t (0, 0)) := by
  have := heap_alloc_new (w.alloc a) (.cells cs t)
  rw [show (w.alloc a).heap.size = w.heap.size + 1 by simp] at this
  exact this
theorem next_in (Y M D : Nat) (h : D < mlen Y M) : nextD Y M D = (Y, M, D + 1) := by unfold nextD; rw [if_pos h]
theorem next_mo (Y M D : Nat) (h : ¬ D < mlen Y M) (h2 : M < 12) : nextD Y M D = (Y, M + 1, 1) := by unfold nextD; rw [if_neg h, if_pos h2]
theorem next_ye (Y M D : Nat) (h : ¬ D < mlen Y M) (h2 : ¬ M < 12) : nextD Y M D = (Y + 1, 1, 1) := by unfold nextD; rw [if_neg h, if_neg h2]
set_option maxRecDepth 100000 in
set_option maxHeartbeats 2000000 in
theorem behind_1 (Y D : Nat) (h n s z : Int) (w : World) (hd : IsDay Y 1 D) :
    Calls Tryd.prog 14 #[.agg #[.int .i64 Y, .int .i64 1, .int .i64 D, .int .i64 h, .int .i64 n, .int .i64 s, .int .i64 z]] w fun e w' => e = .returned (behV Y 1 D h n s z) ∧ Below w.heap.size w w' := by
  have hm : mlen Y 1 = 31 := rfl
  have b1 := hd.y1
  have b2 := hd.y2
  have b3 := hd.d1
  have b4 : D ≤ 31 := hm ▸ hd.d2
  have hy9 : decide ((Y : Int) ≤ 9999) = true := by rw [decide_eq_true_iff]; omega
  by_cases hD : D < 31
  · have HR := Lib.hid (behV_of Y 1 D h n s z Y 1 (D + 1) Y 1 (D + 1) true (next_in Y 1 D (by rw [hm]; exact hD)) rfl rfl rfl hy9)
    have tD : decide ((31 : Int) < (D : Int) + 1) = false := by rw [decide_eq_false_iff_not]; omega
    clear hd hm hD
    go_enter Tryd.func14, Tryd.ntmps14
    go_wp2
    go_region
    all_goals go_wp2
    all_goals exact bodyPost_ret (res2 Tryd.results14 _ _ (w.heap.size + 1) 23 #[.int .i64 (Y:Int), .int .i64 1, .int .i64 ((D:Int)+1), .int .i64 h, .int .i64 n, .int .i64 s, .int .i64 z] (0, 0) _ rfl (blk2 w _ _ _) Tryd.underlying23 rfl Tryd.sizeMom) rfl ⟨congrArg Ending.returned HR.out, (((Below.refl _ _).alloc (Nat.le_refl _) _).alloc (by simp) _).drew⟩
  · have HR := Lib.hid (behV_of Y 1 D h n s z Y (1 + 1) 1 Y 2 1 true (next_mo Y 1 D (by rw [hm]; exact hD) (by omega)) rfl rfl rfl hy9)
    have tD : decide ((31 : Int) < (D : Int) + 1) = true := by rw [decide_eq_true_iff]; omega
    clear hd hm hD
    go_enter Tryd.func14, Tryd.ntmps14
    go_wp2
    go_region
    all_goals go_wp2
    all_goals exact bodyPost_ret (res2 Tryd.results14 _ _ (w.heap.size + 1) 23 #[.int .i64 (Y:Int), .int .i64 2, .int .i64 1, .int .i64 h, .int .i64 n, .int .i64 s, .int .i64 z] (0, 0) _ rfl (blk2 w _ _ _) Tryd.underlying23 rfl Tryd.sizeMom) rfl ⟨congrArg Ending.returned HR.out, (((Below.refl _ _).alloc (Nat.le_refl _) _).alloc (by simp) _).drew⟩
set_option maxRecDepth 100000 in
set_option maxHeartbeats 2000000 in
theorem behind_3 (Y D : Nat) (h n s z : Int) (w : World) (hd : IsDay Y 3 D) :
    Calls Tryd.prog 14 #[.agg #[.int .i64 Y, .int .i64 3, .int .i64 D, .int .i64 h, .int .i64 n, .int .i64 s, .int .i64 z]] w fun e w' => e = .returned (behV Y 3 D h n s z) ∧ Below w.heap.size w w' := by
  have hm : mlen Y 3 = 31 := rfl
  have b1 := hd.y1
  have b2 := hd.y2
  have b3 := hd.d1
  have b4 : D ≤ 31 := hm ▸ hd.d2
  have hy9 : decide ((Y : Int) ≤ 9999) = true := by rw [decide_eq_true_iff]; omega
  by_cases hD : D < 31
  · have HR := Lib.hid (behV_of Y 3 D h n s z Y 3 (D + 1) Y 3 (D + 1) true (next_in Y 3 D (by rw [hm]; exact hD)) rfl rfl rfl hy9)
    have tD : decide ((31 : Int) < (D : Int) + 1) = false := by rw [decide_eq_false_iff_not]; omega
    clear hd hm hD
    go_enter Tryd.func14, Tryd.ntmps14
    go_wp2
    go_region
    all_goals go_wp2
    all_goals exact bodyPost_ret (res2 Tryd.results14 _ _ (w.heap.size + 1) 23 #[.int .i64 (Y:Int), .int .i64 3, .int .i64 ((D:Int)+1), .int .i64 h, .int .i64 n, .int .i64 s, .int .i64 z] (0, 0) _ rfl (blk2 w _ _ _) Tryd.underlying23 rfl Tryd.sizeMom) rfl ⟨congrArg Ending.returned HR.out, (((Below.refl _ _).alloc (Nat.le_refl _) _).alloc (by simp) _).drew⟩
  · have HR := Lib.hid (behV_of Y 3 D h n s z Y (3 + 1) 1 Y 4 1 true (next_mo Y 3 D (by rw [hm]; exact hD) (by omega)) rfl rfl rfl hy9)
    have tD : decide ((31 : Int) < (D : Int) + 1) = true := by rw [decide_eq_true_iff]; omega
    clear hd hm hD
    go_enter Tryd.func14, Tryd.ntmps14
    go_wp2
    go_region
    all_goals go_wp2
    all_goals exact bodyPost_ret (res2 Tryd.results14 _ _ (w.heap.size + 1) 23 #[.int .i64 (Y:Int), .int .i64 4, .int .i64 1, .int .i64 h, .int .i64 n, .int .i64 s, .int .i64 z] (0, 0) _ rfl (blk2 w _ _ _) Tryd.underlying23 rfl Tryd.sizeMom) rfl ⟨congrArg Ending.returned HR.out, (((Below.refl _ _).alloc (Nat.le_refl _) _).alloc (by simp) _).drew⟩
set_option maxRecDepth 100000 in
set_option maxHeartbeats 2000000 in
theorem behind_4 (Y D : Nat) (h n s z : Int) (w : World) (hd : IsDay Y 4 D) :
    Calls Tryd.prog 14 #[.agg #[.int .i64 Y, .int .i64 4, .int .i64 D, .int .i64 h, .int .i64 n, .int .i64 s, .int .i64 z]] w fun e w' => e = .returned (behV Y 4 D h n s z) ∧ Below w.heap.size w w' := by
  have hm : mlen Y 4 = 30 := rfl
  have b1 := hd.y1
  have b2 := hd.y2
  have b3 := hd.d1
  have b4 : D ≤ 30 := hm ▸ hd.d2
  have hy9 : decide ((Y : Int) ≤ 9999) = true := by rw [decide_eq_true_iff]; omega
  by_cases hD : D < 30
  · have HR := Lib.hid (behV_of Y 4 D h n s z Y 4 (D + 1) Y 4 (D + 1) true (next_in Y 4 D (by rw [hm]; exact hD)) rfl rfl rfl hy9)
    have tD : decide ((30 : Int) < (D : Int) + 1) = false := by rw [decide_eq_false_iff_not]; omega
    clear hd hm hD
    go_enter Tryd.func14, Tryd.ntmps14
    go_wp2
    go_region
    all_goals go_wp2
    all_goals exact bodyPost_ret (res2 Tryd.results14 _ _ (w.heap.size + 1) 23 #[.int .i64 (Y:Int), .int .i64 4, .int .i64 ((D:Int)+1), .int .i64 h, .int .i64 n, .int .i64 s, .int .i64 z] (0, 0) _ rfl (blk2 w _ _ _) Tryd.underlying23 rfl Tryd.sizeMom) rfl ⟨congrArg Ending.returned HR.out, (((Below.refl _ _).alloc (Nat.le_refl _) _).alloc (by simp) _).drew⟩
  · have HR := Lib.hid (behV_of Y 4 D h n s z Y (4 + 1) 1 Y 5 1 true (next_mo Y 4 D (by rw [hm]; exact hD) (by omega)) rfl rfl rfl hy9)
    have tD : decide ((30 : Int) < (D : Int) + 1) = true := by rw [decide_eq_true_iff]; omega
    clear hd hm hD
    go_enter Tryd.func14, Tryd.ntmps14
    go_wp2
    go_region
    all_goals go_wp2
    all_goals exact bodyPost_ret (res2 Tryd.results14 _ _ (w.heap.size + 1) 23 #[.int .i64 (Y:Int), .int .i64 5, .int .i64 1, .int .i64 h, .int .i64 n, .int .i64 s, .int .i64 z] (0, 0) _ rfl (blk2 w _ _ _) Tryd.underlying23 rfl Tryd.sizeMom) rfl ⟨congrArg Ending.returned HR.out, (((Below.refl _ _).alloc (Nat.le_refl _) _).alloc (by simp) _).drew⟩
set_option maxRecDepth 100000 in
set_option maxHeartbeats 2000000 in
theorem behind_5 (Y D : Nat) (h n s z : Int) (w : World) (hd : IsDay Y 5 D) :
    Calls Tryd.prog 14 #[.agg #[.int .i64 Y, .int .i64 5, .int .i64 D, .int .i64 h, .int .i64 n, .int .i64 s, .int .i64 z]] w fun e w' => e = .returned (behV Y 5 D h n s z) ∧ Below w.heap.size w w' := by
  have hm : mlen Y 5 = 31 := rfl
  have b1 := hd.y1
  have b2 := hd.y2
  have b3 := hd.d1
  have b4 : D ≤ 31 := hm ▸ hd.d2
  have hy9 : decide ((Y : Int) ≤ 9999) = true := by rw [decide_eq_true_iff]; omega
  by_cases hD : D < 31
  · have HR := Lib.hid (behV_of Y 5 D h n s z Y 5 (D + 1) Y 5 (D + 1) true (next_in Y 5 D (by rw [hm]; exact hD)) rfl rfl rfl hy9)
    have tD : decide ((31 : Int) < (D : Int) + 1) = false := by rw [decide_eq_false_iff_not]; omega
    clear hd hm hD
    go_enter Tryd.func14, Tryd.ntmps14
    go_wp2
    go_region
    all_goals go_wp2
    all_goals exact bodyPost_ret (res2 Tryd.results14 _ _ (w.heap.size + 1) 23 #[.int .i64 (Y:Int), .int .i64 5, .int .i64 ((D:Int)+1), .int .i64 h, .int .i64 n, .int .i64 s, .int .i64 z] (0, 0) _ rfl (blk2 w _ _ _) Tryd.underlying23 rfl Tryd.sizeMom) rfl ⟨congrArg Ending.returned HR.out, (((Below.refl _ _).alloc (Nat.le_refl _) _).alloc (by simp) _).drew⟩
  · have HR := Lib.hid (behV_of Y 5 D h n s z Y (5 + 1) 1 Y 6 1 true (next_mo Y 5 D (by rw [hm]; exact hD) (by omega)) rfl rfl rfl hy9)
    have tD : decide ((31 : Int) < (D : Int) + 1) = true := by rw [decide_eq_true_iff]; omega
    clear hd hm hD
    go_enter Tryd.func14, Tryd.ntmps14
    go_wp2
    go_region
    all_goals go_wp2
    all_goals exact bodyPost_ret (res2 Tryd.results14 _ _ (w.heap.size + 1) 23 #[.int .i64 (Y:Int), .int .i64 6, .int .i64 1, .int .i64 h, .int .i64 n, .int .i64 s, .int .i64 z] (0, 0) _ rfl (blk2 w _ _ _) Tryd.underlying23 rfl Tryd.sizeMom) rfl ⟨congrArg Ending.returned HR.out, (((Below.refl _ _).alloc (Nat.le_refl _) _).alloc (by simp) _).drew⟩
set_option maxRecDepth 100000 in
set_option maxHeartbeats 2000000 in
theorem behind_6 (Y D : Nat) (h n s z : Int) (w : World) (hd : IsDay Y 6 D) :
    Calls Tryd.prog 14 #[.agg #[.int .i64 Y, .int .i64 6, .int .i64 D, .int .i64 h, .int .i64 n, .int .i64 s, .int .i64 z]] w fun e w' => e = .returned (behV Y 6 D h n s z) ∧ Below w.heap.size w w' := by
  have hm : mlen Y 6 = 30 := rfl
  have b1 := hd.y1
  have b2 := hd.y2
  have b3 := hd.d1
  have b4 : D ≤ 30 := hm ▸ hd.d2
  have hy9 : decide ((Y : Int) ≤ 9999) = true := by rw [decide_eq_true_iff]; omega
  by_cases hD : D < 30
  · have HR := Lib.hid (behV_of Y 6 D h n s z Y 6 (D + 1) Y 6 (D + 1) true (next_in Y 6 D (by rw [hm]; exact hD)) rfl rfl rfl hy9)
    have tD : decide ((30 : Int) < (D : Int) + 1) = false := by rw [decide_eq_false_iff_not]; omega
    clear hd hm hD
    go_enter Tryd.func14, Tryd.ntmps14
    go_wp2
    go_region
    all_goals go_wp2
    all_goals exact bodyPost_ret (res2 Tryd.results14 _ _ (w.heap.size + 1) 23 #[.int .i64 (Y:Int), .int .i64 6, .int .i64 ((D:Int)+1), .int .i64 h, .int .i64 n, .int .i64 s, .int .i64 z] (0, 0) _ rfl (blk2 w _ _ _) Tryd.underlying23 rfl Tryd.sizeMom) rfl ⟨congrArg Ending.returned HR.out, (((Below.refl _ _).alloc (Nat.le_refl _) _).alloc (by simp) _).drew⟩
  · have HR := Lib.hid (behV_of Y 6 D h n s z Y (6 + 1) 1 Y 7 1 true (next_mo Y 6 D (by rw [hm]; exact hD) (by omega)) rfl rfl rfl hy9)
    have tD : decide ((30 : Int) < (D : Int) + 1) = true := by rw [decide_eq_true_iff]; omega
    clear hd hm hD
    go_enter Tryd.func14, Tryd.ntmps14
    go_wp2
    go_region
    all_goals go_wp2
    all_goals exact bodyPost_ret (res2 Tryd.results14 _ _ (w.heap.size + 1) 23 #[.int .i64 (Y:Int), .int .i64 7, .int .i64 1, .int .i64 h, .int .i64 n, .int .i64 s, .int .i64 z] (0, 0) _ rfl (blk2 w _ _ _) Tryd.underlying23 rfl Tryd.sizeMom) rfl ⟨congrArg Ending.returned HR.out, (((Below.refl _ _).alloc (Nat.le_refl _) _).alloc (by simp) _).drew⟩
set_option maxRecDepth 100000 in
set_option maxHeartbeats 2000000 in
theorem behind_7 (Y D : Nat) (h n s z : Int) (w : World) (hd : IsDay Y 7 D) :
    Calls Tryd.prog 14 #[.agg #[.int .i64 Y, .int .i64 7, .int .i64 D, .int .i64 h, .int .i64 n, .int .i64 s, .int .i64 z]] w fun e w' => e = .returned (behV Y 7 D h n s z) ∧ Below w.heap.size w w' := by
  have hm : mlen Y 7 = 31 := rfl
  have b1 := hd.y1
  have b2 := hd.y2
  have b3 := hd.d1
  have b4 : D ≤ 31 := hm ▸ hd.d2
  have hy9 : decide ((Y : Int) ≤ 9999) = true := by rw [decide_eq_true_iff]; omega
  by_cases hD : D < 31
  · have HR := Lib.hid (behV_of Y 7 D h n s z Y 7 (D + 1) Y 7 (D + 1) true (next_in Y 7 D (by rw [hm]; exact hD)) rfl rfl rfl hy9)
    have tD : decide ((31 : Int) < (D : Int) + 1) = false := by rw [decide_eq_false_iff_not]; omega
    clear hd hm hD
    go_enter Tryd.func14, Tryd.ntmps14
    go_wp2
    go_region
    all_goals go_wp2
    all_goals exact bodyPost_ret (res2 Tryd.results14 _ _ (w.heap.size + 1) 23 #[.int .i64 (Y:Int), .int .i64 7, .int .i64 ((D:Int)+1), .int .i64 h, .int .i64 n, .int .i64 s, .int .i64 z] (0, 0) _ rfl (blk2 w _ _ _) Tryd.underlying23 rfl Tryd.sizeMom) rfl ⟨congrArg Ending.returned HR.out, (((Below.refl _ _).alloc (Nat.le_refl _) _).alloc (by simp) _).drew⟩
  · have HR := Lib.hid (behV_of Y 7 D h n s z Y (7 + 1) 1 Y 8 1 true (next_mo Y 7 D (by rw [hm]; exact hD) (by omega)) rfl rfl rfl hy9)
    have tD : decide ((31 : Int) < (D : Int) + 1) = true := by rw [decide_eq_true_iff]; omega
    clear hd hm hD
    go_enter Tryd.func14, Tryd.ntmps14
    go_wp2
    go_region
    all_goals go_wp2
    all_goals exact bodyPost_ret (res2 Tryd.results14 _ _ (w.heap.size + 1) 23 #[.int .i64 (Y:Int), .int .i64 8, .int .i64 1, .int .i64 h, .int .i64 n, .int .i64 s, .int .i64 z] (0, 0) _ rfl (blk2 w _ _ _) Tryd.underlying23 rfl Tryd.sizeMom) rfl ⟨congrArg Ending.returned HR.out, (((Below.refl _ _).alloc (Nat.le_refl _) _).alloc (by simp) _).drew⟩
set_option maxRecDepth 100000 in
set_option maxHeartbeats 2000000 in
theorem behind_8 (Y D : Nat) (h n s z : Int) (w : World) (hd : IsDay Y 8 D) :
    Calls Tryd.prog 14 #[.agg #[.int .i64 Y, .int .i64 8, .int .i64 D, .int .i64 h, .int .i64 n, .int .i64 s, .int .i64 z]] w fun e w' => e = .returned (behV Y 8 D h n s z) ∧ Below w.heap.size w w' := by
  have hm : mlen Y 8 = 31 := rfl
  have b1 := hd.y1
  have b2 := hd.y2
  have b3 := hd.d1
  have b4 : D ≤ 31 := hm ▸ hd.d2
  have hy9 : decide ((Y : Int) ≤ 9999) = true := by rw [decide_eq_true_iff]; omega
  by_cases hD : D < 31
  · have HR := Lib.hid (behV_of Y 8 D h n s z Y 8 (D + 1) Y 8 (D + 1) true (next_in Y 8 D (by rw [hm]; exact hD)) rfl rfl rfl hy9)
    have tD : decide ((31 : Int) < (D : Int) + 1) = false := by rw [decide_eq_false_iff_not]; omega
    clear hd hm hD
    go_enter Tryd.func14, Tryd.ntmps14
    go_wp2
    go_region
    all_goals go_wp2
    all_goals exact bodyPost_ret (res2 Tryd.results14 _ _ (w.heap.size + 1) 23 #[.int .i64 (Y:Int), .int .i64 8, .int .i64 ((D:Int)+1), .int .i64 h, .int .i64 n, .int .i64 s, .int .i64 z] (0, 0) _ rfl (blk2 w _ _ _) Tryd.underlying23 rfl Tryd.sizeMom) rfl ⟨congrArg Ending.returned HR.out, (((Below.refl _ _).alloc (Nat.le_refl _) _).alloc (by simp) _).drew⟩
  · have HR := Lib.hid (behV_of Y 8 D h n s z Y (8 + 1) 1 Y 9 1 true (next_mo Y 8 D (by rw [hm]; exact hD) (by omega)) rfl rfl rfl hy9)
    have tD : decide ((31 : Int) < (D : Int) + 1) = true := by rw [decide_eq_true_iff]; omega
    clear hd hm hD
    go_enter Tryd.func14, Tryd.ntmps14
    go_wp2
    go_region
    all_goals go_wp2
    all_goals exact bodyPost_ret (res2 Tryd.results14 _ _ (w.heap.size + 1) 23 #[.int .i64 (Y:Int), .int .i64 9, .int .i64 1, .int .i64 h, .int .i64 n, .int .i64 s, .int .i64 z] (0, 0) _ rfl (blk2 w _ _ _) Tryd.underlying23 rfl Tryd.sizeMom) rfl ⟨congrArg Ending.returned HR.out, (((Below.refl _ _).alloc (Nat.le_refl _) _).alloc (by simp) _).drew⟩
set_option maxRecDepth 100000 in
set_option maxHeartbeats 2000000 in
theorem behind_9 (Y D : Nat) (h n s z : Int) (w : World) (hd : IsDay Y 9 D) :
    Calls Tryd.prog 14 #[.agg #[.int .i64 Y, .int .i64 9, .int .i64 D, .int .i64 h, .int .i64 n, .int .i64 s, .int .i64 z]] w fun e w' => e = .returned (behV Y 9 D h n s z) ∧ Below w.heap.size w w' := by
  have hm : mlen Y 9 = 30 := rfl
  have b1 := hd.y1
  have b2 := hd.y2
  have b3 := hd.d1
  have b4 : D ≤ 30 := hm ▸ hd.d2
  have hy9 : decide ((Y : Int) ≤ 9999) = true := by rw [decide_eq_true_iff]; omega
  by_cases hD : D < 30
  · have HR := Lib.hid (behV_of Y 9 D h n s z Y 9 (D + 1) Y 9 (D + 1) true (next_in Y 9 D (by rw [hm]; exact hD)) rfl rfl rfl hy9)
    have tD : decide ((30 : Int) < (D : Int) + 1) = false := by rw [decide_eq_false_iff_not]; omega
    clear hd hm hD
    go_enter Tryd.func14, Tryd.ntmps14
    go_wp2
    go_region
    all_goals go_wp2
    all_goals exact bodyPost_ret (res2 Tryd.results14 _ _ (w.heap.size + 1) 23 #[.int .i64 (Y:Int), .int .i64 9, .int .i64 ((D:Int)+1), .int .i64 h, .int .i64 n, .int .i64 s, .int .i64 z] (0, 0) _ rfl (blk2 w _ _ _) Tryd.underlying23 rfl Tryd.sizeMom) rfl ⟨congrArg Ending.returned HR.out, (((Below.refl _ _).alloc (Nat.le_refl _) _).alloc (by simp) _).drew⟩
  · have HR := Lib.hid (behV_of Y 9 D h n s z Y (9 + 1) 1 Y 10 1 true (next_mo Y 9 D (by rw [hm]; exact hD) (by omega)) rfl rfl rfl hy9)
    have tD : decide ((30 : Int) < (D : Int) + 1) = true := by rw [decide_eq_true_iff]; omega
    clear hd hm hD
    go_enter Tryd.func14, Tryd.ntmps14
    go_wp2
    go_region
    all_goals go_wp2
    all_goals exact bodyPost_ret (res2 Tryd.results14 _ _ (w.heap.size + 1) 23 #[.int .i64 (Y:Int), .int .i64 10, .int .i64 1, .int .i64 h, .int .i64 n, .int .i64 s, .int .i64 z] (0, 0) _ rfl (blk2 w _ _ _) Tryd.underlying23 rfl Tryd.sizeMom) rfl ⟨congrArg Ending.returned HR.out, (((Below.refl _ _).alloc (Nat.le_refl _) _).alloc (by simp) _).drew⟩
set_option maxRecDepth 100000 in
set_option maxHeartbeats 2000000 in
theorem behind_10 (Y D : Nat) (h n s z : Int) (w : World) (hd : IsDay Y 10 D) :
    Calls Tryd.prog 14 #[.agg #[.int .i64 Y, .int .i64 10, .int .i64 D, .int .i64 h, .int .i64 n, .int .i64 s, .int .i64 z]] w fun e w' => e = .returned (behV Y 10 D h n s z) ∧ Below w.heap.size w w' := by
  have hm : mlen Y 10 = 31 := rfl
  have b1 := hd.y1
  have b2 := hd.y2
  have b3 := hd.d1
  have b4 : D ≤ 31 := hm ▸ hd.d2
  have hy9 : decide ((Y : Int) ≤ 9999) = true := by rw [decide_eq_true_iff]; omega
  by_cases hD : D < 31
  · have HR := Lib.hid (behV_of Y 10 D h n s z Y 10 (D + 1) Y 10 (D + 1) true (next_in Y 10 D (by rw [hm]; exact hD)) rfl rfl rfl hy9)
    have tD : decide ((31 : Int) < (D : Int) + 1) = false := by rw [decide_eq_false_iff_not]; omega
    clear hd hm hD
    go_enter Tryd.func14, Tryd.ntmps14
    go_wp2
    go_region
    all_goals go_wp2
    all_goals exact bodyPost_ret (res2 Tryd.results14 _ _ (w.heap.size + 1) 23 #[.int .i64 (Y:Int), .int .i64 10, .int .i64 ((D:Int)+1), .int .i64 h, .int .i64 n, .int .i64 s, .int .i64 z] (0, 0) _ rfl (blk2 w _ _ _) Tryd.underlying23 rfl Tryd.sizeMom) rfl ⟨congrArg Ending.returned HR.out, (((Below.refl _ _).alloc (Nat.le_refl _) _).alloc (by simp) _).drew⟩
  · have HR := Lib.hid (behV_of Y 10 D h n s z Y (10 + 1) 1 Y 11 1 true (next_mo Y 10 D (by rw [hm]; exact hD) (by omega)) rfl rfl rfl hy9)
    have tD : decide ((31 : Int) < (D : Int) + 1) = true := by rw [decide_eq_true_iff]; omega
    clear hd hm hD
    go_enter Tryd.func14, Tryd.ntmps14
    go_wp2
    go_region
    all_goals go_wp2
    all_goals exact bodyPost_ret (res2 Tryd.results14 _ _ (w.heap.size + 1) 23 #[.int .i64 (Y:Int), .int .i64 11, .int .i64 1, .int .i64 h, .int .i64 n, .int .i64 s, .int .i64 z] (0, 0) _ rfl (blk2 w _ _ _) Tryd.underlying23 rfl Tryd.sizeMom) rfl ⟨congrArg Ending.returned HR.out, (((Below.refl _ _).alloc (Nat.le_refl _) _).alloc (by simp) _).drew⟩
set_option maxRecDepth 100000 in
set_option maxHeartbeats 2000000 in
theorem behind_11 (Y D : Nat) (h n s z : Int) (w : World) (hd : IsDay Y 11 D) :
    Calls Tryd.prog 14 #[.agg #[.int .i64 Y, .int .i64 11, .int .i64 D, .int .i64 h, .int .i64 n, .int .i64 s, .int .i64 z]] w fun e w' => e = .returned (behV Y 11 D h n s z) ∧ Below w.heap.size w w' := by
  have hm : mlen Y 11 = 30 := rfl
  have b1 := hd.y1
  have b2 := hd.y2
  have b3 := hd.d1
  have b4 : D ≤ 30 := hm ▸ hd.d2
  have hy9 : decide ((Y : Int) ≤ 9999) = true := by rw [decide_eq_true_iff]; omega
  by_cases hD : D < 30
  · have HR := Lib.hid (behV_of Y 11 D h n s z Y 11 (D + 1) Y 11 (D + 1) true (next_in Y 11 D (by rw [hm]; exact hD)) rfl rfl rfl hy9)
    have tD : decide ((30 : Int) < (D : Int) + 1) = false := by rw [decide_eq_false_iff_not]; omega
    clear hd hm hD
    go_enter Tryd.func14, Tryd.ntmps14
    go_wp2
    go_region
    all_goals go_wp2
    all_goals exact bodyPost_ret (res2 Tryd.results14 _ _ (w.heap.size + 1) 23 #[.int .i64 (Y:Int), .int .i64 11, .int .i64 ((D:Int)+1), .int .i64 h, .int .i64 n, .int .i64 s, .int .i64 z] (0, 0) _ rfl (blk2 w _ _ _) Tryd.underlying23 rfl Tryd.sizeMom) rfl ⟨congrArg Ending.returned HR.out, (((Below.refl _ _).alloc (Nat.le_refl _) _).alloc (by simp) _).drew⟩
  · have HR := Lib.hid (behV_of Y 11 D h n s z Y (11 + 1) 1 Y 12 1 true (next_mo Y 11 D (by rw [hm]; exact hD) (by omega)) rfl rfl rfl hy9)
    have tD : decide ((30 : Int) < (D : Int) + 1) = true := by rw [decide_eq_true_iff]; omega
    clear hd hm hD
    go_enter Tryd.func14, Tryd.ntmps14
    go_wp2
    go_region
    all_goals go_wp2
    all_goals exact bodyPost_ret (res2 Tryd.results14 _ _ (w.heap.size + 1) 23 #[.int .i64 (Y:Int), .int .i64 12, .int .i64 1, .int .i64 h, .int .i64 n, .int .i64 s, .int .i64 z] (0, 0) _ rfl (blk2 w _ _ _) Tryd.underlying23 rfl Tryd.sizeMom) rfl ⟨congrArg Ending.returned HR.out, (((Below.refl _ _).alloc (Nat.le_refl _) _).alloc (by simp) _).drew⟩
set_option maxRecDepth 100000 in
set_option maxHeartbeats 2000000 in
theorem behind_12 (Y D : Nat) (h n s z : Int) (w : World) (hd : IsDay Y 12 D) :
    Calls Tryd.prog 14 #[.agg #[.int .i64 Y, .int .i64 12, .int .i64 D, .int .i64 h, .int .i64 n, .int .i64 s, .int .i64 z]] w fun e w' => e = .returned (behV Y 12 D h n s z) ∧ Below w.heap.size w w' := by
  have hm : mlen Y 12 = 31 := rfl
  have b1 := hd.y1
  have b2 := hd.y2
  have b3 := hd.d1
  have b4 : D ≤ 31 := hm ▸ hd.d2
  have hy9 : decide ((Y : Int) ≤ 9999) = true := by rw [decide_eq_true_iff]; omega
  by_cases hD : D < 31
  · have HR := Lib.hid (behV_of Y 12 D h n s z Y 12 (D + 1) Y 12 (D + 1) true (next_in Y 12 D (by rw [hm]; exact hD)) rfl rfl rfl hy9)
    have tD : decide ((31 : Int) < (D : Int) + 1) = false := by rw [decide_eq_false_iff_not]; omega
    clear hd hm hD
    go_enter Tryd.func14, Tryd.ntmps14
    go_wp2
    go_region
    all_goals go_wp2
    all_goals exact bodyPost_ret (res2 Tryd.results14 _ _ (w.heap.size + 1) 23 #[.int .i64 (Y:Int), .int .i64 12, .int .i64 ((D:Int)+1), .int .i64 h, .int .i64 n, .int .i64 s, .int .i64 z] (0, 0) _ rfl (blk2 w _ _ _) Tryd.underlying23 rfl Tryd.sizeMom) rfl ⟨congrArg Ending.returned HR.out, (((Below.refl _ _).alloc (Nat.le_refl _) _).alloc (by simp) _).drew⟩
  · have HR := Lib.hid (behV_of Y 12 D h n s z (Y + 1) 1 1 (Y + 1) 1 1 _ (next_ye Y 12 D (by rw [hm]; exact hD) (by omega)) rfl rfl rfl rfl)
    have tD : decide ((31 : Int) < (D : Int) + 1) = true := by rw [decide_eq_true_iff]; omega
    clear hd hm hD
    go_enter Tryd.func14, Tryd.ntmps14
    go_wp2
    go_region
    all_goals go_wp2
    all_goals exact bodyPost_ret (res2 Tryd.results14 _ _ (w.heap.size + 1) 23 #[.int .i64 ((Y:Int)+1), .int .i64 1, .int .i64 1, .int .i64 h, .int .i64 n, .int .i64 s, .int .i64 z] (0, 0) _ rfl (blk2 w _ _ _) Tryd.underlying23 rfl Tryd.sizeMom) rfl ⟨congrArg Ending.returned HR.out, (((Below.refl _ _).alloc (Nat.le_refl _) _).alloc (by simp) _).drew⟩
set_option maxRecDepth 100000 in
set_option maxHeartbeats 8000000 in
theorem behind_2 (Y D : Nat) (h n s z : Int) (w : World) (hd : IsDay Y 2 D) :
    Calls Tryd.prog 14 #[.agg #[.int .i64 Y, .int .i64 2, .int .i64 D, .int .i64 h, .int .i64 n, .int .i64 s, .int .i64 z]] w fun e w' => e = .returned (behV Y 2 D h n s z) ∧ Below w.heap.size w w' := by
  have b1 := hd.y1
  have b2 := hd.y2
  have b3 := hd.d1
  have b4 := hd.d2
  have hy9 : decide ((Y : Int) ≤ 9999) = true := by rw [decide_eq_true_iff]; omega
  have hle := leapY_iff Y
  have hln := leapY_not Y
  cases h400 : ((Y : Int) % 400 == 0) with
  | true =>
    have hm : mlen Y 2 = 29 := by unfold mlen; rw [hle.2 (by rw [beq_iff_eq] at h400; omega)]; rfl
    rw [hm] at b4
    clear hle hln
    by_cases hD : D < 29
    · have HR := Lib.hid (behV_of Y 2 D h n s z Y 2 (D + 1) Y 2 (D + 1) true (next_in Y 2 D (by rw [hm]; exact hD)) rfl rfl rfl hy9)
      have tD : decide ((29 : Int) < (D : Int) + 1) = false := by rw [decide_eq_false_iff_not]; omega
      clear hd hm hD
      go_enter Tryd.func14, Tryd.ntmps14
      go_wp2
      go_region
      all_goals go_wp2
      all_goals exact bodyPost_ret (res2 Tryd.results14 _ _ (w.heap.size + 1) 23 #[.int .i64 (Y:Int), .int .i64 2, .int .i64 ((D:Int)+1), .int .i64 h, .int .i64 n, .int .i64 s, .int .i64 z] (0, 0) _ rfl (blk2 w _ _ _) Tryd.underlying23 rfl Tryd.sizeMom) rfl ⟨congrArg Ending.returned HR.out, (((Below.refl _ _).alloc (Nat.le_refl _) _).alloc (by simp) _).drew⟩
    · have HR := Lib.hid (behV_of Y 2 D h n s z Y (2 + 1) 1 Y 3 1 true (next_mo Y 2 D (by rw [hm]; exact hD) (by omega)) rfl rfl rfl hy9)
      have tD : decide ((29 : Int) < (D : Int) + 1) = true := by rw [decide_eq_true_iff]; omega
      clear hd hm hD
      go_enter Tryd.func14, Tryd.ntmps14
      go_wp2
      go_region
      all_goals go_wp2
      all_goals exact bodyPost_ret (res2 Tryd.results14 _ _ (w.heap.size + 1) 23 #[.int .i64 (Y:Int), .int .i64 3, .int .i64 1, .int .i64 h, .int .i64 n, .int .i64 s, .int .i64 z] (0, 0) _ rfl (blk2 w _ _ _) Tryd.underlying23 rfl Tryd.sizeMom) rfl ⟨congrArg Ending.returned HR.out, (((Below.refl _ _).alloc (Nat.le_refl _) _).alloc (by simp) _).drew⟩
  | false =>
    cases h4 : ((Y : Int) % 4 == 0) with
    | false =>
      have hm : mlen Y 2 = 28 := by unfold mlen; rw [hln.2 (by rw [beq_eq_false_iff_ne] at h4; omega)]; rfl
      rw [hm] at b4
      clear hle hln
      by_cases hD : D < 28
      · have HR := Lib.hid (behV_of Y 2 D h n s z Y 2 (D + 1) Y 2 (D + 1) true (next_in Y 2 D (by rw [hm]; exact hD)) rfl rfl rfl hy9)
        have tD : decide ((28 : Int) < (D : Int) + 1) = false := by rw [decide_eq_false_iff_not]; omega
        clear hd hm hD
        go_enter Tryd.func14, Tryd.ntmps14
        go_wp2
        go_region
        all_goals go_wp2
        all_goals exact bodyPost_ret (res2 Tryd.results14 _ _ (w.heap.size + 1) 23 #[.int .i64 (Y:Int), .int .i64 2, .int .i64 ((D:Int)+1), .int .i64 h, .int .i64 n, .int .i64 s, .int .i64 z] (0, 0) _ rfl (blk2 w _ _ _) Tryd.underlying23 rfl Tryd.sizeMom) rfl ⟨congrArg Ending.returned HR.out, (((Below.refl _ _).alloc (Nat.le_refl _) _).alloc (by simp) _).drew⟩
      · have HR := Lib.hid (behV_of Y 2 D h n s z Y (2 + 1) 1 Y 3 1 true (next_mo Y 2 D (by rw [hm]; exact hD) (by omega)) rfl rfl rfl hy9)
        have tD : decide ((28 : Int) < (D : Int) + 1) = true := by rw [decide_eq_true_iff]; omega
        clear hd hm hD
        go_enter Tryd.func14, Tryd.ntmps14
        go_wp2
        go_region
        all_goals go_wp2
        all_goals exact bodyPost_ret (res2 Tryd.results14 _ _ (w.heap.size + 1) 23 #[.int .i64 (Y:Int), .int .i64 3, .int .i64 1, .int .i64 h, .int .i64 n, .int .i64 s, .int .i64 z] (0, 0) _ rfl (blk2 w _ _ _) Tryd.underlying23 rfl Tryd.sizeMom) rfl ⟨congrArg Ending.returned HR.out, (((Below.refl _ _).alloc (Nat.le_refl _) _).alloc (by simp) _).drew⟩
    | true =>
      cases h100 : ((Y : Int) % 100 != 0) with
      | true =>
        have hm : mlen Y 2 = 29 := by unfold mlen; rw [hle.2 (by rw [beq_iff_eq] at h4; rw [bne_iff_ne] at h100; omega)]; rfl
        rw [hm] at b4
        clear hle hln
        by_cases hD : D < 29
        · have HR := Lib.hid (behV_of Y 2 D h n s z Y 2 (D + 1) Y 2 (D + 1) true (next_in Y 2 D (by rw [hm]; exact hD)) rfl rfl rfl hy9)
          have tD : decide ((29 : Int) < (D : Int) + 1) = false := by rw [decide_eq_false_iff_not]; omega
          clear hd hm hD
          go_enter Tryd.func14, Tryd.ntmps14
          go_wp2
          go_region
          all_goals go_wp2
          all_goals exact bodyPost_ret (res2 Tryd.results14 _ _ (w.heap.size + 1) 23 #[.int .i64 (Y:Int), .int .i64 2, .int .i64 ((D:Int)+1), .int .i64 h, .int .i64 n, .int .i64 s, .int .i64 z] (0, 0) _ rfl (blk2 w _ _ _) Tryd.underlying23 rfl Tryd.sizeMom) rfl ⟨congrArg Ending.returned HR.out, (((Below.refl _ _).alloc (Nat.le_refl _) _).alloc (by simp) _).drew⟩
        · have HR := Lib.hid (behV_of Y 2 D h n s z Y (2 + 1) 1 Y 3 1 true (next_mo Y 2 D (by rw [hm]; exact hD) (by omega)) rfl rfl rfl hy9)
          have tD : decide ((29 : Int) < (D : Int) + 1) = true := by rw [decide_eq_true_iff]; omega
          clear hd hm hD
          go_enter Tryd.func14, Tryd.ntmps14
          go_wp2
          go_region
          all_goals go_wp2
          all_goals exact bodyPost_ret (res2 Tryd.results14 _ _ (w.heap.size + 1) 23 #[.int .i64 (Y:Int), .int .i64 3, .int .i64 1, .int .i64 h, .int .i64 n, .int .i64 s, .int .i64 z] (0, 0) _ rfl (blk2 w _ _ _) Tryd.underlying23 rfl Tryd.sizeMom) rfl ⟨congrArg Ending.returned HR.out, (((Below.refl _ _).alloc (Nat.le_refl _) _).alloc (by simp) _).drew⟩
      | false =>
        have hm : mlen Y 2 = 28 := by unfold mlen; rw [hln.2 (by rw [beq_eq_false_iff_ne] at h400; simp at h100; omega)]; rfl
        rw [hm] at b4
        clear hle hln
        by_cases hD : D < 28
        · have HR := Lib.hid (behV_of Y 2 D h n s z Y 2 (D + 1) Y 2 (D + 1) true (next_in Y 2 D (by rw [hm]; exact hD)) rfl rfl rfl hy9)
          have tD : decide ((28 : Int) < (D : Int) + 1) = false := by rw [decide_eq_false_iff_not]; omega
          clear hd hm hD
          go_enter Tryd.func14, Tryd.ntmps14
          go_wp2
          go_region
          all_goals go_wp2
          all_goals exact bodyPost_ret (res2 Tryd.results14 _ _ (w.heap.size + 1) 23 #[.int .i64 (Y:Int), .int .i64 2, .int .i64 ((D:Int)+1), .int .i64 h, .int .i64 n, .int .i64 s, .int .i64 z] (0, 0) _ rfl (blk2 w _ _ _) Tryd.underlying23 rfl Tryd.sizeMom) rfl ⟨congrArg Ending.returned HR.out, (((Below.refl _ _).alloc (Nat.le_refl _) _).alloc (by simp) _).drew⟩
        · have HR := Lib.hid (behV_of Y 2 D h n s z Y (2 + 1) 1 Y 3 1 true (next_mo Y 2 D (by rw [hm]; exact hD) (by omega)) rfl rfl rfl hy9)
          have tD : decide ((28 : Int) < (D : Int) + 1) = true := by rw [decide_eq_true_iff]; omega
          clear hd hm hD
          go_enter Tryd.func14, Tryd.ntmps14
          go_wp2
          go_region
          all_goals go_wp2
          all_goals exact bodyPost_ret (res2 Tryd.results14 _ _ (w.heap.size + 1) 23 #[.int .i64 (Y:Int), .int .i64 3, .int .i64 1, .int .i64 h, .int .i64 n, .int .i64 s, .int .i64 z] (0, 0) _ rfl (blk2 w _ _ _) Tryd.underlying23 rfl Tryd.sizeMom) rfl ⟨congrArg Ending.returned HR.out, (((Below.refl _ _).alloc (Nat.le_refl _) _).alloc (by simp) _).drew⟩

theorem behind_any (Y M D : Nat) (h n s z : Int) (w : World) (hd : IsDay Y M D) :
    Calls Tryd.prog 14 #[.agg #[.int .i64 Y, .int .i64 M, .int .i64 D, .int .i64 h, .int .i64 n, .int .i64 s, .int .i64 z]] w fun e w' => e = .returned (behV Y M D h n s z) ∧ Below w.heap.size w w' := by
  have m1 := hd.m1
  have m2 := hd.m2
  rcases (by omega : M = 1 ∨ M = 2 ∨ M = 3 ∨ M = 4 ∨ M = 5 ∨ M = 6 ∨ M = 7 ∨ M = 8 ∨ M = 9 ∨ M = 10 ∨ M = 11 ∨ M = 12) with rfl | rfl | rfl | rfl | rfl | rfl | rfl | rfl | rfl | rfl | rfl | rfl
  · exact behind_1 Y D h n s z w hd
  · exact behind_2 Y D h n s z w hd
  · exact behind_3 Y D h n s z w hd
  · exact behind_4 Y D h n s z w hd
  · exact behind_5 Y D h n s z w hd
  · exact behind_6 Y D h n s z w hd
  · exact behind_7 Y D h n s z w hd
  · exact behind_8 Y D h n s z w hd
  · exact behind_9 Y D h n s z w hd
  · exact behind_10 Y D h n s z w hd
  · exact behind_11 Y D h n s z w hd
  · exact behind_12 Y D h n s z w hd
end Go.Proofs.YtmhkfdnaldeijaaDoor
