/- The reference of chapter 2: day, ReadDay. -/
import Derived.Test.YtlcjpkbcnoibeabGreatDoorGc
namespace Go.Proofs.YtlcjpkbcnoibeabGreatDoor
open Go.RowKit

theorem monB_pos (l : List UInt8) : monB l = decide (0 < monI l) := by
  unfold monB monI
  by_cases h : monIx l < 12
  · rw [if_pos h, decide_eq_true h]; symm; rw [decide_eq_true_iff]; omega
  · rw [if_neg h, decide_eq_false h]; rfl
theorem monI_bounds (l : List UInt8) : 0 ≤ monI l ∧ monI l ≤ 12 := by
  unfold monI; split <;> omega
def rdDash (r : List UInt8) : Bool := (bt r 0 == 45) && (bt r 4 == 45)
def rdOk (d r : List UInt8) : Bool := rdDash r && (numB d 1 8 && numB (r.drop 5) 1 8 && monB ((r.drop 1).take 3))
set_option maxRecDepth 100000 in
set_option maxHeartbeats 4000000 in
theorem rday_any (d r : ByteArray) (w : World) (h1 : 1 ≤ d.size) (h2 : d.size ≤ 2) (hr : r.size = 9) :
    Calls Tryz.prog 60 #[.string d, .string r] w fun e w' => ∃ y k n, e = .returned (.tuple #[mom y k n 0 0 0 0, .bool (rdOk (L d) (L r))]) ∧ Below w.heap.size w w' ∧ (rdOk (L d) (L r) = true → y = numI ((L r).drop 5) 1 8 ∧ k = monI (((L r).drop 1).take 3) ∧ n = numI (L d) 1 8) := by
  have G1 := Lib.hid (heap_alloc_new w (.cells #[.int .i64 0, .int .i64 0, .int .i64 0, .int .i64 0, .int .i64 0, .int .i64 0, .int .i64 0] 23))
  have Q0 : Hid (Below w.heap.size w (w.alloc (.cells #[.int .i64 0, .int .i64 0, .int .i64 0, .int .i64 0, .int .i64 0, .int .i64 0, .int .i64 0] 23))) := Lib.hid ((Below.refl _ _).alloc (Nat.le_refl _) _)
  have e0 := get_bt r 0 (by omega)
  have e4 := get_bt r 4 (by omega)
  have t0 := neq_test (bt (L r) 0) 45 45 rfl
  have t4 := neq_test (bt (L r) 4) 45 45 rfl
  cases hd0 : bt (L r) 0 == 45 with
  | false =>
    have HO : Hid (rdOk (L d) (L r) = false) := Lib.hid (by unfold rdOk rdDash; rw [hd0]; rfl)
    rw [hd0] at t0
    change _ = true at t0
    unfold mom
    go_enter Tryz.func60, Tryz.ntmps60
    go_wp2
    exact bodyPost_ret (v := .tuple #[mom 0 0 0 0 0 0 0, .bool false]) (res2 Tryz.results60 _ _ w.heap.size 23 _ (0, 0) _ rfl G1.out Tryz.underlying23 rfl Tryz.sizeMom) rfl ⟨0, 0, 0, by rw [HO.out]; rfl, Q0.out, fun h => by rw [HO.out] at h; cases h⟩
  | true =>
    rw [hd0] at t0
    change _ = false at t0
    cases hd4 : bt (L r) 4 == 45 with
    | false =>
      have HO : Hid (rdOk (L d) (L r) = false) := Lib.hid (by unfold rdOk rdDash; rw [hd0, hd4]; rfl)
      rw [hd4] at t4
      change _ = true at t4
      unfold mom
      go_enter Tryz.func60, Tryz.ntmps60
      go_wp2
      exact bodyPost_ret (v := .tuple #[mom 0 0 0 0 0 0 0, .bool false]) (res2 Tryz.results60 _ _ w.heap.size 23 _ (0, 0) _ rfl G1.out Tryz.underlying23 rfl Tryz.sizeMom) rfl ⟨0, 0, 0, by rw [HO.out]; rfl, Q0.out, fun h => by rw [HO.out] at h; cases h⟩
    | true =>
      rw [hd4] at t4
      change _ = false at t4
      have x1 : L (r.extract 1 4) = ((L r).drop 1).take 3 := by rw [extract_S, L_S]
      have x2 : L (r.extract 5 9) = (L r).drop 5 := by
        rw [extract_S, L_S, List.take_of_length_le (by rw [List.length_drop, L_length]; omega)]
      have s1 : (r.extract 1 4).size = 3 := by rw [ByteArray.size_extract]; omega
      have s2 : (r.extract 5 9).size = 4 := by rw [ByteArray.size_extract]; omega
      have hC1 := Lib.hid (fun W => count_any d W h1 (by omega))
      have hC2 := Lib.hid (fun W => count_any (r.extract 5 9) W (by omega) (by omega))
      have hM := Lib.hid (fun W => among_any (r.extract 1 4) W (by omega))
      rw [x1] at hM
      rw [x2] at hC2
      have HO : Hid (rdOk (L d) (L r) = (numB (L d) 1 8 && numB ((L r).drop 5) 1 8 && decide (0 < monI (((L r).drop 1).take 3)))) := Lib.hid (by unfold rdOk rdDash; rw [hd0, hd4, monB_pos]; rfl)
      have hmb := monI_bounds (((L r).drop 1).take 3)
      generalize rdOk (L d) (L r) = ok at *
      generalize monI (((L r).drop 1).take 3) = k at *
      generalize numI (L d) 1 8 = n at *
      generalize numB (L d) 1 8 = nb at *
      generalize numI ((L r).drop 5) 1 8 = y at *
      generalize numB ((L r).drop 5) 1 8 = yb at *
      clear x1 x2 s1 s2
      unfold mom
      go_enter Tryz.func60, Tryz.ntmps60
      go_wp2_with fail
      refine (hC1.out _).mono ?_
      rintro e w1 ⟨rfl, rfl⟩
      go_wp2_with fail
      refine (hM.out _).mono ?_
      rintro e w2 ⟨rfl, hb2⟩
      have HG : Hid (w2.heap[w.heap.size]? = some (.cells #[.int .i64 0, .int .i64 0, .int .i64 0, .int .i64 0, .int .i64 0, .int .i64 0, .int .i64 0] 23 (0, 0))) := Lib.hid (by rw [hb2.block _ (Array.getElem?_eq_some_iff.1 G1.out).1]; exact G1.out)
      have HQ := Lib.hid (Q0.out.trans (hb2.mono Q0.out.size))
      clear hb2 G1 Q0
      go_wp2_with fail
      refine (hC2.out _).mono ?_
      rintro e w3 ⟨rfl, rfl⟩
      have HB : Hid (ok = (nb && yb && decide (0 < k))) := HO
      clear HO hC1 hC2 hM e0 e4 t0 t4 hd0 hd4 h1 h2 hr
      cases nb
      all_goals cases yb
      all_goals rcases (by omega : 0 < k ∨ k = 0) with hk | hk
      all_goals (
        (try subst hk)
        go_wp2_with (refine wpList_store_row rfl 23 _ _ rfl w.heap.size #[.int .i64 y, .int .i64 _, .int .i64 n, .int .i64 0, .int .i64 0, .int .i64 0, .int .i64 0] rfl rfl 23 _ HG.out Tryz.sizeMom rfl (mom_one _ _ _ _ _ _ _) ?_)
        exact bodyPost_ret (v := .tuple #[mom y _ n 0 0 0 0, .bool _]) (res2 Tryz.results60 _ _ w.heap.size 23 #[.int .i64 y, .int .i64 _, .int .i64 n, .int .i64 0, .int .i64 0, .int .i64 0, .int .i64 0] (0, 0) _ rfl (setRow_heap _ _ _ #[.int .i64 y, .int .i64 _, .int .i64 n, .int .i64 0, .int .i64 0, .int .i64 0, .int .i64 0] _ _ HG.out) Tryz.underlying23 rfl Tryz.sizeMom) rfl ⟨y, _, n, by rw [HB.out]; first | rfl | (rw [decide_eq_true hk]; rfl), below_setRow HQ.out (by omega) _, fun _ => ⟨rfl, rfl, rfl⟩⟩)
end Go.Proofs.YtlcjpkbcnoibeabGreatDoor
