/- The reference of chapter 2: ReadDay. -/
import Derived.Test.YtibhlmbcohpmlaaGreatDoorGa
import Derived.Deep.RegionHeld3
import Derived.Deep.DeepCutAuto
import Derived.Test.YtibhlmbcohpmlaaGreatDoorDd
namespace Go.Proofs.YtibhlmbcohpmlaaGreatDoor
open Go.RowKit

theorem bt_drop (l : List UInt8) (g i : Nat) : bt (l.drop g) i = bt l (g + i) := by
  unfold bt; rw [List.getElem?_drop]
theorem rd_td (l : List UInt8) (g : Nat) (hl : l.length = g + 9) (hg : g = 1 ∨ g = 2) :
    rdOk (l.take g) (l.drop g) = tdB l ∧ numI ((l.drop g).drop 5) 1 8 = tdY l ∧ monI (((l.drop g).drop 1).take 3) = tdM l ∧ numI (l.take g) 1 8 = tdD l := by
  have t1 : (l.take g).length = g := by rw [List.length_take]; omega
  have t2 : ((l.drop g).drop 5).length = 4 := by rw [List.length_drop, List.length_drop]; omega
  have c1 := num_count (l.take g) 1 2 (by omega) (by omega) (by omega) (by omega)
  have c2 := num_count ((l.drop g).drop 5) 4 4 (by omega) (by omega) (by omega) (by omega)
  have e1 : (l.drop g).drop 5 = l.drop (g + 5) := by rw [List.drop_drop]
  have e2 : (l.drop g).drop 1 = l.drop (g + 1) := by rw [List.drop_drop]
  have e3 : l.length - 4 = g + 5 := by omega
  have e4 : l.length - 8 = g + 1 := by omega
  have e5 : l.length - 9 = g := by omega
  refine ⟨?_, ?_, ?_, ?_⟩
  · have ht : tdB l = tdOk l g := by
      unfold tdB
      rcases hg with rfl | rfl
      · rw [if_pos (by omega)]
      · rw [if_neg (by omega), if_pos (by omega)]
    rw [ht]
    unfold rdOk rdDash tdOk
    rw [c1.1, c2.1, bt_drop, bt_drop, e1, e2]
    rw [Nat.add_zero]
    cases numB (l.take g) 1 2 <;> cases monB ((l.drop (g + 1)).take 3) <;> cases numB (l.drop (g + 5)) 4 4 <;> cases bt l g == 45 <;> cases bt l (g + 4) == 45 <;> rfl
  · rw [c2.2, e1]; unfold tdY; rw [e3]
  · rw [e2]; unfold tdM; rw [e4]
  · rw [c1.2]; unfold tdD; rw [e5]
theorem below_sets7 {B g : Nat} {w X : World} {a0 a1 a2 a3 a4 a5 a6 : Value} (h : Below B w X) (hg : B ≤ g) : Below B w (((((((X.setCell ⟨g, 0, none⟩ a0).setCell ⟨g, 1, none⟩ a1).setCell ⟨g, 2, none⟩ a2).setCell ⟨g, 3, none⟩ a3).setCell ⟨g, 4, none⟩ a4).setCell ⟨g, 5, none⟩ a5).setCell ⟨g, 6, none⟩ a6) :=
  (((((((h.setCell (show B ≤ (⟨g, 0, none⟩ : Addr).block from hg) _).setCell (show B ≤ (⟨g, 1, none⟩ : Addr).block from hg) _).setCell (show B ≤ (⟨g, 2, none⟩ : Addr).block from hg) _).setCell (show B ≤ (⟨g, 3, none⟩ : Addr).block from hg) _).setCell (show B ≤ (⟨g, 4, none⟩ : Addr).block from hg) _).setCell (show B ≤ (⟨g, 5, none⟩ : Addr).block from hg) _).setCell (show B ≤ (⟨g, 6, none⟩ : Addr).block from hg) _)
set_option maxRecDepth 100000 in
set_option maxHeartbeats 4000000 in
theorem refReadDay_any (s : ByteArray) (w : World) (hs : s.size ≤ 140737488355328) :
    Calls Tryz.prog 28 #[.string s] w fun e w' => e = .returned (.tuple #[judV (tdB (L s)) (tdY (L s)) (tdM (L s)) (tdD (L s)) 0 0 0 0, .int .i64 (judE (tdB (L s)) (tdY (L s)) (tdM (L s)) (tdD (L s)))]) ∧ Below w.heap.size w w' := by
  by_cases hg : s.size = 10 ∨ s.size = 11
  · obtain ⟨g, hsz, hg2⟩ : ∃ g : Nat, s.size = g + 9 ∧ (g = 1 ∨ g = 2) := by
      rcases hg with h | h
      · exact ⟨1, h, .inl rfl⟩
      · exact ⟨2, h, .inr rfl⟩
    obtain ⟨k1, k2, k3, k4⟩ := rd_td (L s) g hsz hg2
    have x1 : L (s.extract 0 g) = (L s).take g := by rw [extract_S, L_S, List.drop_zero, Nat.sub_zero]
    have x2 : L (s.extract g s.size) = (L s).drop g := by
      rw [extract_S, L_S, List.take_of_length_le (by rw [List.length_drop, L_length]; omega)]
    have hD := Lib.hid (fun W => rday_any (s.extract 0 g) (s.extract g s.size) W (by rw [ByteArray.size_extract]; omega) (by rw [ByteArray.size_extract]; omega) (by rw [ByteArray.size_extract]; omega))
    rw [x1, x2, k1, k2, k3, k4] at hD
    replace hD : Hid (∀ W, Below (w.heap.size + 1) (w.alloc (.cells #[.int .i64 0, .int .i64 0, .int .i64 0, .int .i64 0, .int .i64 0, .int .i64 0, .int .i64 0] 23)) W → Calls Tryz.prog 60 #[.string (s.extract 0 g), .string (s.extract g s.size)] W fun e w' => ∃ y k n, e = .returned (.tuple #[mom y k n 0 0 0 0, .bool (tdB (L s))]) ∧ Below (w.heap.size + 1) (w.alloc (.cells #[.int .i64 0, .int .i64 0, .int .i64 0, .int .i64 0, .int .i64 0, .int .i64 0, .int .i64 0] 23)) w' ∧ Below W.heap.size W w' ∧ (tdB (L s) = true → y = tdY (L s) ∧ k = tdM (L s) ∧ n = tdD (L s))) :=
      Lib.hid (fun W hW => (hD.out W).mono fun e w' ⟨y, k, n, p1, p2, p3⟩ => ⟨y, k, n, p1, hW.trans (p2.mono (by have := hW.size; simpa using this)), p2, p3⟩)
    obtain ⟨r0, r1, r2, r3, r4, r5, r6, hr⟩ := judV_shape (tdB (L s)) (tdY (L s)) (tdM (L s)) (tdD (L s)) 0 0 0 0
    have HJJ : Hid (∀ y' m' d', (tdB (L s) = true → y' = tdY (L s) ∧ m' = tdM (L s) ∧ d' = tdD (L s)) → ∀ W, Calls Tryz.prog 61 #[mom y' m' d' 0 0 0 0, .bool (tdB (L s))] W fun e w' => e = .returned (.tuple #[mom r0 r1 r2 r3 r4 r5 r6, .int .i64 (judE (tdB (L s)) (tdY (L s)) (tdM (L s)) (tdD (L s)))]) ∧ Below W.heap.size W w') := Lib.hid (fun y' m' d' hv W => by
      have hj1 : judV (tdB (L s)) y' m' d' 0 0 0 0 = mom r0 r1 r2 r3 r4 r5 r6 ∧ judE (tdB (L s)) y' m' d' = judE (tdB (L s)) (tdY (L s)) (tdM (L s)) (tdD (L s)) := by
        rw [← hr]
        cases ht : tdB (L s) with
        | false => exact ⟨rfl, rfl⟩
        | true =>
          obtain ⟨rfl, rfl, rfl⟩ := hv ht
          exact ⟨rfl, rfl⟩
      have := told_any (tdB (L s)) y' m' d' 0 0 0 0 W
      rw [hj1.1, hj1.2] at this
      exact this)
    rw [hr]
    clear hr k1 k2 k3 k4 x1 x2
    generalize judE (tdB (L s)) (tdY (L s)) (tdM (L s)) (tdD (L s)) = er at *
    generalize tdB (L s) = fb at *
    unfold mom at HJJ hD ⊢
    have hn1 : (s.size : Int) - 9 = (g : Int) := by omega
    have HB0 : Hid (Below (w.heap.size + 1) (w.alloc (.cells #[.int .i64 0, .int .i64 0, .int .i64 0, .int .i64 0, .int .i64 0, .int .i64 0, .int .i64 0] 23)) (w.alloc (.cells #[.int .i64 0, .int .i64 0, .int .i64 0, .int .i64 0, .int .i64 0, .int .i64 0, .int .i64 0] 23)).drew) := Lib.hid (Below.refl _ _).drew
    have HB1 : Hid (Below (w.heap.size + 1) (w.alloc (.cells #[.int .i64 0, .int .i64 0, .int .i64 0, .int .i64 0, .int .i64 0, .int .i64 0, .int .i64 0] 23)) ((w.alloc (.cells #[.int .i64 0, .int .i64 0, .int .i64 0, .int .i64 0, .int .i64 0, .int .i64 0, .int .i64 0] 23)).alloc (.cells #[.int .i64 0, .int .i64 0, .int .i64 0, .int .i64 0, .int .i64 0, .int .i64 0, .int .i64 0] 23)).drew) := Lib.hid ((Below.refl _ _).alloc (by simp) _).drew
    have bxA : Hid (Bx (w.heap.size + 1) 0 0 0 0 0 0 0 ((w.alloc (.cells #[.int .i64 0, .int .i64 0, .int .i64 0, .int .i64 0, .int .i64 0, .int .i64 0, .int .i64 0] 23)).alloc (.cells #[.int .i64 0, .int .i64 0, .int .i64 0, .int .i64 0, .int .i64 0, .int .i64 0, .int .i64 0] 23)).drew) := Lib.hid ((bx_new2 w _).on (Below.refl _ _).drew)
    have G0 : Hid ((w.alloc (.cells #[.int .i64 0, .int .i64 0, .int .i64 0, .int .i64 0, .int .i64 0, .int .i64 0, .int .i64 0] 23)).heap[w.heap.size]? = some (.cells #[.int .i64 0, .int .i64 0, .int .i64 0, .int .i64 0, .int .i64 0, .int .i64 0, .int .i64 0] 23 (0, 0))) := Lib.hid (heap_alloc_new w _)
    have Q0 : Hid (Below w.heap.size w (w.alloc (.cells #[.int .i64 0, .int .i64 0, .int .i64 0, .int .i64 0, .int .i64 0, .int .i64 0, .int .i64 0] 23))) := Lib.hid ((Below.refl _ _).alloc (Nat.le_refl _) _)
    rcases hg2 with rfl | rfl
    all_goals (
      (first | (have h10 : s.size = 10 := hsz; rw [h10] at hD) | (have h10 : s.size = 11 := hsz; rw [h10] at hD))
      go_enter Tryz.func28, Tryz.ntmps28
      go_upto_region 4 with fail
      go_cut [5, 6] (fun s5 s6 wx => ∃ g y k n, s5 = .pointer (some ⟨g, 0, none⟩) ∧ s6 = .bool fb ∧ Cells7 g y k n 0 0 0 0 wx ∧ Below (w.heap.size + 1) (w.alloc (.cells #[.int .i64 0, .int .i64 0, .int .i64 0, .int .i64 0, .int .i64 0, .int .i64 0, .int .i64 0] 23)) wx ∧ (fb = true → y = tdY (L s) ∧ k = tdM (L s) ∧ n = tdD (L s)))
      case first =>
        (go_region_held3 (fun X => Below (w.heap.size + 1) (w.alloc (.cells #[.int .i64 0, .int .i64 0, .int .i64 0, .int .i64 0, .int .i64 0, .int .i64 0, .int .i64 0] 23)) X) (first | with_reducible exact HB0.out | with_reducible assumption | with_reducible exact HB1.out | (with_reducible refine Below.alloc ?_ ?_ _; with_reducible assumption; (have hz5 := Below.size hs5; simpa using hz5)) | (with_reducible refine below_sets7 ?_ ?_; with_reducible assumption; omega)) (first | (go_at_call 60; with_reducible refine (hD.out _ ?_).mono ?_; with_reducible assumption; rintro e w5 ⟨y', k', n', rfl, hs5, hb5, hval⟩; (try have zz5 : Hid (Bx (w.heap.size + 1) 0 0 0 0 0 0 0 w5) := Lib.hid (bxA.out.on hb5)); (try obtain ⟨v0, v1, v2, v3, v4, v5, v6⟩ := zz5.out.cells); (try have f0 := zz5.out.free 0); (try have f1 := zz5.out.free 1); (try have f2 := zz5.out.free 2); (try have f3 := zz5.out.free 3); (try have f4 := zz5.out.free 4); (try have f5 := zz5.out.free 5); (try have f6 := zz5.out.free 6))))
        all_goals (
          go_wp2_with fail
          go_meet
          first
            | exact ⟨_, y', k', n', rfl, rfl, cells7_new w5 y' k' n' 0 0 0 0 _, by with_reducible assumption, hval⟩
            | (obtain ⟨q0, q1, q2, q3, q4, q5, q6⟩ := ((zz5.out.set0 (v := y')).set1 (v := k') |>.set2 (v := n') |>.set3 (v := 0) |>.set4 (v := 0) |>.set5 (v := 0) |>.set6 (v := 0) |>.cells); exact ⟨_, y', k', n', rfl, rfl, ⟨q0, q1, q2, q3, q4, q5, q6⟩, by with_reducible assumption, hval⟩))
      case rest =>
        obtain ⟨gx, y', k', n', rfl, rfl, hc7, hbX, hval⟩ := hcut
        have HJ := Lib.hid (HJJ.out y' k' n' hval)
        obtain ⟨c0, c1, c2, c3, c4, c5, c6⟩ := hc7
        clear hval HJJ hD HB0 HB1 bxA
        go_wp2_with fail
        refine (HJ.out _).mono ?_
        rintro e w2 ⟨rfl, hb2⟩
        have hz1 : w.heap.size + 1 ≤ wc.heap.size := by have := hbX.size; simpa using this
        have hg2 : w2.heap[w.heap.size]? = some (.cells #[.int .i64 0, .int .i64 0, .int .i64 0, .int .i64 0, .int .i64 0, .int .i64 0, .int .i64 0] 23 (0, 0)) := by
          rw [hb2.block _ (by omega), hbX.block _ (by omega)]; exact G0.out
        have hq2 : Below w.heap.size w w2 := (Q0.out.trans (hbX.mono (by omega))).trans (hb2.mono (by omega))
        have hlt : w.heap.size < w2.heap.size := by have := hb2.size; omega
        have HG2 : Hid ((w2.alloc (.cells #[.int .i64 r0, .int .i64 r1, .int .i64 r2, .int .i64 r3, .int .i64 r4, .int .i64 r5, .int .i64 r6] 23)).heap[w.heap.size]? = some (.cells #[.int .i64 0, .int .i64 0, .int .i64 0, .int .i64 0, .int .i64 0, .int .i64 0, .int .i64 0] 23 (0, 0))) := Lib.hid ((heap_alloc_old w2 _ hlt).trans hg2)
        have HQ2 : Hid (Below w.heap.size w (w2.alloc (.cells #[.int .i64 r0, .int .i64 r1, .int .i64 r2, .int .i64 r3, .int .i64 r4, .int .i64 r5, .int .i64 r6] 23))) := Lib.hid (hq2.alloc hq2.size _)
        clear hb2 hg2 hq2 hz1 hbX c0 c1 c2 c3 c4 c5 c6 HJ G0 Q0
        go_wp2_with (refine wpList_store_row rfl 23 _ _ rfl w.heap.size #[.int .i64 r0, .int .i64 r1, .int .i64 r2, .int .i64 r3, .int .i64 r4, .int .i64 r5, .int .i64 r6] rfl rfl 23 _ HG2.out Tryz.sizeMom rfl (mom_one _ _ _ _ _ _ _) ?_)
        exact bodyPost_ret (v := .tuple #[mom r0 r1 r2 r3 r4 r5 r6, .int .i64 er]) (res2 Tryz.results28 _ _ w.heap.size 23 #[.int .i64 r0, .int .i64 r1, .int .i64 r2, .int .i64 r3, .int .i64 r4, .int .i64 r5, .int .i64 r6] (0, 0) _ rfl (setRow_heap _ _ _ #[.int .i64 r0, .int .i64 r1, .int .i64 r2, .int .i64 r3, .int .i64 r4, .int .i64 r5, .int .i64 r6] _ _ HG2.out) Tryz.underlying23 rfl Tryz.sizeMom) rfl ⟨rfl, below_setRow HQ2.out (by omega) _⟩)
  · have hF : tdB (L s) = false := by
      unfold tdB
      rw [if_neg (by rw [L_length]; omega), if_neg (by rw [L_length]; omega)]
    have HV : Hid (judV (tdB (L s)) (tdY (L s)) (tdM (L s)) (tdD (L s)) 0 0 0 0 = mom 0 0 0 0 0 0 0) := Lib.hid (by rw [hF]; rfl)
    have HE : Hid (judE (tdB (L s)) (tdY (L s)) (tdM (L s)) (tdD (L s)) = 20) := Lib.hid (by rw [hF]; rfl)
    rw [HV.out, HE.out]
    have G1 := Lib.hid (heap_alloc_new w (.cells #[.int .i64 0, .int .i64 0, .int .i64 0, .int .i64 0, .int .i64 0, .int .i64 0, .int .i64 0] 23))
    have Q0 : Hid (Below w.heap.size w (w.alloc (.cells #[.int .i64 0, .int .i64 0, .int .i64 0, .int .i64 0, .int .i64 0, .int .i64 0, .int .i64 0] 23))) := Lib.hid ((Below.refl _ _).alloc (Nat.le_refl _) _)
    clear hF HV HE
    unfold mom
    rcases (by omega : s.size ≤ 9 ∨ 12 ≤ s.size) with h | h
    all_goals (
      go_enter Tryz.func28, Tryz.ntmps28
      go_wp2
      exact bodyPost_ret (v := .tuple #[mom 0 0 0 0 0 0 0, .int .i64 20]) (res2 Tryz.results28 _ _ w.heap.size 23 _ (0, 0) _ rfl G1.out Tryz.underlying23 rfl Tryz.sizeMom) rfl ⟨rfl, Q0.out⟩)
end Go.Proofs.YtibhlmbcohpmlaaGreatDoor
