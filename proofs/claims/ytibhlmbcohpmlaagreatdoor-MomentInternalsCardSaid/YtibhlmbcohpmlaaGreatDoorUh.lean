/- The reference of chapter 2: ReadInternal, where the form is right: case 7. -/
import Derived.Test.YtibhlmbcohpmlaaGreatDoorGk
namespace Go.Proofs.YtibhlmbcohpmlaaGreatDoor
open Go.RowKit

set_option maxRecDepth 100000 in
set_option maxHeartbeats 20000000 in
theorem refReadInternal_yes7 (s : ByteArray) (w : World) (hs : s.size = 26) (p1 : (bt (L s) 11 == 32) = true) (p2 : (bt (L s) 14 == 58) = true) (p3 : (bt (L s) 17 == 58) = true) (p4 : (bt (L s) 20 == 32) = true) (hsel : (tdB (riDay (L s)) = true) ∧ (numB (((L s).drop 12).take 2) 2 2 = true) ∧ (numB (((L s).drop 15).take 2) 2 2 = true) ∧ (numB (((L s).drop 18).take 2) 2 2 = true) ∧ (tzB ((L s).drop 21) = true) ∧ (numI (((L s).drop 12).take 2) 2 2 ≤ 23) ∧ (numI (((L s).drop 15).take 2) 2 2 ≤ 59) ∧ (59 < numI (((L s).drop 18).take 2) 2 2) ∧ (rInB (L s) = false)) :
    Calls Tryz.prog 32 #[.string s] w fun e w' => e = .returned (.tuple #[riV (L s), .int .i64 (riE (L s))]) ∧ Below w.heap.size w w' := by
  have hlen : (L s).length = 26 := hs
  obtain ⟨i1, i2, i3, i4⟩ := rIn_eq (L s) hlen p1 p2 p3 p4
  obtain ⟨g, hg, hgl, hgd, hgt, hgi⟩ := ri_day (L s) hlen
  obtain ⟨k1, k2, k3, k4⟩ := rd_td (riDay (L s)) g hgl hg
  rw [hgd, hgt] at k1
  rw [hgd] at k2 k3
  rw [hgt] at k4
  have x3 : L (s.extract 2 11) = ((L s).drop 2).take 9 := by rw [extract_S, L_S]
  have x4 : L (s.extract 12 14) = ((L s).drop 12).take 2 := by rw [extract_S, L_S]
  have x5 : L (s.extract 15 17) = ((L s).drop 15).take 2 := by rw [extract_S, L_S]
  have x6 : L (s.extract 18 20) = ((L s).drop 18).take 2 := by rw [extract_S, L_S]
  have x7 : L (s.extract 21 26) = (L s).drop 21 := by rw [extract_S, L_S]; exact List.take_of_length_le (by rw [List.length_drop, hlen]; omega)
  have z3 : (s.extract 2 11).size = 9 := by rw [ByteArray.size_extract]; omega
  have z4 : (s.extract 12 14).size = 2 := by rw [ByteArray.size_extract]; omega
  have z5 : (s.extract 15 17).size = 2 := by rw [ByteArray.size_extract]; omega
  have z6 : (s.extract 18 20).size = 2 := by rw [ByteArray.size_extract]; omega
  have z7 : (s.extract 21 26).size = 5 := by rw [ByteArray.size_extract]; omega
  obtain ⟨d, zd1, zd2, xd, hdv⟩ : ∃ d : ByteArray, 1 ≤ d.size ∧ d.size ≤ 2 ∧ L d = (if bt (L s) 0 == 32 then ((L s).drop 1).take 1 else (L s).take 2) ∧ d = (if bt (L s) 0 == 32 then s.extract 1 2 else s.extract 0 2) := by
    refine ⟨_, ?_, ?_, ?_, rfl⟩
    · split <;> (rw [ByteArray.size_extract]; omega)
    · split <;> (rw [ByteArray.size_extract]; omega)
    · split
      · rw [extract_S, L_S]
      · rw [extract_S, L_S, List.drop_zero]
  have hD := Lib.hid (fun W => rday_any d (s.extract 2 11) W zd1 zd2 z3)
  rw [xd, x3, k1, k2, k3, k4] at hD
  replace hD : Hid (∀ W, Below (w.heap.size + 1) (w.alloc (.cells #[.int .i64 0, .int .i64 0, .int .i64 0, .int .i64 0, .int .i64 0, .int .i64 0, .int .i64 0] 23)) W → Calls Tryz.prog 60 #[.string d, .string (s.extract 2 11)] W fun e w' => ∃ y k n, e = .returned (.tuple #[mom y k n 0 0 0 0, .bool (tdB (riDay (L s)))]) ∧ Below (w.heap.size + 1) (w.alloc (.cells #[.int .i64 0, .int .i64 0, .int .i64 0, .int .i64 0, .int .i64 0, .int .i64 0, .int .i64 0] 23)) w' ∧ Below W.heap.size W w' ∧ (tdB (riDay (L s)) = true → y = tdY (riDay (L s)) ∧ k = tdM (riDay (L s)) ∧ n = tdD (riDay (L s)))) :=
    Lib.hid (fun W hW => (hD.out W).mono fun e w' ⟨y, k, n, p1, p2, p3⟩ => ⟨y, k, n, p1, hW.trans (p2.mono (by have := hW.size; simpa using this)), p2, p3⟩)
  have n4 := num_count (L (s.extract 12 14)) 2 2 (by rw [L_length]; omega) (by rw [L_length]; omega) (by rw [L_length]; omega) (by rw [L_length]; omega)
  have n5 := num_count (L (s.extract 15 17)) 2 2 (by rw [L_length]; omega) (by rw [L_length]; omega) (by rw [L_length]; omega) (by rw [L_length]; omega)
  have n6 := num_count (L (s.extract 18 20)) 2 2 (by rw [L_length]; omega) (by rw [L_length]; omega) (by rw [L_length]; omega) (by rw [L_length]; omega)
  have hC4 := Lib.hid (fun W => count_any (s.extract 12 14) W (by omega) (by omega))
  have hC5 := Lib.hid (fun W => count_any (s.extract 15 17) W (by omega) (by omega))
  have hC6 := Lib.hid (fun W => count_any (s.extract 18 20) W (by omega) (by omega))
  have hZ := Lib.hid (fun W => zoned_any (s.extract 21 26) W z7)
  rw [n4.1, n4.2, x4] at hC4
  rw [n5.1, n5.2, x5] at hC5
  rw [n6.1, n6.2, x6] at hC6
  rw [x7] at hZ
  have HJJ : Hid (∀ y' m' d' v, (tdB (riDay (L s)) = true → y' = tdY (riDay (L s)) ∧ m' = tdM (riDay (L s)) ∧ d' = tdD (riDay (L s))) → (tzB ((L s).drop 21) = true → v = tzV ((L s).drop 21)) → ∀ W, Calls Tryz.prog 61 #[mom y' m' d' (numI (((L s).drop 12).take 2) 2 2) (numI (((L s).drop 15).take 2) 2 2) (numI (((L s).drop 18).take 2) 2 2) v, .bool (rInB (L s))] W fun e w' => e = .returned (.tuple #[riV (L s), .int .i64 (riE (L s))]) ∧ Below W.heap.size W w') := Lib.hid (fun y' m' d' v hv hz W => by
    have := told_any (rInB (L s)) y' m' d' (numI (((L s).drop 12).take 2) 2 2) (numI (((L s).drop 15).take 2) 2 2) (numI (((L s).drop 18).take 2) 2 2) v W
    have hj : judV (rInB (L s)) y' m' d' (numI (((L s).drop 12).take 2) 2 2) (numI (((L s).drop 15).take 2) 2 2) (numI (((L s).drop 18).take 2) 2 2) v = riV (L s) ∧ judE (rInB (L s)) y' m' d' = riE (L s) := by
      unfold riV riE
      rw [i1, i2, i3, i4]
      cases hr : rInB (L s) with
      | false => exact ⟨rfl, rfl⟩
      | true =>
        unfold rInB at hr
        simp only [Bool.and_eq_true] at hr
        obtain ⟨rfl, rfl, rfl⟩ := hv hr.1.1.1.1.1.1.1
        obtain rfl := hz hr.1.1.1.2
        exact ⟨rfl, rfl⟩
    rw [hj.1, hj.2] at this
    exact this)
  obtain ⟨r0, r1, r2, r3, r4, r5, r6, hr⟩ := judV_shape (riB (L s)) (tdY (riDay (L s))) (tdM (riDay (L s))) (tdD (riDay (L s))) (tcH (((L s).drop 12).take 8)) (tcN (((L s).drop 12).take 8)) (tcS (((L s).drop 12).take 8)) (tzV ((L s).drop 21))
  have hr' : riV (L s) = mom r0 r1 r2 r3 r4 r5 r6 := hr
  rw [hr'] at HJJ ⊢
  have HR : Hid (rInB (L s) = (tdB (riDay (L s)) && numB (((L s).drop 12).take 2) 2 2 && numB (((L s).drop 15).take 2) 2 2 && numB (((L s).drop 18).take 2) 2 2 && tzB ((L s).drop 21) && decide (numI (((L s).drop 12).take 2) 2 2 ≤ 23) && decide (numI (((L s).drop 15).take 2) 2 2 ≤ 59) && decide (numI (((L s).drop 18).take 2) 2 2 ≤ 59))) := Lib.hid rfl
  have nb4 := numI_bounds (((L s).drop 12).take 2) 2 2
  have nb5 := numI_bounds (((L s).drop 15).take 2) 2 2
  have nb6 := numI_bounds (((L s).drop 18).take 2) 2 2
  generalize riE (L s) = er at *
  generalize rInB (L s) = R at *
  generalize tdY (riDay (L s)) = ty at *
  generalize tdM (riDay (L s)) = tm at *
  generalize tdD (riDay (L s)) = td at *
  generalize tdB (riDay (L s)) = fb at *
  generalize tzB ((L s).drop 21) = zb at *
  generalize tzV ((L s).drop 21) = zv at *
  generalize numI (((L s).drop 12).take 2) 2 2 = vh at *
  generalize numI (((L s).drop 15).take 2) 2 2 = vn at *
  generalize numI (((L s).drop 18).take 2) 2 2 = vs at *
  generalize numB (((L s).drop 12).take 2) 2 2 = bh at *
  generalize numB (((L s).drop 15).take 2) 2 2 = bn at *
  generalize numB (((L s).drop 18).take 2) 2 2 = bs at *
  obtain ⟨nh0, nh1⟩ : 0 ≤ vh ∧ vh < 100 := nb4
  obtain ⟨nn0, nn1⟩ : 0 ≤ vn ∧ vn < 100 := nb5
  obtain ⟨ns0, ns1⟩ : 0 ≤ vs ∧ vs < 100 := nb6
  have HB0 : Hid (Below (w.heap.size + 1) (w.alloc (.cells #[.int .i64 0, .int .i64 0, .int .i64 0, .int .i64 0, .int .i64 0, .int .i64 0, .int .i64 0] 23)) (w.alloc (.cells #[.int .i64 0, .int .i64 0, .int .i64 0, .int .i64 0, .int .i64 0, .int .i64 0, .int .i64 0] 23))) := Lib.hid (Below.refl _ _)
  have G0 : Hid ((w.alloc (.cells #[.int .i64 0, .int .i64 0, .int .i64 0, .int .i64 0, .int .i64 0, .int .i64 0, .int .i64 0] 23)).heap[w.heap.size]? = some (.cells #[.int .i64 0, .int .i64 0, .int .i64 0, .int .i64 0, .int .i64 0, .int .i64 0, .int .i64 0] 23 (0, 0))) := Lib.hid (heap_alloc_new w _)
  have Q0 : Hid (Below w.heap.size w (w.alloc (.cells #[.int .i64 0, .int .i64 0, .int .i64 0, .int .i64 0, .int .i64 0, .int .i64 0, .int .i64 0] 23))) := Lib.hid ((Below.refl _ _).alloc (Nat.le_refl _) _)
  have e0 := get_bt s 0 (by omega)
  have e1 := get_bt s 11 (by omega)
  have e2 := get_bt s 14 (by omega)
  have e3 := get_bt s 17 (by omega)
  have e4 := get_bt s 20 (by omega)
  have t0 := byte_test (bt (L s) 0) 32 32 rfl
  have t1 := neq_test (bt (L s) 11) 32 32 rfl
  have t2 := neq_test (bt (L s) 14) 58 58 rfl
  have t3 := neq_test (bt (L s) 17) 58 58 rfl
  have t4 := neq_test (bt (L s) 20) 32 32 rfl
  rw [p1] at t1
  rw [p2] at t2
  rw [p3] at t3
  rw [p4] at t4
  simp only [Bool.not_true] at t1 t2 t3 t4
  clear hr hr' i1 i2 i3 i4 hgl hgd hgt hgi hg k1 k2 k3 k4 x3 x4 x5 x6 x7 z3 z4 z5 z6 z7 n4 n5 n6 xd zd1 zd2 p1 p2 p3 p4 hlen
  unfold mom at HJJ hD ⊢
  clear HR
  cases hc0 : (bt (L s) 0 == 32)
  all_goals rw [hc0] at t0 hdv
  all_goals simp only [if_true, Bool.false_eq_true, if_false] at hdv
  all_goals subst hdv
  all_goals (
    go_enter Tryz.func32, Tryz.ntmps32
    go_wp2_with fail
    refine (hD.out _ HB0.out).mono ?_
    rintro e w5 ⟨y', k', n', rfl, hs5, hb5, hval0⟩
    have hval := Lib.hid hval0
    clear hval0 hb5
    go_wp2_with fail
    refine (hC4.out _).mono ?_
    rintro e w6 ⟨rfl, rfl⟩
    go_wp2_with fail
    refine (hC5.out _).mono ?_
    rintro e w6 ⟨rfl, rfl⟩
    go_wp2_with fail
    refine (hC6.out _).mono ?_
    rintro e w6 ⟨rfl, rfl⟩
    go_wp2_with fail
    refine (hZ.out _).mono ?_
    rintro e w6 ⟨v, rfl, rfl, hvb, hzv⟩
    have HJ := Lib.hid (HJJ.out y' k' n' v hval.out hzv)
    clear hval hzv
    go_upto_region 15 with fail
    go_cut [15, 16] (fun s15 s16 wx => ∃ gx, s15 = .pointer (some ⟨gx, 0, none⟩) ∧ s16 = .int .i64 er ∧ Cells7 gx r0 r1 r2 r3 r4 r5 r6 wx ∧ w.heap.size < gx ∧ wx.heap[w.heap.size]? = some (.cells #[.int .i64 0, .int .i64 0, .int .i64 0, .int .i64 0, .int .i64 0, .int .i64 0, .int .i64 0] 23 (0, 0)) ∧ Below w.heap.size w wx)
    case first =>
      clear HJJ hD hC4 hC5 hC6 hZ HB0 e0 e1 e2 e3 e4 t0 t1 t2 t3 t4
      obtain ⟨rfl, rfl, rfl, rfl, rfl, g1, g2, g3, rfl⟩ := hsel
      have np : ¬ vs ≤ 59 := by omega
      have nb : decide (vs ≤ 59) = false := decide_eq_false np
      clear g3
      all_goals (
        go_wp2_with fail
        refine (HJ.out _).mono ?_
        rintro e w2 ⟨rfl, hb2⟩
        have hz1 : w.heap.size + 1 ≤ w5.heap.size := by have := hs5.size; simpa using this
        have hbX := hs5.alloc hz1 (.cells #[.int .i64 y', .int .i64 k', .int .i64 n', .int .i64 vh, .int .i64 vn, .int .i64 vs, .int .i64 v] 23)
        have hz2 : (w5.alloc (.cells #[.int .i64 y', .int .i64 k', .int .i64 n', .int .i64 vh, .int .i64 vn, .int .i64 vs, .int .i64 v] 23)).heap.size = w5.heap.size + 1 := by simp
        have hg2 : w2.heap[w.heap.size]? = some (.cells #[.int .i64 0, .int .i64 0, .int .i64 0, .int .i64 0, .int .i64 0, .int .i64 0, .int .i64 0] 23 (0, 0)) := by
          rw [hb2.block _ (by omega), hbX.block _ (by omega)]; exact G0.out
        have hq2 : Below w.heap.size w w2 := (Q0.out.trans (hbX.mono (by omega))).trans (hb2.mono (by omega))
        have hlt : w.heap.size < w2.heap.size := by have := hb2.size; omega
        have HG2 : Hid ((w2.alloc (.cells #[.int .i64 r0, .int .i64 r1, .int .i64 r2, .int .i64 r3, .int .i64 r4, .int .i64 r5, .int .i64 r6] 23)).heap[w.heap.size]? = some (.cells #[.int .i64 0, .int .i64 0, .int .i64 0, .int .i64 0, .int .i64 0, .int .i64 0, .int .i64 0] 23 (0, 0))) := Lib.hid ((heap_alloc_old w2 _ hlt).trans hg2)
        have HQ2 : Hid (Below w.heap.size w (w2.alloc (.cells #[.int .i64 r0, .int .i64 r1, .int .i64 r2, .int .i64 r3, .int .i64 r4, .int .i64 r5, .int .i64 r6] 23))) := Lib.hid (hq2.alloc hq2.size _)
        clear hb2 hg2 hq2 hz1 hz2 hbX HJ G0 Q0
        go_wp2_with fail
        go_meet
        exact ⟨w2.heap.size, rfl, rfl, cells7_new w2 r0 r1 r2 r3 r4 r5 r6 _, hlt, HG2.out, HQ2.out⟩)
    case rest =>
      obtain ⟨gx, rfl, rfl, hc7, hlt, hG, hQ⟩ := hcut
      have HG2 := Lib.hid hG
      have HQ2 := Lib.hid hQ
      obtain ⟨c0, c1, c2, c3, c4, c5, c6⟩ := hc7
      clear hG hQ HJ HJJ hD hC4 hC5 hC6 hZ HB0 G0 Q0 hsel
      go_wp2_with (refine wpList_store_row rfl 23 _ _ rfl w.heap.size #[.int .i64 r0, .int .i64 r1, .int .i64 r2, .int .i64 r3, .int .i64 r4, .int .i64 r5, .int .i64 r6] rfl rfl 23 _ HG2.out Tryz.sizeMom rfl (mom_one _ _ _ _ _ _ _) ?_)
      exact bodyPost_ret (v := .tuple #[mom r0 r1 r2 r3 r4 r5 r6, .int .i64 er]) (res2 Tryz.results32 _ _ w.heap.size 23 #[.int .i64 r0, .int .i64 r1, .int .i64 r2, .int .i64 r3, .int .i64 r4, .int .i64 r5, .int .i64 r6] (0, 0) _ rfl (setRow_heap _ _ _ #[.int .i64 r0, .int .i64 r1, .int .i64 r2, .int .i64 r3, .int .i64 r4, .int .i64 r5, .int .i64 r6] _ _ HG2.out) Tryz.underlying23 rfl Tryz.sizeMom) rfl ⟨rfl, below_setRow HQ2.out (by omega) _⟩)
end Go.Proofs.YtibhlmbcohpmlaaGreatDoor
