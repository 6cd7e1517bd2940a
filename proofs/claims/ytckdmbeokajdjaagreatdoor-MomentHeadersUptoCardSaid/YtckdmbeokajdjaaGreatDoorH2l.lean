/- The document's ReadHeader: ending. -/
import Derived.Test.YtckdmbeokajdjaaGreatDoorH2j
namespace Go.Proofs.YtckdmbeokajdjaaGreatDoor
open Go.RowKit

/-- What ending answers. -/
def EnOut (ps : List Pc) (i : Nat) (y m d h n : Int) (w0 : World) (e : Ending) (w : World) : Prop :=
  ∃ s z, e = .returned (.tuple #[mom y m d h n s z, .bool (enB (ps.drop i))]) ∧ Below w0.heap.size w0 w ∧ (enB (ps.drop i) = true → s = enS (ps.drop i) ∧ z = enZ (ps.drop i))
theorem kd_len {ps : List Pc} {i : Nat} (h : kd ps i ≠ 0) : i < ps.length := by
  by_cases hi : i < ps.length
  · exact hi
  · exact absurd (kd_out ps i hi) h
theorem empty_drop (ps : List Pc) (i : Nat) (hi : i ≤ ps.length) : (ps.drop i).isEmpty = ((i : Int) == (ps.length : Int)) := by
  by_cases h : i = ps.length
  · subst h; simp
  · have h1 : ((i : Int) == (ps.length : Int)) = false := by rw [beq_eq_false_iff_ne]; omega
    rw [h1, List.drop_eq_getElem_cons (by omega)]; rfl
/-- Behind the second: where the zone begins. -/
theorem en_tail (ps : List Pc) (i i2 : Nat) (h2 : i2 = i + seI (ps.drop i)) (hS : (if hdK (ps.drop i) = 5 then (shL ((ps.drop i).drop 1) 60).1.2 else true) = true) :
    enB (ps.drop i) = (znBL (ps.drop i2) && (znCL (ps.drop i2)).isEmpty) ∧ enZ (ps.drop i) = znZL (ps.drop i2) 0 := by
  have e : (ps.drop i).drop (seI (ps.drop i)) = ps.drop i2 := by rw [List.drop_drop, h2]
  unfold enB enZ
  rw [hS, e]; exact ⟨by rw [Bool.true_and], rfl⟩

set_option maxRecDepth 100000 in
set_option maxHeartbeats 4000000 in
theorem rending_any (N : Nat) (v : Value) (ps : List Pc) (i : Nat) (y m d h n : Int) (w : World) (hv : PsAt w v ps) (hg : GdL N ps) (hN : N ≤ 140737488355328) (hi : i ≤ ps.length) (hil : i ≤ 1000000000000) :
    Calls Tryz.prog 64 #[v, .int .i64 (i : Int), mom y m d h n 0 0] w fun e w' => EnOut ps i y m d h n w e w' := by
  have HIs := Lib.hid (fun W (hW : Below w.heap.size w W) i k c hk hc => ris_any N v ps i k c W (hv.on hW) hg hk hc)
  have HSm := Lib.hid (fun W (hW : Below w.heap.size w W) i g => rsmall_any N v ps i g W (hv.on hW) hg)
  have HV := Lib.hid hv
  have HG := Lib.hid hg
  clear hv hg
  have E0 := Lib.hid (EnM.new w y m d h n 0 0)
  unfold mom
  go_enter Tryz.func64, Tryz.ntmps64
  go_wp2_with fail
  generalize (w.alloc (.cells #[.int .i64 y, .int .i64 m, .int .i64 d, .int .i64 h, .int .i64 n, .int .i64 0, .int .i64 0] 23)).alloc (.cells #[.int .i64 0, .int .i64 0, .int .i64 0, .int .i64 0, .int .i64 0, .int .i64 0, .int .i64 0] 23) = W1 at E0 ⊢
  refine (HIs.out _ E0.out.b i 5 58 (by omega) rfl).mono ?_
  rintro e w1 ⟨rfl, hw1⟩
  rw [hw1]; clear hw1 w1
  go_upto_if 14 with fail
  go_cut [1] (fun s1 wx => ∃ (i2 : Nat) (s2 : Int), s1 = .int .i64 (i2 : Int) ∧ i2 = i + seI (ps.drop i) ∧ i2 ≤ ps.length ∧ s2 = enS (ps.drop i) ∧ (if hdK (ps.drop i) = 5 then (shL ((ps.drop i).drop 1) 60).1.2 else true) = true ∧ EnM w.heap.size y m d h n s2 0 w wx)
  case first =>
    by_cases hk : kd ps i = 5
    · have ek : (kd ps i == 5) = true := by rw [hk]; rfl
      rw [ek]
      have hS1 := Lib.hid (fun W (hW : Below w.heap.size w W) => HSm.out W hW (i + 1) 60)
      have ed : ps.drop (i + 1) = (ps.drop i).drop 1 := by rw [List.drop_drop]
      rw [ed] at hS1
      obtain ⟨nv, hnv⟩ : ∃ nv, nv = (shL ((ps.drop i).drop 1) 60).1.1 := ⟨_, rfl⟩
      obtain ⟨nb, hnb⟩ : ∃ nb, nb = (shL ((ps.drop i).drop 1) 60).1.2 := ⟨_, rfl⟩
      rw [← hnv, ← hnb] at hS1
      obtain ⟨i1, hi1⟩ : ∃ i1, i1 = i + 1 := ⟨_, rfl⟩
      have hi1I : (i : Int) + 1 = (i1 : Int) := by omega
      rw [← hi1] at hS1
      have hlen := kd_len (ps := ps) (i := i) (by omega)
      have HN1 := Lib.hid hnv
      have HN2 := Lib.hid hnb
      have HK := Lib.hid hk
      have HI1 := Lib.hid hi1
      clear hnv hnb hk ek ed hi1
      obtain ⟨c0, c1, c2, c3, c4, c5, c6⟩ := E0.out.cells
      have f5 := E0.out.free 5
      cases nb with
      | false =>
        have HBad : Hid (enB (ps.drop i) = false) := Lib.hid (by
          unfold enB; rw [if_pos (show hdK (ps.drop i) = 5 from HK.out), ← HN2.out]; rfl)
        have HR := Lib.hid E0.out.r
        go_wp2_with (first | (go_at_call 62; refine (hS1.out _ E0.out.b).mono ?_; rintro e w1 ⟨rfl, hw1⟩; rw [hw1]; clear hw1 w1) | (refine wpList_store_row rfl 23 _ _ rfl (w.heap.size + 1) #[.int .i64 y, .int .i64 m, .int .i64 d, .int .i64 h, .int .i64 n, .int .i64 0, .int .i64 0] rfl rfl 23 _ HR.out Tryz.sizeMom rfl (mom_one _ _ _ _ _ _ _) ?_))
        exact bodyPost_ret (v := .tuple #[mom y m d h n 0 0, .bool false]) (res2 Tryz.results64 _ _ (w.heap.size + 1) 23 #[.int .i64 y, .int .i64 m, .int .i64 d, .int .i64 h, .int .i64 n, .int .i64 0, .int .i64 0] (0, 0) _ rfl (setRow_heap _ _ _ #[.int .i64 y, .int .i64 m, .int .i64 d, .int .i64 h, .int .i64 n, .int .i64 0, .int .i64 0] _ _ HR.out) Tryz.underlying23 rfl Tryz.sizeMom) rfl ⟨0, 0, by rw [HBad.out], below_setRow E0.out.b (by omega) _, fun e => by rw [HBad.out] at e; cases e⟩
      | true =>
        have h2 : kd ps (i + 1) = 2 := by
          by_cases h2 : hdK ((ps.drop i).drop 1) = 2
          · unfold kd; rw [← h2, List.drop_drop]
          · have := HN2.out; rw [shL_miss _ _ h2] at this; cases this
        have hlen2 := kd_len (ps := ps) (i := i + 1) (by omega)
        have hnb : 0 ≤ nv ∧ nv ≤ 60 := by
          have hh : hdK ((ps.drop i).drop 1) = 2 := by unfold kd at h2; rw [List.drop_drop]; exact h2
          have a1 := HN1.out
          have a2 := HN2.out
          rw [shL_hit _ _ hh] at a1 a2
          have a3 : (numB (hdP ((ps.drop i).drop 1)) 1 2 && decide (numI (hdP ((ps.drop i).drop 1)) 1 2 ≤ 60)) = true := a2.symm
          rw [Bool.and_eq_true, decide_eq_true_eq] at a3
          have a4 := numI_bounds (hdP ((ps.drop i).drop 1)) 1 2
          have a5 : nv = numI (hdP ((ps.drop i).drop 1)) 1 2 := a1
          rw [a5]; exact ⟨a4.1, a3.2⟩
        have HES : Hid (enS (ps.drop i) = min nv 59) := Lib.hid (by unfold enS; rw [if_pos (show hdK (ps.drop i) = 5 from HK.out), ← HN1.out])
        have HSI : Hid (seI (ps.drop i) = 2) := Lib.hid (by unfold seI; rw [if_pos (show hdK (ps.drop i) = 5 from HK.out)])
        have HTR : Hid ((if hdK (ps.drop i) = 5 then (shL ((ps.drop i).drop 1) 60).1.2 else true) = true) := Lib.hid (by rw [if_pos (show hdK (ps.drop i) = 5 from HK.out), ← HN2.out])
        clear h2
        by_cases h60 : nv = 60
        · subst h60
          have hput := Lib.hid (E0.out.put 5 (.int .i64 59) (y' := y) (m' := m) (d' := d) (h' := h) (n' := n) (s' := 59) (z' := 0) (by simp))
          go_wp2_with (go_at_call 62; refine (hS1.out _ E0.out.b).mono ?_; rintro e w1 ⟨rfl, hw1⟩; rw [hw1]; clear hw1 w1)
          go_meet
          exact ⟨i + 2, 59, by push_cast; rfl, by rw [HSI.out], by omega, by rw [HES.out]; rfl, HTR.out, hput.out⟩
        · have h60' : (nv == 60) = false := by rw [beq_eq_false_iff_ne]; exact h60
          have hput := Lib.hid (E0.out.put 5 (.int .i64 nv) (y' := y) (m' := m) (d' := d) (h' := h) (n' := n) (s' := nv) (z' := 0) (by simp))
          have hmin : min nv 59 = nv := by omega
          have HMin := Lib.hid hmin
          clear hmin
          go_wp2_with (go_at_call 62; refine (hS1.out _ E0.out.b).mono ?_; rintro e w1 ⟨rfl, hw1⟩; rw [hw1]; clear hw1 w1)
          go_meet
          exact ⟨i + 2, nv, by push_cast; rfl, by rw [HSI.out], by omega, by rw [HES.out, HMin.out], HTR.out, hput.out⟩
    · have ek : (kd ps i == 5) = false := by rw [beq_eq_false_iff_ne]; exact hk
      rw [ek]
      have HK : Hid (hdK (ps.drop i) ≠ 5) := Lib.hid hk
      clear hk ek
      go_wp2
      go_meet
      exact ⟨i, 0, rfl, by unfold seI; rw [if_neg HK.out]; rfl, hi, by unfold enS; rw [if_neg HK.out], by rw [if_neg HK.out], E0.out⟩
  case rest =>
    clear E0
    obtain ⟨i2, s2, rfl, hi2, hl2, hs2, hT, hE⟩ := hcut
    obtain ⟨et1, et2⟩ := en_tail ps i i2 hi2 hT
    have HT1 := Lib.hid et1
    have HT2 := Lib.hid et2
    have HS2 := Lib.hid hs2
    have HE := Lib.hid hE
    have hsi : seI (ps.drop i) ≤ 2 := by unfold seI; split <;> omega
    have hi2b : i2 ≤ 1000000000002 := by omega
    clear et1 et2 hs2 hT hi2 hsi hE
    go_wp2_with fail
    refine (HIs.out _ HE.out.b i2 1 97 (by omega) rfl).mono ?_
    rintro e w1 ⟨rfl, hw1⟩
    rw [hw1]; clear hw1 w1
    obtain ⟨c0, c1, c2, c3, c4, c5, c6⟩ := HE.out.cells
    have f6 := HE.out.free 6
    obtain ⟨i3, hi3⟩ : ∃ i3, i3 = i2 + 1 := ⟨_, rfl⟩
    have hi3I : (i2 : Int) + 1 = (i3 : Int) := by omega
    have HI3 := Lib.hid hi3
    clear hi3
    by_cases hk1 : kd ps i2 = 1
    · have ek : (kd ps i2 == 1) = true := by rw [hk1]; rfl
      rw [ek]
      have hlen := kd_len (ps := ps) (i := i2) (by omega)
      obtain ⟨gb, cap, hv, ct⟩ := (HV.out.on HE.out.b).text hlen
      subst hv
      have hlenI : (i2 : Int) < (ps.length : Int) := by omega
      have htl : (tx ps i2).length ≤ N := by
        obtain ⟨k1, k2, k3⟩ := kd_at ps i2 hlen
        rw [k2]; exact (HG.out _ k3).2.2.2
      have hLt := Lib.hid (fun W => rletters_any (S (tx ps i2)) W (by rw [S_size]; omega))
      rw [L_S] at hLt
      have HZ : Hid (znZL (ps.drop i2) 0 = nzI (tx ps i2)) := Lib.hid (by unfold znZL; rw [if_pos (show hdK (ps.drop i2) = 1 from hk1)]; rfl)
      have HB : Hid (enB (ps.drop i) = ((i3 : Int) == (ps.length : Int))) := Lib.hid (by
        rw [HT1.out]
        unfold znBL znCL
        rw [if_neg (show ¬ hdK (ps.drop i2) = 3 from fun e => by rw [show hdK (ps.drop i2) = 1 from hk1] at e; cases e), if_pos (.inl (show hdK (ps.drop i2) = 1 from hk1)), List.drop_drop, Bool.true_and, ← HI3.out]
        exact empty_drop ps i3 (by rw [HI3.out]; omega))
      generalize nzI (tx ps i2) = zv at *
      clear hk1 ek htl
      go_wp2_with fail
      refine (hLt.out _).mono ?_
      rintro e w2 ⟨rfl, hb2⟩
      have HE2 := Lib.hid (HE.out.on hb2)
      clear hb2 c0 c1 c2 c3 c4 c5 c6 f6 ct
      have HE3 := Lib.hid (HE2.out.put 6 (.int .i64 zv) (y' := y) (m' := m) (d' := d) (h' := h) (n' := n) (s' := s2) (z' := zv) (by simp))
      have f6 := HE2.out.free 6
      have c6 := HE2.out.cells.c6
      go_upto_region 18 with fail
      generalize w2.setCell ⟨w.heap.size, 6, none⟩ (.int .i64 zv) = X at HE3 ⊢
      clear f6 c6 HE2
      obtain ⟨c0, c1, c2, c3, c4, c5, c6⟩ := HE3.out.cells
      have HR := Lib.hid HE3.out.r
      go_wp2_with (refine wpList_store_row rfl 23 _ _ rfl (w.heap.size + 1) #[.int .i64 y, .int .i64 m, .int .i64 d, .int .i64 h, .int .i64 n, .int .i64 s2, .int .i64 zv] rfl rfl 23 _ HR.out Tryz.sizeMom rfl (mom_one _ _ _ _ _ _ _) ?_)
      exact bodyPost_ret (v := .tuple #[mom y m d h n s2 zv, .bool _]) (res2 Tryz.results64 _ _ (w.heap.size + 1) 23 #[.int .i64 y, .int .i64 m, .int .i64 d, .int .i64 h, .int .i64 n, .int .i64 s2, .int .i64 zv] (0, 0) _ rfl (setRow_heap _ _ _ #[.int .i64 y, .int .i64 m, .int .i64 d, .int .i64 h, .int .i64 n, .int .i64 s2, .int .i64 zv] _ _ HR.out) Tryz.underlying23 rfl Tryz.sizeMom) rfl ⟨s2, zv, by rw [HB.out], below_setRow HE3.out.b (by omega) _, fun _ => ⟨HS2.out, by rw [HT2.out, HZ.out]⟩⟩
    · have ek : (kd ps i2 == 1) = false := by rw [beq_eq_false_iff_ne]; exact hk1
      rw [ek]
      have HK1 := Lib.hid hk1
      clear hk1 ek
      go_wp2_with fail
      refine (HIs.out _ HE.out.b i2 3 115 (by omega) rfl).mono ?_
      rintro e w1 ⟨rfl, hw1⟩
      rw [hw1]; clear hw1 w1
      by_cases hk3 : kd ps i2 = 3
      · have ek : (kd ps i2 == 3) = true := by rw [hk3]; rfl
        rw [ek]
        have hlen := kd_len (ps := ps) (i := i2) (by omega)
        obtain ⟨gb, cap, hv, ct⟩ := (HV.out.on HE.out.b).text hlen
        subst hv
        have hlenI : (i2 : Int) < (ps.length : Int) := by omega
        have HZB : Hid (znBL (ps.drop i2) = tzB (tx ps i2)) := Lib.hid (by unfold znBL; rw [if_pos (show hdK (ps.drop i2) = 3 from hk3)]; rfl)
        have HZ : Hid (znZL (ps.drop i2) 0 = tzV (tx ps i2)) := Lib.hid (by unfold znZL; rw [if_neg (show ¬ hdK (ps.drop i2) = 1 from HK1.out), if_pos (show hdK (ps.drop i2) = 3 from hk3)]; rfl)
        have HC : Hid ((znCL (ps.drop i2)).isEmpty = ((i3 : Int) == (ps.length : Int))) := Lib.hid (by
          unfold znCL
          rw [if_pos (.inr (show hdK (ps.drop i2) = 3 from hk3)), List.drop_drop, ← HI3.out]
          exact empty_drop ps i3 (by rw [HI3.out]; omega))
        have hZo : Hid (∀ W, Calls Tryz.prog 82 #[.string (S (tx ps i2))] W fun e w' => ∃ z, e = .returned (.tuple #[.int .i64 z, .bool (tzB (tx ps i2))]) ∧ w' = W ∧ (tzB (tx ps i2) = true → z = tzV (tx ps i2))) := Lib.hid (fun W => by
          by_cases h5 : (tx ps i2).length = 5
          · refine (zoned_any (S (tx ps i2)) W (by rw [S_size]; exact h5)).mono ?_
            rintro e w' ⟨z, h1, h2, _, h4⟩
            rw [L_S] at h1 h4
            exact ⟨z, h1, h2, h4⟩
          · refine (zoned_no (S (tx ps i2)) W (by rw [S_size]; exact h5)).mono ?_
            rintro e w' ⟨h1, h2⟩
            rw [tzB_len _ h5]
            exact ⟨0, h1, h2, fun h => by cases h⟩)
        generalize tzB (tx ps i2) = tb at *
        generalize tzV (tx ps i2) = tv at *
        clear hk3 ek
        go_wp2_with fail
        refine (hZo.out _).mono ?_
        rintro e w2 ⟨z, rfl, hw2, hz⟩
        rw [hw2]; clear hw2 w2
        have HZz := Lib.hid hz
        clear hz
        cases tb with
        | false =>
          have HBad : Hid (enB (ps.drop i) = false) := Lib.hid (by rw [HT1.out, HZB.out]; rfl)
          have HR := Lib.hid HE.out.r
          go_wp2_with (refine wpList_store_row rfl 23 _ _ rfl (w.heap.size + 1) #[.int .i64 y, .int .i64 m, .int .i64 d, .int .i64 h, .int .i64 n, .int .i64 s2, .int .i64 0] rfl rfl 23 _ HR.out Tryz.sizeMom rfl (mom_one _ _ _ _ _ _ _) ?_)
          exact bodyPost_ret (v := .tuple #[mom y m d h n s2 0, .bool false]) (res2 Tryz.results64 _ _ (w.heap.size + 1) 23 #[.int .i64 y, .int .i64 m, .int .i64 d, .int .i64 h, .int .i64 n, .int .i64 s2, .int .i64 0] (0, 0) _ rfl (setRow_heap _ _ _ #[.int .i64 y, .int .i64 m, .int .i64 d, .int .i64 h, .int .i64 n, .int .i64 s2, .int .i64 0] _ _ HR.out) Tryz.underlying23 rfl Tryz.sizeMom) rfl ⟨s2, 0, by rw [HBad.out], below_setRow HE.out.b (by omega) _, fun e => by rw [HBad.out] at e; cases e⟩
        | true =>
          have HB : Hid (enB (ps.drop i) = ((i3 : Int) == (ps.length : Int))) := Lib.hid (by rw [HT1.out, HZB.out, HC.out]; rfl)
          have HE3 := Lib.hid (HE.out.put 6 (.int .i64 z) (y' := y) (m' := m) (d' := d) (h' := h) (n' := n) (s' := s2) (z' := z) (by simp))
          go_upto_region 18 with fail
          clear c0 c1 c2 c3 c4 c5 c6 f6 ct
          rename_i wc0
          generalize wc.setCell ⟨w.heap.size, 6, none⟩ (.int .i64 z) = X at HE3 ⊢
          obtain ⟨c0, c1, c2, c3, c4, c5, c6⟩ := HE3.out.cells
          have HR := Lib.hid HE3.out.r
          go_wp2_with (refine wpList_store_row rfl 23 _ _ rfl (w.heap.size + 1) #[.int .i64 y, .int .i64 m, .int .i64 d, .int .i64 h, .int .i64 n, .int .i64 s2, .int .i64 z] rfl rfl 23 _ HR.out Tryz.sizeMom rfl (mom_one _ _ _ _ _ _ _) ?_)
          exact bodyPost_ret (v := .tuple #[mom y m d h n s2 z, .bool _]) (res2 Tryz.results64 _ _ (w.heap.size + 1) 23 #[.int .i64 y, .int .i64 m, .int .i64 d, .int .i64 h, .int .i64 n, .int .i64 s2, .int .i64 z] (0, 0) _ rfl (setRow_heap _ _ _ #[.int .i64 y, .int .i64 m, .int .i64 d, .int .i64 h, .int .i64 n, .int .i64 s2, .int .i64 z] _ _ HR.out) Tryz.underlying23 rfl Tryz.sizeMom) rfl ⟨s2, z, by rw [HB.out], below_setRow HE3.out.b (by omega) _, fun _ => ⟨HS2.out, by rw [HT2.out, HZ.out]; exact HZz.out (by first | rfl | trivial)⟩⟩
      · have ek : (kd ps i2 == 3) = false := by rw [beq_eq_false_iff_ne]; exact hk3
        rw [ek]
        have HB : Hid (enB (ps.drop i) = ((i2 : Int) == (ps.length : Int))) := Lib.hid (by
          rw [HT1.out]
          unfold znBL znCL
          rw [if_neg (show ¬ hdK (ps.drop i2) = 3 from hk3), if_neg (fun e => e.elim HK1.out hk3), Bool.true_and]
          exact empty_drop ps i2 hl2)
        have HZ : Hid (znZL (ps.drop i2) 0 = 0) := Lib.hid (by unfold znZL; rw [if_neg (show ¬ hdK (ps.drop i2) = 1 from HK1.out), if_neg (show ¬ hdK (ps.drop i2) = 3 from hk3)])
        have HR := Lib.hid HE.out.r
        clear hk3 ek
        have HVV : Hid (∃ a cp, v = .slice a ps.length cp) := Lib.hid (by
          rcases HV.out with ⟨e1, e2⟩ | ⟨g, cap, e, _⟩
          · exact ⟨none, 0, by rw [e2, e1]; rfl⟩
          · exact ⟨_, _, e⟩)
        obtain ⟨ga, cp, hv⟩ := HVV.out
        subst hv
        go_wp2_with (refine wpList_store_row rfl 23 _ _ rfl (w.heap.size + 1) #[.int .i64 y, .int .i64 m, .int .i64 d, .int .i64 h, .int .i64 n, .int .i64 s2, .int .i64 0] rfl rfl 23 _ HR.out Tryz.sizeMom rfl (mom_one _ _ _ _ _ _ _) ?_)
        exact bodyPost_ret (v := .tuple #[mom y m d h n s2 0, .bool _]) (res2 Tryz.results64 _ _ (w.heap.size + 1) 23 #[.int .i64 y, .int .i64 m, .int .i64 d, .int .i64 h, .int .i64 n, .int .i64 s2, .int .i64 0] (0, 0) _ rfl (setRow_heap _ _ _ #[.int .i64 y, .int .i64 m, .int .i64 d, .int .i64 h, .int .i64 n, .int .i64 s2, .int .i64 0] _ _ HR.out) Tryz.underlying23 rfl Tryz.sizeMom) rfl ⟨s2, 0, by rw [HB.out], below_setRow HE.out.b (by omega) _, fun _ => ⟨HS2.out, by rw [HT2.out, HZ.out]⟩⟩

end Go.Proofs.YtckdmbeokajdjaaGreatDoor
