/- The document's ReadHeader: said (written by h2mgen.py). -/
import Derived.Test.YtckdmbeokajdjaaGreatDoorH2l
namespace Go.Proofs.YtckdmbeokajdjaaGreatDoor
open Go.RowKit

/-- A zero moment at a block, another one at a later block. -/
structure SdM (H M : Nat) (y m d h n s z : Int) (w0 X : World) : Prop where
  a : X.heap[M]? = some (.cells #[.int .i64 y, .int .i64 m, .int .i64 d, .int .i64 h, .int .i64 n, .int .i64 s, .int .i64 z] 23 (0, 0))
  r : X.heap[H]? = some (.cells #[.int .i64 0, .int .i64 0, .int .i64 0, .int .i64 0, .int .i64 0, .int .i64 0, .int .i64 0] 23 (0, 0))
  b : Below H w0 X
  lt : H < M
theorem SdM.on {H M : Nat} {y m d h n s z : Int} {w0 X X' : World} (k : SdM H M y m d h n s z w0 X) (hb : Below X.heap.size X X') : SdM H M y m d h n s z w0 X' := by
  have l1 := (Array.getElem?_eq_some_iff.1 k.a).1
  have l2 := (Array.getElem?_eq_some_iff.1 k.r).1
  exact ⟨by rw [hb.block _ l1]; exact k.a, by rw [hb.block _ l2]; exact k.r, k.b.trans (hb.mono (by omega)), k.lt⟩
theorem SdM.cells {H M : Nat} {y m d h n s z : Int} {w0 X : World} (k : SdM H M y m d h n s z w0 X) : Cells7 M y m d h n s z X :=
  ⟨cell_of_row X M 0 _ _ _ k.a, cell_of_row X M 1 _ _ _ k.a, cell_of_row X M 2 _ _ _ k.a, cell_of_row X M 3 _ _ _ k.a, cell_of_row X M 4 _ _ _ k.a, cell_of_row X M 5 _ _ _ k.a, cell_of_row X M 6 _ _ _ k.a⟩
theorem SdM.free {H M : Nat} {y m d h n s z : Int} {w0 X : World} (k : SdM H M y m d h n s z w0 X) (i : Nat) : X.frozen? ⟨M, i, none⟩ = false := frozen_of_row X _ i _ _ k.a
theorem SdM.put {H M : Nat} {y m d h n s z : Int} (y' m' d' h' n' s' z' : Int) {w0 X : World} (k : SdM H M y m d h n s z w0 X) (i : Nat) (v : Value)
    (e : (#[.int .i64 y, .int .i64 m, .int .i64 d, .int .i64 h, .int .i64 n, .int .i64 s, .int .i64 z] : Array Value).setIfInBounds i v = #[.int .i64 y', .int .i64 m', .int .i64 d', .int .i64 h', .int .i64 n', .int .i64 s', .int .i64 z']) : SdM H M y' m' d' h' n' s' z' w0 (X.setCell ⟨M, i, none⟩ v) := by
  have := k.lt
  refine ⟨?_, ?_, k.b.setCell (p := ⟨M, i, none⟩) (by show H ≤ M; omega) v, k.lt⟩
  · rw [heap_setCell_same X M i _ 23 v k.a, e]
  · rw [Below.heap_setCell _ _ _ _ (by show H ≠ M; omega)]; exact k.r
theorem SdM.new {H : Nat} {w0 X : World} (hr : X.heap[H]? = some (.cells #[.int .i64 0, .int .i64 0, .int .i64 0, .int .i64 0, .int .i64 0, .int .i64 0, .int .i64 0] 23 (0, 0))) (hb : Below H w0 X) : SdM H X.heap.size 0 0 0 0 0 0 0 w0 (X.alloc (.cells #[.int .i64 0, .int .i64 0, .int .i64 0, .int .i64 0, .int .i64 0, .int .i64 0, .int .i64 0] 23)) := by
  have l := (Array.getElem?_eq_some_iff.1 hr).1
  exact ⟨heap_alloc_new _ _, by rw [Below.heap_alloc _ _ _ l]; exact hr, hb.alloc (by omega) _, l⟩
/-- What said answers. -/
def SdOut (ps : List Pc) (w0 : World) (e : Ending) (w : World) : Prop :=
  ∃ y m d h n s z, e = .returned (.tuple #[mom y m d h n s z, .bool (sdB ps)]) ∧ Below w0.heap.size w0 w ∧ (sdB ps = true →
    y = fyI (tkL (ps.drop (wkI ps + 2)) 2).1.1 ∧ m = monI (tx ps (wkI ps + 1)) ∧ d = (shL (ps.drop (wkI ps)) 99).1.1 ∧ h = (shL (ps.drop (wkI ps + 3)) 23).1.1 ∧ n = (shL (ps.drop (wkI ps + 5)) 59).1.1 ∧ s = enS (ps.drop (wkI ps + 6)) ∧ z = enZ (ps.drop (wkI ps + 6)))
theorem dcB_at (ps : List Pc) (i : Nat) : dcB (ps.drop i) = ((shL (ps.drop i) 99).1.2 && (kd ps (i + 1) == 1) && (monI (tx ps (i + 1)) != 0) && fyB (tkL (ps.drop (i + 2)) 2).1.1 && (shL (ps.drop (i + 3)) 23).1.2 && (shL (ps.drop (i + 5)) 59).1.2 && (kd ps (i + 4) == 5)) := by
  unfold dcB kd tx
  rw [List.drop_drop, List.drop_drop, List.drop_drop, List.drop_drop, List.drop_drop]

set_option maxRecDepth 100000 in
set_option maxHeartbeats 8000000 in
theorem rsaid_any (N : Nat) (v : Value) (ps : List Pc) (w : World) (hv : PsAt w v ps) (hg : GdL N ps) (hN : N ≤ 140737488355328) :
    Calls Tryz.prog 36 #[v] w fun e w' => SdOut ps w e w' := by
  have HIs := Lib.hid (fun W (hW : Below w.heap.size w W) i k c hk hc => ris_any N v ps i k c W (hv.on hW) hg hk hc)
  have HSm := Lib.hid (fun W (hW : Below w.heap.size w W) i g => rsmall_any N v ps i g W (hv.on hW) hg)
  have HYr := Lib.hid (fun W (hW : Below w.heap.size w W) i => ryears_any N v ps i W (hv.on hW) hg)
  have HEn := Lib.hid (fun W (hW : Below w.heap.size w W) i y m d h n hi hil => rending_any N v ps i y m d h n W (hv.on hW) hg hN hi hil)
  have HTx : Hid (∀ i, i < ps.length → (tx ps i).length ≤ N) := Lib.hid (fun i hi => by
    obtain ⟨k1, k2, k3⟩ := kd_at ps i hi
    rw [k2]; exact (hg _ k3).2.2.2)
  have HV := Lib.hid hv
  clear hv hg
  have g0 := heap_alloc_new w (.cells #[.int .i64 0, .int .i64 0, .int .i64 0, .int .i64 0, .int .i64 0, .int .i64 0, .int .i64 0] 23)
  have b0 : Below w.heap.size w (w.alloc (.cells #[.int .i64 0, .int .i64 0, .int .i64 0, .int .i64 0, .int .i64 0, .int .i64 0, .int .i64 0] 23)) := (Below.refl _ _).alloc (Nat.le_refl _) _
  have G0 := Lib.hid g0
  have B0 := Lib.hid b0
  clear g0 b0
  go_enter Tryz.func36, Tryz.ntmps36
  go_wp2_with fail
  generalize w.alloc (.cells #[.int .i64 0, .int .i64 0, .int .i64 0, .int .i64 0, .int .i64 0, .int .i64 0, .int .i64 0] 23) = W1 at G0 B0 ⊢
  refine (HIs.out _ B0.out 0 1 97 (by omega) rfl).mono ?_
  rintro e w1 ⟨rfl, hw1⟩
  rw [hw1]; clear hw1 w1
  go_upto_if 17 with fail
  go_cut [4] (fun s4 wx => ∃ i0 : Nat, s4 = .int .i64 (i0 : Int) ∧ i0 = wkI ps ∧ wkR ps = true ∧ wx.heap[w.heap.size]? = some (.cells #[.int .i64 0, .int .i64 0, .int .i64 0, .int .i64 0, .int .i64 0, .int .i64 0, .int .i64 0] 23 (0, 0)) ∧ Below w.heap.size w wx)
  case first =>
    by_cases hk : kd ps 0 = 1
    · have ek : (kd ps 0 == 1) = true := by rw [hk]; rfl
      rw [ek]
      have hh : hdK ps = 1 := hk
      have HWI : Hid (wkI ps = 2) := Lib.hid (by unfold wkI; rw [if_pos hh])
      have HWR : Hid (wkR ps = ((kd ps 1 == 4) && wdB (hdP ps))) := Lib.hid (by unfold wkR; rw [if_pos hh])
      have hlen := kd_len (ps := ps) (i := 0) (by omega)
      have hlenI : (0 : Int) < (ps.length : Int) := by omega
      obtain ⟨gb, cap, hv, ct⟩ := (HV.out.on B0.out).text hlen
      subst hv
      have htl := HTx.out 0 hlen
      have hAm := Lib.hid (fun W => wamong_any (S (tx ps 0)) W (by rw [S_size]; omega))
      rw [L_S] at hAm
      have HWB := Lib.hid (wdI_B (tx ps 0))
      have HTP : Hid (tx ps 0 = hdP ps) := Lib.hid rfl
      have hI1 := Lib.hid (fun W hW => HIs.out W hW 1 4 44 (by omega) rfl)
      clear hk ek hh htl
      cases h4 : (kd ps 1 == 4) with
      | false =>
        rw [h4] at hI1 HWR
        have HBad : Hid (sdB ps = false) := Lib.hid (by unfold sdB; rw [HWR.out]; rfl)
        go_wp2_with (first | (go_at_call 60; refine (hI1.out _ B0.out).mono ?_; rintro e w1 ⟨rfl, hw1⟩; rw [hw1]; clear hw1 w1) | (refine wpList_store_row rfl 23 _ _ rfl w.heap.size #[.int .i64 0, .int .i64 0, .int .i64 0, .int .i64 0, .int .i64 0, .int .i64 0, .int .i64 0] rfl rfl 23 _ G0.out Tryz.sizeMom rfl (mom_one _ _ _ _ _ _ _) ?_))
        exact bodyPost_ret (v := .tuple #[mom 0 0 0 0 0 0 0, .bool false]) (res2 Tryz.results36 _ _ w.heap.size 23 #[.int .i64 0, .int .i64 0, .int .i64 0, .int .i64 0, .int .i64 0, .int .i64 0, .int .i64 0] (0, 0) _ rfl (setRow_heap _ _ _ #[.int .i64 0, .int .i64 0, .int .i64 0, .int .i64 0, .int .i64 0, .int .i64 0, .int .i64 0] _ _ G0.out) Tryz.underlying23 rfl Tryz.sizeMom) rfl ⟨0, 0, 0, 0, 0, 0, 0, by rw [HBad.out], below_setRow B0.out (Nat.le_refl _) _, fun e => by rw [HBad.out] at e; cases e⟩
      | true =>
        rw [h4] at hI1 HWR
        cases hwb : wdB (tx ps 0) with
        | false =>
          rw [hwb] at HWB
          have q0 : (wdI (tx ps 0) == 0) = true := HWB.out
          have HBad : Hid (sdB ps = false) := Lib.hid (by unfold sdB; rw [HWR.out, ← HTP.out, hwb]; rfl)
          generalize wdI (tx ps 0) = wi at *
          go_wp2_with fail
          refine (hI1.out _ B0.out).mono ?_
          rintro e w1 ⟨rfl, hw1⟩
          rw [hw1]; clear hw1 w1
          go_wp2_with fail
          refine (hAm.out _).mono ?_
          rintro e w2 ⟨rfl, hb2⟩
          have G2 : Hid (w2.heap[w.heap.size]? = some (.cells #[.int .i64 0, .int .i64 0, .int .i64 0, .int .i64 0, .int .i64 0, .int .i64 0, .int .i64 0] 23 (0, 0))) := Lib.hid (by rw [hb2.block _ (Array.getElem?_eq_some_iff.1 G0.out).1]; exact G0.out)
          have B2 := Lib.hid (B0.out.trans (hb2.mono B0.out.size))
          clear hb2
          go_wp2_with (refine wpList_store_row rfl 23 _ _ rfl w.heap.size #[.int .i64 0, .int .i64 0, .int .i64 0, .int .i64 0, .int .i64 0, .int .i64 0, .int .i64 0] rfl rfl 23 _ G2.out Tryz.sizeMom rfl (mom_one _ _ _ _ _ _ _) ?_)
          exact bodyPost_ret (v := .tuple #[mom 0 0 0 0 0 0 0, .bool false]) (res2 Tryz.results36 _ _ w.heap.size 23 #[.int .i64 0, .int .i64 0, .int .i64 0, .int .i64 0, .int .i64 0, .int .i64 0, .int .i64 0] (0, 0) _ rfl (setRow_heap _ _ _ #[.int .i64 0, .int .i64 0, .int .i64 0, .int .i64 0, .int .i64 0, .int .i64 0, .int .i64 0] _ _ G2.out) Tryz.underlying23 rfl Tryz.sizeMom) rfl ⟨0, 0, 0, 0, 0, 0, 0, by rw [HBad.out], below_setRow B2.out (Nat.le_refl _) _, fun e => by rw [HBad.out] at e; cases e⟩
        | true =>
          rw [hwb] at HWB
          have q0 : (wdI (tx ps 0) == 0) = false := HWB.out
          have HOk : Hid (wkR ps = true) := Lib.hid (by rw [HWR.out, ← HTP.out, hwb]; rfl)
          generalize wdI (tx ps 0) = wi at *
          go_wp2_with fail
          refine (hI1.out _ B0.out).mono ?_
          rintro e w1 ⟨rfl, hw1⟩
          rw [hw1]; clear hw1 w1
          go_wp2_with fail
          refine (hAm.out _).mono ?_
          rintro e w2 ⟨rfl, hb2⟩
          have G2 : Hid (w2.heap[w.heap.size]? = some (.cells #[.int .i64 0, .int .i64 0, .int .i64 0, .int .i64 0, .int .i64 0, .int .i64 0, .int .i64 0] 23 (0, 0))) := Lib.hid (by rw [hb2.block _ (Array.getElem?_eq_some_iff.1 G0.out).1]; exact G0.out)
          have B2 := Lib.hid (B0.out.trans (hb2.mono B0.out.size))
          clear hb2
          go_wp2_with fail
          go_meet
          exact ⟨2, rfl, HWI.out.symm, HOk.out, G2.out, B2.out⟩
    · have ek : (kd ps 0 == 1) = false := by rw [beq_eq_false_iff_ne]; exact hk
      rw [ek]
      have hh : ¬ hdK ps = 1 := hk
      have HWI : Hid (wkI ps = 0) := Lib.hid (by unfold wkI; rw [if_neg hh])
      have HWR : Hid (wkR ps = true) := Lib.hid (by unfold wkR; rw [if_neg hh])
      clear hk ek hh
      go_wp2
      go_meet
      exact ⟨0, rfl, HWI.out.symm, HWR.out, G0.out, B0.out⟩
  case rest =>
    clear G0 B0
    obtain ⟨i0, rfl, hi0, hwr, hg1, hb1⟩ := hcut
    have hi02 : i0 ≤ 2 := by rw [hi0]; unfold wkI; split <;> omega
    have S0 := Lib.hid (SdM.new hg1 hb1)
    have HW0 := Lib.hid hi0
    have HWR := Lib.hid hwr
    clear hg1 hb1 hwr hi0
    have HSD : Hid (sdB ps = (dcB (ps.drop i0) && enB (ps.drop (i0 + 6)))) := Lib.hid (by unfold sdB; rw [HWR.out, HW0.out, Bool.true_and])
    have HDC := Lib.hid (dcB_at ps i0)
    obtain ⟨dv, hdv⟩ : ∃ x, x = (shL (ps.drop i0) 99).1.1 := ⟨_, rfl⟩
    obtain ⟨db, hdb⟩ : ∃ x, x = (shL (ps.drop i0) 99).1.2 := ⟨_, rfl⟩
    have hS1 := Lib.hid (fun W hW => HSm.out W hW i0 99)
    rw [← hdv, ← hdb] at hS1
    have HDV := Lib.hid hdv
    have HDB := Lib.hid hdb
    clear hdv hdb
    obtain ⟨i1, hi1⟩ : ∃ x, x = i0 + 1 := ⟨_, rfl⟩
    have hi1I : (i0 : Int) + 1 = (i1 : Int) := by omega
    have hI1 := Lib.hid (fun W hW => HIs.out W hW i1 1 97 (by omega) rfl)
    obtain ⟨k1, hk1⟩ : ∃ x, x = (kd ps i1 == 1) := ⟨_, rfl⟩
    rw [← hk1] at hI1
    have HK1 := Lib.hid hk1
    have HI1 := Lib.hid hi1
    clear hk1 hi1
    go_wp2_with fail
    generalize wc.alloc (.cells #[.int .i64 0, .int .i64 0, .int .i64 0, .int .i64 0, .int .i64 0, .int .i64 0, .int .i64 0] 23) = X0 at S0 ⊢
    obtain ⟨M, hM⟩ : ∃ M, M = wc.heap.size := ⟨_, rfl⟩
    rw [← hM] at S0 ⊢
    clear hM
    refine (hS1.out _ S0.out.b).mono ?_
    rintro e w1 ⟨rfl, hw1⟩
    rw [hw1]; clear hw1 w1
    obtain ⟨c0, c1, c2, c3, c4, c5, c6⟩ := S0.out.cells
    have HR0 := Lib.hid S0.out.r
    cases db with
    | false =>
      have HBad : Hid (sdB ps = false) := Lib.hid (by rw [HSD.out, HDC.out, ← HDB.out]; rfl)
      go_wp2_with (refine wpList_store_row rfl 23 _ _ rfl w.heap.size #[.int .i64 0, .int .i64 0, .int .i64 0, .int .i64 0, .int .i64 0, .int .i64 0, .int .i64 0] rfl rfl 23 _ HR0.out Tryz.sizeMom rfl (mom_one _ _ _ _ _ _ _) ?_)
      exact bodyPost_ret (v := .tuple #[mom 0 0 0 0 0 0 0, .bool false]) (res2 Tryz.results36 _ _ w.heap.size 23 #[.int .i64 0, .int .i64 0, .int .i64 0, .int .i64 0, .int .i64 0, .int .i64 0, .int .i64 0] (0, 0) _ rfl (setRow_heap _ _ _ #[.int .i64 0, .int .i64 0, .int .i64 0, .int .i64 0, .int .i64 0, .int .i64 0, .int .i64 0] _ _ HR0.out) Tryz.underlying23 rfl Tryz.sizeMom) rfl ⟨0, 0, 0, 0, 0, 0, 0, by rw [HBad.out], below_setRow S0.out.b (Nat.le_refl _) _, fun e => by rw [HBad.out] at e; cases e⟩
    | true =>
      cases k1 with
      | false =>
        have HBad : Hid (sdB ps = false) := Lib.hid (by rw [HSD.out, HDC.out, ← HDB.out, ← HI1.out, ← HK1.out]; rfl)
        go_wp2_with (first | (go_at_call 60; refine (hI1.out _ S0.out.b).mono ?_; rintro e w1 ⟨rfl, hw1⟩; rw [hw1]; clear hw1 w1) | (refine wpList_store_row rfl 23 _ _ rfl w.heap.size #[.int .i64 0, .int .i64 0, .int .i64 0, .int .i64 0, .int .i64 0, .int .i64 0, .int .i64 0] rfl rfl 23 _ HR0.out Tryz.sizeMom rfl (mom_one _ _ _ _ _ _ _) ?_))
        exact bodyPost_ret (v := .tuple #[mom 0 0 0 0 0 0 0, .bool false]) (res2 Tryz.results36 _ _ w.heap.size 23 #[.int .i64 0, .int .i64 0, .int .i64 0, .int .i64 0, .int .i64 0, .int .i64 0, .int .i64 0] (0, 0) _ rfl (setRow_heap _ _ _ #[.int .i64 0, .int .i64 0, .int .i64 0, .int .i64 0, .int .i64 0, .int .i64 0, .int .i64 0] _ _ HR0.out) Tryz.underlying23 rfl Tryz.sizeMom) rfl ⟨0, 0, 0, 0, 0, 0, 0, by rw [HBad.out], below_setRow S0.out.b (Nat.le_refl _) _, fun e => by rw [HBad.out] at e; cases e⟩
      | true =>
        have hk1' : kd ps i1 = 1 := by have := HK1.out; simpa using this.symm
        have hlen := kd_len (ps := ps) (i := i1) (by omega)
        have hlenI : (i1 : Int) < (ps.length : Int) := by omega
        obtain ⟨gb, cap, hv, ct⟩ := (HV.out.on S0.out.b).text hlen
        subst hv
        have htl := HTx.out i1 hlen
        have hAm := Lib.hid (fun W => among_any (S (tx ps i1)) W (by rw [S_size]; omega))
        rw [L_S] at hAm
        obtain ⟨mv, hmv⟩ : ∃ x, x = monI (tx ps i1) := ⟨_, rfl⟩
        rw [← hmv] at hAm
        have HMV := Lib.hid hmv
        clear hmv htl hk1'
        have f2 := S0.out.free 2
        have S1 := Lib.hid (S0.out.put 0 0 dv 0 0 0 0 2 (.int .i64 dv) (by simp))
        go_upto_region 11 with (go_at_call 60; refine (hI1.out _ S0.out.b).mono ?_; rintro e w1 ⟨rfl, hw1⟩; rw [hw1]; clear hw1 w1)
        clear c0 c1 c2 c3 c4 c5 c6 f2 ct HR0
        generalize X0.setCell ⟨M, 2, none⟩ (.int .i64 dv) = X1 at S1 ⊢
        obtain ⟨gb', cap', hv', ct⟩ := (HV.out.on S1.out.b).text hlen
        obtain ⟨rfl, rfl⟩ : gb = gb' ∧ cap = cap' := by cases hv'; exact ⟨rfl, rfl⟩
        clear hv' S0
        go_wp2_with fail
        refine (hAm.out _).mono ?_
        rintro e w2 ⟨rfl, hb2⟩
        have S2 := Lib.hid (S1.out.on hb2)
        clear hb2 ct S1
        have f1 := S2.out.free 1
        have c1 := S2.out.cells.c1
        have S3 := Lib.hid (S2.out.put 0 mv dv 0 0 0 0 1 (.int .i64 mv) (by simp))
        obtain ⟨i2, hi2⟩ : ∃ x, x = i0 + 2 := ⟨_, rfl⟩
        have hi2I : (i0 : Int) + 2 = (i2 : Int) := by omega
        obtain ⟨i3, hi3⟩ : ∃ x, x = i0 + 3 := ⟨_, rfl⟩
        have hi3I : (i0 : Int) + 3 = (i3 : Int) := by omega
        obtain ⟨i4, hi4⟩ : ∃ x, x = i0 + 4 := ⟨_, rfl⟩
        have hi4I : (i0 : Int) + 4 = (i4 : Int) := by omega
        obtain ⟨i5, hi5⟩ : ∃ x, x = i0 + 5 := ⟨_, rfl⟩
        have hi5I : (i0 : Int) + 5 = (i5 : Int) := by omega
        obtain ⟨i6, hi6⟩ : ∃ x, x = i0 + 6 := ⟨_, rfl⟩
        have hi6I : (i0 : Int) + 6 = (i6 : Int) := by omega
        obtain ⟨yv, hyv⟩ : ∃ x, x = fyI (tkL (ps.drop i2) 2).1.1 := ⟨_, rfl⟩
        obtain ⟨yb, hyb⟩ : ∃ x, x = fyB (tkL (ps.drop i2) 2).1.1 := ⟨_, rfl⟩
        have hY := Lib.hid (fun W hW => HYr.out W hW i2)
        rw [← hyv, ← hyb] at hY
        obtain ⟨hv3, hhv⟩ : ∃ x, x = (shL (ps.drop i3) 23).1.1 := ⟨_, rfl⟩
        obtain ⟨hb3, hhb⟩ : ∃ x, x = (shL (ps.drop i3) 23).1.2 := ⟨_, rfl⟩
        have hH := Lib.hid (fun W hW => HSm.out W hW i3 23)
        rw [← hhv, ← hhb] at hH
        obtain ⟨nv5, hnv⟩ : ∃ x, x = (shL (ps.drop i5) 59).1.1 := ⟨_, rfl⟩
        obtain ⟨nb5, hnb⟩ : ∃ x, x = (shL (ps.drop i5) 59).1.2 := ⟨_, rfl⟩
        have hNn := Lib.hid (fun W hW => HSm.out W hW i5 59)
        rw [← hnv, ← hnb] at hNn
        obtain ⟨k4, hk4⟩ : ∃ x, x = (kd ps i4 == 5) := ⟨_, rfl⟩
        have hI4 := Lib.hid (fun W hW => HIs.out W hW i4 5 58 (by omega) rfl)
        rw [← hk4] at hI4
        have HDD : Hid (dcB (ps.drop i0) = ((mv != 0) && yb && hb3 && nb5 && k4)) := Lib.hid (by
          rw [HDC.out, ← HDB.out, ← HI1.out, ← HK1.out, ← HMV.out, ← hi2, ← hi3, ← hi5, ← hi4, ← hyb, ← hhb, ← hnb, ← hk4]; simp)
        have HVS : Hid (yv = fyI (tkL (ps.drop i2) 2).1.1 ∧ hv3 = (shL (ps.drop i3) 23).1.1 ∧ nv5 = (shL (ps.drop i5) 59).1.1 ∧ i2 = i0 + 2 ∧ i3 = i0 + 3 ∧ i5 = i0 + 5 ∧ i6 = i0 + 6) := Lib.hid ⟨hyv, hhv, hnv, hi2, hi3, hi5, hi6⟩
        have HNB := Lib.hid hnb
        clear hyv hyb hhv hhb hnv hnb hk4 hi2 hi3 hi4 hi5 hi6
        go_upto_region 12 with fail
        generalize w2.setCell ⟨M, 1, none⟩ (.int .i64 mv) = X3 at S3 ⊢
        clear f1 c1 S2
        obtain ⟨c0, c1, c2, c3, c4, c5, c6⟩ := S3.out.cells
        have HR3 := Lib.hid S3.out.r
        go_upto_region 15 with (first | (go_at_call 63; refine (hY.out _ S3.out.b).mono ?_; rintro e w1 ⟨rfl, hw1⟩; rw [hw1]; clear hw1 w1) | (go_at_call 62; first | (with_reducible refine (hH.out _ S3.out.b).mono ?_; rintro e w1 ⟨rfl, hw1⟩; rw [hw1]; clear hw1 w1) | (with_reducible refine (hNn.out _ S3.out.b).mono ?_; rintro e w1 ⟨rfl, hw1⟩; rw [hw1]; clear hw1 w1)))
        by_cases hm0 : mv = 0
        · subst hm0
          have HBad : Hid (sdB ps = false) := Lib.hid (by rw [HSD.out, HDD.out]; rfl)
          go_wp2_with (refine wpList_store_row rfl 23 _ _ rfl w.heap.size #[.int .i64 0, .int .i64 0, .int .i64 dv, .int .i64 0, .int .i64 0, .int .i64 0, .int .i64 0] rfl rfl 23 _ HR3.out Tryz.sizeMom rfl (mom_one _ _ _ _ _ _ _) ?_)
          exact bodyPost_ret (v := .tuple #[mom 0 0 dv 0 0 0 0, .bool false]) (res2 Tryz.results36 _ _ w.heap.size 23 #[.int .i64 0, .int .i64 0, .int .i64 dv, .int .i64 0, .int .i64 0, .int .i64 0, .int .i64 0] (0, 0) _ rfl (setRow_heap _ _ _ #[.int .i64 0, .int .i64 0, .int .i64 dv, .int .i64 0, .int .i64 0, .int .i64 0, .int .i64 0] _ _ HR3.out) Tryz.underlying23 rfl Tryz.sizeMom) rfl ⟨0, 0, dv, 0, 0, 0, 0, by rw [HBad.out], below_setRow S3.out.b (Nat.le_refl _) _, fun e => by rw [HBad.out] at e; cases e⟩
        · have hm0' : (mv == 0) = false := by rw [beq_eq_false_iff_ne]; exact hm0
          have hm0n : (mv != 0) = true := by rw [bne_iff_ne]; exact hm0
          rw [hm0n] at HDD
          clear hm0 hm0n
          cases yb with
          | false =>
            have HBad : Hid (sdB ps = false) := Lib.hid (by rw [HSD.out, HDD.out]; rfl)
            go_wp2_with (refine wpList_store_row rfl 23 _ _ rfl w.heap.size #[.int .i64 0, .int .i64 mv, .int .i64 dv, .int .i64 0, .int .i64 0, .int .i64 0, .int .i64 0] rfl rfl 23 _ HR3.out Tryz.sizeMom rfl (mom_one _ _ _ _ _ _ _) ?_)
            exact bodyPost_ret (v := .tuple #[mom 0 mv dv 0 0 0 0, .bool false]) (res2 Tryz.results36 _ _ w.heap.size 23 #[.int .i64 0, .int .i64 mv, .int .i64 dv, .int .i64 0, .int .i64 0, .int .i64 0, .int .i64 0] (0, 0) _ rfl (setRow_heap _ _ _ #[.int .i64 0, .int .i64 mv, .int .i64 dv, .int .i64 0, .int .i64 0, .int .i64 0, .int .i64 0] _ _ HR3.out) Tryz.underlying23 rfl Tryz.sizeMom) rfl ⟨0, mv, dv, 0, 0, 0, 0, by rw [HBad.out], below_setRow S3.out.b (Nat.le_refl _) _, fun e => by rw [HBad.out] at e; cases e⟩
          | true =>
            cases hb3 with
            | false =>
              have HBad : Hid (sdB ps = false) := Lib.hid (by rw [HSD.out, HDD.out]; rfl)
              go_wp2_with (refine wpList_store_row rfl 23 _ _ rfl w.heap.size #[.int .i64 0, .int .i64 mv, .int .i64 dv, .int .i64 0, .int .i64 0, .int .i64 0, .int .i64 0] rfl rfl 23 _ HR3.out Tryz.sizeMom rfl (mom_one _ _ _ _ _ _ _) ?_)
              exact bodyPost_ret (v := .tuple #[mom 0 mv dv 0 0 0 0, .bool false]) (res2 Tryz.results36 _ _ w.heap.size 23 #[.int .i64 0, .int .i64 mv, .int .i64 dv, .int .i64 0, .int .i64 0, .int .i64 0, .int .i64 0] (0, 0) _ rfl (setRow_heap _ _ _ #[.int .i64 0, .int .i64 mv, .int .i64 dv, .int .i64 0, .int .i64 0, .int .i64 0, .int .i64 0] _ _ HR3.out) Tryz.underlying23 rfl Tryz.sizeMom) rfl ⟨0, mv, dv, 0, 0, 0, 0, by rw [HBad.out], below_setRow S3.out.b (Nat.le_refl _) _, fun e => by rw [HBad.out] at e; cases e⟩
            | true =>
              cases nb5 with
              | false =>
                have HBad : Hid (sdB ps = false) := Lib.hid (by rw [HSD.out, HDD.out]; rfl)
                go_wp2_with (refine wpList_store_row rfl 23 _ _ rfl w.heap.size #[.int .i64 0, .int .i64 mv, .int .i64 dv, .int .i64 0, .int .i64 0, .int .i64 0, .int .i64 0] rfl rfl 23 _ HR3.out Tryz.sizeMom rfl (mom_one _ _ _ _ _ _ _) ?_)
                exact bodyPost_ret (v := .tuple #[mom 0 mv dv 0 0 0 0, .bool false]) (res2 Tryz.results36 _ _ w.heap.size 23 #[.int .i64 0, .int .i64 mv, .int .i64 dv, .int .i64 0, .int .i64 0, .int .i64 0, .int .i64 0] (0, 0) _ rfl (setRow_heap _ _ _ #[.int .i64 0, .int .i64 mv, .int .i64 dv, .int .i64 0, .int .i64 0, .int .i64 0, .int .i64 0] _ _ HR3.out) Tryz.underlying23 rfl Tryz.sizeMom) rfl ⟨0, mv, dv, 0, 0, 0, 0, by rw [HBad.out], below_setRow S3.out.b (Nat.le_refl _) _, fun e => by rw [HBad.out] at e; cases e⟩
              | true =>
                cases k4 with
                | false =>
                  have HBad : Hid (sdB ps = false) := Lib.hid (by rw [HSD.out, HDD.out]; rfl)
                  go_wp2_with (first | (go_at_call 60; refine (hI4.out _ S3.out.b).mono ?_; rintro e w1 ⟨rfl, hw1⟩; rw [hw1]; clear hw1 w1) | (refine wpList_store_row rfl 23 _ _ rfl w.heap.size #[.int .i64 0, .int .i64 mv, .int .i64 dv, .int .i64 0, .int .i64 0, .int .i64 0, .int .i64 0] rfl rfl 23 _ HR3.out Tryz.sizeMom rfl (mom_one _ _ _ _ _ _ _) ?_))
                  exact bodyPost_ret (v := .tuple #[mom 0 mv dv 0 0 0 0, .bool false]) (res2 Tryz.results36 _ _ w.heap.size 23 #[.int .i64 0, .int .i64 mv, .int .i64 dv, .int .i64 0, .int .i64 0, .int .i64 0, .int .i64 0] (0, 0) _ rfl (setRow_heap _ _ _ #[.int .i64 0, .int .i64 mv, .int .i64 dv, .int .i64 0, .int .i64 0, .int .i64 0, .int .i64 0] _ _ HR3.out) Tryz.underlying23 rfl Tryz.sizeMom) rfl ⟨0, mv, dv, 0, 0, 0, 0, by rw [HBad.out], below_setRow S3.out.b (Nat.le_refl _) _, fun e => by rw [HBad.out] at e; cases e⟩
                | true =>
                  have hl6 : i6 ≤ ps.length := by
                    have h5 : kd ps i5 = 2 := by
                      by_cases h5 : hdK (ps.drop i5) = 2
                      · exact h5
                      · have := HNB.out; rw [shL_miss _ _ h5] at this; cases this
                    have := kd_len (ps := ps) (i := i5) (by omega)
                    have := HVS.out.2.2.2.2.2; omega
                  have h6b : i6 ≤ 1000000000000 := by have := HVS.out.2.2.2.2.2.2; omega
                  have HOK : Hid (sdB ps = enB (ps.drop i6)) := Lib.hid (by rw [HSD.out, HDD.out, HVS.out.2.2.2.2.2.2]; rfl)
                  have hEn := Lib.hid (fun W hW => HEn.out W hW i6 yv mv dv hv3 nv5 hl6 h6b)
                  have S4 := Lib.hid (S3.out.put yv mv dv 0 0 0 0 0 (.int .i64 yv) (by simp))
                  have S5 := Lib.hid (S4.out.put yv mv dv hv3 0 0 0 3 (.int .i64 hv3) (by simp))
                  have S6 := Lib.hid (S5.out.put yv mv dv hv3 nv5 0 0 4 (.int .i64 nv5) (by simp))
                  have f0 := S3.out.free 0
                  have f3 := S3.out.free 3
                  have f4 := S3.out.free 4
                  go_upto_region 20 with (go_at_call 60; refine (hI4.out _ S3.out.b).mono ?_; rintro e w1 ⟨rfl, hw1⟩; rw [hw1]; clear hw1 w1)
                  generalize ((X3.setCell ⟨M, 0, none⟩ (.int .i64 yv)).setCell ⟨M, 3, none⟩ (.int .i64 hv3)).setCell ⟨M, 4, none⟩ (.int .i64 nv5) = X6 at S6 ⊢
                  clear c0 c1 c2 c3 c4 c5 c6 f0 f3 f4 HR3 S3 S4 S5
                  obtain ⟨c0, c1, c2, c3, c4, c5, c6⟩ := S6.out.cells
                  unfold mom at hEn
                  go_wp2_with fail
                  refine (hEn.out _ S6.out.b).mono ?_
                  rintro e w7 ⟨sv, zv, rfl, hb7, hval⟩
                  have S7' := Lib.hid (S6.out.on hb7)
                  have HVL := Lib.hid hval
                  clear hval hb7 c0 c1 c2 c3 c4 c5 c6 S6
                  unfold mom
                  have GA := Lib.hid (heap_alloc_new w7 (.cells #[.int .i64 0, .int .i64 0, .int .i64 0, .int .i64 0, .int .i64 0, .int .i64 0, .int .i64 0] 23))
                  have SA := Lib.hid (S7'.out.on ((Below.refl w7.heap.size w7).alloc (Nat.le_refl _) (.cells #[.int .i64 0, .int .i64 0, .int .i64 0, .int .i64 0, .int .i64 0, .int .i64 0, .int .i64 0] 23)))
                  have l7 := (Array.getElem?_eq_some_iff.1 S7'.out.r).1
                  go_upto_region 21 with (refine wpList_store_row rfl 23 _ _ rfl w7.heap.size #[.int .i64 yv, .int .i64 mv, .int .i64 dv, .int .i64 hv3, .int .i64 nv5, .int .i64 sv, .int .i64 zv] rfl rfl 23 _ GA.out Tryz.sizeMom rfl (mom_one _ _ _ _ _ _ _) ?_)
                  have CR := Lib.hid (setRow_heap _ _ _ #[.int .i64 yv, .int .i64 mv, .int .i64 dv, .int .i64 hv3, .int .i64 nv5, .int .i64 sv, .int .i64 zv] _ _ GA.out)
                  have RR : Hid (((w7.alloc (.cells #[.int .i64 0, .int .i64 0, .int .i64 0, .int .i64 0, .int .i64 0, .int .i64 0, .int .i64 0] 23)).setRow w7.heap.size #[.int .i64 yv, .int .i64 mv, .int .i64 dv, .int .i64 hv3, .int .i64 nv5, .int .i64 sv, .int .i64 zv]).heap[w.heap.size]? = some (.cells #[.int .i64 0, .int .i64 0, .int .i64 0, .int .i64 0, .int .i64 0, .int .i64 0, .int .i64 0] 23 (0, 0))) := Lib.hid (by rw [setRow_other _ _ _ _ (by omega)]; exact SA.out.r)
                  have BR := Lib.hid (below_setRow SA.out.b (g := w7.heap.size) (by omega) #[.int .i64 yv, .int .i64 mv, .int .i64 dv, .int .i64 hv3, .int .i64 nv5, .int .i64 sv, .int .i64 zv])
                  generalize (w7.alloc (.cells #[.int .i64 0, .int .i64 0, .int .i64 0, .int .i64 0, .int .i64 0, .int .i64 0, .int .i64 0] 23)).setRow w7.heap.size #[.int .i64 yv, .int .i64 mv, .int .i64 dv, .int .i64 hv3, .int .i64 nv5, .int .i64 sv, .int .i64 zv] = X8 at CR RR BR ⊢
                  obtain ⟨M8, hM8⟩ : ∃ x, x = w7.heap.size := ⟨_, rfl⟩
                  rw [← hM8] at CR ⊢
                  clear hM8 GA SA l7 S7'
                  have c0 := cell_of_row X8 M8 0 _ _ _ CR.out
                  have c1 := cell_of_row X8 M8 1 _ _ _ CR.out
                  have c2 := cell_of_row X8 M8 2 _ _ _ CR.out
                  have c3 := cell_of_row X8 M8 3 _ _ _ CR.out
                  have c4 := cell_of_row X8 M8 4 _ _ _ CR.out
                  have c5 := cell_of_row X8 M8 5 _ _ _ CR.out
                  have c6 := cell_of_row X8 M8 6 _ _ _ CR.out
                  simp only [List.getElem?_toArray, List.getElem?_cons_zero, List.getElem?_cons_succ] at c0 c1 c2 c3 c4 c5 c6
                  go_wp2_with (refine wpList_store_row rfl 23 _ _ rfl w.heap.size #[.int .i64 yv, .int .i64 mv, .int .i64 dv, .int .i64 hv3, .int .i64 nv5, .int .i64 sv, .int .i64 zv] rfl rfl 23 _ RR.out Tryz.sizeMom rfl (mom_one _ _ _ _ _ _ _) ?_)
                  exact bodyPost_ret (v := .tuple #[mom yv mv dv hv3 nv5 sv zv, .bool _]) (res2 Tryz.results36 _ _ w.heap.size 23 #[.int .i64 yv, .int .i64 mv, .int .i64 dv, .int .i64 hv3, .int .i64 nv5, .int .i64 sv, .int .i64 zv] (0, 0) _ rfl (setRow_heap _ _ _ #[.int .i64 yv, .int .i64 mv, .int .i64 dv, .int .i64 hv3, .int .i64 nv5, .int .i64 sv, .int .i64 zv] _ _ RR.out) Tryz.underlying23 rfl Tryz.sizeMom) rfl ⟨yv, mv, dv, hv3, nv5, sv, zv, by rw [HOK.out], below_setRow BR.out (Nat.le_refl _) _, fun e => by rw [HOK.out] at e; have hz := HVL.out e; obtain ⟨h1, h2, h3, h4, h5, h6, h7⟩ := HVS.out; rw [← HW0.out, ← h4, ← h5, ← h6, ← h7, ← HI1.out]; exact ⟨h1, HMV.out, HDV.out, h2, h3, hz.1, hz.2⟩⟩

end Go.Proofs.YtckdmbeokajdjaaGreatDoor
