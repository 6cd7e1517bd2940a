/- mirror: Sight of two rows; fetch. -/
import Derived.Test.YtlmlbcnjohjnlaaDoorM19p
import Derived.Test.YtlmlbcnjohjnlaaDoorM19o
namespace Go.Proofs.YtlmlbcnjohjnlaaDoor
open Go.RowKit

set_option maxRecDepth 20000 in
set_option maxHeartbeats 2000000 in
theorem Sight_two (P : Nat) (q : Value) (v n h : Int) (gr rc : Nat) (was : Value) (bg : Bool) (w : World) (hM : w.heap[P]? = some (mirO q true v n h (.slice (some ⟨gr, 0, none⟩) 2 rc) was bg)) (hR : w.heap[gr]? = some rw2) :
    Calls Tryd.prog 12 #[.pointer (some ⟨P, 0, none⟩)] w (SightTwo v n h w) := by
  obtain ⟨Y0, hY0⟩ : ∃ Y, w.alloc (.cells #[.bool false, .int .i64 0, .int .i64 0, .int .i64 0, .slice none 0 0, .slice none 0 0, .slice none 0 0] 47) = Y := ⟨_, rfl⟩
  have b0 : Below w.heap.size w Y0 := by rw [← hY0]; exact (Below.refl _ _).alloc (Nat.le_refl _) _
  have rS : Y0.heap[w.heap.size]? = some (.cells #[.bool false, .int .i64 0, .int .i64 0, .int .i64 0, .slice none 0 0, .slice none 0 0, .slice none 0 0] 47 (0, 0)) := by rw [← hY0]; exact heap_new _ _
  have HS := Lib.hid (sight_two P q v n h gr rc was bg Y0 (bel_at b0 (lt_of_heap hM) hM) (bel_at b0 (lt_of_heap hR) hR))
  have HF : Hid (∀ X, Below Y0.heap.size Y0 X → X.heap[w.heap.size]? = some (.cells #[.bool false, .int .i64 0, .int .i64 0, .int .i64 0, .slice none 0 0, .slice none 0 0, .slice none 0 0] 47 (0, 0)) ∧ Below w.heap.size w X) := Lib.hid (fun X hX => ⟨bel_at hX (lt_of_heap rS) rS, b0.trans (hX.mono b0.size)⟩)
  have HY := Lib.hid hY0
  clear hY0 b0 rS hM hR
  go_enter Tryd.func12, Tryd.ntmps12
  go_upto_region 3 with fail
  rw [HY.out]
  clear HY
  go_wp2_with (first | (go_at_call 26; refine HS.out.mono ?_; rintro e w2 ⟨us, fl, kn, rfl, hb2, hru, hrf, hrk⟩; obtain ⟨uA, uC, hus⟩ := ownsRow_shape hru; obtain ⟨fa, fc, hfl⟩ := ownsRow_shape hrf; obtain ⟨kA, kC, hkn⟩ := ownsRow_shape hrk; subst hus hfl hkn; have HB2 := Lib.hid hb2; have HRW := Lib.hid (And.intro hru (And.intro hrf hrk)); have H1 : Hid ((siC true v n h (.slice uA 2 uC) (.slice fa 2 fc) (.slice kA 2 kC)).all (·.oneCell') = true) := Lib.hid (by simp [siC, Value.oneCell']); clear hb2 hru hrf hrk) | (refine wpList_store_row rfl 47 _ _ rfl w.heap.size (siC true v n h (.slice uA 2 uC) (.slice fa 2 fc) (.slice kA 2 kC)) rfl rfl 47 _ (HF.out _ HB2.out).1 Tryd.sizeSi rfl H1.out ?_))
  refine bodyPost_ret (v := .agg (siC true v n h (.slice uA 2 uC) (.slice fa 2 fc) (.slice kA 2 kC))) (results_cell_row Tryd.results12 _ _ w.heap.size 47 (siC true v n h (.slice uA 2 uC) (.slice fa 2 fc) (.slice kA 2 kC)) (0, 0) _ rfl (setRow_heap _ _ _ _ _ _ (HF.out _ HB2.out).1) Tryd.underlying47 rfl Tryd.sizeSi) rfl ?_
  have bw := (HF.out _ HB2.out).2
  have rS := (HF.out _ HB2.out).1
  obtain ⟨h1, h2, h3⟩ := HRW.out
  have so : ∀ c, c ≠ w.heap.size → (w2.setRow w.heap.size (siC true v n h (.slice uA 2 uC) (.slice fa 2 fc) (.slice kA 2 kC))).heap[c]? = w2.heap[c]? := fun c hc => setRow_other _ _ _ _ hc
  exact ⟨_, _, _, rfl, ⟨bw.os, bw.tape, bw.output, by simpa [World.setRow] using bw.size, fun b hb => by rw [so b (by omega)]; exact bw.block b hb⟩, ownsRow_same h1 (fun c e => so c (sg_ne h1 e rS (by decide))), ownsRow_same h2 (fun c e => so c (sg_ne h2 e rS (by decide))), ownsRow_same h3 (fun c e => so c (sg_ne h3 e rS (by decide)))⟩
theorem Tryd.infoIt : (Tryd.prog.info? 95).map (fun i => (i.zero, i.size, i.bytes)) = some (some (.agg #[.int .i64 0, .bool false, .string ⟨#[]⟩, .int .i64 0, .slice none 0 0, .bool false, .int .i64 0, .int .i64 0]), 8, 88) := by kernel_rfl
/-- Items of kinds. -/
def itL (ks : List Int) : List Value := ks.flatMap (fun x => (#[.int .i64 x, .bool false, .string ⟨#[]⟩, .int .i64 0, .slice none 0 0, .bool false, .int .i64 0, .int .i64 0] : Array Value).toList)
/-- A command with some items. -/
structure FT (b : Nat) (ks : List Int) (set items : Value) (Y X : World) : Prop where
  obj : X.heap[b]? = some (.cells (cmC ⟨#[]⟩ 21 false set items) 38 (0, 0))
  row : X.ownsRow 0 95 8 items ks.length (itL ks)
  lo : ∀ g, items.ownBlock = some g → b < g
  bel : Below b Y X
theorem FT.add {b : Nat} {ks : List Int} {set items : Value} {Y X : World} (h : FT b ks set items Y X) (x : Int) (hk : ks.length ≤ 2) :
    ∃ a c W1, (Builtin.append_ #[26, 26] 26 #[items, .slice (some ⟨X.heap.size, 0, none⟩) 1 1]).run Tryd.prog (X.alloc (.cells #[.int .i64 x, .bool false, .string ⟨#[]⟩, .int .i64 0, .slice none 0 0, .bool false, .int .i64 0, .int .i64 0] 95)) = .ok (.slice a (ks.length + 1) c) W1 ∧ W1.heap[b]? = some (.cells (cmC ⟨#[]⟩ 21 false set items) 38 (0, 0)) ∧ FT b (ks ++ [x]) set (.slice a (ks.length + 1) c) Y (W1.setCell ⟨b, 10, none⟩ (.slice a (ks.length + 1) c)) := by
  have hr := h.row
  obtain ⟨a, c, W1, hrun, hrow, hg, hown⟩ := row_app (P := Tryd.prog) 26 95 (.agg #[.int .i64 0, .bool false, .string ⟨#[]⟩, .int .i64 0, .slice none 0 0, .bool false, .int .i64 0, .int .i64 0]) 8 88 Tryd.underlying26 Tryd.infoIt rfl (by decide) hr #[.int .i64 x, .bool false, .string ⟨#[]⟩, .int .i64 0, .slice none 0 0, .bool false, .int .i64 0, .int .i64 0] rfl (by intro y hy; simp at hy; rcases hy with rfl | rfl | rfl | rfl | rfl | rfl | rfl <;> rfl) (by omega) (by omega)
  have hbl := lt_of_heap h.obj
  have hs1 : W1.heap[b]? = some (.cells (cmC ⟨#[]⟩ 21 false set items) 38 (0, 0)) := by
    rw [hg.block b hbl (fun e => by have := h.lo b e.symm; omega)]
    exact h.obj
  have hset : ∀ g', g' ≠ b → (W1.setCell ⟨b, 10, none⟩ (.slice a (ks.length + 1) c)).heap[g']? = W1.heap[g']? := fun g' hb => Below.heap_setCell _ _ _ _ hb
  have hlo : ∀ g, (Value.slice a (ks.length + 1) c).ownBlock = some g → b < g := fun q e => by
    rcases hown q e with e' | e'
    · exact h.lo q e'
    · omega
  refine ⟨a, c, W1, hrun, hs1, ?_, ?_, hlo, ?_⟩
  · unfold cmC at hs1
    rw [heap_setCell_at _ hs1]
    rfl
  · have e1 : itL (ks ++ [x]) = itL ks ++ (#[.int .i64 x, .bool false, .string ⟨#[]⟩, .int .i64 0, .slice none 0 0, .bool false, .int .i64 0, .int .i64 0] : Array Value).toList := by simp [itL]
    rw [e1, List.length_append]
    exact ownsRow_same hrow (fun q e => hset q (by have := hlo q e; omega))
  · refine h.bel.trans ⟨hg.os, hg.tape, hg.output, by have := hg.size; simpa [World.setCell] using this, fun q hq => ?_⟩
    rw [hset q (by omega)]
    exact hg.block q (by omega) (fun e' => by have := h.lo q e'.symm; omega)
theorem cm_range {X : World} {b : Nat} {set items : Value} (h : X.heap[b]? = some (.cells (cmC ⟨#[]⟩ 21 false set items) 38 (0, 0))) : X.rangeAt b 0 (cmC ⟨#[]⟩ 21 false set items).toList := by
  intro j u hj
  rw [Nat.zero_add, cell_of h]
  simpa using hj
def cmZ : Array Value := cmC ⟨#[]⟩ 0 false (.slice none 0 0) (.slice none 0 0)
/-- A FETCH of all, with items of these kinds, in new memory. -/
def FetchOut (ks : List Int) (w : World) (e : Ending) (w' : World) : Prop := ∃ gs ia ic, e = .returned (.agg (cmC ⟨#[]⟩ 21 false (.slice (some ⟨gs, 0, none⟩) 1 1) (.slice ia ks.length ic))) ∧ Below w.heap.size w w' ∧ w.heap.size ≤ gs ∧ w'.heap[gs]? = some (.cells #[.int .i64 1, .int .i64 0] 91 (0, 0)) ∧ w'.ownsRow 0 95 8 (.slice ia ks.length ic) ks.length (itL ks) ∧ ∀ g, (Value.slice ia ks.length ic).ownBlock = some g → w.heap.size ≤ g
set_option maxRecDepth 20000 in
set_option maxHeartbeats 4000000 in
theorem fetch_any (ks : List Int) (hks : ks.length ≤ 2) (gk : Nat) (w : World) (hg : ∀ j, j < ks.length → w.cell? ⟨gk, j, none⟩ = some (.int .i64 (ks.getD j 0))) (hgl : gk < w.heap.size) :
    Calls Tryd.prog 22 #[.slice (some ⟨gk, 0, none⟩) ks.length ks.length] w (FetchOut ks w) := by
  obtain ⟨Y0, hY0⟩ : ∃ Y, w.alloc (.cells cmZ 38) = Y := ⟨_, rfl⟩
  have b0 : Below w.heap.size w Y0 := by rw [← hY0]; exact (Below.refl _ _).alloc (Nat.le_refl _) _
  have rS : Y0.heap[w.heap.size]? = some (.cells cmZ 38 (0, 0)) := by rw [← hY0]; exact heap_new _ _
  obtain ⟨Y1, hY1⟩ : ∃ Y, Y0.alloc (.cells #[.int .i64 1, .int .i64 0] 91) = Y := ⟨_, rfl⟩
  have b1 : Below Y0.heap.size Y0 Y1 := by rw [← hY1]; exact (Below.refl _ _).alloc (Nat.le_refl _) _
  have z1 : Y1.heap.size = Y0.heap.size + 1 := by rw [← hY1]; simp
  have rG : Y1.heap[Y0.heap.size]? = some (.cells #[.int .i64 1, .int .i64 0] 91 (0, 0)) := by rw [← hY1]; exact heap_new _ _
  obtain ⟨set, hset⟩ : ∃ s : Value, s = .slice (some ⟨Y0.heap.size, 0, none⟩) 1 1 := ⟨_, rfl⟩
  obtain ⟨Y2, hY2⟩ : ∃ Y, (Y1.alloc (.cells cmZ 38)).setRow Y1.heap.size (cmC ⟨#[]⟩ 21 false set (.slice none 0 0)) = Y := ⟨_, rfl⟩
  obtain ⟨b2, r2⟩ := box_below hY2
  have hst : FT Y1.heap.size (ks.take 0) set (.slice none 0 0) Y2 Y2 := ⟨r2, World.ownsRow_nil _ _ _ _, fun g e => (by cases e), Below.refl _ _⟩
  have wl : w.heap.size < Y0.heap.size := lt_of_heap rS
  have HR1 : Hid (∀ X, Below Y1.heap.size Y2 X → (∀ j, j < ks.length → X.cell? ⟨gk, j, none⟩ = some (.int .i64 (ks.getD j 0))) ∧ X.heap[w.heap.size]? = some (.cells cmZ 38 (0, 0)) ∧ X.heap[Y0.heap.size]? = some (.cells #[.int .i64 1, .int .i64 0] 91 (0, 0)) ∧ Below w.heap.size w X) := Lib.hid (fun X hX => by
    have q := b1.trans ((b2.trans hX).mono b1.size)
    have qw := b0.trans (q.mono b0.size)
    exact ⟨fun j hj => by rw [qw.cell (p := ⟨gk, j, none⟩) hgl]; exact hg j hj, bel_at q wl rS, bel_at (b2.trans hX) (lt_of_heap rG) rG, qw⟩)
  have H1 : Hid (∀ s1 s2 s3 a c m, (cmC ⟨#[]⟩ 21 false (.slice s1 s2 s3) (.slice a m c)).all (·.oneCell') = true) := Lib.hid (fun s1 s2 s3 a c m => by simp [cmC, Value.oneCell'])
  have HNw : Hid (((Y0.alloc (.cells #[.int .i64 1, .int .i64 0] 91)).alloc (.cells cmZ 38)).heap[Y0.heap.size + 1]? = some (.cells cmZ 38 (0, 0))) := Lib.hid (by rw [hY1, ← z1]; exact heap_new _ _)
  have HO : Hid ((cmC ⟨#[]⟩ 21 false (.slice (some ⟨Y0.heap.size, 0, none⟩) 1 1) (.slice none 0 0)).all (·.oneCell') = true) := Lib.hid (H1.out _ _ _ _ _ _)
  have HY0 := Lib.hid hY0
  have HY2 : Hid (((Y0.alloc (.cells #[.int .i64 1, .int .i64 0] 91)).alloc (.cells cmZ 38)).setRow (Y0.heap.size + 1) (cmC ⟨#[]⟩ 21 false (.slice (some ⟨Y0.heap.size, 0, none⟩) 1 1) (.slice none 0 0)) = Y2) := Lib.hid (by rw [hY1, ← z1, ← hset]; exact hY2)
  have HSET := Lib.hid hset
  rw [z1] at hst
  have HST := Lib.hid hst
  have HZ : Hid (w.heap.size < Y0.heap.size) := Lib.hid (by omega)
  have HK := Lib.hid hks
  rw [z1] at HR1
  clear hY0 hY1 hY2 b0 b1 b2 r2 rS z1 hst wl hg hset hks hgl rG
  unfold cmZ cmC at HY0
  go_enter Tryd.func22, Tryd.ntmps22
  go_upto_region 1 with fail
  rw [HY0.out]
  go_upto_region 2 with (first | (refine wpList_store_row rfl 38 _ _ rfl (Y0.heap.size + 1) (cmC ⟨#[]⟩ 21 false (.slice (some ⟨Y0.heap.size, 0, none⟩) 1 1) (.slice none 0 0)) rfl rfl 38 _ HNw.out Tryd.sizeCm rfl HO.out ?_))
  unfold cmZ cmC at HY2
  unfold cmC
  rw [HY2.out]
  clear HY2 HNw HO HY0
  go_wp2_with fail
  go_loopw [11] (fun i wr => ∃ (j : Nat) (items : Value) (X : World), X = wr ∧ i = .int .i64 j ∧ j ≤ ks.length ∧ FT (Y0.heap.size + 1) (ks.take j) set items Y2 X) (fun i _ => ks.length - (intOf i).toNat)
  case atStart => exact ⟨0, _, Y2, rfl, rfl, by omega, HST.out⟩
  case round =>
    obtain ⟨j, items, X, rfl, rfl, hj, hG⟩ := hrel
    have HG := Lib.hid hG
    clear hG
    by_cases hlt : j < ks.length
    · have hlti : (j : Int) < (ks.length : Int) := by omega
      have hjb : (ks.length : Int) ≤ 140737488355328 := by have := HK.out; omega
      have d0 := (HR1.out _ HG.out.bel).1 j hlt
      have hkn : ks.take (j + 1) = ks.take j ++ [ks.getD j 0] := by rw [List.take_succ_eq_append_getElem hlt]; simp [List.getD, List.getElem?_eq_getElem hlt]
      obtain ⟨x, hx⟩ : ∃ x, ks.getD j 0 = x := ⟨_, rfl⟩
      rw [hx] at d0 hkn
      obtain ⟨ia, ic, W1, hrun, hob, hF⟩ := HG.out.add x (by rw [List.length_take]; have := HK.out; omega)
      have hlj : (ks.take j).length = j := by rw [List.length_take]; omega
      rw [hlj] at hrun hF
      rw [← hkn] at hF
      obtain ⟨X2, hX2⟩ : ∃ X2, W1.setCell ⟨Y0.heap.size + 1, 10, none⟩ (.slice ia (j + 1) ic) = X2 := ⟨_, rfl⟩
      rw [hX2] at hF
      obtain ⟨iA, iC, hit⟩ := ownsRow_shape HG.out.row
      rw [hlj] at hit
      subst hit
      have ob := HG.out.obj
      unfold cmC at ob hob
      have c10 : X.cell? ⟨Y0.heap.size + 1, 10, none⟩ = some (.slice iA j iC) := cell_of ob 10
      have c10w : W1.cell? ⟨Y0.heap.size + 1, 10, none⟩ = some (.slice iA j iC) := cell_of hob 10
      have f10w : W1.frozen? ⟨Y0.heap.size + 1, 10, none⟩ = false := frozen_of hob 10
      have HRn := Lib.hid hrun
      have HF := Lib.hid hF
      have HX2 := Lib.hid hX2
      clear hrun hF hX2 ob hob hkn hx hlj
      go_wp2_with (first | (refine append_by_run rfl _ _ _ rfl _ rfl _ _ rfl rfl _ _ HRn.out ?_))
      (try rw [HX2.out])
      go_roundw
      case rel => exact ⟨j + 1, _, _, rfl, by go_num, by omega, HF.out⟩
      case measure => simp [intOf]; omega
    · have hlti : ¬ (j : Int) < (ks.length : Int) := by omega
      obtain rfl : j = ks.length := by omega
      have hG := HG.out
      rw [List.take_length] at hG
      obtain ⟨iA, iC, hit⟩ := ownsRow_shape hG.row
      subst hit
      rw [HSET.out] at hG
      have HG' := Lib.hid hG
      have HRG := Lib.hid (cm_range hG.obj)
      obtain ⟨_, rS, rG, bw⟩ := HR1.out _ HG.out.bel
      have RS := Lib.hid rS
      have BW := Lib.hid bw
      have RG := Lib.hid rG
      have HA := Lib.hid (H1.out (some ⟨Y0.heap.size, 0, none⟩) 1 1 iA iC ks.length)
      clear rS bw rG hG HG HR1 HST hj hlti H1
      go_wp2_with (first | (refine wpList_load_mid rfl 38 _ rfl (Y0.heap.size + 1) 0 rfl (cmC ⟨#[]⟩ 21 false (.slice (some ⟨Y0.heap.size, 0, none⟩) 1 1) (.slice iA ks.length iC)).toList _ HRG.out Tryd.underlying38 rfl Tryd.sizeCm ?_) | (refine wpList_store_row rfl 38 _ _ rfl w.heap.size (cmC ⟨#[]⟩ 21 false (.slice (some ⟨Y0.heap.size, 0, none⟩) 1 1) (.slice iA ks.length iC)) rfl rfl 38 _ RS.out Tryd.sizeCm rfl HA.out ?_))
      refine bodyPost_ret (v := .agg (cmC ⟨#[]⟩ 21 false (.slice (some ⟨Y0.heap.size, 0, none⟩) 1 1) (.slice iA ks.length iC))) (results_cell_row Tryd.results22 _ _ w.heap.size 38 (cmC ⟨#[]⟩ 21 false (.slice (some ⟨Y0.heap.size, 0, none⟩) 1 1) (.slice iA ks.length iC)) (0, 0) _ rfl (setRow_heap _ _ _ _ _ _ RS.out) Tryd.underlying38 rfl Tryd.sizeCm) rfl ?_
      have so : ∀ c, c ≠ w.heap.size → (X.setRow w.heap.size (cmC ⟨#[]⟩ 21 false (.slice (some ⟨Y0.heap.size, 0, none⟩) 1 1) (.slice iA ks.length iC))).heap[c]? = X.heap[c]? := fun c hc => setRow_other _ _ _ _ hc
      have g := HG'.out
      have hz := HZ.out
      exact ⟨Y0.heap.size, iA, iC, rfl, ⟨BW.out.os, BW.out.tape, BW.out.output, by simpa [World.setRow] using BW.out.size, fun b hb => by rw [so b (by omega)]; exact BW.out.block b hb⟩, by omega, by rw [so _ (by omega)]; exact RG.out, ownsRow_same g.row (fun c e => so c (by have := g.lo c e; omega)), fun q e => by have := g.lo q e; omega⟩
end Go.Proofs.YtlmlbcnjohjnlaaDoor
