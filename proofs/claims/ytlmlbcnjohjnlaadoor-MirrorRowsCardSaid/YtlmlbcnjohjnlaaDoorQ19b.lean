/- The statement MirrorRows: its walk. -/
import Derived.Test.YtlmlbcnjohjnlaaDoorP19z
namespace Go.Proofs.YtlmlbcnjohjnlaaDoor
open Go.RowKit

def RowsOut (w : World) (e : Ending) (w' : World) : Prop := e = .returned (.bool true) ∧ Below w.heap.size w w'
theorem rises_O {M : PM} {S : Array Value} {X : World} (hr : rise 0 M.rows) (h1 : ∃ us fl kn, S = siC (sightP M).sel (sightP M).v (sightP M).n (sightP M).h us fl kn ∧ SiA X us fl kn (sightP M)) :
    Calls Tryd.prog 16 #[.agg S] X fun e w' => e = .returned (.bool true) ∧ Below X.heap.size X w' := by
  obtain ⟨us, fl, kn, rfl, k⟩ := h1
  unfold sightP at k ⊢
  split at k
  · rename_i h
    simp only [h, if_true] at k ⊢
    exact rises_L M.rows hr true M.v M.n M.h us fl kn X k
  · rename_i h
    simp only [h] at k ⊢
    exact rises_L [] trivial false 0 0 0 us fl kn X k
theorem sel_len {M : PM} (h : (sightP M).sel = true) : M.sel = true ∧ (sightP M).uids.length = M.rows.length := by
  unfold sightP at h ⊢
  by_cases k : M.sel = true
  · simp [k]
  · rw [if_neg k] at h; cases h
/-- What the loop looks at: two sights' uids and known flags, of rows that stay. -/
def KC (Y : World) (n : Nat) (ua ka ua2 ka2 : Option Addr) : Prop := ∀ k, k < n → ∃ (gu ou gu2 ou2 gk ok gk2 ok2 : Nat) (u u2 : Int) (b b2 : Bool), ua = some ⟨gu, ou, none⟩ ∧ ua2 = some ⟨gu2, ou2, none⟩ ∧ ka = some ⟨gk, ok, none⟩ ∧ ka2 = some ⟨gk2, ok2, none⟩ ∧ Y.cell? ⟨gu, ou + k, none⟩ = some (.int .i64 u) ∧ Y.cell? ⟨gu2, ou2 + k, none⟩ = some (.int .i64 u2) ∧ Y.cell? ⟨gk, ok + k, none⟩ = some (.bool b) ∧ Y.cell? ⟨gk2, ok2 + k, none⟩ = some (.bool b2) ∧ (u ≠ 0 → u2 = u) ∧ (b = true → b2 = true)
theorem keep_cells {M N : PM} (hm : M.sel = true) (hn : N.sel = true) (hK : KeepR M.rows N.rows) {Z : World} {us fl kn us2 fl2 kn2 : Value} (h1 : SiA Z us fl kn (sightP M)) (h2 : SiA Z us2 fl2 kn2 (sightP N))
    (ua ka ua2 ka2 : Option Addr) (n uc m kc n2 uc2 m2 kc2 : Nat) (e1 : us = .slice ua n uc) (e2 : kn = .slice ka m kc) (e3 : us2 = .slice ua2 n2 uc2) (e4 : kn2 = .slice ka2 m2 kc2) :
    n2 = n ∧ ∀ Y, Below Z.heap.size Z Y → KC Y n ua ka ua2 ka2 := by
  have eS : sightP M = ⟨true, M.v, M.n, M.h, M.rows.map (·.uid), M.rows.map (·.fl), M.rows.map (·.kn)⟩ := by unfold sightP; rw [if_pos hm]
  have eT : sightP N = ⟨true, N.v, N.n, N.h, N.rows.map (·.uid), N.rows.map (·.fl), N.rows.map (·.kn)⟩ := by unfold sightP; rw [if_pos hn]
  rw [eS] at h1
  rw [eT] at h2
  have hl := All2.length hK
  obtain ⟨_, _, q1, _, c1⟩ := h1.u
  obtain ⟨_, _, q2, _, c2⟩ := h1.k
  obtain ⟨_, _, q3, _, c3⟩ := h2.u
  obtain ⟨_, _, q4, _, c4⟩ := h2.k
  simp only [List.length_map] at q1 q2 q3 q4 c1 c2 c3 c4
  rw [e1] at q1
  rw [e2] at q2
  rw [e3] at q3
  rw [e4] at q4
  injection q1 with r1 r2 r3
  injection q2 with s1 s2 s3
  injection q3 with t1 t2 t3
  injection q4 with u1 u2 u3
  subst r1 s1 t1 u1
  refine ⟨by omega, fun Y hY k hk => ?_⟩
  have hj : k < M.rows.length := by omega
  obtain ⟨r', er, hr1, hr2⟩ := hK.get k _ (List.getElem?_eq_getElem hj)
  obtain ⟨gu, ou, x1, y1, z1⟩ := c1 (by omega)
  obtain ⟨gk, ok, x2, y2, z2⟩ := c2 (by omega)
  obtain ⟨gu2, ou2, x3, y3, z3⟩ := c3 (by omega)
  obtain ⟨gk2, ok2, x4, y4, z4⟩ := c4 (by omega)
  refine ⟨gu, ou, gu2, ou2, gk, ok, gk2, ok2, M.rows[k].uid, r'.uid, M.rows[k].kn, r'.kn, x1, x3, x2, x4, ?_, ?_, ?_, ?_, hr1, hr2⟩
  · rw [hY.cell (p := ⟨gu, ou + k, none⟩) y1]; exact z1 k _ (by rw [List.map_map, List.getElem?_map, List.getElem?_eq_getElem hj]; rfl)
  · rw [hY.cell (p := ⟨gu2, ou2 + k, none⟩) y3]; exact z3 k _ (by rw [List.map_map, List.getElem?_map, er]; rfl)
  · rw [hY.cell (p := ⟨gk, ok + k, none⟩) y2]; exact z2 k _ (by rw [List.map_map, List.getElem?_map, List.getElem?_eq_getElem hj]; rfl)
  · rw [hY.cell (p := ⟨gk2, ok2 + k, none⟩) y4]; exact z4 k _ (by rw [List.map_map, List.getElem?_map, er]; rfl)
set_option maxRecDepth 20000 in
set_option maxHeartbeats 4000000 in
theorem MirrorRows_walk (W : World) (v : Value) (hv : RowN W 74 (StO W) v) (he : EnvP W) : Calls Tryd.prog 4 #[v] W (RowsOut W) := by
  have HL := Lib.hid (long_b W W v (hv.b (fun _ h => h.b)) (Below.refl _ _))
  obtain ⟨a, N, c, rfl, _, hN, hrow⟩ := hv
  have HN := Lib.hid hN
  have HR := Lib.hid hrow
  have HE := Lib.hid he
  clear hrow hN he
  go_enter Tryd.func4, Tryd.ntmps4
  go_upto_region 3 with (go_at_call 6; refine HL.out.mono ?_; rintro e w1 ⟨b, rfl, hb, hsm⟩; have HB1 := Lib.hid hb; have HSm := Lib.hid hsm; clear hb hsm)
  · go_ret
    exact ⟨rfl, HB1.out⟩
  obtain rfl : b = false := by assumption
  clear HL
  go_upto_region 4 with (first | (go_at_call 14; refine (New_any _).mono ?_; rintro e wn ⟨rfl, rfl⟩))
  refine wp_gen (fun X0 hX0 => ?_)
  have hm0 := new_MAt w1
  have hb0 : Below w1.heap.size w1 X0 := by rw [hX0]; exact (Below.refl _ _).alloc (Nat.le_refl _) _
  rw [← hX0] at hm0
  have HH : Hid (MAt w1.heap.size [w1.heap.size] PM0 X0 ∧ Below W.heap.size W X0 ∧ ∀ b, b ∈ [w1.heap.size] → W.heap.size ≤ b) := Lib.hid ⟨hm0, HB1.out.trans (hb0.mono HB1.out.size), fun b e => by simp at e; rw [e]; exact HB1.out.size⟩
  clear hX0 hm0 hb0
  generalize w1.heap.size = P1 at *
  go_wp2_with fail
  go_loopw [4] (fun i wr => ∃ (j : Nat) (X : World), X = wr ∧ i = .int .i64 j ∧ j ≤ N ∧ ∃ M fr, (MAt P1 fr M X ∧ Below W.heap.size W X ∧ ∀ b, b ∈ fr → W.heap.size ≤ b) ∧ SmM j M ∧ rise 0 M.rows) (fun i _ => N - (intOf i).toNat)
  case atStart => exact ⟨0, _, rfl, rfl, Nat.zero_le _, PM0, _, HH.out, SmM.zero, trivial⟩
  case round =>
    obtain ⟨j, X, rfl, rfl, hj, M, fr, hH, hM, hri⟩ := hrel
    have HHx := Lib.hid hH
    have HM := Lib.hid hM
    have HRi := Lib.hid hri
    clear hH hM hri
    have HN150 : Hid (N ≤ 150) := Lib.hid (HSm.out trivial).1
    by_cases hlt : j < N
    · have hlti : (j : Int) < (N : Int) := by omega
      have hjb : (N : Int) ≤ 9223372036854775807 := by have := HN.out; omega
      obtain ⟨g, o, rfl, hg, hall⟩ := HR.out (by omega)
      obtain ⟨cs, hlen, hst, hrg⟩ := hall j hlt
      obtain ⟨s, hs⟩ := stF_of hst ((HSm.out trivial).2 g o N c rfl j hlt cs hlen hrg)
      have HRG : Hid (∀ Y, Below W.heap.size W Y → Y.rangeAt g (o + j * 74) cs) := Lib.hid (fun Y hY => range_on hrg hY hg)
      have HSl : Hid ((Tryd.prog.info? 49).map (·.size) = some cs.length) := Lib.hid (by rw [Tryd.sizeSt, hlen])
      have hq : j ≤ 1000000 := by have := HN150.out; omega
      have HSm1 : Hid (SmM (j + 1) (actP M s)) := Lib.hid (HM.out.act hs)
      have HAct : Hid (∀ Y, MAt P1 fr M Y → Below W.heap.size W Y → Calls Tryd.prog 15 #[.pointer (some ⟨P1, 0, none⟩), .agg cs.toArray] Y (ActO P1 fr M s Y)) := Lib.hid (fun Y h1 h2 => act_any resync_all P1 fr M cs s W Y h1 (HM.out.smq hq) h2 HHx.out.2.2 HE.out hs)
      have HSi := Lib.hid (Sight_O HHx.out.1 (HM.out.small hq))
      have hsm1 : SmallM (actP M s) := HSm1.out.small (by have := HN150.out; omega)
      have HSi1 : Hid (∀ fr Y, MAt P1 fr (actP M s) Y → Calls Tryd.prog 12 #[.pointer (some ⟨P1, 0, none⟩)] Y fun e w' => ∃ S, e = .returned (.agg S) ∧ Hid (Below Y.heap.size Y w' ∧ SgO Y.heap.size (sightP (actP M s)) S w')) := Lib.hid (fun fr Y h => Sight_O h hsm1)
      have HSt := Lib.hid hs
      clear hs hst hrg hall hlen hg hsm1 hq
      go_upto_region 10 with (first | (go_at_call 12; refine HSi.out.mono ?_; rintro e w1 ⟨S1, rfl, HG1⟩; (have HSa : Hid ((Tryd.prog.info? 47).map (·.size) = some S1.size) := Lib.hid (by rw [HG1.out.2.size]; exact Tryd.sizeSi)); (have HZa : Hid (7 = S1.size) := Lib.hid HG1.out.2.size.symm)) | (refine wpList_store_row rfl 47 _ _ rfl w1.heap.size S1 rfl rfl 47 _ (heap_new _ _) HSa.out HZa.out HG1.out.2.one ?_))
      refine wp_gen (fun Z hZ => ?_)
      obtain ⟨bZ, kZ⟩ := box_below hZ.symm
      have hHz := HHx.out.1.bel (HG1.out.1.trans (bZ.mono HG1.out.1.size))
      have hBz := HHx.out.2.1.trans ((HG1.out.1.trans (bZ.mono HG1.out.1.size)).mono HHx.out.2.1.size)
      have HA1 := Lib.hid (HAct.out Z hHz hBz)
      have HRz := Lib.hid (HRG.out Z hBz)
      have HBz := Lib.hid (And.intro bZ (And.intro kZ hBz))
      clear hHz hBz bZ kZ hZ HSi HSa HZa HAct
      go_upto_region 11 with (first | (refine wpList_load_mid rfl 49 _ rfl g (o + j * 74) rfl cs _ HRz.out Tryd.underlying49 rfl HSl.out ?_) | (go_at_call 15; refine HA1.out.mono ?_; rintro e w2 ⟨he2, hg2⟩; obtain ⟨z, hz⟩ : ∃ z, actK M s = z := ⟨_, rfl⟩; rw [hz] at he2; subst he2; have HK := Lib.hid hz; have HG2' := Lib.hid hg2; clear hz hg2))
      obtain ⟨bx, hbx⟩ : ∃ b, w1.heap.size = b := ⟨_, rfl⟩
      obtain ⟨fr', gm, gs, gf⟩ := HG2'.out
      have HF1 : Hid (MAt P1 fr' (actP M s) w2 ∧ Stays fr Z w2 ∧ Below W.heap.size W w2 ∧ ∀ b, b ∈ fr' → W.heap.size ≤ b) := Lib.hid ⟨gm, gs, stays_low HBz.out.2.2 gs HHx.out.2.2, fun b e => (gf b e).elim (HHx.out.2.2 b) (fun k => Nat.le_trans HBz.out.2.2.size k)⟩
      clear gm gs gf
      have HW1 : Hid (∀ Y, Below w2.heap.size w2 Y → ∃ us fl kn, S1 = siC (sightP M).sel (sightP M).v (sightP M).n (sightP M).h us fl kn ∧ SiA Y us fl kn (sightP M)) := Lib.hid (fun Y hY => by
        obtain ⟨us, fl, kn, e, k⟩ := HG1.out.2.ex
        have z1 := HBz.out.1.size
        have z2 := HF1.out.2.1.size
        refine ⟨us, fl, kn, e, k Y (by have := hY.size; omega) (fun b hb1 hb2 => ?_)⟩
        rw [hY.block b (by omega), HF1.out.2.1.block b (by omega) (fun e => by have := HHx.out.1.lt b e; omega), HBz.out.1.block b hb2])
      have HBx : Hid (∀ Y, Below w2.heap.size w2 Y → Y.heap[bx]? = some (.cells S1 47 (0, 0))) := Lib.hid (fun Y hY => by
        have hlt := lt_of_heap HBz.out.2.1
        have k := HBz.out.2.1
        rw [← HF1.out.2.1.block _ hlt (fun e => by have := HHx.out.1.lt _ e; have := HG1.out.1.size; omega)] at k
        rw [← hbx]
        exact bel_at hY (lt_of_heap k) k)
      rw [hbx] at *
      clear hbx
      have HSg2 := Lib.hid (HSi1.out fr' w2 HF1.out.1)
      go_upto_region 12 with (first | (go_at_call 12; refine HSg2.out.mono ?_; rintro e w3 ⟨S2, rfl, HG2⟩; (have HSa : Hid ((Tryd.prog.info? 47).map (·.size) = some S2.size) := Lib.hid (by rw [HG2.out.2.size]; exact Tryd.sizeSi)); (have HZa : Hid (7 = S2.size) := Lib.hid HG2.out.2.size.symm)) | (refine wpList_store_row rfl 47 _ _ rfl w3.heap.size S2 rfl rfl 47 _ (heap_new _ _) HSa.out HZa.out HG2.out.2.one ?_))
      refine wp_gen (fun Z3 hZ3 => ?_)
      obtain ⟨b3, k3⟩ := box_below hZ3.symm
      have HB3 : Hid (Below w3.heap.size w3 Z3 ∧ Below w2.heap.size w2 Z3 ∧ Z3.heap[w3.heap.size]? = some (.cells S2 47 (0, 0))) := Lib.hid ⟨b3, HG2.out.1.trans (b3.mono HG2.out.1.size), k3⟩
      clear hZ3 b3 k3 HSa HZa HSg2
      have HRg3 : Hid (Z3.rangeAt w3.heap.size 0 S2.toList) := Lib.hid (box_all (by rw [Array.toArray_toList]; exact HB3.out.2.2))
      have HSz3 : Hid ((Tryd.prog.info? 47).map (·.size) = some S2.toList.length) := Lib.hid (by rw [Array.length_toList, HG2.out.2.size]; exact Tryd.sizeSi)
      have HRs : Hid (Calls Tryd.prog 16 #[.agg S2.toList.toArray] Z3 fun e w' => e = .returned (.bool true) ∧ Below Z3.heap.size Z3 w') := Lib.hid (by
        rw [Array.toArray_toList]
        exact rises_O (M := actP M s) (rise_act HRi.out) (by obtain ⟨us, fl, kn, e, k⟩ := HG2.out.2.ex; exact ⟨us, fl, kn, e, k.here.on HB3.out.1⟩))
      go_upto_region 14 with (first | (refine wpList_load_mid rfl 47 _ rfl w3.heap.size 0 rfl S2.toList _ HRg3.out Tryd.underlying47 rfl HSz3.out ?_) | (go_at_call 16; refine HRs.out.mono ?_; rintro e w4 ⟨rfl, hb4⟩; have HB4 := Lib.hid hb4; clear hb4))
      have HRg4 : Hid (w4.rangeAt g (o + j * 74) cs) := Lib.hid (HRG.out w4 ((HF1.out.2.2.1.trans (HB3.out.2.1.mono HF1.out.2.2.1.size)).trans (HB4.out.mono (HF1.out.2.2.1.trans (HB3.out.2.1.mono HF1.out.2.2.1.size)).size)))
      have HSt74 : Hid ((Tryd.prog.info? 49).map (·.size) = some cs.toArray.size) := Lib.hid (by rw [Tryd.sizeSt]; simp [HSt.out.len])
      have HZt : Hid (74 = cs.toArray.size) := Lib.hid (by simp [HSt.out.len])
      have HOt : Hid (cs.toArray.all (·.oneCell') = true) := Lib.hid (all_oneCell_toArray HSt.out.one)
      go_upto_region 15 with (first | (refine wpList_load_mid rfl 49 _ rfl g (o + j * 74) rfl cs _ HRg4.out Tryd.underlying49 rfl HSl.out ?_) | (refine wpList_store_row rfl 49 _ _ rfl w4.heap.size cs.toArray rfl rfl 49 _ (heap_new _ _) HSt74.out HZt.out HOt.out ?_))
      refine wp_gen (fun Z5 hZ5 => ?_)
      obtain ⟨b5, k5⟩ := box_below hZ5.symm
      have HB5 : Hid (Below w2.heap.size w2 Z5 ∧ Below Z3.heap.size Z3 Z5 ∧ Z5.heap[w4.heap.size]? = some (.cells cs.toArray 49 (0, 0))) := Lib.hid ⟨(HB3.out.2.1.trans (HB4.out.mono HB3.out.2.1.size)).trans (b5.mono (HB3.out.2.1.trans (HB4.out.mono HB3.out.2.1.size)).size), HB4.out.trans (b5.mono HB4.out.size), k5⟩
      clear hZ5 b5 k5
      -- what is looked at
      obtain ⟨us, fl, kn, eS1, si1⟩ := HW1.out Z5 HB5.out.1
      obtain ⟨us2, fl2, kn2, eS2, sf2⟩ := HG2.out.2.ex
      have si2 := (sf2.here.on HB3.out.1).on HB5.out.2.1
      obtain ⟨ua, uc, eu1, hu1, _⟩ := si1.u
      obtain ⟨ka, kc, ek1, _, _⟩ := si1.k
      obtain ⟨ua2, uc2, eu2, _, _⟩ := si2.u
      obtain ⟨ka2, kc2, ek2, _, _⟩ := si2.k
      have HKC : Hid (M.sel = true → (actP M s).sel = true → KeepR M.rows (actP M s).rows → _ ∧ _) := Lib.hid (fun hm hn hK => keep_cells hm hn hK si1 si2 ua ka ua2 ka2 _ uc _ kc _ uc2 _ kc2 eu1 ek1 eu2 ek2)
      subst eu1 ek1 eu2 ek2
      have r1 := HBx.out Z5 HB5.out.1
      have r2 := bel_at HB5.out.2.1 (lt_of_heap HB3.out.2.2) HB3.out.2.2
      rw [eS1] at r1
      rw [eS2] at r2
      simp only [List.length_map] at r1 r2 hu1 HKC
      have a51 : ∀ i, i < 16 → cs[51 + i]? = ((cs.drop 51).take 16)[i]? := fun i hi => by rw [List.getElem?_take, if_pos hi, List.getElem?_drop]
      obtain ⟨an, ea, han⟩ := HSt.out.ans
      rw [ea] at a51
      have t0 : Z5.cell? ⟨w4.heap.size, 0, none⟩ = some (.int .i64 s.kind) := by rw [cell_of HB5.out.2.2]; simpa using HSt.out.kind
      have t51 : Z5.cell? ⟨w4.heap.size, 51, none⟩ = some (.int .i64 s.ans.k) := by rw [cell_of HB5.out.2.2, ← han.k]; simpa [anC] using a51 0 (by omega)
      have t52 : Z5.cell? ⟨w4.heap.size, 52, none⟩ = some (.string s.ans.tag) := by rw [cell_of HB5.out.2.2, ← han.tag]; simpa [anC] using a51 1 (by omega)
      have y0 : Z5.cell? ⟨bx, 0, none⟩ = some (.bool (sightP M).sel) := by unfold siC at r1; exact cell_of r1 0
      have y4 : Z5.cell? ⟨bx, 4, none⟩ = some (.slice ua (sightP M).uids.length uc) := by unfold siC at r1; exact cell_of r1 4
      have x0 : Z5.cell? ⟨w3.heap.size, 0, none⟩ = some (.bool (sightP (actP M s)).sel) := by unfold siC at r2; exact cell_of r2 0
      have x4 : Z5.cell? ⟨w3.heap.size, 4, none⟩ = some (.slice ua2 (sightP (actP M s)).uids.length uc2) := by unfold siC at r2; exact cell_of r2 4
      have HXc : Hid (∀ Y, Below Z5.heap.size Z5 Y → Y.cell? ⟨bx, 4, none⟩ = some (.slice ua (sightP M).uids.length uc) ∧ Y.cell? ⟨bx, 6, none⟩ = some (.slice ka (sightP M).known.length kc) ∧ Y.cell? ⟨w3.heap.size, 4, none⟩ = some (.slice ua2 (sightP (actP M s)).uids.length uc2) ∧ Y.cell? ⟨w3.heap.size, 6, none⟩ = some (.slice ka2 (sightP (actP M s)).known.length kc2)) := Lib.hid (fun Y hY => by
        have k0 := bel_at hY (lt_of_heap r1) r1
        have k1 := bel_at hY (lt_of_heap r2) r2
        unfold siC at k0 k1
        exact ⟨cell_of k0 4, cell_of k0 6, cell_of k1 4, cell_of k1 6⟩)
      rw [(sight_lens M).2, (sight_lens (actP M s)).2] at HXc
      have HEnd : Hid (∀ Y, Below Z5.heap.size Z5 Y → ∃ M fr, (MAt P1 fr M Y ∧ Below W.heap.size W Y ∧ ∀ b, b ∈ fr → W.heap.size ≤ b) ∧ SmM (j + 1) M ∧ rise 0 M.rows) := Lib.hid (fun Y hY => by
        have k := HB5.out.1.trans (hY.mono HB5.out.1.size)
        exact ⟨actP M s, fr', ⟨HF1.out.1.bel k, HF1.out.2.2.1.trans (k.mono HF1.out.2.2.1.size), HF1.out.2.2.2⟩, HSm1.out, rise_act HRi.out⟩)
      have HKp : Hid ((actP M s).sel = true → (s.kind = 2 → s.ans.tag.toList.isEmpty = true) → (s.kind = 2 → z = 0 → s.ans.k ≠ 11 ∧ s.ans.k ≠ 13) → KeepR M.rows (actP M s).rows) := Lib.hid (fun h1 h2 h3 => keep_act HRi.out h1 h2 (by rw [HK.out]; exact h3))
      have HSel : Hid (((sightP M).sel = true → M.sel = true ∧ (sightP M).uids.length = M.rows.length) ∧ ((sightP (actP M s)).sel = true → (actP M s).sel = true ∧ (sightP (actP M s)).uids.length = (actP M s).rows.length)) := Lib.hid ⟨sel_len, sel_len⟩
      generalize w3.heap.size = b7 at *
      generalize w4.heap.size = b8 at *
      have HNa := Lib.hid hu1
      clear a51 ea han r1 r2 hu1 si1 si2 sf2 eS1 eS2
      have HLp : Hid ((sightP M).sel = true → (sightP (actP M s)).sel = true → (s.kind = 2 → s.ans.tag.toList.isEmpty = true) → (s.kind = 2 → z = 0 → s.ans.k ≠ 11 ∧ s.ans.k ≠ 13) → (sightP (actP M s)).uids.length = (sightP M).uids.length ∧ ∀ Y, Below Z5.heap.size Z5 Y → KC Y (sightP M).uids.length ua ka ua2 ka2) := Lib.hid (fun h1 h2 h3 h4 => HKC.out (HSel.out.1 h1).1 (HSel.out.2 h2).1 (HKp.out (HSel.out.2 h2).1 h3 h4))
      clear HKC HKp HSel
      obtain ⟨sa, hsa⟩ : ∃ b, (sightP M).sel = b := ⟨_, rfl⟩
      obtain ⟨sb, hsb⟩ : ∃ b, (sightP (actP M s)).sel = b := ⟨_, rfl⟩
      obtain ⟨na, hna⟩ : ∃ b, (sightP M).uids.length = b := ⟨_, rfl⟩
      obtain ⟨nb, hnb⟩ : ∃ b, (sightP (actP M s)).uids.length = b := ⟨_, rfl⟩
      obtain ⟨kd, hkd⟩ : ∃ b, s.kind = b := ⟨_, rfl⟩
      obtain ⟨ak, hak⟩ : ∃ b, s.ans.k = b := ⟨_, rfl⟩
      obtain ⟨tg, htg⟩ : ∃ b, s.ans.tag = b := ⟨_, rfl⟩
      rw [hsa] at y0
      rw [hsb] at x0
      rw [hna] at y4 HXc HNa HLp
      rw [hnb] at HXc HLp
      rw [hsa, hsb, hkd, hak, htg] at HLp
      rw [hnb] at x4
      rw [hkd] at t0
      rw [hak] at t51
      rw [htg] at t52
      have HV := Lib.hid (And.intro hsa (And.intro hsb (And.intro hna (And.intro hnb (And.intro hkd (And.intro hak htg))))))
      clear hsa hsb hna hnb hkd hak htg
      by_cases hk2 : kd = 2
      · subst hk2
        cases htt : tg.toList.isEmpty with
        | false =>
          clear HLp
          by_cases hz0 : z = 0
          · subst hz0
            as_aux_lemma =>
              by_cases h11 : ak = 11
              · subst h11
                cases sa with
                | false =>
                  go_wp2_with fail
                  go_roundw
                  case rel => exact ⟨j + 1, _, rfl, by go_num, by omega, HEnd.out _ (Below.refl _ _)⟩
                  case measure => simp [intOf]; omega
                | true =>
                  cases sb with
                  | false =>
                    go_wp2_with fail
                    go_roundw
                    case rel => exact ⟨j + 1, _, rfl, by go_num, by omega, HEnd.out _ (Below.refl _ _)⟩
                    case measure => simp [intOf]; omega
                  | true =>
                    go_wp2_with fail
                    go_roundw
                    case rel => exact ⟨j + 1, _, rfl, by go_num, by omega, HEnd.out _ (Below.refl _ _)⟩
                    case measure => simp [intOf]; omega
              · have d3 : (ak == 11) = false := by simpa using h11
                by_cases h13 : ak = 13
                · subst h13
                  cases sa with
                  | false =>
                    go_wp2_with fail
                    go_roundw
                    case rel => exact ⟨j + 1, _, rfl, by go_num, by omega, HEnd.out _ (Below.refl _ _)⟩
                    case measure => simp [intOf]; omega
                  | true =>
                    cases sb with
                    | false =>
                      go_wp2_with fail
                      go_roundw
                      case rel => exact ⟨j + 1, _, rfl, by go_num, by omega, HEnd.out _ (Below.refl _ _)⟩
                      case measure => simp [intOf]; omega
                    | true =>
                      go_wp2_with fail
                      go_roundw
                      case rel => exact ⟨j + 1, _, rfl, by go_num, by omega, HEnd.out _ (Below.refl _ _)⟩
                      case measure => simp [intOf]; omega
                · have d4 : (ak == 13) = false := by simpa using h13
                  cases sa with
                  | false =>
                    go_wp2_with fail
                    go_roundw
                    case rel => exact ⟨j + 1, _, rfl, by go_num, by omega, HEnd.out _ (Below.refl _ _)⟩
                    case measure => simp [intOf]; omega
                  | true =>
                    cases sb with
                    | false =>
                      go_wp2_with fail
                      go_roundw
                      case rel => exact ⟨j + 1, _, rfl, by go_num, by omega, HEnd.out _ (Below.refl _ _)⟩
                      case measure => simp [intOf]; omega
                    | true =>
                      go_wp2_with fail
                      go_roundw
                      case rel => exact ⟨j + 1, _, rfl, by go_num, by omega, HEnd.out _ (Below.refl _ _)⟩
                      case measure => simp [intOf]; omega
          · have d2 : (z == 0) = false := by simpa using hz0
            as_aux_lemma =>
              cases sa with
              | false =>
                go_wp2_with fail
                go_roundw
                case rel => exact ⟨j + 1, _, rfl, by go_num, by omega, HEnd.out _ (Below.refl _ _)⟩
                case measure => simp [intOf]; omega
              | true =>
                cases sb with
                | false =>
                  go_wp2_with fail
                  go_roundw
                  case rel => exact ⟨j + 1, _, rfl, by go_num, by omega, HEnd.out _ (Below.refl _ _)⟩
                  case measure => simp [intOf]; omega
                | true =>
                  go_wp2_with fail
                  go_roundw
                  case rel => exact ⟨j + 1, _, rfl, by go_num, by omega, HEnd.out _ (Below.refl _ _)⟩
                  case measure => simp [intOf]; omega
        | true =>
          by_cases hz0 : z = 0
          · subst hz0
            as_aux_lemma =>
              by_cases h11 : ak = 11
              · subst h11
                cases sa with
                | false =>
                  go_wp2_with fail
                  go_roundw
                  case rel => exact ⟨j + 1, _, rfl, by go_num, by omega, HEnd.out _ (Below.refl _ _)⟩
                  case measure => simp [intOf]; omega
                | true =>
                  cases sb with
                  | false =>
                    go_wp2_with fail
                    go_roundw
                    case rel => exact ⟨j + 1, _, rfl, by go_num, by omega, HEnd.out _ (Below.refl _ _)⟩
                    case measure => simp [intOf]; omega
                  | true =>
                    by_cases hnn : na = nb
                    · subst hnn
                      go_wp2_with fail
                      go_roundw
                      case rel => exact ⟨j + 1, _, rfl, by go_num, by omega, HEnd.out _ (Below.refl _ _)⟩
                      case measure => simp [intOf]; omega
                    · have d5 : ((na : Int) == (nb : Int)) = false := by simpa using (fun e => hnn (by omega))
                      have d6 : ((na : Int) != (nb : Int)) = true := by simpa using (fun e => hnn (by omega))
                      go_wp2_with fail
                      go_roundw
                      case rel => exact ⟨j + 1, _, rfl, by go_num, by omega, HEnd.out _ (Below.refl _ _)⟩
                      case measure => simp [intOf]; omega
              · have d3 : (ak == 11) = false := by simpa using h11
                by_cases h13 : ak = 13
                · subst h13
                  cases sa with
                  | false =>
                    go_wp2_with fail
                    go_roundw
                    case rel => exact ⟨j + 1, _, rfl, by go_num, by omega, HEnd.out _ (Below.refl _ _)⟩
                    case measure => simp [intOf]; omega
                  | true =>
                    cases sb with
                    | false =>
                      go_wp2_with fail
                      go_roundw
                      case rel => exact ⟨j + 1, _, rfl, by go_num, by omega, HEnd.out _ (Below.refl _ _)⟩
                      case measure => simp [intOf]; omega
                    | true =>
                      by_cases hnn : na = nb
                      · subst hnn
                        go_wp2_with fail
                        go_roundw
                        case rel => exact ⟨j + 1, _, rfl, by go_num, by omega, HEnd.out _ (Below.refl _ _)⟩
                        case measure => simp [intOf]; omega
                      · have d5 : ((na : Int) == (nb : Int)) = false := by simpa using (fun e => hnn (by omega))
                        have d6 : ((na : Int) != (nb : Int)) = true := by simpa using (fun e => hnn (by omega))
                        go_wp2_with fail
                        go_roundw
                        case rel => exact ⟨j + 1, _, rfl, by go_num, by omega, HEnd.out _ (Below.refl _ _)⟩
                        case measure => simp [intOf]; omega
                · have d4 : (ak == 13) = false := by simpa using h13
                  cases sa with
                  | false =>
                    go_wp2_with fail
                    go_roundw
                    case rel => exact ⟨j + 1, _, rfl, by go_num, by omega, HEnd.out _ (Below.refl _ _)⟩
                    case measure => simp [intOf]; omega
                  | true =>
                    cases sb with
                    | false =>
                      go_wp2_with fail
                      go_roundw
                      case rel => exact ⟨j + 1, _, rfl, by go_num, by omega, HEnd.out _ (Below.refl _ _)⟩
                      case measure => simp [intOf]; omega
                    | true =>
                      obtain ⟨hnn, hkc⟩ := HLp.out rfl rfl (fun _ => htt) (fun _ _ => ⟨h11, h13⟩)
                      subst hnn
                      have HKc := Lib.hid hkc
                      clear hkc HLp
                      go_wp2_with fail
                      go_loopw [10] (fun x wr => ∃ (q : Nat) (Y : World), Y = wr ∧ x = .int .i64 q ∧ q ≤ nb ∧ Below Z5.heap.size Z5 Y) (fun x _ => nb - (intOf x).toNat)
                      case atStart => exact ⟨0, _, rfl, rfl, Nat.zero_le _, Below.refl _ _⟩
                      case round =>
                        obtain ⟨q, Y, rfl, rfl, hq, hbY⟩ := hrel
                        have HBY := Lib.hid hbY
                        obtain ⟨v4, v6, v4', v6'⟩ := HXc.out Y hbY
                        have hnb9 : (nb : Int) ≤ 1000000 := by have := HNa.out; omega
                        clear t0 t51 t52 y0 y4 x0 x4 hbY
                        by_cases hqn : q < nb
                        · have hqni : (q : Int) < (nb : Int) := by omega
                          obtain ⟨gu, ou, gu2, ou2, gk, ok, gk2, ok2, u, u2, b, b2, rfl, rfl, rfl, rfl, c1, c2, c3, c4, q1, q2⟩ := HKc.out Y HBY.out q hqn
                          by_cases hu : u = 0
                          · subst hu
                            clear q1
                            cases b with
                            | false =>
                              clear q2
                              go_upto_region 23 with fail
                              go_quiet (fail)
                              go_wp2_with fail
                              go_roundw
                              case rel => exact ⟨q + 1, _, rfl, by go_num, by omega, below_drewN HBY.out _⟩
                              case measure => simp [intOf]; omega
                            | true =>
                              obtain rfl : b2 = true := q2 rfl
                              clear q2
                              go_upto_region 23 with fail
                              go_quiet (fail)
                              go_wp2_with fail
                              go_roundw
                              case rel => exact ⟨q + 1, _, rfl, by go_num, by omega, below_drewN HBY.out _⟩
                              case measure => simp [intOf]; omega
                          · obtain rfl := q1 hu
                            have d7 : (u2 != 0) = true := by simpa using hu
                            have d8 : (u2 == 0) = false := by simpa using hu
                            clear q1 hu
                            cases b with
                            | false =>
                              clear q2
                              go_upto_region 23 with fail
                              go_quiet (fail)
                              go_wp2_with fail
                              go_roundw
                              case rel => exact ⟨q + 1, _, rfl, by go_num, by omega, below_drewN HBY.out _⟩
                              case measure => simp [intOf]; omega
                            | true =>
                              obtain rfl : b2 = true := q2 rfl
                              clear q2
                              go_upto_region 23 with fail
                              go_quiet (fail)
                              go_wp2_with fail
                              go_roundw
                              case rel => exact ⟨q + 1, _, rfl, by go_num, by omega, below_drewN HBY.out _⟩
                              case measure => simp [intOf]; omega
                        · have hqni : ¬ (q : Int) < (nb : Int) := by omega
                          go_wp2_with fail
                          go_roundw
                          case rel => exact ⟨j + 1, _, rfl, by go_num, by omega, HEnd.out _ HBY.out⟩
                          case measure => simp [intOf]; omega
          · have d2 : (z == 0) = false := by simpa using hz0
            as_aux_lemma =>
              cases sa with
              | false =>
                go_wp2_with fail
                go_roundw
                case rel => exact ⟨j + 1, _, rfl, by go_num, by omega, HEnd.out _ (Below.refl _ _)⟩
                case measure => simp [intOf]; omega
              | true =>
                cases sb with
                | false =>
                  go_wp2_with fail
                  go_roundw
                  case rel => exact ⟨j + 1, _, rfl, by go_num, by omega, HEnd.out _ (Below.refl _ _)⟩
                  case measure => simp [intOf]; omega
                | true =>
                  obtain ⟨hnn, hkc⟩ := HLp.out rfl rfl (fun _ => htt) (fun _ h => absurd h hz0)
                  subst hnn
                  have HKc := Lib.hid hkc
                  clear hkc HLp
                  go_wp2_with fail
                  go_loopw [10] (fun x wr => ∃ (q : Nat) (Y : World), Y = wr ∧ x = .int .i64 q ∧ q ≤ nb ∧ Below Z5.heap.size Z5 Y) (fun x _ => nb - (intOf x).toNat)
                  case atStart => exact ⟨0, _, rfl, rfl, Nat.zero_le _, Below.refl _ _⟩
                  case round =>
                    obtain ⟨q, Y, rfl, rfl, hq, hbY⟩ := hrel
                    have HBY := Lib.hid hbY
                    obtain ⟨v4, v6, v4', v6'⟩ := HXc.out Y hbY
                    have hnb9 : (nb : Int) ≤ 1000000 := by have := HNa.out; omega
                    clear t0 t51 t52 y0 y4 x0 x4 hbY
                    by_cases hqn : q < nb
                    · have hqni : (q : Int) < (nb : Int) := by omega
                      obtain ⟨gu, ou, gu2, ou2, gk, ok, gk2, ok2, u, u2, b, b2, rfl, rfl, rfl, rfl, c1, c2, c3, c4, q1, q2⟩ := HKc.out Y HBY.out q hqn
                      by_cases hu : u = 0
                      · subst hu
                        clear q1
                        cases b with
                        | false =>
                          clear q2
                          go_upto_region 23 with fail
                          go_quiet (fail)
                          go_wp2_with fail
                          go_roundw
                          case rel => exact ⟨q + 1, _, rfl, by go_num, by omega, below_drewN HBY.out _⟩
                          case measure => simp [intOf]; omega
                        | true =>
                          obtain rfl : b2 = true := q2 rfl
                          clear q2
                          go_upto_region 23 with fail
                          go_quiet (fail)
                          go_wp2_with fail
                          go_roundw
                          case rel => exact ⟨q + 1, _, rfl, by go_num, by omega, below_drewN HBY.out _⟩
                          case measure => simp [intOf]; omega
                      · obtain rfl := q1 hu
                        have d7 : (u2 != 0) = true := by simpa using hu
                        have d8 : (u2 == 0) = false := by simpa using hu
                        clear q1 hu
                        cases b with
                        | false =>
                          clear q2
                          go_upto_region 23 with fail
                          go_quiet (fail)
                          go_wp2_with fail
                          go_roundw
                          case rel => exact ⟨q + 1, _, rfl, by go_num, by omega, below_drewN HBY.out _⟩
                          case measure => simp [intOf]; omega
                        | true =>
                          obtain rfl : b2 = true := q2 rfl
                          clear q2
                          go_upto_region 23 with fail
                          go_quiet (fail)
                          go_wp2_with fail
                          go_roundw
                          case rel => exact ⟨q + 1, _, rfl, by go_num, by omega, below_drewN HBY.out _⟩
                          case measure => simp [intOf]; omega
                    · have hqni : ¬ (q : Int) < (nb : Int) := by omega
                      go_wp2_with fail
                      go_roundw
                      case rel => exact ⟨j + 1, _, rfl, by go_num, by omega, HEnd.out _ HBY.out⟩
                      case measure => simp [intOf]; omega
      · have d1 : (kd == 2) = false := by simpa using hk2
        as_aux_lemma =>
          cases sa with
          | false =>
            go_wp2_with fail
            go_roundw
            case rel => exact ⟨j + 1, _, rfl, by go_num, by omega, HEnd.out _ (Below.refl _ _)⟩
            case measure => simp [intOf]; omega
          | true =>
            cases sb with
            | false =>
              go_wp2_with fail
              go_roundw
              case rel => exact ⟨j + 1, _, rfl, by go_num, by omega, HEnd.out _ (Below.refl _ _)⟩
              case measure => simp [intOf]; omega
            | true =>
              obtain ⟨hnn, hkc⟩ := HLp.out rfl rfl (fun h => absurd h hk2) (fun h => absurd h hk2)
              subst hnn
              have HKc := Lib.hid hkc
              clear hkc HLp
              go_wp2_with fail
              go_loopw [10] (fun x wr => ∃ (q : Nat) (Y : World), Y = wr ∧ x = .int .i64 q ∧ q ≤ nb ∧ Below Z5.heap.size Z5 Y) (fun x _ => nb - (intOf x).toNat)
              case atStart => exact ⟨0, _, rfl, rfl, Nat.zero_le _, Below.refl _ _⟩
              case round =>
                obtain ⟨q, Y, rfl, rfl, hq, hbY⟩ := hrel
                have HBY := Lib.hid hbY
                obtain ⟨v4, v6, v4', v6'⟩ := HXc.out Y hbY
                have hnb9 : (nb : Int) ≤ 1000000 := by have := HNa.out; omega
                clear t0 t51 t52 y0 y4 x0 x4 hbY
                by_cases hqn : q < nb
                · have hqni : (q : Int) < (nb : Int) := by omega
                  obtain ⟨gu, ou, gu2, ou2, gk, ok, gk2, ok2, u, u2, b, b2, rfl, rfl, rfl, rfl, c1, c2, c3, c4, q1, q2⟩ := HKc.out Y HBY.out q hqn
                  by_cases hu : u = 0
                  · subst hu
                    clear q1
                    cases b with
                    | false =>
                      clear q2
                      go_upto_region 23 with fail
                      go_quiet (fail)
                      go_wp2_with fail
                      go_roundw
                      case rel => exact ⟨q + 1, _, rfl, by go_num, by omega, below_drewN HBY.out _⟩
                      case measure => simp [intOf]; omega
                    | true =>
                      obtain rfl : b2 = true := q2 rfl
                      clear q2
                      go_upto_region 23 with fail
                      go_quiet (fail)
                      go_wp2_with fail
                      go_roundw
                      case rel => exact ⟨q + 1, _, rfl, by go_num, by omega, below_drewN HBY.out _⟩
                      case measure => simp [intOf]; omega
                  · obtain rfl := q1 hu
                    have d7 : (u2 != 0) = true := by simpa using hu
                    have d8 : (u2 == 0) = false := by simpa using hu
                    clear q1 hu
                    cases b with
                    | false =>
                      clear q2
                      go_upto_region 23 with fail
                      go_quiet (fail)
                      go_wp2_with fail
                      go_roundw
                      case rel => exact ⟨q + 1, _, rfl, by go_num, by omega, below_drewN HBY.out _⟩
                      case measure => simp [intOf]; omega
                    | true =>
                      obtain rfl : b2 = true := q2 rfl
                      clear q2
                      go_upto_region 23 with fail
                      go_quiet (fail)
                      go_wp2_with fail
                      go_roundw
                      case rel => exact ⟨q + 1, _, rfl, by go_num, by omega, below_drewN HBY.out _⟩
                      case measure => simp [intOf]; omega
                · have hqni : ¬ (q : Int) < (nb : Int) := by omega
                  go_wp2_with fail
                  go_roundw
                  case rel => exact ⟨j + 1, _, rfl, by go_num, by omega, HEnd.out _ HBY.out⟩
                  case measure => simp [intOf]; omega
    · have hlti : ¬ (j : Int) < (N : Int) := by omega
      go_wp2_with (go_at_call 13; refine (known_any _).mono ?_; rintro e wk ⟨rfl, hb⟩; have HBk := Lib.hid hb; clear hb)
      go_ret
      exact ⟨rfl, HHx.out.2.1.trans (HBk.out.mono HHx.out.2.1.size)⟩
end Go.Proofs.YtlmlbcnjohjnlaaDoor
