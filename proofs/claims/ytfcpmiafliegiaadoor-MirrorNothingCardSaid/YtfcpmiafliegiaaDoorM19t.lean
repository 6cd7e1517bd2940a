/- mirror: Resync, where all is to be asked anew. -/
import Derived.Test.YtfcpmiafliegiaaDoorM19s
namespace Go.Proofs.YtfcpmiafliegiaaDoor
open Go.RowKit

/-- One FETCH of all, uids and flags. -/
def ResyncFar (P : Nat) (q : Value) (v n h : Int) (rows : Value) (bg : Bool) (w : World) (e : Ending) (w' : World) : Prop := ∃ g gs ia ic, e = .returned (.slice (some ⟨g, 0, none⟩) 1 1) ∧ Stays [P] w w' ∧ w'.heap[P]? = some (mirO q true v n h rows (.map none) bg) ∧ w.heap.size ≤ g ∧ w.heap.size ≤ gs ∧ w'.heap[g]? = some (.cells (cmC ⟨#[]⟩ 21 false (.slice (some ⟨gs, 0, none⟩) 1 1) (.slice ia 2 ic)) 38 (0, 0)) ∧ w'.heap[gs]? = some (.cells #[.int .i64 1, .int .i64 0] 91 (0, 0)) ∧ w'.ownsRow 0 95 8 (.slice ia 2 ic) 2 (itL [2, 1]) ∧ ∀ b, (Value.slice ia 2 ic).ownBlock = some b → w.heap.size ≤ b
theorem resync_out {P : Nat} {q : Value} {v n h : Int} {rows : Value} {bg : Bool} {w Z w4 : World} {gs : Nat} {ia : Option Addr} {ic : Nat} (z1 : Stays [P] w Z) (z2 : Z.heap[P]? = some (mirO q true v n h rows (.map none) bg)) (z3 : w.heap.size < Z.heap.size)
    (hb : Below (Z.alloc (.cells #[.int .i64 2, .int .i64 1] 3)).heap.size (Z.alloc (.cells #[.int .i64 2, .int .i64 1] 3)) w4) (hgs : (Z.alloc (.cells #[.int .i64 2, .int .i64 1] 3)).heap.size ≤ gs) (hg : w4.heap[gs]? = some (.cells #[.int .i64 1, .int .i64 0] 91 (0, 0)))
    (hrow : w4.ownsRow 0 95 8 (.slice ia 2 ic) 2 (itL [2, 1])) (hlo : ∀ b, (Value.slice ia 2 ic).ownBlock = some b → (Z.alloc (.cells #[.int .i64 2, .int .i64 1] 3)).heap.size ≤ b) :
    ResyncFar P q v n h rows bg w (.returned (.slice (some ⟨w4.heap.size, 0, none⟩) 1 1)) (w4.alloc (.cells (cmC ⟨#[]⟩ 21 false (.slice (some ⟨gs, 0, none⟩) 1 1) (.slice ia 2 ic)) 38)) := by
  have hz : (Z.alloc (.cells #[.int .i64 2, .int .i64 1] 3)).heap.size = Z.heap.size + 1 := by simp
  have hbz : Below Z.heap.size Z w4 := ((Below.refl _ _).alloc (Nat.le_refl _) _).trans (hb.mono (by omega))
  have hsz := hb.size
  have ba : Below w4.heap.size w4 (w4.alloc (.cells (cmC ⟨#[]⟩ 21 false (.slice (some ⟨gs, 0, none⟩) 1 1) (.slice ia 2 ic)) 38)) := (Below.refl _ _).alloc (Nat.le_refl _) _
  refine ⟨w4.heap.size, gs, ia, ic, rfl, ?_, ?_, by omega, by omega, heap_new _ _, bel_at ba (lt_of_heap hg) hg, ?_, fun b e => by have := hlo b e; omega⟩
  · exact (z1.trans (Stays.ofBelow (fp := []) hbz) (fun b hb => by cases hb)).alloc _
  · exact bel_at (hbz.trans (ba.mono hbz.size)) (lt_of_heap z2) z2
  · exact ownsRow_same hrow (fun b e => ba.block b (hrow.lt b e).2)
set_option maxRecDepth 20000 in
set_option maxHeartbeats 4000000 in
theorem Resync_far (P : Nat) (q : Value) (v n h : Int) (ra : Option Addr) (rn rc : Nat) (was : Value) (bg : Bool) (ws : Bool) (wv wn wh : Int) (ua fa ka : Option Addr) (un fn kn uc fc kc : Nat) (w : World)
    (hM : w.heap[P]? = some (mirO q true v n h (.slice ra rn rc) was bg)) (hr : 0 < rn) (hfar : wv ≠ v ∨ wh ≤ 0) :
    Calls Tryd.prog 10 #[.pointer (some ⟨P, 0, none⟩), .agg (siC ws wv wn wh (.slice ua un uc) (.slice fa fn fc) (.slice ka kn kc))] w (ResyncFar P q v n h (.slice ra rn rc) bg w) := by
  obtain ⟨Y0, hY0⟩ : ∃ Y, w.alloc (.cells (siC ws wv wn wh (.slice ua un uc) (.slice fa fn fc) (.slice ka kn kc)) 47) = Y := ⟨_, rfl⟩
  have b0 : Below w.heap.size w Y0 := by rw [← hY0]; exact (Below.refl _ _).alloc (Nat.le_refl _) _
  have rS : Y0.heap[w.heap.size]? = some (.cells (siC ws wv wn wh (.slice ua un uc) (.slice fa fn fc) (.slice ka kn kc)) 47 (0, 0)) := by rw [← hY0]; exact heap_new _ _
  have yM := bel_at b0 (lt_of_heap hM) hM
  have hPw := lt_of_heap hM
  obtain ⟨Y1, hY1⟩ : ∃ Y, Y0.setCell ⟨P, 6, none⟩ (.map none) = Y := ⟨_, rfl⟩
  have c6 := (mir_cells yM).c6
  have f6 := mir_fz yM 6
  have M1 : Y1.heap[P]? = some (mirO q true v n h (.slice ra rn rc) (.map none) bg) := by rw [← hY1]; exact mir_set6 yM _
  have rS1 : Y1.heap[w.heap.size]? = some (.cells (siC ws wv wn wh (.slice ua un uc) (.slice fa fn fc) (.slice ka kn kc)) 47 (0, 0)) := by rw [← hY1, Below.heap_setCell _ _ _ _ (by show w.heap.size ≠ P; omega)]; exact rS
  have s1 : Stays [P] w Y1 := by rw [← hY1]; exact (Stays.ofBelow b0).setCell (.inl (by simp)) _
  have m1 := (mir_cells M1).c1
  have m2 := (mir_cells M1).c2
  have m5 := (mir_cells M1).c5
  have e1 : Y1.cell? ⟨w.heap.size, 1, none⟩ = some (.int .i64 wv) := by unfold siC at rS1; exact cell_of rS1 1
  have e3 : Y1.cell? ⟨w.heap.size, 3, none⟩ = some (.int .i64 wh) := by unfold siC at rS1; exact cell_of rS1 3
  have hrn : ((rn : Int) == 0) = false := by simp; omega
  have HF : Hid (∀ Y : World, Calls Tryd.prog 22 #[.slice (some ⟨Y.heap.size, 0, none⟩) 2 2] (Y.alloc (.cells #[.int .i64 2, .int .i64 1] 3)) (FetchOut [2, 1] (Y.alloc (.cells #[.int .i64 2, .int .i64 1] 3)))) := Lib.hid (fun Y => fetch_any [2, 1] (by decide) Y.heap.size _ (fun j hj => by
    rw [cell_of (heap_new Y _)]
    match j, hj with
    | 0, _ => rfl
    | 1, _ => rfl) (by simp))
  have HY0 := Lib.hid hY0
  have HY1 := Lib.hid hY1
  have HS := Lib.hid s1
  have HM := Lib.hid M1
  have HW : Hid (w.heap.size < Y1.heap.size) := Lib.hid (lt_of_heap rS1)
  clear hY0 hY1 b0 rS yM rS1 s1 M1 hM hPw
  unfold siC at HY0 ⊢
  go_enter Tryd.func10, Tryd.ntmps10
  go_upto_region 3 with fail
  rw [HY0.out]
  go_upto_region 4 with fail
  rw [HY1.out]
  clear HY0 HY1 c6 f6
  go_upto_region 6 with fail
  by_cases hv : wv = v
  · have hh : wh ≤ 0 := by rcases hfar with e | e <;> first | exact absurd hv e | exact e
    have d1 : (wv != v) = false := by simp [hv]
    have d2 : decide (wh ≤ 0) = true := by simpa using hh
    clear hv hfar hh
    go_quiet (fail)
    have HZ : Hid (Stays [P] w (Y1.drewN nq) ∧ (Y1.drewN nq).heap[P]? = some (mirO q true v n h (.slice ra rn rc) (.map none) bg) ∧ w.heap.size < (Y1.drewN nq).heap.size) := Lib.hid ⟨⟨HS.out.os, HS.out.tape, HS.out.output, HS.out.size, HS.out.block⟩, HM.out, HW.out⟩
    generalize Y1.drewN nq = Z at *
    go_wp2_with (first | (go_at_call 22; refine (HF.out _).mono ?_; rintro e w4 ⟨gs, ia, ic, rfl, hb4, hgs, hg, hrow, hlo⟩; unfold cmC; have HB4 := Lib.hid hb4; have HR4 := Lib.hid (And.intro hgs (And.intro hg (And.intro hrow hlo))); clear hb4 hgs hg hrow hlo))
    go_ret
    obtain ⟨z1, z2, z3⟩ := HZ.out
    obtain ⟨hgs, hg, hrow, hlo⟩ := HR4.out
    exact resync_out z1 z2 z3 HB4.out hgs hg hrow hlo
  · have d1 : (wv != v) = true := by simpa using hv
    clear hv hfar
    go_quiet (fail)
    have HZ : Hid (Stays [P] w (Y1.drewN nq) ∧ (Y1.drewN nq).heap[P]? = some (mirO q true v n h (.slice ra rn rc) (.map none) bg) ∧ w.heap.size < (Y1.drewN nq).heap.size) := Lib.hid ⟨⟨HS.out.os, HS.out.tape, HS.out.output, HS.out.size, HS.out.block⟩, HM.out, HW.out⟩
    generalize Y1.drewN nq = Z at *
    go_wp2_with (first | (go_at_call 22; refine (HF.out _).mono ?_; rintro e w4 ⟨gs, ia, ic, rfl, hb4, hgs, hg, hrow, hlo⟩; unfold cmC; have HB4 := Lib.hid hb4; have HR4 := Lib.hid (And.intro hgs (And.intro hg (And.intro hrow hlo))); clear hb4 hgs hg hrow hlo))
    go_ret
    obtain ⟨z1, z2, z3⟩ := HZ.out
    obtain ⟨hgs, hg, hrow, hlo⟩ := HR4.out
    exact resync_out z1 z2 z3 HB4.out hgs hg hrow hlo
end Go.Proofs.YtfcpmiafliegiaaDoor
