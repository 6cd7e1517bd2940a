/- mirror: Resync, where all is to be asked anew. -/
import Derived.Test.YtlmlbcnjohjnlaaDoorM19s
import Derived.Test.YtlmlbcnjohjnlaaDoorM19m
import Derived.Test.YtlmlbcnjohjnlaaDoorM19k
import Derived.Test.YtlmlbcnjohjnlaaDoorM19r
namespace Go.Proofs.YtlmlbcnjohjnlaaDoor
open Go.RowKit

/-- One FETCH of all, uids and flags. -/
def ResyncFar (P : Nat) (q : Value) (v n h : Int) (rows : Value) (bg : Bool) (w : World) (e : Ending) (w' : World) : Prop := ∃ g gs ia ic, e = .returned (.slice (some ⟨g, 0, none⟩) 1 1) ∧ Stays [P] w w' ∧ w'.heap[P]? = some (mirO q true v n h rows (.map none) bg) ∧ w.heap.size ≤ g ∧ w.heap.size ≤ gs ∧ w'.heap[g]? = some (.cells (cmC ⟨#[]⟩ 21 false (.slice (some ⟨gs, 0, none⟩) 1 1) (.slice ia 2 ic)) 38 (0, 0)) ∧ w'.heap[gs]? = some (.cells #[.int .i64 1, .int .i64 0] 91 (0, 0)) ∧ w'.ownsRow 0 95 8 (.slice ia 2 ic) 2 (itL [2, 1]) ∧ ∀ b, (Value.slice ia 2 ic).ownBlock = some b → w.heap.size ≤ b
theorem resync_out {P : Nat} {q : Value} {v n h : Int} {rows : Value} {bg : Bool} {w Z w4 : World} {gs : Nat} {ia : Option Addr} {ic : Nat} (z1 : Stays [P] w Z) (z2 : Z.heap[P]? = some (mirO q true v n h rows (.map none) bg)) (z3 : w.heap.size < Z.heap.size)
    (hb : Below (Z.alloc (.cells #[.int .i64 2, .int .i64 1] 3)).heap.size (Z.alloc (.cells #[.int .i64 2, .int .i64 1] 3)) w4) (hgs : (Z.alloc (.cells #[.int .i64 2, .int .i64 1] 3)).heap.size ≤ gs) (hg : w4.heap[gs]? = some (.cells #[.int .i64 1, .int .i64 0] 91 (0, 0)))
    (hrow : w4.ownsRow 0 95 8 (.slice ia 2 ic) 2 (itL [2, 1])) (hlo : ∀ b, (Value.slice ia 2 ic).ownBlock = some b → (Z.alloc (.cells #[.int .i64 2, .int .i64 1] 3)).heap.size ≤ b) :
    ResyncFar P q v n h rows bg w (.returned (.slice (some ⟨w4.heap.size, 0, none⟩) 1 1)) (w4.alloc (.cells (cmC ⟨#[]⟩ 21 false (.slice (some ⟨gs, 0, none⟩) 1 1) (.slice ia 2 ic)) 38)) := by
  have hz : (Z.alloc (.cells #[.int .i64 2, .int .i64 1] 3)).heap.size = Z.heap.size + 1 := by simp
  have hbz : Below Z.heap.size Z w4 := ((Below.refl _ _).alloc (Nat.le_refl _) _).trans (hb.mono (by omega))
  have hsz := hb.size
  have ba : Below w4.heap.size w4 (w4.alloc (.cells (cmC ⟨#[]⟩ 21 false (.slice (some ⟨gs, 0, none⟩) 1 1) (.slice ia 2 ic)) 38)) := (Below.refl _ _).alloc (Nat.le_refl _) _
  refine ⟨w4.heap.size, gs, ia, ic, rfl, ?_, ?_, by omega, by omega, heap_new _ _, bel_at ba (lt_of_heap hg) hg, ?_, fun b e => by have := hlo b e; omega⟩
  · exact (z1.trans (Stays.ofBelow (fp := []) hbz) (fun b hb => by cases hb)).alloc _
  · exact bel_at (hbz.trans (ba.mono hbz.size)) (lt_of_heap z2) z2
  · exact ownsRow_same hrow (fun b e => ba.block b (hrow.lt b e).2)
set_option maxRecDepth 20000 in
set_option maxHeartbeats 4000000 in
theorem Resync_far (P : Nat) (q : Value) (v n h : Int) (ra : Option Addr) (rn rc : Nat) (was : Value) (bg : Bool) (ws : Bool) (wv wn wh : Int) (ua fa ka : Option Addr) (un fn kn uc fc kc : Nat) (w : World)
    (hM : w.heap[P]? = some (mirO q true v n h (.slice ra rn rc) was bg)) (hr : 0 < rn) (hfar : wv ≠ v ∨ wh ≤ 0) :
    Calls Tryd.prog 10 #[.pointer (some ⟨P, 0, none⟩), .agg (siC ws wv wn wh (.slice ua un uc) (.slice fa fn fc) (.slice ka kn kc))] w (ResyncFar P q v n h (.slice ra rn rc) bg w) := by
  obtain ⟨Y0, hY0⟩ : ∃ Y, w.alloc (.cells (siC ws wv wn wh (.slice ua un uc) (.slice fa fn fc) (.slice ka kn kc)) 47) = Y := ⟨_, rfl⟩
  have b0 : Below w.heap.size w Y0 := by rw [← hY0]; exact (Below.refl _ _).alloc (Nat.le_refl _) _
  have rS : Y0.heap[w.heap.size]? = some (.cells (siC ws wv wn wh (.slice ua un uc) (.slice fa fn fc) (.slice ka kn kc)) 47 (0, 0)) := by rw [← hY0]; exact heap_new _ _
  have yM := bel_at b0 (lt_of_heap hM) hM
  have hPw := lt_of_heap hM
  obtain ⟨Y1, hY1⟩ : ∃ Y, Y0.setCell ⟨P, 6, none⟩ (.map none) = Y := ⟨_, rfl⟩
  have c6 := (mir_cells yM).c6
  have f6 := mir_fz yM 6
  have M1 : Y1.heap[P]? = some (mirO q true v n h (.slice ra rn rc) (.map none) bg) := by rw [← hY1]; exact mir_set6 yM _
  have rS1 : Y1.heap[w.heap.size]? = some (.cells (siC ws wv wn wh (.slice ua un uc) (.slice fa fn fc) (.slice ka kn kc)) 47 (0, 0)) := by rw [← hY1, Below.heap_setCell _ _ _ _ (by show w.heap.size ≠ P; omega)]; exact rS
  have s1 : Stays [P] w Y1 := by rw [← hY1]; exact (Stays.ofBelow b0).setCell (.inl (by simp)) _
  have m1 := (mir_cells M1).c1
  have m2 := (mir_cells M1).c2
  have m5 := (mir_cells M1).c5
  have e1 : Y1.cell? ⟨w.heap.size, 1, none⟩ = some (.int .i64 wv) := by unfold siC at rS1; exact cell_of rS1 1
  have e3 : Y1.cell? ⟨w.heap.size, 3, none⟩ = some (.int .i64 wh) := by unfold siC at rS1; exact cell_of rS1 3
  have hrn : ((rn : Int) == 0) = false := by simp; omega
  have HF : Hid (∀ Y : World, Calls Tryd.prog 22 #[.slice (some ⟨Y.heap.size, 0, none⟩) 2 2] (Y.alloc (.cells #[.int .i64 2, .int .i64 1] 3)) (FetchOut [2, 1] (Y.alloc (.cells #[.int .i64 2, .int .i64 1] 3)))) := Lib.hid (fun Y => fetch_any [2, 1] (by decide) Y.heap.size _ (fun j hj => by
    rw [cell_of (heap_new Y _)]
    match j, hj with
    | 0, _ => rfl
    | 1, _ => rfl) (by simp))
  have HY0 := Lib.hid hY0
  have HY1 := Lib.hid hY1
  have HS := Lib.hid s1
  have HM := Lib.hid M1
  have HW : Hid (w.heap.size < Y1.heap.size) := Lib.hid (lt_of_heap rS1)
  clear hY0 hY1 b0 rS yM rS1 s1 M1 hM hPw
  unfold siC at HY0 ⊢
  go_enter Tryd.func10, Tryd.ntmps10
  go_upto_region 3 with fail
  rw [HY0.out]
  go_upto_region 4 with fail
  rw [HY1.out]
  clear HY0 HY1 c6 f6
  go_upto_region 6 with fail
  by_cases hv : wv = v
  · have hh : wh ≤ 0 := by rcases hfar with e | e <;> first | exact absurd hv e | exact e
    have d1 : (wv != v) = false := by simp [hv]
    have d2 : decide (wh ≤ 0) = true := by simpa using hh
    clear hv hfar hh
    go_quiet (fail)
    have HZ : Hid (Stays [P] w (Y1.drewN nq) ∧ (Y1.drewN nq).heap[P]? = some (mirO q true v n h (.slice ra rn rc) (.map none) bg) ∧ w.heap.size < (Y1.drewN nq).heap.size) := Lib.hid ⟨⟨HS.out.os, HS.out.tape, HS.out.output, HS.out.size, HS.out.block⟩, HM.out, HW.out⟩
    generalize Y1.drewN nq = Z at *
    go_wp2_with (first | (go_at_call 22; refine (HF.out _).mono ?_; rintro e w4 ⟨gs, ia, ic, rfl, hb4, hgs, hg, hrow, hlo⟩; unfold cmC; have HB4 := Lib.hid hb4; have HR4 := Lib.hid (And.intro hgs (And.intro hg (And.intro hrow hlo))); clear hb4 hgs hg hrow hlo))
    go_ret
    obtain ⟨z1, z2, z3⟩ := HZ.out
    obtain ⟨hgs, hg, hrow, hlo⟩ := HR4.out
    exact resync_out z1 z2 z3 HB4.out hgs hg hrow hlo
  · have d1 : (wv != v) = true := by simpa using hv
    clear hv hfar
    go_quiet (fail)
    have HZ : Hid (Stays [P] w (Y1.drewN nq) ∧ (Y1.drewN nq).heap[P]? = some (mirO q true v n h (.slice ra rn rc) (.map none) bg) ∧ w.heap.size < (Y1.drewN nq).heap.size) := Lib.hid ⟨⟨HS.out.os, HS.out.tape, HS.out.output, HS.out.size, HS.out.block⟩, HM.out, HW.out⟩
    generalize Y1.drewN nq = Z at *
    go_wp2_with (first | (go_at_call 22; refine (HF.out _).mono ?_; rintro e w4 ⟨gs, ia, ic, rfl, hb4, hgs, hg, hrow, hlo⟩; unfold cmC; have HB4 := Lib.hid hb4; have HR4 := Lib.hid (And.intro hgs (And.intro hg (And.intro hrow hlo))); clear hb4 hgs hg hrow hlo))
    go_ret
    obtain ⟨z1, z2, z3⟩ := HZ.out
    obtain ⟨hgs, hg, hrow, hlo⟩ := HR4.out
    exact resync_out z1 z2 z3 HB4.out hgs hg hrow hlo
end Go.Proofs.YtlmlbcnjohjnlaaDoor

/- mirror: the calls that known makes. -/
namespace Go.Proofs.YtlmlbcnjohjnlaaDoor
open Go.RowKit

def k0 : AK := ⟨⟨#[97]⟩, 5, false, false, .slice none 0 0⟩
def an3 : AN := ⟨11, ⟨#[]⟩, 0, 0, (.slice none 0 0), ⟨#[]⟩, 3, ⟨#[]⟩, (.slice none 0 0), (.slice none 0 0), (.slice none 0 0), (.slice none 0 0), (.slice none 0 0), (.slice none 0 0), false, 0⟩
def an2 : AN := ⟨11, ⟨#[]⟩, 0, 0, (.slice none 0 0), ⟨#[]⟩, 2, ⟨#[]⟩, (.slice none 0 0), (.slice none 0 0), (.slice none 0 0), (.slice none 0 0), (.slice none 0 0), (.slice none 0 0), false, 0⟩
def an7 (g : Nat) : AN := ⟨1, ⟨#[]⟩, 1, 10, (.slice (some ⟨g, 0, none⟩) 1 1), ⟨#[120]⟩, 0, ⟨#[]⟩, (.slice none 0 0), (.slice none 0 0), (.slice none 0 0), (.slice none 0 0), (.slice none 0 0), (.slice none 0 0), false, 0⟩
def an1 : AN := ⟨1, ⟨#[97]⟩, 1, 0, (.slice none 0 0), ⟨#[120]⟩, 0, ⟨#[]⟩, (.slice none 0 0), (.slice none 0 0), (.slice none 0 0), (.slice none 0 0), (.slice none 0 0), (.slice none 0 0), false, 0⟩
/-- A mirror made since W, with one command that waits. -/
structure KH (W : World) (P g c : Nat) (sel : Bool) (v n h : Int) (rows was : Value) (bg : Bool) (X : World) : Prop where
  m : X.heap[P]? = some (mirO (.slice (some ⟨g, 0, none⟩) 1 c) sel v n h rows was bg)
  q : ∃ cs, X.heap[g]? = some (.cells cs 78 (0, 0)) ∧ 5 ≤ cs.size ∧ cs.toList.take 5 = (akC k0).toList
  c1 : 1 ≤ c
  bel : Below W.heap.size W X
  lp : W.heap.size ≤ P
  lg : W.heap.size ≤ g
section
variable {W : World} {P g c : Nat} {sel : Bool} {v n h : Int} {rows was : Value} {bg : Bool} {X X' : World}
theorem KH.on (k : KH W P g c sel v n h rows was bg X) (hb : Below X.heap.size X X') : KH W P g c sel v n h rows was bg X' := by
  obtain ⟨cs, hg, h5, ht⟩ := k.q
  exact ⟨bel_at hb (lt_of_heap k.m) k.m, ⟨cs, bel_at hb (lt_of_heap hg) hg, h5, ht⟩, k.c1, k.bel.trans (hb.mono k.bel.size), k.lp, k.lg⟩
theorem KH.ne (k : KH W P g c sel v n h rows was bg X) : g ≠ P := by
  obtain ⟨cs, hg, h5, ht⟩ := k.q
  exact kind_ne hg k.m (by decide)
theorem KH.turn {sel' : Bool} {v' n' h' : Int} {rows' was' : Value} {bg' : Bool} (k : KH W P g c sel v n h rows was bg X) (hs : Stays [P] X X') (hm : X'.heap[P]? = some (mirO (.slice (some ⟨g, 0, none⟩) 1 c) sel' v' n' h' rows' was' bg')) : KH W P g c sel' v' n' h' rows' was' bg' X' := by
  have hne := k.ne
  obtain ⟨cs, hg, h5, ht⟩ := k.q
  refine ⟨hm, ⟨cs, ?_, h5, ht⟩, k.c1, k.bel.trans (hs.below (fun b hb => ?_) k.bel.size), k.lp, k.lg⟩
  · exact hs.at_ hg (by simpa using hne)
  · simp at hb; subst hb; exact k.lp
theorem KH.hand (k : KH W P g c sel v n h rows was bg X) : Hand X (.slice (some ⟨g, 0, none⟩) 1 c) (some k0) := by
  obtain ⟨cs, hg, h5, ht⟩ := k.q
  have hc : ∀ j, j < 5 → X.cell? ⟨g, j, none⟩ = (akC k0)[j]? := fun j hj => by
    rw [cell_of hg]
    have := congrArg (fun l => l[j]?) ht
    simp only [List.getElem?_take, hj, if_true] at this
    simpa using this
  exact ⟨g, 0, 0, c, rfl, by omega, lt_of_heap hg, ⟨none, 0, 0, rfl⟩, hc 0 (by omega), hc 1 (by omega), hc 2 (by omega), hc 3 (by omega), hc 4 (by omega)⟩
end
theorem hear_3 (P : Nat) (w : World) (hM : w.heap[P]? = some (mirO (.slice none 0 0) false 0 0 0 (.slice none 0 0) (.map none) false)) :
    Calls Tryd.prog 9 #[.pointer (some ⟨P, 0, none⟩), .agg (anC an3)] w fun e w' => e = .returned (.int .i64 190) ∧ Below w.heap.size w w' := by
  refine Hear_deny P an3 w ?_
  refine (change_11 P an3 rfl (w.alloc (anO an3)) (fun v X w' => v = .nilFunc ∧ Below X.heap.size X w') (fun X hX => ?_)).mono ?_
  · have hb := ((Below.refl w.heap.size w).alloc (Nat.le_refl _) (anO an3)).trans (hX.mono (by simp))
    have hm := mir_cells (bel_at hb (lt_of_heap hM) hM)
    refine (exists_deny P (.slice none 0 0) false none an3 X hm.c0 hm.c1 (Nat.lt_of_lt_of_le (lt_of_heap hM) hb.size) ⟨none, 0, rfl⟩ (by decide) (by decide) rfl rfl).mono ?_
    rintro e w' ⟨rfl, h⟩
    exact ⟨_, rfl, rfl, h⟩
  · rintro e w' ⟨v, X, rfl, h1, rfl, h2⟩
    exact ⟨rfl, h1.trans (h2.mono h1.size)⟩
theorem ask_a (W : World) (P : Nat) (w : World) (hM : w.heap[P]? = some (mirO (.slice none 0 0) false 0 0 0 (.slice none 0 0) (.map none) false)) (hb : Below W.heap.size W w) (hP : W.heap.size ≤ P) :
    Calls Tryd.prog 8 #[.pointer (some ⟨P, 0, none⟩), .agg (cmC ⟨#[97]⟩ 5 false (.slice none 0 0) (.slice none 0 0))] w fun e w' => e = .returned (.int .i64 0) ∧ ∃ g c, KH W P g c false 0 0 0 (.slice none 0 0) (.map none) false w' := by
  refine (Ask_plain P none 0 0 false 0 0 0 _ _ false [] ⟨#[97]⟩ 5 false (by kernel_rfl) (by decide) (by decide) (by decide) w hM (World.ownsRow_nil _ _ _ _) (by omega)).mono ?_
  rintro e w' ⟨rfl, a, c, hm, hr, hs, hw⟩
  refine ⟨rfl, ?_⟩
  rcases hr.2 with ⟨hv, _⟩ | ⟨g, cap, cur, hv, _, hg, hcap, _, hcs, ht⟩
  · cases hv
  · cases hv
    refine ⟨g, c, hm, ⟨cur, hg, by omega, ?_⟩, by omega, hb.trans (hs.below (fun b hb' => ?_) hb.size), hP, ?_⟩
    · exact ht
    · simp [Value.ownBlock] at hb'; subst hb'; exact hP
    · rcases hw g rfl with e | e
      · simp [Value.ownBlock] at e; omega
      · have := hb.size; omega
theorem hear_2 (W : World) (P g c : Nat) (w : World) (k : KH W P g c false 0 0 0 (.slice none 0 0) (.map none) false w) :
    Calls Tryd.prog 9 #[.pointer (some ⟨P, 0, none⟩), .agg (anC an2)] w fun e w' => e = .returned (.int .i64 0) ∧ ∃ gr, KH W P g c false 0 0 0 (.slice (some ⟨gr, 0, none⟩) 2 2) (.map none) true w' ∧ w'.heap[gr]? = some rw2 := by
  have hPl := lt_of_heap k.m
  have hal := (Below.refl w.heap.size w).alloc (Nat.le_refl _) (anO an2)
  refine Hear_exists P an2 w (fun b0 b1 X => Below w.heap.size w X ∧ X.heap[w.heap.size]? = some (anO an2) ∧ X.heap[b0]? = some (anO an2) ∧ X.heap[b1]? = some (ppO P)) (fun b0 b1 X => Below w.heap.size w X ∧ X.heap[b0]? = some (anO an2) ∧ X.heap[b1]? = some (ppO P))
    (fun b0 b1 X => KH W P g c false 0 0 0 (.slice none 0 0) (.map none) true X ∧ X.heap[b0]? = some (anO an2) ∧ X.heap[b1]? = some (ppO P)) _ ?_ (fun b0 b1 X h => h.2.1) ?_ ?_ ?_
  · refine (change_11 P an2 rfl (w.alloc (anO an2)) (fun v X w' => v = fnV 42 #[.pointer (some ⟨X.heap.size, 0, none⟩), .pointer (some ⟨X.heap.size + 1, 0, none⟩)] ∧ Below X.heap.size X w' ∧ w'.heap[X.heap.size]? = some (anO an2) ∧ w'.heap[X.heap.size + 1]? = some (ppO P)) (fun X hX => ?_)).mono ?_
    · have hb := hal.trans (hX.mono (by simp))
      have kx := k.on hb
      have hm := mir_cells kx.m
      refine (exists_open P _ (some k0) an2 X hm.c0 (lt_of_heap kx.m) kx.hand (by decide) (by decide) rfl).mono ?_
      rintro e w' ⟨rfl, h⟩
      exact ⟨_, rfl, rfl, h⟩
    · rintro e w' ⟨v, X, rfl, h1, rfl, h2, h3, h4⟩
      have hx := hal.trans (h1.mono (by simp))
      refine ⟨_, _, rfl, hx.trans (h2.mono hx.size), ?_, h3, h4⟩
      refine bel_at (h1.trans (h2.mono h1.size)) (by simp) (heap_new _ _)
  · rintro b0 b1 X ⟨h1, _, h3, h4⟩
    have kx := k.on h1
    have hm := mir_cells kx.m
    refine (begins_any P _ false (some k0) an2 X hm.c0 hm.c7 (lt_of_heap kx.m) kx.hand).mono ?_
    rintro e w' ⟨rfl, h⟩
    exact ⟨rfl, h1.trans (h.mono h1.size), bel_at h (lt_of_heap h3) h3, bel_at h (lt_of_heap h4) h4⟩
  · rintro b0 b1 X ⟨h1, h3, h4⟩
    have kx := k.on h1
    refine ⟨_, _, _, _, _, _, _, _, kx.m, fun X' hm hs => ⟨kx.turn hs hm, hs.at_ h3 ?_, hs.at_ h4 ?_⟩⟩
    · simpa using kind_ne h3 kx.m (by decide)
    · simpa using kind_ne h4 kx.m (by decide)
  · rintro b0 b1 X ⟨kx, h3, h4⟩
    refine (exists1_two P _ _ _ _ _ _ _ _ an2 rfl b0 b1 X h3 h4 kx.m).mono ?_
    rintro e w' ⟨rfl, hs, hm, hr⟩
    exact ⟨rfl, _, kx.turn hs hm, hr⟩
theorem hear_7 (W : World) (P g c gr gv : Nat) (w : World) (k : KH W P g c false 0 0 0 (.slice (some ⟨gr, 0, none⟩) 2 2) (.map none) true w) (hr : w.heap[gr]? = some rw2) (hv : w.heap[gv]? = some (.cells #[.int .i64 1, .int .i64 7, .string ⟨#[]⟩, .slice none 0 0] 64 (0, 0))) :
    Calls Tryd.prog 9 #[.pointer (some ⟨P, 0, none⟩), .agg (anC (an7 gv))] w fun e w' => e = .returned (.int .i64 0) ∧ KH W P g c false 7 0 0 (.slice (some ⟨gr, 0, none⟩) 2 2) (.map none) true w' ∧ w'.heap[gr]? = some rw2 := by
  have hPl := lt_of_heap k.m
  have hal := (Below.refl w.heap.size w).alloc (Nat.le_refl _) (anO (an7 gv))
  refine Hear_coded P (an7 gv) w (fun b0 b1 X => Below w.heap.size w X ∧ X.heap[w.heap.size]? = some (anO (an7 gv)) ∧ X.heap[b0]? = some (anO (an7 gv)) ∧ X.heap[b1]? = some (piO P)) (fun b0 b1 X => Below w.heap.size w X ∧ X.heap[b0]? = some (anO (an7 gv)) ∧ X.heap[b1]? = some (piO P))
    (fun b0 b1 X => Below w.heap.size w X ∧ X.heap[b0]? = some (anO (an7 gv)) ∧ X.heap[b1]? = some (piO P)) _ ?_ (fun b0 b1 X h => h.2.1) ?_ (fun b0 b1 X h => h) ?_
  · refine (change_1 P (an7 gv) rfl (w.alloc (anO (an7 gv))) (fun v X w' => ∃ ba bp, v = fnV 60 #[.pointer (some ⟨ba, 0, none⟩), .pointer (some ⟨bp, 0, none⟩)] ∧ Below X.heap.size X w' ∧ w'.heap[ba]? = some (anO (an7 gv)) ∧ w'.heap[bp]? = some (piO P)) (fun X hX => ?_)).mono ?_
    · refine (state_ok P (an7 gv) (by kernel_rfl) rfl X (fun v X w' => ∃ ba bp, v = fnV 60 #[.pointer (some ⟨ba, 0, none⟩), .pointer (some ⟨bp, 0, none⟩)] ∧ Below X.heap.size X w' ∧ w'.heap[ba]? = some (anO (an7 gv)) ∧ w'.heap[bp]? = some (piO P)) (fun X2 hX2 => ?_)).mono ?_
      · have hb := hal.trans ((hX.trans (hX2.mono hX.size)).mono (by simp))
        have kx := k.on hb
        have hm := mir_cells kx.m
        have hvx := bel_at hb (lt_of_heap hv) hv
        refine (coded_val P _ (some k0) (an7 gv) gv 7 ⟨#[]⟩ none 0 0 (by decide) (by decide) rfl rfl X2 (cell_of hvx 0) (cell_of hvx 1) (cell_of hvx 2) (cell_of hvx 3) (lt_of_heap hvx) hm.c0 (lt_of_heap kx.m) kx.hand rfl).mono ?_
        rintro e w' ⟨ba, bp, rfl, h⟩
        exact ⟨_, rfl, ba, bp, rfl, h⟩
      · rintro e w' ⟨v, rfl, X2, h1, ba, bp, rfl, h2, h3⟩
        exact ⟨_, rfl, ba, bp, rfl, h1.trans (h2.mono h1.size), h3⟩
    · rintro e w' ⟨v, X, rfl, h1, ba, bp, rfl, h2, h3, h4⟩
      have hx := hal.trans (h1.mono (by simp))
      refine ⟨_, _, rfl, hx.trans (h2.mono hx.size), ?_, h3, h4⟩
      exact bel_at (h1.trans (h2.mono h1.size)) (by simp) (heap_new _ _)
  · rintro b0 b1 X ⟨h1, _, h3, h4⟩
    have kx := k.on h1
    have hm := mir_cells kx.m
    refine (begins_any P _ true (some k0) (an7 gv) X hm.c0 hm.c7 (lt_of_heap kx.m) kx.hand).mono ?_
    rintro e w' ⟨rfl, h⟩
    exact ⟨rfl, h1.trans (h.mono h1.size), bel_at h (lt_of_heap h3) h3, bel_at h (lt_of_heap h4) h4⟩
  · rintro b0 b1 X ⟨h1, h3, h4⟩
    have kx := k.on h1
    have hvx := bel_at h1 (lt_of_heap hv) hv
    refine (coded1_val P _ _ _ _ _ _ _ _ (an7 gv) gv 7 rfl b0 b1 X (cell_of hvx 1) h3 h4 kx.m).mono ?_
    rintro e w' ⟨rfl, hs, hm⟩
    refine ⟨rfl, kx.turn hs hm, hs.at_ (bel_at h1 (lt_of_heap hr) hr) ?_⟩
    simpa using kind_ne (bel_at h1 (lt_of_heap hr) hr) kx.m (by decide)
theorem hear_1 (W : World) (P g c gr : Nat) (w : World) (k : KH W P g c false 7 0 0 (.slice (some ⟨gr, 0, none⟩) 2 2) (.map none) true w) (hr : w.heap[gr]? = some rw2) :
    Calls Tryd.prog 9 #[.pointer (some ⟨P, 0, none⟩), .agg (anC an1)] w fun e w' => e = .returned (.int .i64 0) ∧ ∃ q, w'.heap[P]? = some (mirO q true 7 0 0 (.slice (some ⟨gr, 0, none⟩) 2 2) (.map none) false) ∧ w'.heap[gr]? = some rw2 ∧ Below W.heap.size W w' := by
  have hPl := lt_of_heap k.m
  have hal := (Below.refl w.heap.size w).alloc (Nat.le_refl _) (anO an1)
  refine Hear_answered P an1 w (fun b0 b1 b2 X => Below w.heap.size w X ∧ X.heap[w.heap.size]? = some (anO an1) ∧ X.heap[b0]? = some (mpO P) ∧ X.heap[b1]? = some (.cells (akC k0) 78 (0, 0)) ∧ X.heap[b2]? = some (anO an1) ∧ w.heap.size ≤ b1) (fun b0 b1 b2 X => Below w.heap.size w X ∧ X.heap[b0]? = some (mpO P) ∧ X.heap[b1]? = some (.cells (akC k0) 78 (0, 0)) ∧ X.heap[b2]? = some (anO an1) ∧ w.heap.size ≤ b1)
    (fun b0 b1 b2 X => Below w.heap.size w X ∧ X.heap[b0]? = some (mpO P) ∧ X.heap[b1]? = some (.cells (akC k0) 78 (0, 0)) ∧ X.heap[b2]? = some (anO an1) ∧ w.heap.size ≤ b1) _ ?_ (fun b0 b1 b2 X h => h.2.1) ?_ (fun b0 b1 b2 X h => h) ?_
  · refine (change_1 P an1 rfl (w.alloc (anO an1)) (fun v X w' => ∃ bm bc ba, v = fnV 55 #[.pointer (some ⟨bm, 0, none⟩), .pointer (some ⟨bc, 0, none⟩), .pointer (some ⟨ba, 0, none⟩)] ∧ Below X.heap.size X w' ∧ w'.heap[bm]? = some (mpO P) ∧ w'.heap[bc]? = some (.cells (akC k0) 78 (0, 0)) ∧ w'.heap[ba]? = some (anO an1) ∧ X.heap.size ≤ bc) (fun X hX => ?_)).mono ?_
    · refine (state_tag P an1 (by kernel_rfl) rfl X (fun v X w' => ∃ bm bc ba, v = fnV 55 #[.pointer (some ⟨bm, 0, none⟩), .pointer (some ⟨bc, 0, none⟩), .pointer (some ⟨ba, 0, none⟩)] ∧ Below X.heap.size X w' ∧ w'.heap[bm]? = some (mpO P) ∧ w'.heap[bc]? = some (.cells (akC k0) 78 (0, 0)) ∧ w'.heap[ba]? = some (anO an1) ∧ X.heap.size ≤ bc) (fun X2 hX2 => ?_)).mono ?_
      · have hb := hal.trans ((hX.trans (hX2.mono hX.size)).mono (by simp))
        have kx := k.on hb
        have hm := mir_cells kx.m
        refine (answered_yes P _ k0 an1 (by kernel_rfl) rfl X2 hm.c0 (lt_of_heap kx.m) kx.hand).mono ?_
        rintro e w' ⟨bm, bc, ba, rfl, h⟩
        exact ⟨_, rfl, bm, bc, ba, rfl, h⟩
      · rintro e w' ⟨v, rfl, X2, h1, bm, bc, ba, rfl, h2, h3, h4, h5, h6⟩
        exact ⟨_, rfl, bm, bc, ba, rfl, h1.trans (h2.mono h1.size), h3, h4, h5, Nat.le_trans h1.size h6⟩
    · rintro e w' ⟨v, X, rfl, h1, bm, bc, ba, rfl, h2, h3, h4, h5, h6⟩
      have hx := hal.trans (h1.mono (by simp))
      refine ⟨_, _, _, rfl, hx.trans (h2.mono hx.size), ?_, h3, h4, h5, Nat.le_trans hx.size h6⟩
      exact bel_at (h1.trans (h2.mono h1.size)) (by simp) (heap_new _ _)
  · rintro b0 b1 b2 X ⟨h1, _, h3, h4, h5, h6⟩
    have kx := k.on h1
    have hm := mir_cells kx.m
    refine (begins_any P _ true (some k0) an1 X hm.c0 hm.c7 (lt_of_heap kx.m) kx.hand).mono ?_
    rintro e w' ⟨rfl, h⟩
    exact ⟨rfl, h1.trans (h.mono h1.size), bel_at h (lt_of_heap h3) h3, bel_at h (lt_of_heap h4) h4, bel_at h (lt_of_heap h5) h5, h6⟩
  · rintro b0 b1 b2 X ⟨h1, h3, h4, h5, h6⟩
    have kx := k.on h1
    have hr' := bel_at h1 (lt_of_heap hr) hr
    obtain ⟨cs, hg, h5', _⟩ := kx.q
    obtain ⟨cs0, hg0, _⟩ := k.q
    have hgl := lt_of_heap hg0
    refine (answered1_open P _ _ _ _ _ _ _ g c cs k0 rfl ⟨_, _, _, rfl⟩ an1 rfl b0 b1 b2 X kx.m hg h5' kx.c1 h3 h4 h5 (by omega)).mono ?_
    rintro e w' ⟨rfl, hs, q', hm⟩
    refine ⟨rfl, q', hm, hs.at_ hr' ?_, kx.bel.trans (hs.below (fun b hb => ?_) kx.bel.size)⟩
    · have n1 := kind_ne hr' kx.m (by decide)
      have n2 := kind_ne hr' hg (by decide)
      simp [n1, n2]
    · simp at hb
      rcases hb with rfl | rfl
      · exact kx.lp
      · exact kx.lg
end Go.Proofs.YtlmlbcnjohjnlaaDoor

/- mirror: known. -/
namespace Go.Proofs.YtlmlbcnjohjnlaaDoor
open Go.RowKit

theorem row_at {w : World} {e : TypeId} {v : Value} {n : Nat} {xs : List Value} (h : w.ownsRow 0 e 1 v n xs) (hn : 0 < n) : ∃ g cap cur, v = .slice (some ⟨g, 0, none⟩) n cap ∧ w.heap[g]? = some (.cells cur e (0, 0)) ∧ ∀ j, j < n → cur[j]? = xs[j]? := by
  rcases h.2 with ⟨rfl, rfl⟩ | ⟨g, cap, cur, rfl, _, hg, _, _, _, ht⟩
  · omega
  · refine ⟨g, cap, cur, rfl, hg, fun j hj => ?_⟩
    have := congrArg (fun l => l[j]?) ht
    simp only [List.getElem?_take, Nat.mul_one, hj, if_true] at this
    simpa using this
def KnownOut (w : World) (e : Ending) (w' : World) : Prop := e = .returned (.bool true) ∧ Below w.heap.size w w'
set_option maxRecDepth 20000 in
set_option maxHeartbeats 4000000 in
theorem known_any (w : World) : Calls Tryd.prog 13 #[] w (KnownOut w) := by
  obtain ⟨Y0, hY0⟩ : ∃ Y, w.alloc (mirO (.slice none 0 0) false 0 0 0 (.slice none 0 0) (.map none) false) = Y := ⟨_, rfl⟩
  have b0 : Below w.heap.size w Y0 := by rw [← hY0]; exact (Below.refl _ _).alloc (Nat.le_refl _) _
  have m0 : Y0.heap[w.heap.size]? = some (mirO (.slice none 0 0) false 0 0 0 (.slice none 0 0) (.map none) false) := by rw [← hY0]; exact heap_new _ _
  have H3 := Lib.hid (hear_3 w.heap.size Y0 m0)
  have HA : Hid (∀ X, Below Y0.heap.size Y0 X → Calls Tryd.prog 8 #[.pointer (some ⟨w.heap.size, 0, none⟩), .agg (cmC ⟨#[97]⟩ 5 false (.slice none 0 0) (.slice none 0 0))] X fun e w' => e = .returned (.int .i64 0) ∧ ∃ g c, KH w w.heap.size g c false 0 0 0 (.slice none 0 0) (.map none) false w') := Lib.hid (fun X hX => ask_a w w.heap.size X (bel_at hX (lt_of_heap m0) m0) (b0.trans (hX.mono b0.size)) (Nat.le_refl _))
  have H2 : Hid (∀ g c X, KH w w.heap.size g c false 0 0 0 (.slice none 0 0) (.map none) false X → Calls Tryd.prog 9 #[.pointer (some ⟨w.heap.size, 0, none⟩), .agg (anC an2)] X fun e w' => e = .returned (.int .i64 0) ∧ ∃ gr, KH w w.heap.size g c false 0 0 0 (.slice (some ⟨gr, 0, none⟩) 2 2) (.map none) true w' ∧ w'.heap[gr]? = some rw2) := Lib.hid (fun g c X k => hear_2 w w.heap.size g c X k)
  have H7 : Hid (∀ g c gr X, KH w w.heap.size g c false 0 0 0 (.slice (some ⟨gr, 0, none⟩) 2 2) (.map none) true X → X.heap[gr]? = some rw2 → Calls Tryd.prog 9 #[.pointer (some ⟨w.heap.size, 0, none⟩), .agg (anC (an7 X.heap.size))] (X.alloc (.cells #[.int .i64 1, .int .i64 7, .string ⟨#[]⟩, .slice none 0 0] 64)) fun e w' => e = .returned (.int .i64 0) ∧ KH w w.heap.size g c false 7 0 0 (.slice (some ⟨gr, 0, none⟩) 2 2) (.map none) true w' ∧ w'.heap[gr]? = some rw2) := Lib.hid (fun g c gr X k hr => by
    have ha := (Below.refl X.heap.size X).alloc (Nat.le_refl _) (.cells #[.int .i64 1, .int .i64 7, .string ⟨#[]⟩, .slice none 0 0] 64)
    exact hear_7 w w.heap.size g c gr X.heap.size _ (k.on ha) (bel_at ha (lt_of_heap hr) hr) (heap_new _ _))
  have H1 : Hid (∀ g c gr X, KH w w.heap.size g c false 7 0 0 (.slice (some ⟨gr, 0, none⟩) 2 2) (.map none) true X → X.heap[gr]? = some rw2 → Calls Tryd.prog 9 #[.pointer (some ⟨w.heap.size, 0, none⟩), .agg (anC an1)] X fun e w' => e = .returned (.int .i64 0) ∧ ∃ q, w'.heap[w.heap.size]? = some (mirO q true 7 0 0 (.slice (some ⟨gr, 0, none⟩) 2 2) (.map none) false) ∧ w'.heap[gr]? = some rw2 ∧ Below w.heap.size w w') := Lib.hid (fun g c gr X k hr => hear_1 w w.heap.size g c gr X k hr)
  unfold anC an3 at H3
  unfold anC an2 at H2
  unfold anC an7 at H7
  unfold anC an1 at H1
  unfold cmC at HA
  dsimp only at H3 H2 H7 H1
  have HY0 := Lib.hid hY0
  clear hY0 b0 m0
  unfold mirO mirC at HY0
  go_enter Tryd.func13, Tryd.ntmps13
  go_upto_region 2 with (go_at_call 14; refine (New_any w).mono ?_; rintro e w1 ⟨rfl, rfl⟩; unfold mirO mirC)
  rw [HY0.out]
  clear HY0
  go_upto_region 4 with (first | (go_at_call 9; refine H3.out.mono ?_; rintro e w2 ⟨rfl, hb2⟩; have HB2 := Lib.hid hb2; clear hb2) | (go_at_call 7; refine (num_any _ _).mono ?_; rintro e w3 ⟨rfl, rfl⟩))
  go_upto_region 5 with (go_at_call 8; refine (HA.out _ HB2.out).mono ?_; rintro e w4 ⟨rfl, g, c, hk⟩; have HK4 := Lib.hid hk; clear hk)
  clear HA H3 HB2
  go_upto_region 6 with (go_at_call 9; refine (H2.out _ _ _ HK4.out).mono ?_; rintro e w5 ⟨rfl, gr, hk, hr⟩; have HK5 := Lib.hid hk; have HR5 := Lib.hid hr; clear hk hr)
  clear H2 HK4
  go_upto_region 7 with (go_at_call 9; refine (H7.out _ _ _ _ HK5.out HR5.out).mono ?_; rintro e w6 ⟨rfl, hk, hr⟩; have HK6 := Lib.hid hk; have HR6 := Lib.hid hr; clear hk hr)
  clear H7 HK5 HR5
  go_upto_region 8 with (go_at_call 9; refine (H1.out _ _ _ _ HK6.out HR6.out).mono ?_; rintro e w7 ⟨rfl, q, hm, hr, hb⟩; have HM7 := Lib.hid hm; have HR7 := Lib.hid hr; have HB7 := Lib.hid hb; clear hm hr hb)
  clear H1 HK6 HR6
  have HSi := Lib.hid (Sight_two w.heap.size q 7 0 0 gr 2 (.map none) false w7 HM7.out HR7.out)
  go_upto_region 9 with (first | (go_at_call 12; refine HSi.out.mono ?_; rintro e w8 ⟨us, fl, kn, rfl, hb8, hru, hrf, hrk⟩; obtain ⟨gu, cu, xu, hus, hgu, hxu⟩ := row_at hru (by omega); obtain ⟨fa, fc, hfl⟩ := ownsRow_shape hrf; obtain ⟨gk, ck, xk, hkn, hgk, hxk⟩ := row_at hrk (by omega); subst hus hfl hkn; unfold siC; have HB8 := Lib.hid hb8; have HU := Lib.hid (And.intro hgu hxu); have HKk := Lib.hid (And.intro hgk hxk); clear hb8 hru hrf hrk hgu hxu hgk hxk; have HOn : Hid ((#[.bool true, .int .i64 7, .int .i64 0, .int .i64 0, .slice (some ⟨gu, 0, none⟩) 2 cu, .slice fa 2 fc, .slice (some ⟨gk, 0, none⟩) 2 ck] : Array Value).all (·.oneCell') = true) := Lib.hid (by simp [Value.oneCell'])) | (refine wpList_store_row rfl 47 _ _ rfl w8.heap.size #[.bool true, .int .i64 7, .int .i64 0, .int .i64 0, .slice (some ⟨gu, 0, none⟩) 2 cu, .slice fa 2 fc, .slice (some ⟨gk, 0, none⟩) 2 ck] rfl rfl 47 _ (heap_new _ _) Tryd.sizeSi rfl HOn.out ?_))
  clear HSi HOn
  obtain ⟨Y9, hY9⟩ : ∃ Y, (w8.alloc (.cells #[.bool false, .int .i64 0, .int .i64 0, .int .i64 0, .slice none 0 0, .slice none 0 0, .slice none 0 0] 47)).setRow w8.heap.size #[.bool true, .int .i64 7, .int .i64 0, .int .i64 0, .slice (some ⟨gu, 0, none⟩) 2 cu, .slice fa 2 fc, .slice (some ⟨gk, 0, none⟩) 2 ck] = Y := ⟨_, rfl⟩
  rw [hY9]
  obtain ⟨b9, r9⟩ := box_below hY9
  have b79 := HB8.out.trans (b9.mono HB8.out.size)
  have M9 := bel_at b79 (lt_of_heap HM7.out) HM7.out
  have HRs := Lib.hid (Resync_far w.heap.size q 7 0 0 (some ⟨gr, 0, none⟩) 2 2 (.map none) false false 0 0 0 none none none 0 0 0 0 0 0 Y9 M9 (by omega) (.inl (by decide)))
  have hFin : Hid (∀ X, Stays [w.heap.size] Y9 X → X.cell? ⟨w8.heap.size, 0, none⟩ = some (.bool true) ∧ X.cell? ⟨w8.heap.size, 1, none⟩ = some (.int .i64 7) ∧ X.cell? ⟨w8.heap.size, 4, none⟩ = some (.slice (some ⟨gu, 0, none⟩) 2 cu) ∧ X.cell? ⟨w8.heap.size, 6, none⟩ = some (.slice (some ⟨gk, 0, none⟩) 2 ck) ∧ X.cell? ⟨gu, 0, none⟩ = some (.int .i64 0) ∧ X.cell? ⟨gk, 1, none⟩ = some (.bool false) ∧ Below w.heap.size w X) := Lib.hid (fun X hX => by
    obtain ⟨u1, u2⟩ := HU.out
    obtain ⟨k1, k2⟩ := HKk.out
    have u9 := bel_at b9 (lt_of_heap u1) u1
    have k9 := bel_at b9 (lt_of_heap k1) k1
    have rx := hX.at_ r9 (by simpa using kind_ne r9 M9 (by decide))
    have ux := hX.at_ u9 (by simpa using kind_ne u9 M9 (by decide))
    have kx := hX.at_ k9 (by simpa using kind_ne k9 M9 (by decide))
    refine ⟨cell_of rx 0, cell_of rx 1, cell_of rx 4, cell_of rx 6, by rw [cell_of ux]; exact u2 0 (by omega), by rw [cell_of kx]; exact k2 1 (by omega), ?_⟩
    have bw9 : Below w.heap.size w Y9 := HB7.out.trans (b79.mono HB7.out.size)
    exact bw9.trans (hX.below (fun b hb => by simp at hb; omega) bw9.size))
  unfold siC at HRs
  clear hY9 b9 r9 b79 M9 HB8 HU HKk HM7 HR7 HB7
  go_upto_region 10 with (go_at_call 10; refine HRs.out.mono ?_; rintro e w10 ⟨gc, gs, ia, ic, rfl, hs, _, _, _, hc, _, _, _⟩; have HS10 := Lib.hid hs; have HC10 := Lib.hid hc; clear hs hc)
  obtain ⟨f0, f1, f4, f6, fu, fk, fb⟩ := hFin.out _ HS10.out
  have hc10 := HC10.out
  unfold cmC at hc10
  have c10 : w10.cell? ⟨gc, 10, none⟩ = some (.slice ia 2 ic) := cell_of hc10 10
  have FB := Lib.hid fb
  clear fb hc10 HC10 HS10 hFin HRs
  go_wp2_with (go_at_call 7; refine (num_any _ _).mono ?_; rintro e w11 ⟨rfl, rfl⟩)
  go_ret
  exact ⟨rfl, FB.out⟩
end Go.Proofs.YtlmlbcnjohjnlaaDoor

/- MirrorNothing: the walk. -/
namespace Go.Proofs.YtlmlbcnjohjnlaaDoor
open Go.RowKit

theorem wpList_load_mid_g {ops : Array Oper} {rest : List Oper} {op : Oper} {a : Act} {w : World} {Q : Exit → Act → World → Prop} (hw : Region.wanted op (yielded ops a.tmps) = true) (ty : TypeId) (x : Operand) (ho : op.op = .load ty x)
    (b o : Nat) (hx : a.eval x = .pointer (some ⟨b, o, none⟩)) (cs : List Value) (d : TypeDesc) (hc : w.rangeAt b o cs)
    (hu : Tryd.prog.underlying ty = some d) (hd : d.isRow = true) (hi : (Tryd.prog.info? ty).map (·.size) = some cs.length)
    (h : wpList Tryd.prog ops Q rest (a.put op.dst (.agg cs.toArray)) w) : wpList Tryd.prog ops Q (op :: rest) a w := by
  unfold wpList
  rw [if_pos hw]
  exact .inl (wp_load_mid ty x ho b o hx cs d hc hu hd hi h)
theorem box_range {Y : World} {b z : Nat} {cs : List Value} {t : TypeId} (h : Y.heap[b]? = some (.cells cs.toArray t (0, 0))) (o : Nat) : Y.rangeAt b o ((cs.drop o).take z) := by
  intro j u hj
  rw [cell_of h]
  rw [List.getElem?_take] at hj
  split at hj
  · rw [List.getElem?_drop] at hj
    simpa using hj
  · cases hj
end Go.Proofs.YtlmlbcnjohjnlaaDoor
