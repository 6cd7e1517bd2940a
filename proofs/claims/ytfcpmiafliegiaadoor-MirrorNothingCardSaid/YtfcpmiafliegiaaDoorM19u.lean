/- mirror: the calls that known makes. -/
import Derived.Test.YtfcpmiafliegiaaDoorM19t
import Derived.Test.YtfcpmiafliegiaaDoorM19m
import Derived.Test.YtfcpmiafliegiaaDoorM19l
namespace Go.Proofs.YtfcpmiafliegiaaDoor
open Go.RowKit

def k0 : AK := ⟨⟨#[97]⟩, 5, false, false, .slice none 0 0⟩
def an3 : AN := ⟨11, ⟨#[]⟩, 0, 0, (.slice none 0 0), ⟨#[]⟩, 3, ⟨#[]⟩, (.slice none 0 0), (.slice none 0 0), (.slice none 0 0), (.slice none 0 0), (.slice none 0 0), (.slice none 0 0), false, 0⟩
def an2 : AN := ⟨11, ⟨#[]⟩, 0, 0, (.slice none 0 0), ⟨#[]⟩, 2, ⟨#[]⟩, (.slice none 0 0), (.slice none 0 0), (.slice none 0 0), (.slice none 0 0), (.slice none 0 0), (.slice none 0 0), false, 0⟩
def an7 (g : Nat) : AN := ⟨1, ⟨#[]⟩, 1, 10, (.slice (some ⟨g, 0, none⟩) 1 1), ⟨#[120]⟩, 0, ⟨#[]⟩, (.slice none 0 0), (.slice none 0 0), (.slice none 0 0), (.slice none 0 0), (.slice none 0 0), (.slice none 0 0), false, 0⟩
def an1 : AN := ⟨1, ⟨#[97]⟩, 1, 0, (.slice none 0 0), ⟨#[120]⟩, 0, ⟨#[]⟩, (.slice none 0 0), (.slice none 0 0), (.slice none 0 0), (.slice none 0 0), (.slice none 0 0), (.slice none 0 0), false, 0⟩
/-- A mirror made since W, with one command that waits. -/
structure KH (W : World) (P g c : Nat) (sel : Bool) (v n h : Int) (rows was : Value) (bg : Bool) (X : World) : Prop where
  m : X.heap[P]? = some (mirO (.slice (some ⟨g, 0, none⟩) 1 c) sel v n h rows was bg)
  q : ∃ cs, X.heap[g]? = some (.cells cs 78 (0, 0)) ∧ 5 ≤ cs.size ∧ cs.toList.take 5 = (akC k0).toList
  c1 : 1 ≤ c
  bel : Below W.heap.size W X
  lp : W.heap.size ≤ P
  lg : W.heap.size ≤ g
section
variable {W : World} {P g c : Nat} {sel : Bool} {v n h : Int} {rows was : Value} {bg : Bool} {X X' : World}
theorem KH.on (k : KH W P g c sel v n h rows was bg X) (hb : Below X.heap.size X X') : KH W P g c sel v n h rows was bg X' := by
  obtain ⟨cs, hg, h5, ht⟩ := k.q
  exact ⟨bel_at hb (lt_of_heap k.m) k.m, ⟨cs, bel_at hb (lt_of_heap hg) hg, h5, ht⟩, k.c1, k.bel.trans (hb.mono k.bel.size), k.lp, k.lg⟩
theorem KH.ne (k : KH W P g c sel v n h rows was bg X) : g ≠ P := by
  obtain ⟨cs, hg, h5, ht⟩ := k.q
  exact kind_ne hg k.m (by decide)
theorem KH.turn {sel' : Bool} {v' n' h' : Int} {rows' was' : Value} {bg' : Bool} (k : KH W P g c sel v n h rows was bg X) (hs : Stays [P] X X') (hm : X'.heap[P]? = some (mirO (.slice (some ⟨g, 0, none⟩) 1 c) sel' v' n' h' rows' was' bg')) : KH W P g c sel' v' n' h' rows' was' bg' X' := by
  have hne := k.ne
  obtain ⟨cs, hg, h5, ht⟩ := k.q
  refine ⟨hm, ⟨cs, ?_, h5, ht⟩, k.c1, k.bel.trans (hs.below (fun b hb => ?_) k.bel.size), k.lp, k.lg⟩
  · exact hs.at_ hg (by simpa using hne)
  · simp at hb; subst hb; exact k.lp
theorem KH.hand (k : KH W P g c sel v n h rows was bg X) : Hand X (.slice (some ⟨g, 0, none⟩) 1 c) (some k0) := by
  obtain ⟨cs, hg, h5, ht⟩ := k.q
  have hc : ∀ j, j < 5 → X.cell? ⟨g, j, none⟩ = (akC k0)[j]? := fun j hj => by
    rw [cell_of hg]
    have := congrArg (fun l => l[j]?) ht
    simp only [List.getElem?_take, hj, if_true] at this
    simpa using this
  exact ⟨g, 0, 0, c, rfl, by omega, lt_of_heap hg, ⟨none, 0, 0, rfl⟩, hc 0 (by omega), hc 1 (by omega), hc 2 (by omega), hc 3 (by omega), hc 4 (by omega)⟩
end
theorem hear_3 (P : Nat) (w : World) (hM : w.heap[P]? = some (mirO (.slice none 0 0) false 0 0 0 (.slice none 0 0) (.map none) false)) :
    Calls Tryd.prog 9 #[.pointer (some ⟨P, 0, none⟩), .agg (anC an3)] w fun e w' => e = .returned (.int .i64 190) ∧ Below w.heap.size w w' := by
  refine Hear_deny P an3 w ?_
  refine (change_11 P an3 rfl (w.alloc (anO an3)) (fun v X w' => v = .nilFunc ∧ Below X.heap.size X w') (fun X hX => ?_)).mono ?_
  · have hb := ((Below.refl w.heap.size w).alloc (Nat.le_refl _) (anO an3)).trans (hX.mono (by simp))
    have hm := mir_cells (bel_at hb (lt_of_heap hM) hM)
    refine (exists_deny P (.slice none 0 0) false none an3 X hm.c0 hm.c1 (Nat.lt_of_lt_of_le (lt_of_heap hM) hb.size) ⟨none, 0, rfl⟩ (by decide) (by decide) rfl rfl).mono ?_
    rintro e w' ⟨rfl, h⟩
    exact ⟨_, rfl, rfl, h⟩
  · rintro e w' ⟨v, X, rfl, h1, rfl, h2⟩
    exact ⟨rfl, h1.trans (h2.mono h1.size)⟩
theorem ask_a (W : World) (P : Nat) (w : World) (hM : w.heap[P]? = some (mirO (.slice none 0 0) false 0 0 0 (.slice none 0 0) (.map none) false)) (hb : Below W.heap.size W w) (hP : W.heap.size ≤ P) :
    Calls Tryd.prog 8 #[.pointer (some ⟨P, 0, none⟩), .agg (cmC ⟨#[97]⟩ 5 false (.slice none 0 0) (.slice none 0 0))] w fun e w' => e = .returned (.int .i64 0) ∧ ∃ g c, KH W P g c false 0 0 0 (.slice none 0 0) (.map none) false w' := by
  refine (Ask_plain P none 0 0 false 0 0 0 _ _ false [] ⟨#[97]⟩ 5 false (by kernel_rfl) (by decide) (by decide) (by decide) w hM (World.ownsRow_nil _ _ _ _) (by omega)).mono ?_
  rintro e w' ⟨rfl, a, c, hm, hr, hs, hw⟩
  refine ⟨rfl, ?_⟩
  rcases hr.2 with ⟨hv, _⟩ | ⟨g, cap, cur, hv, _, hg, hcap, _, hcs, ht⟩
  · cases hv
  · cases hv
    refine ⟨g, c, hm, ⟨cur, hg, by omega, ?_⟩, by omega, hb.trans (hs.below (fun b hb' => ?_) hb.size), hP, ?_⟩
    · exact ht
    · simp [Value.ownBlock] at hb'; subst hb'; exact hP
    · rcases hw g rfl with e | e
      · simp [Value.ownBlock] at e; omega
      · have := hb.size; omega
theorem hear_2 (W : World) (P g c : Nat) (w : World) (k : KH W P g c false 0 0 0 (.slice none 0 0) (.map none) false w) :
    Calls Tryd.prog 9 #[.pointer (some ⟨P, 0, none⟩), .agg (anC an2)] w fun e w' => e = .returned (.int .i64 0) ∧ ∃ gr, KH W P g c false 0 0 0 (.slice (some ⟨gr, 0, none⟩) 2 2) (.map none) true w' ∧ w'.heap[gr]? = some rw2 := by
  have hPl := lt_of_heap k.m
  have hal := (Below.refl w.heap.size w).alloc (Nat.le_refl _) (anO an2)
  refine Hear_exists P an2 w (fun b0 b1 X => Below w.heap.size w X ∧ X.heap[w.heap.size]? = some (anO an2) ∧ X.heap[b0]? = some (anO an2) ∧ X.heap[b1]? = some (ppO P)) (fun b0 b1 X => Below w.heap.size w X ∧ X.heap[b0]? = some (anO an2) ∧ X.heap[b1]? = some (ppO P))
    (fun b0 b1 X => KH W P g c false 0 0 0 (.slice none 0 0) (.map none) true X ∧ X.heap[b0]? = some (anO an2) ∧ X.heap[b1]? = some (ppO P)) _ ?_ (fun b0 b1 X h => h.2.1) ?_ ?_ ?_
  · refine (change_11 P an2 rfl (w.alloc (anO an2)) (fun v X w' => v = fnV 42 #[.pointer (some ⟨X.heap.size, 0, none⟩), .pointer (some ⟨X.heap.size + 1, 0, none⟩)] ∧ Below X.heap.size X w' ∧ w'.heap[X.heap.size]? = some (anO an2) ∧ w'.heap[X.heap.size + 1]? = some (ppO P)) (fun X hX => ?_)).mono ?_
    · have hb := hal.trans (hX.mono (by simp))
      have kx := k.on hb
      have hm := mir_cells kx.m
      refine (exists_open P _ (some k0) an2 X hm.c0 (lt_of_heap kx.m) kx.hand (by decide) (by decide) rfl).mono ?_
      rintro e w' ⟨rfl, h⟩
      exact ⟨_, rfl, rfl, h⟩
    · rintro e w' ⟨v, X, rfl, h1, rfl, h2, h3, h4⟩
      have hx := hal.trans (h1.mono (by simp))
      refine ⟨_, _, rfl, hx.trans (h2.mono hx.size), ?_, h3, h4⟩
      refine bel_at (h1.trans (h2.mono h1.size)) (by simp) (heap_new _ _)
  · rintro b0 b1 X ⟨h1, _, h3, h4⟩
    have kx := k.on h1
    have hm := mir_cells kx.m
    refine (begins_any P _ false (some k0) an2 X hm.c0 hm.c7 (lt_of_heap kx.m) kx.hand).mono ?_
    rintro e w' ⟨rfl, h⟩
    exact ⟨rfl, h1.trans (h.mono h1.size), bel_at h (lt_of_heap h3) h3, bel_at h (lt_of_heap h4) h4⟩
  · rintro b0 b1 X ⟨h1, h3, h4⟩
    have kx := k.on h1
    refine ⟨_, _, _, _, _, _, _, _, kx.m, fun X' hm hs => ⟨kx.turn hs hm, hs.at_ h3 ?_, hs.at_ h4 ?_⟩⟩
    · simpa using kind_ne h3 kx.m (by decide)
    · simpa using kind_ne h4 kx.m (by decide)
  · rintro b0 b1 X ⟨kx, h3, h4⟩
    refine (exists1_two P _ _ _ _ _ _ _ _ an2 rfl b0 b1 X h3 h4 kx.m).mono ?_
    rintro e w' ⟨rfl, hs, hm, hr⟩
    exact ⟨rfl, _, kx.turn hs hm, hr⟩
theorem hear_7 (W : World) (P g c gr gv : Nat) (w : World) (k : KH W P g c false 0 0 0 (.slice (some ⟨gr, 0, none⟩) 2 2) (.map none) true w) (hr : w.heap[gr]? = some rw2) (hv : w.heap[gv]? = some (.cells #[.int .i64 1, .int .i64 7, .string ⟨#[]⟩, .slice none 0 0] 64 (0, 0))) :
    Calls Tryd.prog 9 #[.pointer (some ⟨P, 0, none⟩), .agg (anC (an7 gv))] w fun e w' => e = .returned (.int .i64 0) ∧ KH W P g c false 7 0 0 (.slice (some ⟨gr, 0, none⟩) 2 2) (.map none) true w' ∧ w'.heap[gr]? = some rw2 := by
  have hPl := lt_of_heap k.m
  have hal := (Below.refl w.heap.size w).alloc (Nat.le_refl _) (anO (an7 gv))
  refine Hear_coded P (an7 gv) w (fun b0 b1 X => Below w.heap.size w X ∧ X.heap[w.heap.size]? = some (anO (an7 gv)) ∧ X.heap[b0]? = some (anO (an7 gv)) ∧ X.heap[b1]? = some (piO P)) (fun b0 b1 X => Below w.heap.size w X ∧ X.heap[b0]? = some (anO (an7 gv)) ∧ X.heap[b1]? = some (piO P))
    (fun b0 b1 X => Below w.heap.size w X ∧ X.heap[b0]? = some (anO (an7 gv)) ∧ X.heap[b1]? = some (piO P)) _ ?_ (fun b0 b1 X h => h.2.1) ?_ (fun b0 b1 X h => h) ?_
  · refine (change_1 P (an7 gv) rfl (w.alloc (anO (an7 gv))) (fun v X w' => ∃ ba bp, v = fnV 60 #[.pointer (some ⟨ba, 0, none⟩), .pointer (some ⟨bp, 0, none⟩)] ∧ Below X.heap.size X w' ∧ w'.heap[ba]? = some (anO (an7 gv)) ∧ w'.heap[bp]? = some (piO P)) (fun X hX => ?_)).mono ?_
    · refine (state_ok P (an7 gv) (by kernel_rfl) rfl X (fun v X w' => ∃ ba bp, v = fnV 60 #[.pointer (some ⟨ba, 0, none⟩), .pointer (some ⟨bp, 0, none⟩)] ∧ Below X.heap.size X w' ∧ w'.heap[ba]? = some (anO (an7 gv)) ∧ w'.heap[bp]? = some (piO P)) (fun X2 hX2 => ?_)).mono ?_
      · have hb := hal.trans ((hX.trans (hX2.mono hX.size)).mono (by simp))
        have kx := k.on hb
        have hm := mir_cells kx.m
        have hvx := bel_at hb (lt_of_heap hv) hv
        refine (coded_val P _ (some k0) (an7 gv) gv 7 ⟨#[]⟩ none 0 0 (by decide) (by decide) rfl rfl X2 (cell_of hvx 0) (cell_of hvx 1) (cell_of hvx 2) (cell_of hvx 3) (lt_of_heap hvx) hm.c0 (lt_of_heap kx.m) kx.hand rfl).mono ?_
        rintro e w' ⟨ba, bp, rfl, h⟩
        exact ⟨_, rfl, ba, bp, rfl, h⟩
      · rintro e w' ⟨v, rfl, X2, h1, ba, bp, rfl, h2, h3⟩
        exact ⟨_, rfl, ba, bp, rfl, h1.trans (h2.mono h1.size), h3⟩
    · rintro e w' ⟨v, X, rfl, h1, ba, bp, rfl, h2, h3, h4⟩
      have hx := hal.trans (h1.mono (by simp))
      refine ⟨_, _, rfl, hx.trans (h2.mono hx.size), ?_, h3, h4⟩
      exact bel_at (h1.trans (h2.mono h1.size)) (by simp) (heap_new _ _)
  · rintro b0 b1 X ⟨h1, _, h3, h4⟩
    have kx := k.on h1
    have hm := mir_cells kx.m
    refine (begins_any P _ true (some k0) (an7 gv) X hm.c0 hm.c7 (lt_of_heap kx.m) kx.hand).mono ?_
    rintro e w' ⟨rfl, h⟩
    exact ⟨rfl, h1.trans (h.mono h1.size), bel_at h (lt_of_heap h3) h3, bel_at h (lt_of_heap h4) h4⟩
  · rintro b0 b1 X ⟨h1, h3, h4⟩
    have kx := k.on h1
    have hvx := bel_at h1 (lt_of_heap hv) hv
    refine (coded1_val P _ _ _ _ _ _ _ _ (an7 gv) gv 7 rfl b0 b1 X (cell_of hvx 1) h3 h4 kx.m).mono ?_
    rintro e w' ⟨rfl, hs, hm⟩
    refine ⟨rfl, kx.turn hs hm, hs.at_ (bel_at h1 (lt_of_heap hr) hr) ?_⟩
    simpa using kind_ne (bel_at h1 (lt_of_heap hr) hr) kx.m (by decide)
theorem hear_1 (W : World) (P g c gr : Nat) (w : World) (k : KH W P g c false 7 0 0 (.slice (some ⟨gr, 0, none⟩) 2 2) (.map none) true w) (hr : w.heap[gr]? = some rw2) :
    Calls Tryd.prog 9 #[.pointer (some ⟨P, 0, none⟩), .agg (anC an1)] w fun e w' => e = .returned (.int .i64 0) ∧ ∃ q, w'.heap[P]? = some (mirO q true 7 0 0 (.slice (some ⟨gr, 0, none⟩) 2 2) (.map none) false) ∧ w'.heap[gr]? = some rw2 ∧ Below W.heap.size W w' := by
  have hPl := lt_of_heap k.m
  have hal := (Below.refl w.heap.size w).alloc (Nat.le_refl _) (anO an1)
  refine Hear_answered P an1 w (fun b0 b1 b2 X => Below w.heap.size w X ∧ X.heap[w.heap.size]? = some (anO an1) ∧ X.heap[b0]? = some (mpO P) ∧ X.heap[b1]? = some (.cells (akC k0) 78 (0, 0)) ∧ X.heap[b2]? = some (anO an1) ∧ w.heap.size ≤ b1) (fun b0 b1 b2 X => Below w.heap.size w X ∧ X.heap[b0]? = some (mpO P) ∧ X.heap[b1]? = some (.cells (akC k0) 78 (0, 0)) ∧ X.heap[b2]? = some (anO an1) ∧ w.heap.size ≤ b1)
    (fun b0 b1 b2 X => Below w.heap.size w X ∧ X.heap[b0]? = some (mpO P) ∧ X.heap[b1]? = some (.cells (akC k0) 78 (0, 0)) ∧ X.heap[b2]? = some (anO an1) ∧ w.heap.size ≤ b1) _ ?_ (fun b0 b1 b2 X h => h.2.1) ?_ (fun b0 b1 b2 X h => h) ?_
  · refine (change_1 P an1 rfl (w.alloc (anO an1)) (fun v X w' => ∃ bm bc ba, v = fnV 55 #[.pointer (some ⟨bm, 0, none⟩), .pointer (some ⟨bc, 0, none⟩), .pointer (some ⟨ba, 0, none⟩)] ∧ Below X.heap.size X w' ∧ w'.heap[bm]? = some (mpO P) ∧ w'.heap[bc]? = some (.cells (akC k0) 78 (0, 0)) ∧ w'.heap[ba]? = some (anO an1) ∧ X.heap.size ≤ bc) (fun X hX => ?_)).mono ?_
    · refine (state_tag P an1 (by kernel_rfl) rfl X (fun v X w' => ∃ bm bc ba, v = fnV 55 #[.pointer (some ⟨bm, 0, none⟩), .pointer (some ⟨bc, 0, none⟩), .pointer (some ⟨ba, 0, none⟩)] ∧ Below X.heap.size X w' ∧ w'.heap[bm]? = some (mpO P) ∧ w'.heap[bc]? = some (.cells (akC k0) 78 (0, 0)) ∧ w'.heap[ba]? = some (anO an1) ∧ X.heap.size ≤ bc) (fun X2 hX2 => ?_)).mono ?_
      · have hb := hal.trans ((hX.trans (hX2.mono hX.size)).mono (by simp))
        have kx := k.on hb
        have hm := mir_cells kx.m
        refine (answered_yes P _ k0 an1 (by kernel_rfl) rfl X2 hm.c0 (lt_of_heap kx.m) kx.hand).mono ?_
        rintro e w' ⟨bm, bc, ba, rfl, h⟩
        exact ⟨_, rfl, bm, bc, ba, rfl, h⟩
      · rintro e w' ⟨v, rfl, X2, h1, bm, bc, ba, rfl, h2, h3, h4, h5, h6⟩
        exact ⟨_, rfl, bm, bc, ba, rfl, h1.trans (h2.mono h1.size), h3, h4, h5, Nat.le_trans h1.size h6⟩
    · rintro e w' ⟨v, X, rfl, h1, bm, bc, ba, rfl, h2, h3, h4, h5, h6⟩
      have hx := hal.trans (h1.mono (by simp))
      refine ⟨_, _, _, rfl, hx.trans (h2.mono hx.size), ?_, h3, h4, h5, Nat.le_trans hx.size h6⟩
      exact bel_at (h1.trans (h2.mono h1.size)) (by simp) (heap_new _ _)
  · rintro b0 b1 b2 X ⟨h1, _, h3, h4, h5, h6⟩
    have kx := k.on h1
    have hm := mir_cells kx.m
    refine (begins_any P _ true (some k0) an1 X hm.c0 hm.c7 (lt_of_heap kx.m) kx.hand).mono ?_
    rintro e w' ⟨rfl, h⟩
    exact ⟨rfl, h1.trans (h.mono h1.size), bel_at h (lt_of_heap h3) h3, bel_at h (lt_of_heap h4) h4, bel_at h (lt_of_heap h5) h5, h6⟩
  · rintro b0 b1 b2 X ⟨h1, h3, h4, h5, h6⟩
    have kx := k.on h1
    have hr' := bel_at h1 (lt_of_heap hr) hr
    obtain ⟨cs, hg, h5', _⟩ := kx.q
    obtain ⟨cs0, hg0, _⟩ := k.q
    have hgl := lt_of_heap hg0
    refine (answered1_open P _ _ _ _ _ _ _ g c cs k0 rfl ⟨_, _, _, rfl⟩ an1 rfl b0 b1 b2 X kx.m hg h5' kx.c1 h3 h4 h5 (by omega)).mono ?_
    rintro e w' ⟨rfl, hs, q', hm⟩
    refine ⟨rfl, q', hm, hs.at_ hr' ?_, kx.bel.trans (hs.below (fun b hb => ?_) kx.bel.size)⟩
    · have n1 := kind_ne hr' kx.m (by decide)
      have n2 := kind_ne hr' hg (by decide)
      simp [n1, n2]
    · simp at hb
      rcases hb with rfl | rfl
      · exact kx.lp
      · exact kx.lg
end Go.Proofs.YtfcpmiafliegiaaDoor
