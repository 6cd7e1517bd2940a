/- mirror: what a state says. -/
import Derived.Test.YtlmlbcnjohjnlaaDoorM19h
import Derived.Test.YtlmlbcnjohjnlaaDoorM19f
namespace Go.Proofs.YtlmlbcnjohjnlaaDoor
open Go.RowKit

set_option maxRecDepth 10000 in
theorem isNumber_yes (x : Int) (t : ByteArray) (ka : Option Addr) (kn kc : Nat) (h0 : 0 ≤ x) (h1 : x ≤ 4294967295) (w : World) :
    Calls Tryd.prog 59 #[.agg #[.int .i64 1, .int .i64 x, .string t, .slice ka kn kc], .int .i64 0] w fun e w' => e = .returned (.bool true) ∧ Below w.heap.size w w' := by
  have q1 : Below w.heap.size w (w.alloc (.cells #[.int .i64 1, .int .i64 x, .string t, .slice ka kn kc] 64)) := (Below.refl _ _).alloc (Nat.le_refl _) _
  go_enter Tryd.func59, Tryd.ntmps59
  go_wp2_with fail
  go_ret
  first | exact ⟨rfl, q1⟩ | exact q1
set_option maxRecDepth 10000 in
set_option maxHeartbeats 2000000 in
theorem coded_val (P : Nat) (q : Value) (k : Option AK) (a : AN) (g : Nat) (x : Int) (t : ByteArray) (ka : Option Addr) (kn kc : Nat) (h0 : 0 ≤ x) (h1 : x ≤ 4294967295) (hcode : a.code = 10) (hargs : a.args = .slice (some ⟨g, 0, none⟩) 1 1) (w : World)
    (g0 : w.cell? ⟨g, 0, none⟩ = some (.int .i64 1)) (g1 : w.cell? ⟨g, 1, none⟩ = some (.int .i64 x)) (g2 : w.cell? ⟨g, 2, none⟩ = some (.string t)) (g3 : w.cell? ⟨g, 3, none⟩ = some (.slice ka kn kc)) (hg : g < w.heap.size)
    (hq : w.cell? ⟨P, 0, none⟩ = some q) (hP : P < w.heap.size) (hh : Hand w q k) (ho : opn k = true) :
    Calls Tryd.prog 40 #[.pointer (some ⟨P, 0, none⟩), .agg (anC a)] w fun e w' => ∃ ba bp, e = .returned (fnV 60 #[.pointer (some ⟨ba, 0, none⟩), .pointer (some ⟨bp, 0, none⟩)]) ∧ Below w.heap.size w w' ∧ w'.heap[ba]? = some (anO a) ∧ w'.heap[bp]? = some (piO P) := by
  have q1 : Below w.heap.size w (w.alloc (anO a)) := (Below.refl _ _).alloc (Nat.le_refl _) _
  obtain ⟨Y, hY⟩ : ∃ Y, w.alloc (anO a) = Y := ⟨_, rfl⟩
  have r0 : Y.heap[w.heap.size]? = some (anO a) := by rw [← hY]; exact heap_new _ _
  have hz : Y.heap.size = w.heap.size + 1 := by rw [← hY]; simp
  rw [hY] at q1
  obtain ⟨Y2, hY2⟩ : ∃ Y2, Y.alloc (.cells #[.pointer none] 115) = Y2 := ⟨_, rfl⟩
  have b2 : Below Y.heap.size Y Y2 := by rw [← hY2]; exact (Below.refl _ _).alloc (Nat.le_refl _) _
  have n2 : Y2.heap[Y.heap.size]? = some (.cells #[.pointer none] 115 (0, 0)) := by rw [← hY2]; exact heap_new _ _
  have rA : Y2.heap[w.heap.size]? = some (anO a) := bel_at b2 (by omega) r0
  have c3 : Y2.cell? ⟨w.heap.size, 3, none⟩ = some (.int .i64 10) := by rw [(an_cells rA).2.2.2.1, hcode]
  have p0 : Y2.cell? ⟨Y.heap.size, 0, none⟩ = some (.pointer none) := cell_of n2 0
  have pf : Y2.frozen? ⟨Y.heap.size, 0, none⟩ = false := frozen_of n2 0
  obtain ⟨Y3, hY3⟩ : ∃ Y3, Y2.setCell ⟨Y.heap.size, 0, none⟩ (.pointer (some ⟨P, 2, none⟩)) = Y3 := ⟨_, rfl⟩
  have b3 : Below w.heap.size w Y3 := by
    have b23 : Below w.heap.size Y2 Y3 := by
      rw [← hY3]
      exact ⟨rfl, rfl, rfl, by simp [World.setCell], fun b hb => Below.heap_setCell _ _ _ _ (by show b ≠ Y.heap.size; omega)⟩
    exact (q1.trans (b2.mono q1.size)).trans b23
  have z3 : Y3.heap.size = w.heap.size + 1 + 1 := by rw [← hY3, ← hY2]; simp [World.setCell, hz]
  have rA3 : Y3.heap[w.heap.size]? = some (anO a) := by rw [← hY3, Below.heap_setCell _ _ _ _ (by show w.heap.size ≠ Y.heap.size; omega)]; exact rA
  have rp3 : Y3.heap[Y.heap.size]? = some (piO P) := by
    rw [← hY3, heap_setCell_at _ n2]
    rfl
  have c4 : Y3.cell? ⟨w.heap.size, 4, none⟩ = some (.slice (some ⟨g, 0, none⟩) 1 1) := by rw [(an_cells rA3).2.2.2.2.1, hargs]
  have e0 : Y3.cell? ⟨g, 0, none⟩ = some (.int .i64 1) := by rw [b3.cell (p := ⟨g, 0, none⟩) hg]; exact g0
  have e1 : Y3.cell? ⟨g, 1, none⟩ = some (.int .i64 x) := by rw [b3.cell (p := ⟨g, 1, none⟩) hg]; exact g1
  have e2 : Y3.cell? ⟨g, 2, none⟩ = some (.string t) := by rw [b3.cell (p := ⟨g, 2, none⟩) hg]; exact g2
  have e3 : Y3.cell? ⟨g, 3, none⟩ = some (.slice ka kn kc) := by rw [b3.cell (p := ⟨g, 3, none⟩) hg]; exact g3
  have HN : Hid (∀ X, Calls Tryd.prog 59 #[.agg #[.int .i64 1, .int .i64 x, .string t, .slice ka kn kc], .int .i64 0] X fun e w' => e = .returned (.bool true) ∧ Below X.heap.size X w') := Lib.hid (fun X => isNumber_yes x t ka kn kc h0 h1 X)
  have HI : Hid (∀ X, Below w.heap.size w X → Calls Tryd.prog 28 #[.pointer (some ⟨P, 0, none⟩)] X fun e w' => e = .returned (.bool true) ∧ Below X.heap.size X w') := Lib.hid (fun X hX => by rw [← ho]; exact isOpening_any P q k X (by rw [hX.cell (p := ⟨P, 0, none⟩) hP]; exact hq) (Nat.lt_of_lt_of_le hP hX.size) (hh.on hX))
  have B3 := Lib.hid b3
  have RR := Lib.hid (And.intro rA3 (And.intro rp3 (And.intro z3 hz)))
  have HY := Lib.hid hY
  have HY2 := Lib.hid hY2
  have HY3 := Lib.hid hY3
  clear q1 r0 hz b2 n2 rA b3 rA3 rp3 z3 hY hY2 hY3 g0 g1 g2 g3 hq hh hcode hargs h0 h1 ho
  unfold anO at HY
  go_enter Tryd.func40, Tryd.ntmps40
  go_upto_region 1 with fail
  rw [HY.out]
  go_upto_region 3 with fail
  rw [HY2.out]
  go_upto_region 11 with fail
  (try rw [HY3.out])
  clear HY HY2 HY3 c3 p0 pf
  go_wp2_with (first | (go_at_call 59; refine (HN.out _).mono ?_; rintro e w4 ⟨rfl, hb4⟩; have HB4 := Lib.hid hb4; clear hb4) | (go_at_call 28; refine (HI.out _ (B3.out.trans (HB4.out.mono B3.out.size))).mono ?_; rintro e w5 ⟨rfl, hb5⟩; have HB5 := Lib.hid hb5; clear hb5))
  go_ret
  have fin := RR.out
  have f4 := HB4.out.trans (HB5.out.mono HB4.out.size)
  exact ⟨w.heap.size, Y.heap.size, rfl, B3.out.trans (f4.mono B3.out.size), bel_at f4 (by rw [fin.2.2.1]; omega) fin.1, bel_at f4 (by rw [fin.2.2.1, fin.2.2.2]; omega) fin.2.1⟩
set_option maxRecDepth 10000 in
set_option maxHeartbeats 2000000 in
theorem answered_yes (P : Nat) (q : Value) (k : AK) (a : AN) (ht : (k.tag.toList == a.tag.toList) = true) (ha : a.out = 1) (w : World) (hq : w.cell? ⟨P, 0, none⟩ = some q) (hP : P < w.heap.size) (hh : Hand w q (some k)) :
    Calls Tryd.prog 38 #[.pointer (some ⟨P, 0, none⟩), .agg (anC a)] w fun e w' => ∃ bm bc ba, e = .returned (fnV 55 #[.pointer (some ⟨bm, 0, none⟩), .pointer (some ⟨bc, 0, none⟩), .pointer (some ⟨ba, 0, none⟩)]) ∧ Below w.heap.size w w' ∧ w'.heap[bm]? = some (mpO P) ∧ w'.heap[bc]? = some (.cells (akC k) 78 (0, 0)) ∧ w'.heap[ba]? = some (anO a) ∧ w.heap.size ≤ bc := by
  have q2 := two_below w (mpO P) (anO a)
  obtain ⟨Y, hY⟩ : ∃ Y, (w.alloc (mpO P)).alloc (anO a) = Y := ⟨_, rfl⟩
  have hz : Y.heap.size = w.heap.size + 1 + 1 := by rw [← hY]; simp
  rw [hY] at q2
  have r0 : Y.heap[w.heap.size]? = some (mpO P) := by rw [← hY, Below.heap_alloc _ _ _ (by simp)]; exact heap_new _ _
  have r1 : Y.heap[w.heap.size + 1]? = some (anO a) := by rw [← hY]; have := heap_new (w.alloc (mpO P)) (anO a); rw [show (w.alloc (mpO P)).heap.size = w.heap.size + 1 from by simp] at this; exact this
  have p0 : Y.cell? ⟨w.heap.size, 0, none⟩ = some (.pointer (some ⟨P, 0, none⟩)) := by unfold mpO at r0; exact cell_of r0 0
  have HF := Lib.hid (first_some P q k Y (by rw [q2.cell (p := ⟨P, 0, none⟩) hP]; exact hq) (Nat.lt_of_lt_of_le hP q2.size) (hh.on q2))
  have HX : Hid (∀ X, Below Y.heap.size Y X → X.cell? ⟨w.heap.size + 1, 1, none⟩ = some (.string a.tag) ∧ X.cell? ⟨w.heap.size + 1, 2, none⟩ = some (.int .i64 1)) := Lib.hid (fun X hX => by
    have := an_cells (bel_at hX (by omega) r1)
    exact ⟨this.2.1, by rw [this.2.2.1, ha]⟩)
  obtain ⟨_, _, _, _, _, _, _, ⟨sa, sn, sc, hs⟩, _⟩ := hh
  have RR := Lib.hid (And.intro r0 (And.intro r1 hz))
  have Q2 := Lib.hid q2
  have HY := Lib.hid hY
  have HK : Hid (akC k = #[.string k.tag, .int .i64 k.verb, .bool k.uid, .bool k.sil, .slice sa sn sc]) := Lib.hid (by unfold akC; rw [hs])
  rw [HK.out] at HF
  clear q2 hY hz r0 r1 hq ha hs
  unfold anO mpO at HY
  go_enter Tryd.func38, Tryd.ntmps38
  go_upto_region 1 with fail
  rw [HY.out]
  clear HY
  go_upto_region 2 with (go_at_call 35; refine HF.out.mono ?_; rintro e w3 ⟨rfl, hb3⟩; have HB3 := Lib.hid hb3; clear hb3)
  obtain ⟨Y4, hY4⟩ : ∃ Y4, w3.alloc (.cells #[.string k.tag, .int .i64 k.verb, .bool k.uid, .bool k.sil, .slice sa sn sc] 78) = Y4 := ⟨_, rfl⟩
  (try rw [hY4])
  have r4 : Y4.heap[w3.heap.size]? = some (.cells #[.string k.tag, .int .i64 k.verb, .bool k.uid, .bool k.sil, .slice sa sn sc] 78 (0, 0)) := by rw [← hY4]; exact heap_new _ _
  have b4 : Below w3.heap.size w3 Y4 := by rw [← hY4]; exact (Below.refl _ _).alloc (Nat.le_refl _) _
  have bb : Below Y.heap.size Y Y4 := HB3.out.trans (b4.mono HB3.out.size)
  have t0 : Y4.cell? ⟨w3.heap.size, 0, none⟩ = some (.string k.tag) := cell_of r4 0
  obtain ⟨x1, x2⟩ := HX.out _ bb
  have RR4 := Lib.hid (And.intro r4 (And.intro bb HB3.out.size))
  clear r4 b4 bb HX hY4 p0 HF
  go_wp2_with fail
  go_ret
  have fin := RR.out
  have f4 := RR4.out
  refine ⟨w.heap.size, w3.heap.size, w.heap.size + 1, rfl, Q2.out.trans (f4.2.1.mono Q2.out.size), bel_at f4.2.1 (by rw [fin.2.2]; omega) fin.1, ?_, bel_at f4.2.1 (by rw [fin.2.2]; omega) fin.2.1, Nat.le_trans Q2.out.size f4.2.2⟩
  rw [HK.out]
  exact f4.1
end Go.Proofs.YtlmlbcnjohjnlaaDoor

/- mirror: states; an answer is heard. -/
namespace Go.Proofs.YtlmlbcnjohjnlaaDoor
open Go.RowKit

set_option maxRecDepth 20000 in
set_option maxHeartbeats 2000000 in
theorem state_tag (P : Nat) (a : AN) (ht : a.tag.toList.isEmpty = false) (ho : a.out = 1) (w : World) (R : Value → World → World → Prop) (H0 : ∀ X, Below w.heap.size w X → Calls Tryd.prog 38 #[.pointer (some ⟨P, 0, none⟩), .agg (anC a)] X fun e w' => ∃ v, e = .returned v ∧ R v X w') :
    Calls Tryd.prog 30 #[.pointer (some ⟨P, 0, none⟩), .agg (anC a)] w fun e w' => ∃ v, e = .returned v ∧ ∃ X, Below w.heap.size w X ∧ R v X w' := by
  have H := Lib.hid H0
  have q2 := two_below w (mpO P) (anO a)
  obtain ⟨Y, hY⟩ : ∃ Y, (w.alloc (mpO P)).alloc (anO a) = Y := ⟨_, rfl⟩
  rw [hY] at q2
  have r0 : Y.heap[w.heap.size]? = some (mpO P) := by rw [← hY, Below.heap_alloc _ _ _ (by simp)]; exact heap_new _ _
  have r1 : Y.heap[w.heap.size + 1]? = some (anO a) := by rw [← hY]; have := heap_new (w.alloc (mpO P)) (anO a); rw [show (w.alloc (mpO P)).heap.size = w.heap.size + 1 from by simp] at this; exact this
  have p0 : Y.cell? ⟨w.heap.size, 0, none⟩ = some (.pointer (some ⟨P, 0, none⟩)) := by unfold mpO at r0; exact cell_of r0 0
  obtain ⟨_, x1, x2, _, _, _⟩ := an_cells r1
  rw [ho] at x2
  have HC : Hid (Y.rangeAt (w.heap.size + 1) 0 (anC a).toList) := Lib.hid (an_range r1)
  have Q2 := Lib.hid q2
  have HY := Lib.hid hY
  clear H0 q2 hY r0 r1 ho
  unfold anO mpO at HY
  go_enter Tryd.func30, Tryd.ntmps30
  go_upto_region 1 with fail
  rw [HY.out]
  clear HY
  go_wp2_with (first | (refine wpList_load_mid rfl 43 _ rfl (w.heap.size + 1) 0 rfl _ _ HC.out Tryd.underlying43 rfl Tryd.sizeAn ?_) | (go_at_call 38; refine (H.out _ Q2.out).mono ?_; rintro e w4 ⟨v, rfl, hr⟩; have HR := Lib.hid hr; clear hr))
  go_ret
  exact ⟨v, rfl, _, Q2.out, HR.out⟩
set_option maxRecDepth 20000 in
set_option maxHeartbeats 2000000 in
theorem state_ok (P : Nat) (a : AN) (ht : a.tag.toList.isEmpty = true) (ho : a.out = 1) (w : World) (R : Value → World → World → Prop) (H0 : ∀ X, Below w.heap.size w X → Calls Tryd.prog 40 #[.pointer (some ⟨P, 0, none⟩), .agg (anC a)] X fun e w' => ∃ v, e = .returned v ∧ R v X w') :
    Calls Tryd.prog 30 #[.pointer (some ⟨P, 0, none⟩), .agg (anC a)] w fun e w' => ∃ v, e = .returned v ∧ ∃ X, Below w.heap.size w X ∧ R v X w' := by
  have H := Lib.hid H0
  have q2 := two_below w (mpO P) (anO a)
  obtain ⟨Y, hY⟩ : ∃ Y, (w.alloc (mpO P)).alloc (anO a) = Y := ⟨_, rfl⟩
  rw [hY] at q2
  have r0 : Y.heap[w.heap.size]? = some (mpO P) := by rw [← hY, Below.heap_alloc _ _ _ (by simp)]; exact heap_new _ _
  have r1 : Y.heap[w.heap.size + 1]? = some (anO a) := by rw [← hY]; have := heap_new (w.alloc (mpO P)) (anO a); rw [show (w.alloc (mpO P)).heap.size = w.heap.size + 1 from by simp] at this; exact this
  have p0 : Y.cell? ⟨w.heap.size, 0, none⟩ = some (.pointer (some ⟨P, 0, none⟩)) := by unfold mpO at r0; exact cell_of r0 0
  obtain ⟨_, x1, x2, _, _, _⟩ := an_cells r1
  rw [ho] at x2
  have HC : Hid (Y.rangeAt (w.heap.size + 1) 0 (anC a).toList) := Lib.hid (an_range r1)
  have Q2 := Lib.hid q2
  have HY := Lib.hid hY
  clear H0 q2 hY r0 r1 ho
  unfold anO mpO at HY
  go_enter Tryd.func30, Tryd.ntmps30
  go_upto_region 1 with fail
  rw [HY.out]
  clear HY
  go_wp2_with (first | (refine wpList_load_mid rfl 43 _ rfl (w.heap.size + 1) 0 rfl _ _ HC.out Tryd.underlying43 rfl Tryd.sizeAn ?_) | (go_at_call 40; refine (H.out _ Q2.out).mono ?_; rintro e w4 ⟨v, rfl, hr⟩; have HR := Lib.hid hr; clear hr))
  go_ret
  exact ⟨v, rfl, _, Q2.out, HR.out⟩
end Go.Proofs.YtlmlbcnjohjnlaaDoor
