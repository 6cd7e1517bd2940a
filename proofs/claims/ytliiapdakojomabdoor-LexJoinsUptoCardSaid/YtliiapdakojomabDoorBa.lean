/- lex: a joiner whose line or literals have grown. -/
import Derived.Test.YtliiapdakojomabDoorAz
namespace Go.Proofs.YtliiapdakojomabDoor
open Go.RowKit

/-- Behind a line that has grown, whatever way, and the store of it. -/
theorem SmJ.grew {B P : Nat} {vl vt v' : Value} {j : Jn} {W0 w w2 : World} (h : SmJ B P vl vt j W0 w) (l : List UInt8) (hg : OwnG B vl v' (j.line ++ l) w w2) :
    w2.cell? ⟨P, 0, none⟩ = some vl ∧ w2.frozen? ⟨P, 0, none⟩ = false ∧ SmJ B P v' vt (j.put l) W0 (w2.setCell ⟨P, 0, none⟩ v') := by
  have hp := h.plt
  have hB : B ≤ w.heap.size := by have := h.bP; omega
  have hvP : v'.ownBlock ≠ some P := fun e => by
    rcases hg.lies P e with e' | e'
    · exact h.lP e'
    · omega
  have hb2 : w2.heap[P]? = some (.cells #[vl, vt, .int .i64 j.words] 70 (0, 0)) := by rw [hg.grown.block P hp (fun e => h.lP e.symm)]; exact h.blk
  have hs := heap_setCell_same w2 P 0 _ _ v' hb2
  have hbl : Below B W0 w2 := h.below.grown hg.grown hB (fun k hk => (row_lt h.line hk).1)
  refine ⟨cell_of_row _ _ 0 _ _ _ hb2, frozen_of_row _ _ _ _ _ hb2, ⟨hs, h.bP, ?_, ?_, hvP, h.tP, ?_, hbl.setCell (p := ⟨P, 0, none⟩) h.bP _⟩⟩
  · refine row_block hg.row (fun g0 e => ?_)
    have hne : g0 ≠ P := fun e' => hvP (by rw [← e']; exact e)
    exact heap_setCell_other _ ⟨P, _, none⟩ g0 _ (by simpa using hne)
  · refine row_block h.lits (fun g0 e => ?_)
    have hne : g0 ≠ P := fun e' => h.tP (by rw [← e']; exact e)
    rw [heap_setCell_other _ ⟨P, _, none⟩ g0 _ (by simpa using hne)]
    exact hg.grown.block g0 (row_lt h.lits e).2 (fun e' => h.lt g0 e'.symm e)
  · intro g0 e e2
    rcases hg.lies g0 e with e' | e'
    · exact h.lt g0 e' e2
    · have := (row_lt h.lits e2).2; omega
/-- Behind literals that have grown by one, and the store of them. -/
theorem SmJ.gained {B P : Nat} {vl vt v' : Value} {j : Jn} {W0 w w2 : World} (h : SmJ B P vl vt j W0 w) (t : ByteArray) (hrow : w2.ownsRow B 9 1 v' (j.lits.length + 1) (j.lits.map Value.string ++ [.string t]))
    (hgr : w.grownBy w2 vt.ownBlock) (hlies : ∀ g, v'.ownBlock = some g → vt.ownBlock = some g ∨ w.heap.size ≤ g) :
    w2.cell? ⟨P, 1, none⟩ = some vt ∧ w2.frozen? ⟨P, 1, none⟩ = false ∧ SmJ B P vl v' { j with lits := j.lits ++ [t] } W0 (w2.setCell ⟨P, 1, none⟩ v') := by
  have hp := h.plt
  have hB : B ≤ w.heap.size := by have := h.bP; omega
  have hvP : v'.ownBlock ≠ some P := fun e => by
    rcases hlies P e with e' | e'
    · exact h.tP e'
    · omega
  have hb2 : w2.heap[P]? = some (.cells #[vl, vt, .int .i64 j.words] 70 (0, 0)) := by rw [hgr.block P hp (fun e => h.tP e.symm)]; exact h.blk
  have hs := heap_setCell_same w2 P 1 _ _ v' hb2
  have hbl : Below B W0 w2 := h.below.grown hgr hB (fun k hk => (row_lt h.lits hk).1)
  refine ⟨cell_of_row _ _ 1 _ _ _ hb2, frozen_of_row _ _ _ _ _ hb2, ⟨hs, h.bP, ?_, ?_, h.lP, hvP, ?_, hbl.setCell (p := ⟨P, 1, none⟩) h.bP _⟩⟩
  · refine row_block h.line (fun g0 e => ?_)
    have hne : g0 ≠ P := fun e' => h.lP (by rw [← e']; exact e)
    rw [heap_setCell_other _ ⟨P, _, none⟩ g0 _ (by simpa using hne)]
    exact hgr.block g0 (row_lt h.line e).2 (fun e' => h.lt g0 e e'.symm)
  · rw [List.length_append, List.length_singleton, List.map_append, List.map_singleton]
    refine row_block hrow (fun g0 e => ?_)
    have hne : g0 ≠ P := fun e' => hvP (by rw [← e']; exact e)
    exact heap_setCell_other _ ⟨P, _, none⟩ g0 _ (by simpa using hne)
  · intro g0 e e2
    rcases hlies g0 e2 with e' | e'
    · exact h.lt g0 e e'
    · have := (row_lt h.line e).2; omega
/-- Behind the counter's store. -/
theorem SmJ.counted {B P : Nat} {vl vt : Value} {j : Jn} {W0 w : World} (h : SmJ B P vl vt j W0 w) : w.frozen? ⟨P, 2, none⟩ = false ∧ SmJ B P vl vt j.one W0 (w.setCell ⟨P, 2, none⟩ (.int .i64 (j.words + 1 : Nat))) := by
  have hs := heap_setCell_same w P 2 _ _ (.int .i64 (j.words + 1 : Nat)) h.blk
  refine ⟨frozen_of_row _ _ _ _ _ h.blk, ⟨hs, h.bP, ?_, ?_, h.lP, h.tP, h.lt, h.below.setCell (p := ⟨P, 2, none⟩) h.bP _⟩⟩
  · refine row_block h.line (fun g0 e => ?_)
    have hne : g0 ≠ P := fun e' => h.lP (by rw [← e']; exact e)
    exact heap_setCell_other _ ⟨P, _, none⟩ g0 _ (by simpa using hne)
  · refine row_block h.lits (fun g0 e => ?_)
    have hne : g0 ≠ P := fun e' => h.tP (by rw [← e']; exact e)
    exact heap_setCell_other _ ⟨P, _, none⟩ g0 _ (by simpa using hne)
end Go.Proofs.YtliiapdakojomabDoor

/- lex: the joiner's words: lists, brackets, and kinds that are none. -/
namespace Go.Proofs.YtliiapdakojomabDoor
open Go.RowKit

set_option maxRecDepth 100000 in
set_option maxHeartbeats 4000000 in
theorem writeWord_4 {B P : Nat} {vl vt : Value} {j : Jn} {W0 w : World} (h : SmJ B P vl vt j W0 w) (t : ByteArray) (gl : Bool) (a : Option Addr) (n c : Nat) (j2 : Jn) (hl : j.line.length ≤ 100000000) (hl2 : j2.line.length ≤ 100000000)
    (hW : ∀ vl' W, SmJ B P vl' vt (j.put [40]) W0 W → Calls Tryd.prog 37 #[.pointer (some ⟨P, 0, none⟩), .slice a n c] W fun e w' => e = .returned (.tuple #[]) ∧ ∃ vl2 vt2, SmJ B P vl2 vt2 j2 W0 w') :
    Calls Tryd.prog 62 #[.pointer (some ⟨P, 0, none⟩), .agg #[.int .i64 4, .string t, .slice a n c, .bool gl]] w fun e w' => e = .returned (.tuple #[]) ∧ ∃ vl2 vt2, SmJ B P vl2 vt2 (j2.put [41]) W0 w' := by
  have hb : Below w.heap.size w (w.alloc (.cells #[.int .i64 4, .string t, .slice a n c, .bool gl] 33)) := (Below.refl _ _).alloc (Nat.le_refl _) _
  have HN := Lib.hid (writeNest_of (h.on hb) 40 41 a n c j2 hl hl2 hW)
  clear h hb hW
  go_enter Tryd.func62, Tryd.ntmps62
  go_wp2_with fail
  refine HN.out.mono ?_
  rintro e w5 ⟨rfl, vl5, vt5, h5⟩
  have H := Lib.hid h5
  clear HN h5
  go_wp2_with fail
  go_end0
  exact ⟨rfl, _, _, H.out⟩
set_option maxRecDepth 100000 in
set_option maxHeartbeats 4000000 in
theorem writeWord_5 {B P : Nat} {vl vt : Value} {j : Jn} {W0 w : World} (h : SmJ B P vl vt j W0 w) (t : ByteArray) (gl : Bool) (a : Option Addr) (n c : Nat) (j2 : Jn) (hl : j.line.length ≤ 100000000) (hl2 : j2.line.length ≤ 100000000)
    (hW : ∀ vl' W, SmJ B P vl' vt (j.put [91]) W0 W → Calls Tryd.prog 37 #[.pointer (some ⟨P, 0, none⟩), .slice a n c] W fun e w' => e = .returned (.tuple #[]) ∧ ∃ vl2 vt2, SmJ B P vl2 vt2 j2 W0 w') :
    Calls Tryd.prog 62 #[.pointer (some ⟨P, 0, none⟩), .agg #[.int .i64 5, .string t, .slice a n c, .bool gl]] w fun e w' => e = .returned (.tuple #[]) ∧ ∃ vl2 vt2, SmJ B P vl2 vt2 (j2.put [93]) W0 w' := by
  have hb : Below w.heap.size w (w.alloc (.cells #[.int .i64 5, .string t, .slice a n c, .bool gl] 33)) := (Below.refl _ _).alloc (Nat.le_refl _) _
  have HN := Lib.hid (writeNest_of (h.on hb) 91 93 a n c j2 hl hl2 hW)
  clear h hb hW
  go_enter Tryd.func62, Tryd.ntmps62
  go_wp2_with fail
  refine HN.out.mono ?_
  rintro e w5 ⟨rfl, vl5, vt5, h5⟩
  have H := Lib.hid h5
  clear HN h5
  go_wp2_with fail
  go_end0
  exact ⟨rfl, _, _, H.out⟩
set_option maxRecDepth 100000 in
set_option maxHeartbeats 4000000 in
theorem writeWord_none {B P : Nat} {vl vt : Value} {j : Jn} {W0 w : World} (h : SmJ B P vl vt j W0 w) (k : Int) (hk : k ≠ 1 ∧ k ≠ 2 ∧ k ≠ 3 ∧ k ≠ 4 ∧ k ≠ 5) (t : ByteArray) (gl : Bool) (a : Option Addr) (n c : Nat) :
    Calls Tryd.prog 62 #[.pointer (some ⟨P, 0, none⟩), .agg #[.int .i64 k, .string t, .slice a n c, .bool gl]] w fun e w' => e = .returned (.tuple #[]) ∧ ∃ vl2 vt2, SmJ B P vl2 vt2 j W0 w' := by
  have hb : Below w.heap.size w (w.alloc (.cells #[.int .i64 k, .string t, .slice a n c, .bool gl] 33)) := (Below.refl _ _).alloc (Nat.le_refl _) _
  have H := Lib.hid (h.on hb)
  obtain ⟨h1, h2, h3, h4, h5⟩ := hk
  have e1 : (k == 1) = false := by simpa using h1
  have e2 : (k == 2) = false := by simpa using h2
  have e3 : (k == 3) = false := by simpa using h3
  have e4 : (k == 4) = false := by simpa using h4
  have e5 : (k == 5) = false := by simpa using h5
  clear h hb h1 h2 h3 h4 h5
  go_enter Tryd.func62, Tryd.ntmps62
  go_wp2_with fail
  go_end0
  exact ⟨rfl, _, _, H.out⟩
end Go.Proofs.YtliiapdakojomabDoor
