/- lex, plain: what Join writes. -/
import Derived.Test.YtliiapdakojomabDoorAv
import Derived.Deep.AppendLies
namespace Go.Proofs.YtliiapdakojomabDoor
open Go.RowKit

/-- A line and its literals as far as they are written. -/
structure Jn where
  line : List UInt8
  lits : List ByteArray
  words : Nat
def Jn.put (j : Jn) (l : List UInt8) : Jn := { j with line := j.line ++ l }
def Jn.lit (j : Jn) (t : ByteArray) : Jn := { j with line := j.line ++ annL t.size, lits := j.lits ++ [t] }
def Jn.one (j : Jn) : Jn := { j with words := j.words + 1 }
def Jn.stops (j : Jn) (d : Wd) : Bool := decide (512 < j.words + 1) || decide (16384 < d.text.size)
def Jn.blank (j : Jn) (first : Bool) (d : Wd) : Jn := if !first && !d.glued then j.one.put [32] else j.one
mutual
def jws : Bool → List Wd → Jn → Jn
  | _, [], j => j
  | first, d :: r, j => if j.stops d then j.one else jws false r (jw d (j.blank first d))
def jw : Wd → Jn → Jn
  | .mk k t l _, j =>
    if k = 1 then j.put (L t) else if k = 2 then j.put (quoteL (L t)) else if k = 3 then j.lit t
    else if k = 4 then (jws true l (j.put [40])).put [41] else if k = 5 then (jws true l (j.put [91])).put [93] else j
end
theorem jw_parts (d : Wd) (j : Jn) : jw d j = if d.kind = 1 then j.put (L d.text) else if d.kind = 2 then j.put (quoteL (L d.text)) else if d.kind = 3 then j.lit d.text
    else if d.kind = 4 then (jws true d.kids (j.put [40])).put [41] else if d.kind = 5 then (jws true d.kids (j.put [91])).put [93] else j := by
  cases d; rw [jw]; rfl
/-- Words are written one behind another. -/
theorem jws_one (first : Bool) (d : Wd) (r : List Wd) (j : Jn) (h : j.stops d = false) : jws first (d :: r) j = jws false r (jw d (j.blank first d)) := by rw [jws]; simp [h]
theorem jws_stop (first : Bool) (d : Wd) (r : List Wd) (j : Jn) (h : j.stops d = true) : jws first (d :: r) j = j.one := by rw [jws]; simp [h]
theorem quoteL_len (l : List UInt8) : (quoteL l).length ≤ 2 * l.length + 2 := by
  have := quoteB_len l
  simp only [quoteL, List.length_cons, List.length_append, List.length_nil]; omega
theorem annL_len (n : Nat) : (annL n).length ≤ n + 3 := by
  have := dec_len n
  simp only [annL, List.length_cons, List.length_append, List.length_nil]; omega
def lid (n : Nat) : Nat := min n 512
mutual
/-- What is written stays small: a count for each word that is begun. -/
theorem jws_len : ∀ (first : Bool) (l : List Wd) (j : Jn), j.words ≤ (jws first l j).words ∧ (jws first l j).line.length + 40000 * lid j.words ≤ j.line.length + 40000 * lid (jws first l j).words ∧ (jws first l j).lits.length + lid j.words ≤ j.lits.length + lid (jws first l j).words
  | _, [], j => by simp [jws]
  | first, d :: r, j => by
    cases hs : j.stops d with
    | true =>
      rw [jws_stop _ _ _ _ hs]
      simp only [Jn.one, lid]
      omega
    | false =>
      rw [jws_one _ _ _ _ hs]
      simp only [Jn.stops, Bool.or_eq_false_iff, decide_eq_false_iff_not] at hs
      obtain ⟨h1, h2, h3⟩ := jws_len false r (jw d (j.blank first d))
      obtain ⟨g1, g2, g3⟩ := jw_len d (j.blank first d) (by omega)
      have hb : (j.blank first d).words = j.words + 1 ∧ (j.blank first d).line.length ≤ j.line.length + 1 ∧ (j.blank first d).lits.length = j.lits.length := by
        unfold Jn.blank
        split <;> simp [Jn.put, Jn.one]
      have e1 : lid (j.words + 1) = lid j.words + 1 := by simp only [lid]; omega
      rw [hb.1, e1] at g2 g3
      refine ⟨by omega, by omega, by omega⟩
theorem jw_len : ∀ (d : Wd) (j : Jn), d.text.size ≤ 16384 → j.words ≤ (jw d j).words ∧ (jw d j).line.length + 40000 * lid j.words ≤ j.line.length + 32800 + 40000 * lid (jw d j).words ∧ (jw d j).lits.length + lid j.words ≤ j.lits.length + 1 + lid (jw d j).words
  | .mk k t l g, j, ht => by
    have ht : (L t).length ≤ 16384 := ht
    have hq := quoteL_len (L t)
    have ha := annL_len t.size
    have hz : t.size ≤ 16384 := ht
    obtain ⟨p1, p2, p3⟩ := jws_len true l (j.put [40])
    obtain ⟨q1, q2, q3⟩ := jws_len true l (j.put [91])
    simp only [jw]
    split
    · simp [Jn.put]; omega
    · split
      · simp [Jn.put]; omega
      · split
        · simp [Jn.lit]; omega
        · split
          · simp [Jn.put] at p1 p2 p3 ⊢; omega
          · split
            · simp [Jn.put] at q1 q2 q3 ⊢; omega
            · simp
end
/-- A line that Join writes is never long. -/
theorem jws_small (l : List Wd) : (jws true l ⟨[], [], 0⟩).line.length ≤ 20480000 ∧ (jws true l ⟨[], [], 0⟩).lits.length ≤ 512 := by
  have h := jws_len true l ⟨[], [], 0⟩
  have hl : lid (jws true l ⟨[], [], 0⟩).words ≤ 512 := Nat.min_le_right _ _
  simp only [List.length_nil] at h
  omega
end Go.Proofs.YtliiapdakojomabDoor

/- lex: a joiner in memory. -/
namespace Go.Proofs.YtliiapdakojomabDoor
open Go.RowKit

theorem row_block {t s n B : Nat} {v : Value} {l : List Value} {w w' : World} (h : w.ownsRow B t s v n l) (hb : ∀ g, v.ownBlock = some g → w'.heap[g]? = w.heap[g]?) : w'.ownsRow B t s v n l := by
  refine ⟨h.1, ?_⟩
  rcases h.2 with hn | ⟨g, cap, cur, rfl, hB, hg, rest⟩
  · exact .inl hn
  · exact .inr ⟨g, cap, cur, rfl, hB, by rw [hb g rfl]; exact hg, rest⟩
theorem row_lt {t s n B : Nat} {v : Value} {l : List Value} {w : World} (h : w.ownsRow B t s v n l) {g : Nat} (hg : v.ownBlock = some g) : B ≤ g ∧ g < w.heap.size := by
  rcases h.2 with ⟨rfl, _⟩ | ⟨g', cap, cur, rfl, hB, hh, rest⟩
  · simp [Value.ownBlock] at hg
  · simp only [Value.ownBlock, Option.some.injEq] at hg
    subst hg
    exact ⟨hB, (Array.getElem?_eq_some_iff.1 hh).1⟩
/-- A joiner lies at P: its line (vl) and its literals (vt) in rows that the call made, each in a block of its own. -/
structure SmJ (B P : Nat) (vl vt : Value) (j : Jn) (W0 w : World) : Prop where
  blk : w.heap[P]? = some (.cells #[vl, vt, .int .i64 j.words] 70 (0, 0))
  bP : B ≤ P
  line : w.ownsRow B 5 1 vl j.line.length (bc j.line)
  lits : w.ownsRow B 9 1 vt j.lits.length (j.lits.map Value.string)
  lP : vl.ownBlock ≠ some P
  tP : vt.ownBlock ≠ some P
  lt : ∀ g, vl.ownBlock = some g → vt.ownBlock ≠ some g
  below : Below B W0 w
theorem SmJ.plt {B P : Nat} {vl vt : Value} {j : Jn} {W0 w : World} (h : SmJ B P vl vt j W0 w) : P < w.heap.size := (Array.getElem?_eq_some_iff.1 h.blk).1
/-- Behind a call that leaves alone what was there. -/
theorem SmJ.on {B P : Nat} {vl vt : Value} {j : Jn} {W0 w w' : World} (h : SmJ B P vl vt j W0 w) (hb : Below w.heap.size w w') : SmJ B P vl vt j W0 w' := by
  have hB : B ≤ w.heap.size := by have := h.bP; have := h.plt; omega
  exact ⟨by rw [hb.block P h.plt]; exact h.blk, h.bP, row_block h.line (fun g hg => hb.block g (row_lt h.line hg).2), row_block h.lits (fun g hg => hb.block g (row_lt h.lits hg).2), h.lP, h.tP, h.lt, h.below.trans (hb.mono hB)⟩
theorem SmJ.cells {B P : Nat} {vl vt : Value} {j : Jn} {W0 w : World} (h : SmJ B P vl vt j W0 w) : w.cell? ⟨P, 0, none⟩ = some vl ∧ w.cell? ⟨P, 1, none⟩ = some vt ∧ w.cell? ⟨P, 2, none⟩ = some (.int .i64 j.words) :=
  ⟨cell_of_row _ _ 0 _ _ _ h.blk, cell_of_row _ _ 1 _ _ _ h.blk, cell_of_row _ _ 2 _ _ _ h.blk⟩
/-- Behind 'line = append(line, ..)': the row has grown, and the joiner's cell has been written. -/
theorem SmJ.lined {B P : Nat} {vl vt : Value} {j : Jn} {W0 w w2 : World} (h : SmJ B P vl vt j W0 w) (l : List UInt8) {g n cap : Nat} (hrow : w2.ownsRow B 5 1 (.slice (some ⟨g, 0, none⟩) n cap) (j.line ++ l).length (bc (j.line ++ l)))
    (hgr : w.grownBy w2 vl.ownBlock) (hgg : vl.ownBlock = some g ∨ w.heap.size ≤ g) : w2.cell? ⟨P, 0, none⟩ = some vl ∧ w2.frozen? ⟨P, 0, none⟩ = false ∧ SmJ B P (.slice (some ⟨g, 0, none⟩) n cap) vt (j.put l) W0 (w2.setCell ⟨P, 0, none⟩ (.slice (some ⟨g, 0, none⟩) n cap)) := by
  have hp := h.plt
  have hB : B ≤ w.heap.size := by have := h.bP; omega
  have hPg : P ≠ g := fun e => by
    rcases hgg with hgg | hgg
    · exact h.lP (by rw [e]; exact hgg)
    · omega
  have hb2 : w2.heap[P]? = some (.cells #[vl, vt, .int .i64 j.words] 70 (0, 0)) := by rw [hgr.block P hp (fun e => h.lP e.symm)]; exact h.blk
  have hs := heap_setCell_same w2 P 0 _ _ (.slice (some ⟨g, 0, none⟩) n cap) hb2
  have hbl : Below B W0 w2 := h.below.grown hgr hB (fun k hk => (row_lt h.line hk).1)
  refine ⟨cell_of_row _ _ 0 _ _ _ hb2, frozen_of_row _ _ _ _ _ hb2, ⟨hs, h.bP, ?_, ?_, ?_, h.tP, ?_, hbl.setCell (p := ⟨P, 0, none⟩) h.bP _⟩⟩
  · refine row_block hrow (fun g0 e => ?_)
    obtain rfl : g = g0 := by simpa [Value.ownBlock] using e
    exact heap_setCell_other _ ⟨P, _, none⟩ g _ (by simpa using hPg.symm)
  · refine row_block h.lits (fun g0 e => ?_)
    have hne : g0 ≠ P := fun e' => h.tP (by rw [← e']; exact e)
    rw [heap_setCell_other _ ⟨P, _, none⟩ g0 _ (by simpa using hne)]
    exact hgr.block g0 (row_lt h.lits e).2 (fun e' => h.lt g0 e'.symm e)
  · intro e
    exact hPg (by simpa [Value.ownBlock] using e.symm)
  · intro g0 e e2
    obtain rfl : g = g0 := by simpa [Value.ownBlock] using e
    rcases hgg with hgg | hgg
    · exact h.lt g hgg e2
    · have := (row_lt h.lits e2).2; omega
end Go.Proofs.YtliiapdakojomabDoor

/- lex: the joiner's nests. -/
namespace Go.Proofs.YtliiapdakojomabDoor
open Go.RowKit

theorem bc_snoc (l : List UInt8) (b : UInt8) : bc l ++ [.int .u8 (b.toNat : Int)] = bc (l ++ [b]) := by rw [bc_append]; rfl
/-- line = append(line, c), where the line is a joiner's and the byte lies in a new block; what is known of the store that follows. -/
theorem jput1 {ops : Array Oper} {rest : List Oper} {o : Oper} {a : Act} {Q : Exit → Act → World → Prop} (hgd : o.guard = none) (s x : Operand)
    (ho : o.op = .call { callee := .builtin .append, args := #[s, x], argTypes := #[31, 31] })
    {B P : Nat} {vl vt : Value} {j : Jn} {W0 w : World} (h : SmJ B P vl vt j W0 w) (b : UInt8) (hs : a.eval s = vl) (hx : a.eval x = .slice (some ⟨w.heap.size, 0, none⟩) 1 1) (hl : j.line.length ≤ 100000000)
    (hk : ∀ g cap w2, w2.cell? ⟨P, 0, none⟩ = some vl → w2.frozen? ⟨P, 0, none⟩ = false → Hid (SmJ B P (.slice (some ⟨g, 0, none⟩) (j.line.length + 1) cap) vt (j.put [b]) W0 (w2.setCell ⟨P, 0, none⟩ (.slice (some ⟨g, 0, none⟩) (j.line.length + 1) cap))) → wpList Tryd.prog ops Q rest (a.put o.dst (.slice (some ⟨g, 0, none⟩) (j.line.length + 1) cap)) w2) :
    wpList Tryd.prog ops Q (o :: rest) a (w.alloc (.cells #[.int .u8 (b.toNat : Int)] 5)) := by
  obtain ⟨i0, hi, hz0, hz1, hz2⟩ := info_parts Tryd.infoByte
  have hZ := h.on ((Below.refl w.heap.size w).alloc (Nat.le_refl _) (.cells #[.int .u8 (b.toNat : Int)] 5))
  have hBw : B ≤ w.heap.size := by have := h.bP; have := h.plt; omega
  refine wpList_append_lies _ hgd s x 31 ho B 5 i0 (.int .u8 0) 1 1 Tryd.underlying31 hi hz0 hz1 hz2 rfl (by decide) vl j.line.length (bc j.line) hs hZ.line ⟨w.heap.size, 0, none⟩ 1 1 [.int .u8 (b.toNat : Int)] hx rfl ?_ (by intro u hu; simp at hu; subst hu; rfl) (by decide) (by unfold maxLen; omega) (by omega) (by simp; omega) (w.heap.size + 1) (by simp) ?_
  · intro k u hk
    match k, hk with
    | 0, hk => simp at hk; subst hk; simp [Addr.add]
    | (k + 1), hk => simp at hk
  intro g cap w2 hrow2 hgr hgg hglt
  rw [bc_snoc] at hrow2
  obtain ⟨p0, p1, HJ⟩ := hZ.lined [b] (n := j.line.length + 1) (cap := cap) (by simpa using hrow2) hgr (by
    rcases hgg with e | e
    · exact .inl e
    · right; simp; omega)
  exact hk g cap w2 p0 p1 (Lib.hid HJ)
set_option maxRecDepth 100000 in
set_option maxHeartbeats 4000000 in
theorem writeNest_of {B P : Nat} {vl vt : Value} {j : Jn} {W0 w : World} (h : SmJ B P vl vt j W0 w) (op cl : UInt8) (a : Option Addr) (n c : Nat) (j2 : Jn) (hl : j.line.length ≤ 100000000) (hl2 : j2.line.length ≤ 100000000)
    (hW : ∀ vl' W, SmJ B P vl' vt (j.put [op]) W0 W → Calls Tryd.prog 37 #[.pointer (some ⟨P, 0, none⟩), .slice a n c] W fun e w' => e = .returned (.tuple #[]) ∧ ∃ vl2 vt2, SmJ B P vl2 vt2 j2 W0 w') :
    Calls Tryd.prog 85 #[.pointer (some ⟨P, 0, none⟩), .int .u8 (op.toNat : Int), .slice a n c, .int .u8 (cl.toNat : Int)] w fun e w' => e = .returned (.tuple #[]) ∧ ∃ vl2 vt2, SmJ B P vl2 vt2 (j2.put [cl]) W0 w' := by
  have HC := Lib.hid hW
  have q0 := h.cells.1
  have H := Lib.hid h
  clear hW h
  go_enter Tryd.func85, Tryd.ntmps85
  go_wp2_with (at_builtin; refine jput1 rfl _ _ rfl H.out op rfl rfl hl ?_; intro g cap w2 p0 p1 HJ)
  refine (HC.out _ _ HJ.out).mono ?_
  rintro e w5 ⟨rfl, vl5, vt5, h5⟩
  clear HC HJ H p0 p1 q0
  have q0 := h5.cells.1
  have H := Lib.hid h5
  clear h5
  go_wp2_with (at_builtin; refine jput1 rfl _ _ rfl H.out cl rfl rfl hl2 ?_; intro g7 cap7 w7 p0 p1 HJ)
  go_end0
  exact ⟨rfl, _, _, HJ.out⟩
end Go.Proofs.YtliiapdakojomabDoor
