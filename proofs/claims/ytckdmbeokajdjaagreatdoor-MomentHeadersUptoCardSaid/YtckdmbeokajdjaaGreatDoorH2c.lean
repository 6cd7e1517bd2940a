/- The document's ReadHeader: pieces in memory. -/
import Derived.Test.YtckdmbeokajdjaaGreatDoorH2a
import Derived.Test.YtckdmbeokajdjaaGreatDoorGa
import Derived.Test.YtckdmbeokajdjaaGreatDoorGj
import Derived.Laws.AppendOwnNone
import Derived.Deep.LoopGhost
import Derived.Deep.DeepCutAuto
import Derived.Deep.CutBlock
import Derived.BigQuiet
namespace Go.Proofs.YtckdmbeokajdjaaGreatDoor
open Go.RowKit

/-- How the document writes a piece's kind. -/
def kb (k : Nat) : UInt8 := if k = 1 then 97 else if k = 2 then 100 else if k = 3 then 115 else if k = 4 then 44 else 58
def encP (p : Pc) : List Value := [.int .u8 ((kb p.1).toNat : Int), .string (S p.2)]
def pce (l : List Pc) : List Value := l.flatMap encP
theorem pce_length (l : List Pc) : (pce l).length = l.length * 2 := by
  induction l with
  | nil => rfl
  | cons p r ih => simp only [pce, List.flatMap_cons, List.length_append, List.length_cons] at *; rw [ih]; simp [encP]; omega
theorem pce_append (a b : List Pc) : pce (a ++ b) = pce a ++ pce b := by simp [pce]
theorem pce_at (l : List Pc) (i : Nat) (hi : i < l.length) : (pce l)[i * 2]? = some (.int .u8 ((kb (l.getD i (0, [])).1).toNat : Int)) ∧ (pce l)[i * 2 + 1]? = some (.string (S (l.getD i (0, [])).2)) := by
  induction l generalizing i with
  | nil => simp at hi
  | cons p r ih =>
    cases i with
    | zero => exact ⟨rfl, rfl⟩
    | succ i =>
      have := ih i (by simpa using hi)
      have e : pce (p :: r) = .int .u8 ((kb p.1).toNat : Int) :: .string (S p.2) :: pce r := by simp [pce, encP]
      rw [e, show (i + 1) * 2 = i * 2 + 1 + 1 by omega]
      simp only [List.getElem?_cons_succ, List.getD_cons_succ]
      exact this
/-- A row of pieces that the call made. -/
structure OwnP (B : Nat) (v : Value) (l : List Pc) (W0 w : World) : Prop where
  row : w.ownsRow B 74 2 v l.length (pce l)
  below : Below B W0 w
  base : B ≤ w.heap.size
theorem OwnP.nil {B : Nat} {W0 w : World} (h : Below B W0 w) (hB : B ≤ w.heap.size) : OwnP B (.slice none 0 0) [] W0 w := ⟨World.ownsRow_nil _ _ _ _, h, hB⟩
theorem OwnP.drew {B : Nat} {v : Value} {l : List Pc} {W0 w : World} (h : OwnP B v l W0 w) : OwnP B v l W0 w.drew := ⟨h.row.drew, h.below.drew, h.base⟩
theorem OwnP.alloc {B : Nat} {v : Value} {l : List Pc} {W0 w : World} (h : OwnP B v l W0 w) (o : Obj) : OwnP B v l W0 (w.alloc o) :=
  ⟨h.row.alloc o, h.below.alloc h.base o, by have := h.base; simp; omega⟩
theorem OwnP.on {B : Nat} {v : Value} {l : List Pc} {W0 w w' : World} (h : OwnP B v l W0 w) (hb : Below w.heap.size w w') : OwnP B v l W0 w' := by
  refine ⟨⟨h.row.1, ?_⟩, h.below.trans (hb.mono h.base), Nat.le_trans h.base hb.size⟩
  rcases h.row.2 with hn | ⟨g, cap, cur, rfl, hB, hg, rest⟩
  · exact .inl hn
  · exact .inr ⟨g, cap, cur, rfl, hB, by rw [hb.block g (Array.getElem?_eq_some_iff.1 hg).1]; exact hg, rest⟩
/-- A slice of pieces, to be read. -/
def PsAt (w : World) (v : Value) (ps : List Pc) : Prop := (ps = [] ∧ v = .slice none 0 0) ∨ ∃ g cap, v = .slice (some ⟨g, 0, none⟩) ps.length cap ∧ g < w.heap.size ∧ ∀ i, i < ps.length → w.cell? ⟨g, i * 2, none⟩ = some (.int .u8 ((kb (ps.getD i (0, [])).1).toNat : Int)) ∧ w.cell? ⟨g, i * 2 + 1, none⟩ = some (.string (S (ps.getD i (0, [])).2))
theorem OwnP.at {B : Nat} {v : Value} {l : List Pc} {W0 w : World} (h : OwnP B v l W0 w) : PsAt w v l := by
  rcases h.row.2 with ⟨rfl, h0⟩ | ⟨g, cap, cur, rfl, hB, hg, rest⟩
  · exact .inl ⟨List.eq_nil_of_length_eq_zero h0, rfl⟩
  · refine .inr ⟨g, cap, rfl, (Array.getElem?_eq_some_iff.1 hg).1, fun i hi => ?_⟩
    have := pce_at l i hi
    have c1 := h.row.cells (g := g) rfl (i * 2) _ this.1
    have c2 := h.row.cells (g := g) rfl (i * 2 + 1) _ this.2
    rw [show ((⟨g, 0, none⟩ : Addr).add (i * 2)) = ⟨g, i * 2, none⟩ from by rw [Addr.add_lit, Nat.zero_add]] at c1
    rw [show ((⟨g, 0, none⟩ : Addr).add (i * 2 + 1)) = ⟨g, i * 2 + 1, none⟩ from by rw [Addr.add_lit, Nat.zero_add]] at c2
    exact ⟨c1, c2⟩
theorem PsAt.on {w w' : World} {v : Value} {ps : List Pc} (h : PsAt w v ps) (hb : Below w.heap.size w w') : PsAt w' v ps := by
  rcases h with h | ⟨g, cap, h1, h2, h3⟩
  · exact .inl h
  · exact .inr ⟨g, cap, h1, Nat.lt_of_lt_of_le h2 hb.size, fun i hi => ⟨by rw [hb.cell (p := ⟨g, i * 2, none⟩) h2]; exact (h3 i hi).1, by rw [hb.cell (p := ⟨g, i * 2 + 1, none⟩) h2]; exact (h3 i hi).2⟩⟩
theorem Tryz.infoPiece : (Tryz.prog.info? 74).map (fun i => (i.zero, i.size, i.bytes)) = some (some (.agg #[.int .u8 0, .string ⟨#[]⟩]), 2, 24) := by kernel_rfl
/-- l = append(l, p): the piece lies in a new block. -/
theorem appPc {ops : Array Oper} {rest : List Oper} {o : Oper} {a : Act} {Q : Exit → Act → World → Prop} (hgd : o.guard = none) (s x : Operand)
    (ho : o.op = .call { callee := .builtin .append, args := #[s, x], argTypes := #[53, 53] })
    {B : Nat} {v : Value} {l : List Pc} {W0 w : World} (p : Pc) (c : Int) (t : ByteArray) (hc : c = ((kb p.1).toNat : Int)) (ht : t = S p.2) (hown : OwnP B v l W0 w) (hs : a.eval s = v) (Nb : Nat) (hx : a.eval x = .slice (some ⟨Nb, 0, none⟩) 1 1) (hNb : Nb = w.heap.size)
    (hlen : l.length + 1 ≤ 1099511627776)
    (h : ∀ v' w', OwnP B v' (l ++ [p]) W0 w' → wpList Tryz.prog ops Q rest (a.put o.dst v') w') : wpList Tryz.prog ops Q (o :: rest) a (w.alloc (.cells #[.int .u8 c, .string t] 74)) := by
  subst hc ht hNb
  obtain ⟨i0, hi, hz0, hz1, hz2⟩ := info_parts Tryz.infoPiece
  have ha := hown.alloc (.cells #[.int .u8 ((kb p.1).toNat : Int), .string (S p.2)] 74)
  refine wpList_append_own _ hgd s x 53 ho B 74 i0 (.agg #[.int .u8 0, .string ⟨#[]⟩]) 2 24 Tryz.underlying53 hi hz0 hz1 hz2 rfl (by decide) v l.length (pce l) hs ha.row ⟨w.heap.size, 0, none⟩ 1 1 [.int .u8 ((kb p.1).toNat : Int), .string (S p.2)] hx rfl ?_ ?_ (by unfold maxLen; omega) (by omega) ha.base ?_
  · intro j u hj
    match j, hj with
    | 0, hj => simp at hj; subst hj; simp [Addr.add]
    | 1, hj => simp at hj; subst hj; simp [Addr.add]
    | (j + 2), hj => simp at hj
  · intro u hu; simp at hu; rcases hu with rfl | rfl <;> rfl
  · intro v' w' ho' hg _
    refine h v' w' ⟨?_, ha.below.grown hg ha.base (fun k hk => (ha.row.lt k hk).1), Nat.le_trans ha.base hg.size⟩
    rw [List.length_append, pce_append]
    exact ho'

end Go.Proofs.YtckdmbeokajdjaaGreatDoor
