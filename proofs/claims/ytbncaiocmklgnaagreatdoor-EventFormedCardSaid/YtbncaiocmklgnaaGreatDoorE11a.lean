/- The statement EventFlags: what its walk wants. -/
import Derived.Test.YtbncaiocmklgnaaGreatDoorR11d
import Derived.Test.YtbncaiocmklgnaaGreatDoorV11s
namespace Go.Proofs.YtbncaiocmklgnaaGreatDoor
open Go.RowKit Go.Lib

/-- All of a row that came in: it may be empty and lie somewhere. -/
theorem appTsE {ops : Array Oper} {rest : List Oper} {o : Oper} {a : Act} {Q : Exit → Act → World → Prop} (hgd : o.guard = none) (s x : Operand)
    (ho : o.op = .call { callee := .builtin .append, args := #[s, x], argTypes := #[22, 22] })
    {B : Nat} {v v2 : Value} {l l2 : List ByteArray} {W0 w : World} (hown : OwnT B v l W0 w) (h2 : Strs w v2 l2) (hn : ∀ c, v2 = .slice none 0 c → c = 0) (hs : a.eval s = v) (hx : a.eval x = v2)
    (hlen : l.length + l2.length ≤ 1099511627776)
    (h : ∀ v' w', OwnT B v' (l ++ l2) W0 w' → wpList Tryz.prog ops Q rest (a.put o.dst v') w') : wpList Tryz.prog ops Q (o :: rest) a w := by
  obtain ⟨i0, hi, hz0, hz1, hz2⟩ := info_parts Tryz.infoText
  by_cases h0 : l2 = []
  · subst h0
    obtain ⟨ao, cap, rfl⟩ := h2.shape
    cases ao with
    | none =>
      obtain rfl := hn cap rfl
      exact wpList_append_own_none hgd s x 22 ho B 9 i0 1 Tryz.underlying22 hi v l.length (tcs l) hs hown.row hx (h v w (by rw [List.append_nil]; exact hown))
    | some ad =>
      refine wpList_append_own _ hgd s x 22 ho B 9 i0 (.string ⟨#[]⟩) 1 16 Tryz.underlying22 hi hz0 hz1 hz2 rfl (by decide) v l.length (tcs l) hs hown.row ad 0 cap [] hx rfl (fun j u hj => by simp at hj) (fun u hu => by cases hu) (by unfold maxLen; simp at hlen; omega) (by simp at hlen; omega) hown.base ?_
      intro v' w' ho' hg _
      refine h v' w' ⟨?_, hown.below.grown hg hown.base (fun k hk => (hown.row.lt k hk).1), Nat.le_trans hown.base hg.size⟩
      rw [List.append_nil] at ho' ⊢
      exact ho'
  · exact appTs hgd s x ho hown h2 (fun e => absurd e h0) hs hx hlen h
theorem OwnT.cap {B : Nat} {v : Value} {l : List ByteArray} {W0 w : World} (h : OwnT B v l W0 w) (hl : l ≠ []) : ∃ g cap, v = .slice (some ⟨g, 0, none⟩) l.length cap ∧ l.length ≤ cap ∧ B ≤ g ∧ g < w.heap.size ∧ ∀ i, i < l.length → w.cell? ⟨g, i, none⟩ = some (.string (l.getD i ByteArray.empty)) ∧ w.frozen? ⟨g, i, none⟩ = false := by
  obtain ⟨g, cap, rfl, h1, h2, h3⟩ := h.cells hl
  refine ⟨g, cap, rfl, ?_, h1, h2, h3⟩
  rcases h.row.2 with ⟨e, _⟩ | ⟨g', cap', cur, e, _, _, hc, _⟩
  · cases e
  · cases e
    exact hc
theorem num_any (k : Int) (w : World) : Calls Tryz.prog 15 #[.int .i64 k] w fun e w' => e = .returned (.int .i64 k) ∧ w' = w := by
  go_enter Tryz.func15, Tryz.ntmps15
  go_wp2
  go_ret
  exact ⟨rfl, rfl⟩
/-- Texts in a row of their own that may be written. -/
structure Row (w : World) (g : Nat) (cur : List ByteArray) (X : World) : Prop where
  lo : w.heap.size ≤ g
  lt : g < X.heap.size
  below : Below w.heap.size w X
  cells : ∀ i, i < cur.length → X.cell? ⟨g, i, none⟩ = some (.string (cur.getD i ByteArray.empty)) ∧ X.frozen? ⟨g, i, none⟩ = false
theorem Row.on {w : World} {g : Nat} {cur : List ByteArray} {X Y : World} (h : Row w g cur X) (hb : Below X.heap.size X Y) : Row w g cur Y :=
  ⟨h.lo, Nat.lt_of_lt_of_le h.lt hb.size, h.below.trans (hb.mono (by have := h.lo; have := h.lt; omega)), fun i hi => ⟨by rw [hb.cell (p := ⟨g, i, none⟩) h.lt]; exact (h.cells i hi).1, by rw [hb.frozen (p := ⟨g, i, none⟩) h.lt]; exact (h.cells i hi).2⟩⟩
theorem Row.set {w : World} {g : Nat} {cur : List ByteArray} {X : World} (h : Row w g cur X) (k : Nat) (x : ByteArray) : Row w g (cur.set k x) (X.setCell ⟨g, k, none⟩ (.string x)) := by
  refine ⟨h.lo, by simpa using h.lt, h.below.setCell (p := ⟨g, k, none⟩) h.lo _, fun i hi => ?_⟩
  have hi' : i < cur.length := by simpa using hi
  obtain ⟨h1, h2⟩ := h.cells i hi'
  refine ⟨?_, by simpa using h2⟩
  by_cases e : k = i
  · subst e
    rw [World.cell?_setCell_same _ _ _ h1]
    simp [hi']
  · rw [World.cell?_setCell_other _ _ _ _ (by intro e'; simp only [Addr.mk.injEq] at e'; exact e e'.2.1), h1]
    simp [hi', e]
theorem Row.take {w : World} {g : Nat} {cur : List ByteArray} {X : World} (h : Row w g cur X) (n : Nat) : Row w g (cur.take n) X :=
  ⟨h.lo, h.lt, h.below, fun i hi => by
    rw [List.length_take] at hi
    have := h.cells i (by omega)
    rw [List.getD_eq_getElem?_getD, List.getElem?_take, if_pos (by omega), ← List.getD_eq_getElem?_getD]
    exact this⟩
theorem Row.strs {w : World} {g : Nat} {cur : List ByteArray} {X : World} (h : Row w g cur X) (hl : cur.length ≤ 1000) (cap : Nat) : Strs X (.slice (some ⟨g, 0, none⟩) cur.length cap) cur :=
  .inr ⟨g, 0, cap, rfl, by omega, h.lt, fun i hi => by rw [Nat.zero_add]; exact (h.cells i hi).1⟩
/-- The first k of a list written over the first k of another. -/
def over (s1 s2 : List ByteArray) : Nat → List ByteArray
  | 0 => s1
  | k + 1 => (over s1 s2 k).set k (s2.getD k ByteArray.empty)
theorem over_length (s1 s2 : List ByteArray) (k : Nat) : (over s1 s2 k).length = s1.length := by
  induction k with
  | zero => rfl
  | succ k ih => rw [over, List.length_set, ih]
theorem over_mem (s1 s2 : List ByteArray) (k : Nat) (hk : k ≤ s2.length) : ∀ f, f ∈ over s1 s2 k → f ∈ s1 ∨ f ∈ s2 := by
  induction k with
  | zero => intro f hf; exact .inl hf
  | succ k ih =>
    intro f hf
    rw [over] at hf
    rcases List.mem_or_eq_of_mem_set hf with h | h
    · exact ih (by omega) f h
    · refine .inr ?_
      rw [h, List.getD_eq_getElem?_getD, List.getElem?_eq_getElem (by omega)]
      exact List.getElem_mem _
end Go.Proofs.YtbncaiocmklgnaaGreatDoor
