/- frame: two rows that grow (frames, places); told. -/
import Derived.Test.YtkdmicpfinjpgaaF10j
import Derived.Deep.AppendLies
namespace Go.Proofs.Ytkdmicpfinjpgaa
open Go.RowKit

def frC (f : Fr) : List Value := [.int .i64 (f.kind : Int), .int .i64 (f.num : Int), .int .i64 (f.at' : Int), .string (S f.body)]
def frCs (l : List Fr) : List Value := l.flatMap frC
theorem frCs_append (a b : List Fr) : frCs (a ++ b) = frCs a ++ frCs b := by simp [frCs]
theorem frCs_length (l : List Fr) : (frCs l).length = 4 * l.length := by
  induction l with
  | nil => rfl
  | cons f l ih => simp [frCs, frC] at ih ⊢; omega
def inC (l : List Nat) : List Value := l.map fun n : Nat => Value.int .i64 (n : Int)
theorem inC_append (a b : List Nat) : inC (a ++ b) = inC a ++ inC b := by simp [inC]
theorem inC_length (l : List Nat) : (inC l).length = l.length := by simp [inC]
def ApartV (u v : Value) : Prop := ∀ k, u.ownBlock = some k → v.ownBlock ≠ some k
theorem ApartV.symm {u v : Value} (h : ApartV u v) : ApartV v u := fun k h1 h2 => h k h2 h1
theorem Try.infoFr : (Try.prog.info? 47).map (fun i => (i.zero, i.size, i.bytes)) = some (some (frV 0 0 0 ⟨#[]⟩), 4, 40) := by kernel_rfl
theorem Try.infoInt : (Try.prog.info? 3).map (fun i => (i.zero, i.size, i.bytes)) = some (some (.int .i64 0), 1, 8) := by kernel_rfl
/-- A row of frames and a row of numbers that the call made, in blocks of their own from B on. -/
structure Two (B : Nat) (v3 : Value) (F : List Fr) (v4 : Value) (N : List Nat) (w : World) : Prop where
  a : w.ownsRow B 47 4 v3 F.length (frCs F)
  b : w.ownsRow B 3 1 v4 N.length (inC N)
  d : ApartV v3 v4
  base : B ≤ w.heap.size
theorem row_on' {B : Nat} {v : Value} {G : List Value} {n z : Nat} {e : TypeId} {w w' : World} (h : w.ownsRow B e z v n G) (hb : ∀ g, B ≤ g → g < w.heap.size → w'.heap[g]? = w.heap[g]?) : w'.ownsRow B e z v n G := by
  refine ⟨h.1, ?_⟩
  rcases h.2 with hn | ⟨g, cap, cur, rfl, hB, hg, rest⟩
  · exact .inl hn
  · exact .inr ⟨g, cap, cur, rfl, hB, by rw [hb g hB (Array.getElem?_eq_some_iff.1 hg).1]; exact hg, rest⟩
theorem Two.on {B : Nat} {v3 v4 : Value} {F : List Fr} {N : List Nat} {w w' : World} (h : Two B v3 F v4 N w) (hb : Below w.heap.size w w') : Two B v3 F v4 N w' :=
  ⟨row_on' h.a (fun g _ hg => hb.block g hg), row_on' h.b (fun g _ hg => hb.block g hg), h.d, Nat.le_trans h.base hb.size⟩
theorem Two.set {B : Nat} {v3 v4 : Value} {F : List Fr} {N : List Nat} {w : World} (h : Two B v3 F v4 N w) {p : Nat} (hp : p < B) (u : Value) : Two B v3 F v4 N (w.setCell ⟨p, 0, none⟩ u) :=
  ⟨row_on' h.a (fun g hg _ => by rw [heap_setCell_other _ _ _ _ (by show g ≠ p; omega)]), row_on' h.b (fun g hg _ => by rw [heap_setCell_other _ _ _ _ (by show g ≠ p; omega)]), h.d, by simpa using h.base⟩
theorem Two.nil {B : Nat} {w : World} (hB : B ≤ w.heap.size) : Two B (.slice none 0 0) [] (.slice none 0 0) [] w :=
  ⟨World.ownsRow_nil _ _ _ _, World.ownsRow_nil _ _ _ _, fun k h => by simp [Value.ownBlock] at h, hB⟩
/-- A frame more. -/
theorem appF {ops : Array Oper} {rest : List Oper} {o : Oper} {a : Act} {Q : Exit → Act → World → Prop} (hgd : o.guard = none) (s x : Operand)
    (ho : o.op = .call { callee := .builtin .append, args := #[s, x], argTypes := #[41, 41] })
    {B : Nat} {v3 v4 : Value} {F : List Fr} {N : List Nat} {w : World} (f : Fr) (cs : Array Value) (hcs : cs = (frC f).toArray) (h2 : Two B v3 F v4 N w) (hs : a.eval s = v3) (g : Nat) (hgz : g = w.heap.size) (hx : a.eval x = .slice (some ⟨g, 0, none⟩) 1 1)
    (hlen : F.length + 1 ≤ 1099511627776)
    (h : ∀ v' w', Two B v' (F ++ [f]) v4 N w' → Below B (w.alloc (.cells cs 47)) w' → wpList Try.prog ops Q rest (a.put o.dst v') w') : wpList Try.prog ops Q (o :: rest) a (w.alloc (.cells cs 47)) := by
  subst hcs hgz
  obtain ⟨i0, hi, hz0, hz1, hz2⟩ := info_parts Try.infoFr
  have hbA : Below w.heap.size w (w.alloc (.cells (frC f).toArray 47)) := (Below.refl _ _).alloc (Nat.le_refl _) _
  have hA := h2.on hbA
  refine wpList_append_lies _ hgd s x 41 ho B 47 i0 (frV 0 0 0 ⟨#[]⟩) 4 40 Try.underlying41 hi hz0 hz1 hz2 rfl (by decide) v3 F.length (frCs F) hs hA.a ⟨w.heap.size, 0, none⟩ 1 1 (frC f) hx rfl ?_ ?_ (by decide) (by unfold maxLen; omega) (by omega) hA.base _ rfl ?_
  · intro j u hj
    have e : (⟨w.heap.size, 0, none⟩ : Addr).add j = ⟨w.heap.size, j, none⟩ := by
      unfold Addr.add; split
      · rename_i h; rw [h]
      · simp
    rw [e, cell_of_row _ _ j _ _ _ (heap_alloc_last w _)]
    simpa using hj
  · intro u hu; simp [frC] at hu; rcases hu with rfl | rfl | rfl | rfl <;> rfl
  · intro g cap w' ho' hg hat _
    refine h _ w' ⟨?_, hA.b.kept hg ?_, fun k h4 h5 => ?_, Nat.le_trans hA.base hg.size⟩ ((Below.refl _ _).grown hg hA.base (fun k hk => (hA.a.lt k hk).1))
    · rw [List.length_append, frCs_append]
      have : frCs [f] = frC f := by simp [frCs]
      rw [this]
      exact ho'
    · cases h4 : v4.ownBlock with
      | none => exact .inl rfl
      | some k => exact .inr (fun e => hA.d k e.symm h4)
    · have e : g = k := by simpa [Value.ownBlock] using h4
      subst e
      rcases hat with h6 | h6
      · exact hA.d g h6 h5
      · have := (hA.b.lt g h5).2
        omega
/-- A number more. -/
theorem appN {ops : Array Oper} {rest : List Oper} {o : Oper} {a : Act} {Q : Exit → Act → World → Prop} (hgd : o.guard = none) (s x : Operand)
    (ho : o.op = .call { callee := .builtin .append, args := #[s, x], argTypes := #[42, 42] })
    {B : Nat} {v3 v4 : Value} {F : List Fr} {N : List Nat} {w : World} (n : Nat) (c : Int) (hc : c = (n : Int)) (h2 : Two B v3 F v4 N w) (hs : a.eval s = v4) (g : Nat) (hgz : g = w.heap.size) (hx : a.eval x = .slice (some ⟨g, 0, none⟩) 1 1)
    (hlen : N.length + 1 ≤ 1099511627776)
    (h : ∀ v' w', Two B v3 F v' (N ++ [n]) w' → Below B (w.alloc (.cells #[.int .i64 c] 3)) w' → wpList Try.prog ops Q rest (a.put o.dst v') w') : wpList Try.prog ops Q (o :: rest) a (w.alloc (.cells #[.int .i64 c] 3)) := by
  subst hc hgz
  obtain ⟨i0, hi, hz0, hz1, hz2⟩ := info_parts Try.infoInt
  have hbA : Below w.heap.size w (w.alloc (.cells #[.int .i64 (n : Int)] 3)) := (Below.refl _ _).alloc (Nat.le_refl _) _
  have hA := h2.on hbA
  refine wpList_append_lies _ hgd s x 42 ho B 3 i0 (.int .i64 0) 1 8 Try.underlying42 hi hz0 hz1 hz2 rfl (by decide) v4 N.length (inC N) hs hA.b ⟨w.heap.size, 0, none⟩ 1 1 [.int .i64 (n : Int)] hx rfl ?_ ?_ (by decide) (by unfold maxLen; omega) (by omega) hA.base _ rfl ?_
  · intro j u hj
    match j, hj with
    | 0, hj => simp at hj; subst hj; simp [Addr.add]
    | (j + 1), hj => simp at hj
  · intro u hu; simp at hu; subst hu; rfl
  · intro g cap w' ho' hg hat _
    refine h _ w' ⟨hA.a.kept hg ?_, ?_, fun k h4 h5 => ?_, Nat.le_trans hA.base hg.size⟩ ((Below.refl _ _).grown hg hA.base (fun k hk => (hA.b.lt k hk).1))
    · cases h4 : v3.ownBlock with
      | none => exact .inl rfl
      | some k => exact .inr (fun e => hA.d k h4 e.symm)
    · rw [List.length_append, inC_append]
      exact ho'
    · have e : g = k := by simpa [Value.ownBlock] using h5
      subst e
      rcases hat with h6 | h6
      · exact hA.d g h4 h6
      · have := (hA.a.lt g h4).2
        omega
theorem Two.shape3 {B : Nat} {v3 v4 : Value} {F : List Fr} {N : List Nat} {w : World} (h : Two B v3 F v4 N w) : ∃ ao cap, v3 = .slice ao F.length cap := by
  rcases h.a.2 with ⟨rfl, h0⟩ | ⟨g, cap, cur, rfl, _⟩
  · exact ⟨none, 0, by rw [h0]⟩
  · exact ⟨_, cap, rfl⟩
theorem Two.shape4 {B : Nat} {v3 v4 : Value} {F : List Fr} {N : List Nat} {w : World} (h : Two B v3 F v4 N w) : ∃ ao cap, v4 = .slice ao N.length cap := by
  rcases h.b.2 with ⟨rfl, h0⟩ | ⟨g, cap, cur, rfl, _⟩
  · exact ⟨none, 0, by rw [h0]⟩
  · exact ⟨_, cap, rfl⟩
theorem Two.shape3s {B : Nat} {v3 v4 : Value} {F : List Fr} {f : Fr} {N : List Nat} {w : World} (h : Two B v3 (F ++ [f]) v4 N w) : ∃ ao cap, v3 = .slice ao (F.length + 1) cap := by
  obtain ⟨ao, cap, e⟩ := h.shape3
  exact ⟨ao, cap, by rw [e, List.length_append]; rfl⟩
theorem Two.shape4s {B : Nat} {v3 v4 : Value} {F : List Fr} {N : List Nat} {n : Nat} {w : World} (h : Two B v3 F v4 (N ++ [n]) w) : ∃ ao cap, v4 = .slice ao (N.length + 1) cap := by
  obtain ⟨ao, cap, e⟩ := h.shape4
  exact ⟨ao, cap, by rw [e, List.length_append]; rfl⟩
theorem keepsB {B b : Nat} {X Y : World} {o : Obj} (h : Below B X Y) (hb : b < B) (hX : X.heap[b]? = some o) : Y.heap[b]? = some o := by rw [h.block b hb]; exact hX
theorem alloc_keeps {X : World} {b : Nat} {o p : Obj} (h : X.heap[b]? = some o) : (X.alloc p).heap[b]? = some o := by rw [Below.heap_alloc _ _ _ (heap_lt h)]; exact h
/-- What told has in memory while its scan goes: the rows' variables at P + 1 and P + 2, the text at P. -/
structure Td (w0 : World) (B : Nat) (s : ByteArray) (F : List Fr) (N : List Nat) (W : World) : Prop where
  below : Below w0.heap.size w0 W
  rows : ∃ v3 v4, Two B v3 F v4 N W ∧ W.heap[w0.heap.size + 1]? = some (.cells #[v3] 41) ∧ W.heap[w0.heap.size + 2]? = some (.cells #[v4] 42)
  str : W.heap[w0.heap.size]? = some (.cells #[.string s] 9)
theorem Td.on {w0 : World} {B : Nat} {s : ByteArray} {F : List Fr} {N : List Nat} {W W' : World} (h : Td w0 B s F N W) (hb : Below W.heap.size W W') : Td w0 B s F N W' := by
  obtain ⟨v3, v4, h1, h2, h3⟩ := h.rows
  exact ⟨h.below.trans (hb.mono h.below.size), ⟨v3, v4, h1.on hb, keeps hb h2, keeps hb h3⟩, keeps hb h.str⟩
end Go.Proofs.Ytkdmicpfinjpgaa
