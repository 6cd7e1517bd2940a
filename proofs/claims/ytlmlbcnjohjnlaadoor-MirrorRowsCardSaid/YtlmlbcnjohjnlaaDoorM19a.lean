/- mirror: memory, in general. -/
import Derived.Test.YtlmlbcnjohjnlaaDoorProg
import Derived.Test.YtlmlbcnjohjnlaaDoorPu
import Derived.Deep.QuietTactic
import Derived.Laws.OwnMore
import Derived.Maps.AppendAt
import Derived.Below
import Derived.Deep.MidRow
import Derived.Deep.CutBlock
import Derived.Deep.DeepCutAuto
import Derived.Deep.RegionHeld3
import Derived.Deep.RegionWith
import Derived.Deep.WholeRow
import Derived.BigQuiet
import Derived.BigRegion
import Derived.WalkMore
namespace Go.Proofs.YtlmlbcnjohjnlaaDoor
open Go.RowKit

/-- All blocks but those of fp are as they were. -/
structure Stays (fp : List Nat) (w w' : World) : Prop where
  os : w'.os = w.os
  tape : w'.tape = w.tape
  output : w'.output = w.output
  size : w.heap.size ≤ w'.heap.size
  block : ∀ b, b < w.heap.size → b ∉ fp → w'.heap[b]? = w.heap[b]?
theorem Stays.refl (fp : List Nat) (w : World) : Stays fp w w := ⟨rfl, rfl, rfl, Nat.le_refl _, fun _ _ _ => rfl⟩
theorem Stays.trans {fp fp' : List Nat} {w w1 w2 : World} (h : Stays fp w w1) (k : Stays fp' w1 w2) (hs : ∀ b, b ∈ fp' → b ∈ fp ∨ w.heap.size ≤ b) : Stays fp w w2 :=
  ⟨k.os.trans h.os, k.tape.trans h.tape, k.output.trans h.output, Nat.le_trans h.size k.size, fun b hb hn => by
    rw [k.block b (Nat.lt_of_lt_of_le hb h.size) (fun e => by rcases hs b e with e' | e' <;> first | exact hn e' | omega), h.block b hb hn]⟩
theorem Stays.mono {fp fp' : List Nat} {w w' : World} (h : Stays fp w w') (hs : ∀ b, b ∈ fp → b ∈ fp') : Stays fp' w w' :=
  ⟨h.os, h.tape, h.output, h.size, fun b hb hn => h.block b hb (fun e => hn (hs b e))⟩
theorem Stays.alloc {fp : List Nat} {w w1 : World} (h : Stays fp w w1) (o : Obj) : Stays fp w (w1.alloc o) :=
  ⟨h.os, h.tape, h.output, Nat.le_trans h.size (by simp), fun b hb hn => by rw [Below.heap_alloc _ _ _ (Nat.lt_of_lt_of_le hb h.size), h.block b hb hn]⟩
theorem Stays.drew {fp : List Nat} {w w1 : World} (h : Stays fp w w1) : Stays fp w w1.drew := ⟨h.os, h.tape, h.output, h.size, h.block⟩
theorem Stays.setCell {fp : List Nat} {w w1 : World} (h : Stays fp w w1) {p : Addr} (hp : p.block ∈ fp ∨ w.heap.size ≤ p.block) (u : Value) : Stays fp w (w1.setCell p u) :=
  ⟨h.os, h.tape, h.output, Nat.le_trans h.size (by simp [World.setCell]), fun b hb hn => by
    rw [Below.heap_setCell _ _ _ _ (fun e => by subst e; rcases hp with hp | hp <;> first | exact hn hp | omega), h.block b hb hn]⟩
/-- Another object at a block. -/
def putObj (w : World) (m : Nat) (o : Obj) : World := { w with heap := w.heap.setIfInBounds m o }
theorem putObj_at {w : World} {m : Nat} (o : Obj) (h : m < w.heap.size) : (putObj w m o).heap[m]? = some o := by
  simp [putObj, h]
theorem putObj_ne {w : World} {m b : Nat} (o : Obj) (h : b ≠ m) : (putObj w m o).heap[b]? = w.heap[b]? := by
  simp only [putObj, Array.getElem?_setIfInBounds]
  rw [if_neg (by omega)]
theorem putObj_size {w : World} {m : Nat} (o : Obj) : (putObj w m o).heap.size = w.heap.size := by simp [putObj]
theorem Stays.put {fp : List Nat} {w w1 : World} (h : Stays fp w w1) {m : Nat} (hp : m ∈ fp ∨ w.heap.size ≤ m) (o : Obj) : Stays fp w (putObj w1 m o) :=
  ⟨h.os, h.tape, h.output, by rw [putObj_size]; exact h.size, fun b hb hn => by
    rw [putObj_ne _ (fun e => by subst e; rcases hp with hp | hp <;> first | exact hn hp | omega), h.block b hb hn]⟩
theorem Stays.ofBelow {fp : List Nat} {w w' : World} (h : Below w.heap.size w w') : Stays fp w w' := ⟨h.os, h.tape, h.output, h.size, fun b hb _ => h.block b hb⟩
theorem Stays.ofGrown {fp : List Nat} {w w' : World} {row : Option Nat} (h : w.grownBy w' row) (hr : ∀ b, row = some b → b ∈ fp) : Stays fp w w' :=
  ⟨h.os, h.tape, h.output, h.size, fun b hb hn => h.block b hb (fun e => hn (hr b e.symm))⟩
theorem Stays.below {fp : List Nat} {w w' : World} {B : Nat} (h : Stays fp w w') (hf : ∀ b, b ∈ fp → B ≤ b) (hB : B ≤ w.heap.size) : Below B w w' :=
  ⟨h.os, h.tape, h.output, h.size, fun b hb => h.block b (by omega) (fun e => by have := hf b e; omega)⟩
theorem Stays.cell {fp : List Nat} {w w' : World} (h : Stays fp w w') {a : Addr} (hb : a.block < w.heap.size) (hn : a.block ∉ fp) : w'.cell? a = w.cell? a := World.cell?_of_block (h.block _ hb hn)
theorem Stays.frozen {fp : List Nat} {w w' : World} (h : Stays fp w w') {a : Addr} (hb : a.block < w.heap.size) (hn : a.block ∉ fp) : w'.frozen? a = w.frozen? a := World.frozen?_of_block (h.block _ hb hn)

theorem heap_setCell_at {w : World} {b o : Nat} {c : Array Value} {t : TypeId} {fz : Nat × Nat} (v : Value) (h : w.heap[b]? = some (.cells c t fz)) :
    (w.setCell ⟨b, o, none⟩ v).heap[b]? = some (.cells (c.setIfInBounds o v) t fz) := by
  have hl : b < w.heap.size := (Array.getElem?_eq_some_iff.1 h).1
  simp [World.setCell, Array.getElem?_modify, h]
theorem cell_of {w : World} {b : Nat} {c : Array Value} {t : TypeId} {fz : Nat × Nat} (h : w.heap[b]? = some (.cells c t fz)) (o : Nat) : w.cell? ⟨b, o, none⟩ = c[o]? := by
  simp [World.cell?, h]
theorem frozen_of {w : World} {b : Nat} {c : Array Value} {t : TypeId} (h : w.heap[b]? = some (.cells c t (0, 0))) (o : Nat) : w.frozen? ⟨b, o, none⟩ = false := by
  simp [World.frozen?, h]
theorem lt_of_heap {w : World} {b : Nat} {o : Obj} (h : w.heap[b]? = some o) : b < w.heap.size := (Array.getElem?_eq_some_iff.1 h).1

/-- What changes is there or new; the same of what is there behind it. -/
def FO (f f' : List Nat) (w w' : World) : Prop := Stays f w w' ∧ ∀ b, b ∈ f' → b ∈ f ∨ w.heap.size ≤ b
theorem FO.refl (f : List Nat) (w : World) : FO f f w w := ⟨Stays.refl _ _, fun _ h => .inl h⟩
theorem FO.below {f : List Nat} {w w' : World} (h : Below w.heap.size w w') : FO f f w w' := ⟨Stays.ofBelow h, fun _ h => .inl h⟩
theorem FO.trans {f f' f'' : List Nat} {w w' w'' : World} (h : FO f f' w w') (k : FO f' f'' w' w'') : FO f f'' w w'' := by
  refine ⟨h.1.trans k.1 h.2, fun b hb => ?_⟩
  rcases k.2 b hb with e | e
  · exact h.2 b e
  · exact .inr (Nat.le_trans h.1.size e)
theorem ownsRow_same {w w' : World} {B : Nat} {e : TypeId} {size : Nat} {v : Value} {n : Nat} {xs : List Value} (h : w.ownsRow B e size v n xs) (hs : ∀ b, v.ownBlock = some b → w'.heap[b]? = w.heap[b]?) : w'.ownsRow B e size v n xs := by
  refine ⟨h.1, ?_⟩
  rcases h.2 with hn | ⟨g, cap, cur, rfl, hb, hg, rest⟩
  · exact .inl hn
  · exact .inr ⟨g, cap, cur, rfl, hb, by rw [hs g rfl]; exact hg, rest⟩
theorem ownsRow_shape {w : World} {B : Nat} {e : TypeId} {size : Nat} {v : Value} {n : Nat} {xs : List Value} (h : w.ownsRow B e size v n xs) : ∃ a c, v = .slice a n c := by
  rcases h.2 with ⟨rfl, rfl⟩ | ⟨g, cap, cur, rfl, _⟩
  · exact ⟨none, 0, rfl⟩
  · exact ⟨_, _, rfl⟩
theorem row_kind {w : World} {B n z : Nat} {e : TypeId} {v : Value} {xs : List Value} (h : w.ownsRow B e z v n xs) {b : Nat} (hb : v.ownBlock = some b) : ∃ cs, w.heap[b]? = some (.cells cs e (0, 0)) := by
  rcases h.2 with ⟨rfl, _⟩ | ⟨g, cap, cur, rfl, _, hg, _⟩
  · cases hb
  · cases hb
    exact ⟨_, hg⟩
theorem kind_ne {w : World} {b b' : Nat} {c c' : Array Value} {t t' : TypeId} {f f' : Nat × Nat} (h : w.heap[b]? = some (.cells c t f)) (h' : w.heap[b']? = some (.cells c' t' f')) (ht : t ≠ t') : b ≠ b' := by
  intro e
  subst e
  rw [h] at h'
  injection h' with h'
  injection h' with _ h2
  exact ht h2
theorem append_by_run {ops : Array Oper} {rest : List Oper} {o : Oper} {a : Act} {Q : Exit → Act → World → Prop} {w : World} (hgd : o.guard = none) (s x : Operand) (ts : Array TypeId)
    (ho : o.op = .call { callee := .builtin .append, args := #[s, x], argTypes := ts }) (ty : TypeId) (hty : o.type = ty) (u v : Value) (hs : a.eval s = u) (hx : a.eval x = v) (v' : Value) (w' : World)
    (hr : (Builtin.append_ ts ty #[u, v]).run Tryd.prog w = .ok v' w') (h : wpList Tryd.prog ops Q rest (a.put o.dst v') w') : wpList Tryd.prog ops Q (o :: rest) a w := by
  subst hty
  refine wpList_plain hgd fun K hK => ?_
  unfold Oper.wp execOp
  simp only [ho, resolve, invoke, builtin, Sem.run_bind, Sem.run_pure, Result.andThen_ok, List.map_toArray, List.map_cons, List.map_nil, hs, hx, hr]
  exact hK _ _ h
theorem info_parts' {P : Program} {t : TypeId} {z : Value} {a b : Nat} (h : (P.info? t).map (fun i => (i.zero, i.size, i.bytes)) = some (some z, a, b)) : ∃ i, P.info? t = some i ∧ i.zero = some z ∧ i.size = a ∧ i.bytes = b := by
  obtain ⟨i, hi, he⟩ := Option.map_eq_some_iff.1 h
  simp only [Prod.mk.injEq] at he
  exact ⟨i, hi, he.1, he.2.1, he.2.2⟩
/-- A row and one thing more, which lies in a new block. -/
theorem row_app {P : Program} {w : World} {v : Value} {n : Nat} {xs : List Value} (t e : TypeId) (z : Value) (size bytes : Nat) (ht : P.underlying t = some (.slice e)) (hi : (P.info? e).map (fun i => (i.zero, i.size, i.bytes)) = some (some z, size, bytes)) (hzs : z.cells.size = size) (hsz : 0 < size)
    (hown : w.ownsRow 0 e size v n xs) (cs : Array Value) (hcs : cs.size = size) (h1 : ∀ u ∈ cs.toList, u.oneCell' = true) (hl : n + 1 ≤ 4294967296) (hb : bytes ≤ 4096) :
    ∃ a c W1, (Builtin.append_ #[t, t] t #[v, .slice (some ⟨w.heap.size, 0, none⟩) 1 1]).run P (w.alloc (.cells cs e)) = .ok (.slice a (n + 1) c) W1 ∧
      W1.ownsRow 0 e size (.slice a (n + 1) c) (n + 1) (xs ++ cs.toList) ∧ w.grownBy W1 v.ownBlock ∧ ∀ b, (Value.slice a (n + 1) c).ownBlock = some b → v.ownBlock = some b ∨ w.heap.size ≤ b := by
  obtain ⟨i0, hi0, hz0, hz1, hz2⟩ := info_parts' hi
  have hnew : (w.alloc (.cells cs e)).heap[w.heap.size]? = some (.cells cs e (0, 0)) := heap_alloc_new w _
  have hmul : (n + 1) * bytes ≤ 4294967296 * 4096 := Nat.mul_le_mul hl hb
  obtain ⟨v', W3, hrun, hrow3, hgr, _, hat⟩ := run_append_own_at (P := P) (w.alloc (.cells cs e)) 0 t t e i0 z size bytes ht hi0 hz0 hz1 hz2 hzs hsz v n xs (hown.alloc _) ⟨w.heap.size, 0, none⟩ 1 1 cs.toList (by simpa using hcs) (by
      intro j u hj
      rw [show ((⟨w.heap.size, 0, none⟩ : Addr).add j) = ⟨w.heap.size, j, none⟩ from by rw [Addr.add_lit, Nat.zero_add], cell_of hnew j]
      rw [← hj]; simp) h1 (by unfold maxLen; omega) (by omega) (Nat.zero_le _)
  obtain ⟨a, c, rfl⟩ := ownsRow_shape hrow3
  refine ⟨a, c, W3, hrun, hrow3, ⟨hgr.os, hgr.tape, hgr.output, by have := hgr.size; simp at this; omega, fun k hk hne => by rw [hgr.block k (by simp; omega) hne, Below.heap_alloc _ _ _ hk]⟩, fun b hb => ?_⟩
  rcases hat with hat | hat
  · exact .inl (by rw [← hat]; exact hb)
  · rw [hat] at hb
    simp at hb
    exact .inr (by omega)
theorem res2 {P : Program} {fn : Func} {p u : Tmp} {ty : TypeId} (h : fn.results = #[.cell p ty, .tmp u]) (tmps : Array Value) (w : World) (g : Nat) (t : TypeId) (cs : Array Value) (fr : Nat × Nat) (d : TypeDesc)
    (hp : tmps.getD p undef = .pointer (some ⟨g, 0, none⟩)) (hg : w.heap[g]? = some (.cells cs t fr))
    (hu : P.underlying ty = some d) (hd : (match d with | .struct _ | .array _ _ => true | _ => false) = true) (hi : (P.info? ty).map (·.size) = some cs.size) :
    (results fn tmps).run P w = .ok (.tuple #[.agg cs, tmps.getD u undef]) w := by
  rw [results_cell_tmp h, hp]
  simp [asAddr, Result.andThen, run_loadVar_row w g t ty cs fr d hg hu hd hi]

theorem heap_new (w : World) (o : Obj) : (w.alloc o).heap[w.heap.size]? = some o := heap_alloc_new w o
theorem wp_gen {P : Program} {c : Code} {Q : Exit → Act → World → Prop} {a : Act} {W : World} (h : ∀ Y, Y = W → c.wp P Q a Y) : c.wp P Q a W := h W rfl
theorem box_below {w Y : World} {c d : Array Value} {t : TypeId} (h : (w.alloc (.cells c t)).setRow w.heap.size d = Y) : Below w.heap.size w Y ∧ Y.heap[w.heap.size]? = some (.cells d t (0, 0)) := by
  subst h
  exact ⟨⟨rfl, rfl, rfl, by simp, fun b hb => by rw [setRow_other _ _ _ _ (by omega)]; exact Below.heap_alloc _ _ _ hb⟩, setRow_heap _ _ _ _ _ _ (heap_new w _)⟩
end Go.Proofs.YtlmlbcnjohjnlaaDoor
