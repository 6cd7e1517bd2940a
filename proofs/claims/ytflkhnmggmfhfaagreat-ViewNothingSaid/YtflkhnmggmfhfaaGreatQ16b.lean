/- view: a view in memory; what its steps leave. -/
import Derived.Test.YtflkhnmggmfhfaaGreatVe
import Derived.Test.YtflkhnmggmfhfaaGreatQ16a
import Derived.Laws.OwnMore
import Derived.Maps.AppendAt
import Derived.Below
namespace Go.Proofs.YtflkhnmggmfhfaaGreat
open Go.RowKit

/-- All blocks but those of fp are as they were. -/
structure Stays (fp : List Nat) (w w' : World) : Prop where
  os : w'.os = w.os
  tape : w'.tape = w.tape
  output : w'.output = w.output
  size : w.heap.size ≤ w'.heap.size
  block : ∀ b, b < w.heap.size → b ∉ fp → w'.heap[b]? = w.heap[b]?
theorem Stays.refl (fp : List Nat) (w : World) : Stays fp w w := ⟨rfl, rfl, rfl, Nat.le_refl _, fun _ _ _ => rfl⟩
theorem Stays.trans {fp fp' : List Nat} {w w1 w2 : World} (h : Stays fp w w1) (k : Stays fp' w1 w2) (hs : ∀ b, b ∈ fp' → b ∈ fp ∨ w.heap.size ≤ b) : Stays fp w w2 :=
  ⟨k.os.trans h.os, k.tape.trans h.tape, k.output.trans h.output, Nat.le_trans h.size k.size, fun b hb hn => by
    rw [k.block b (Nat.lt_of_lt_of_le hb h.size) (fun e => by rcases hs b e with e' | e' <;> first | exact hn e' | omega), h.block b hb hn]⟩
theorem Stays.mono {fp fp' : List Nat} {w w' : World} (h : Stays fp w w') (hs : ∀ b, b ∈ fp → b ∈ fp') : Stays fp' w w' :=
  ⟨h.os, h.tape, h.output, h.size, fun b hb hn => h.block b hb (fun e => hn (hs b e))⟩
theorem Stays.alloc {fp : List Nat} {w w1 : World} (h : Stays fp w w1) (o : Obj) : Stays fp w (w1.alloc o) :=
  ⟨h.os, h.tape, h.output, Nat.le_trans h.size (by simp), fun b hb hn => by rw [Below.heap_alloc _ _ _ (Nat.lt_of_lt_of_le hb h.size), h.block b hb hn]⟩
theorem Stays.drew {fp : List Nat} {w w1 : World} (h : Stays fp w w1) : Stays fp w w1.drew := ⟨h.os, h.tape, h.output, h.size, h.block⟩
theorem Stays.setCell {fp : List Nat} {w w1 : World} (h : Stays fp w w1) {p : Addr} (hp : p.block ∈ fp ∨ w.heap.size ≤ p.block) (u : Value) : Stays fp w (w1.setCell p u) :=
  ⟨h.os, h.tape, h.output, Nat.le_trans h.size (by simp [World.setCell]), fun b hb hn => by
    rw [Below.heap_setCell _ _ _ _ (fun e => by subst e; rcases hp with hp | hp <;> first | exact hn hp | omega), h.block b hb hn]⟩
/-- Another object at a block. -/
def putObj (w : World) (m : Nat) (o : Obj) : World := { w with heap := w.heap.setIfInBounds m o }
theorem putObj_at {w : World} {m : Nat} (o : Obj) (h : m < w.heap.size) : (putObj w m o).heap[m]? = some o := by
  simp [putObj, h]
theorem putObj_ne {w : World} {m b : Nat} (o : Obj) (h : b ≠ m) : (putObj w m o).heap[b]? = w.heap[b]? := by
  simp only [putObj, Array.getElem?_setIfInBounds]
  rw [if_neg (by omega)]
theorem putObj_size {w : World} {m : Nat} (o : Obj) : (putObj w m o).heap.size = w.heap.size := by simp [putObj]
theorem Stays.put {fp : List Nat} {w w1 : World} (h : Stays fp w w1) {m : Nat} (hp : m ∈ fp ∨ w.heap.size ≤ m) (o : Obj) : Stays fp w (putObj w1 m o) :=
  ⟨h.os, h.tape, h.output, by rw [putObj_size]; exact h.size, fun b hb hn => by
    rw [putObj_ne _ (fun e => by subst e; rcases hp with hp | hp <;> first | exact hn hp | omega), h.block b hb hn]⟩
theorem Stays.ofBelow {fp : List Nat} {w w' : World} (h : Below w.heap.size w w') : Stays fp w w' := ⟨h.os, h.tape, h.output, h.size, fun b hb _ => h.block b hb⟩
theorem Stays.ofGrown {fp : List Nat} {w w' : World} {row : Option Nat} (h : w.grownBy w' row) (hr : ∀ b, row = some b → b ∈ fp) : Stays fp w w' :=
  ⟨h.os, h.tape, h.output, h.size, fun b hb hn => h.block b hb (fun e => hn (hr b e.symm))⟩
theorem Stays.below {fp : List Nat} {w w' : World} {B : Nat} (h : Stays fp w w') (hf : ∀ b, b ∈ fp → B ≤ b) (hB : B ≤ w.heap.size) : Below B w w' :=
  ⟨h.os, h.tape, h.output, h.size, fun b hb => h.block b (by omega) (fun e => by have := hf b e; omega)⟩
theorem Stays.cell {fp : List Nat} {w w' : World} (h : Stays fp w w') {a : Addr} (hb : a.block < w.heap.size) (hn : a.block ∉ fp) : w'.cell? a = w.cell? a := World.cell?_of_block (h.block _ hb hn)
theorem Stays.frozen {fp : List Nat} {w w' : World} (h : Stays fp w w') {a : Addr} (hb : a.block < w.heap.size) (hn : a.block ∉ fp) : w'.frozen? a = w.frozen? a := World.frozen?_of_block (h.block _ hb hn)

theorem heap_setCell_at {w : World} {b o : Nat} {c : Array Value} {t : TypeId} {fz : Nat × Nat} (v : Value) (h : w.heap[b]? = some (.cells c t fz)) :
    (w.setCell ⟨b, o, none⟩ v).heap[b]? = some (.cells (c.setIfInBounds o v) t fz) := by
  have hl : b < w.heap.size := (Array.getElem?_eq_some_iff.1 h).1
  simp [World.setCell, Array.getElem?_modify, h]
theorem cell_of {w : World} {b : Nat} {c : Array Value} {t : TypeId} {fz : Nat × Nat} (h : w.heap[b]? = some (.cells c t fz)) (o : Nat) : w.cell? ⟨b, o, none⟩ = c[o]? := by
  simp [World.cell?, h]
theorem frozen_of {w : World} {b : Nat} {c : Array Value} {t : TypeId} (h : w.heap[b]? = some (.cells c t (0, 0))) (o : Nat) : w.frozen? ⟨b, o, none⟩ = false := by
  simp [World.frozen?, h]
theorem lt_of_heap {w : World} {b : Nat} {o : Obj} (h : w.heap[b]? = some o) : b < w.heap.size := (Array.getElem?_eq_some_iff.1 h).1

/-- What changes is there or new; the same of what is there behind it. -/
def FO (f f' : List Nat) (w w' : World) : Prop := Stays f w w' ∧ ∀ b, b ∈ f' → b ∈ f ∨ w.heap.size ≤ b
theorem FO.refl (f : List Nat) (w : World) : FO f f w w := ⟨Stays.refl _ _, fun _ h => .inl h⟩
theorem FO.below {f : List Nat} {w w' : World} (h : Below w.heap.size w w') : FO f f w w' := ⟨Stays.ofBelow h, fun _ h => .inl h⟩
theorem FO.trans {f f' f'' : List Nat} {w w' w'' : World} (h : FO f f' w w') (k : FO f' f'' w' w'') : FO f f'' w w'' := by
  refine ⟨h.1.trans k.1 h.2, fun b hb => ?_⟩
  rcases k.2 b hb with e | e
  · exact h.2 b e
  · exact .inr (Nat.le_trans h.1.size e)
theorem ownsRow_same {w w' : World} {B : Nat} {e : TypeId} {size : Nat} {v : Value} {n : Nat} {xs : List Value} (h : w.ownsRow B e size v n xs) (hs : ∀ b, v.ownBlock = some b → w'.heap[b]? = w.heap[b]?) : w'.ownsRow B e size v n xs := by
  refine ⟨h.1, ?_⟩
  rcases h.2 with hn | ⟨g, cap, cur, rfl, hb, hg, rest⟩
  · exact .inl hn
  · exact .inr ⟨g, cap, cur, rfl, hb, by rw [hs g rfl]; exact hg, rest⟩
theorem ownsRow_shape {w : World} {B : Nat} {e : TypeId} {size : Nat} {v : Value} {n : Nat} {xs : List Value} (h : w.ownsRow B e size v n xs) : ∃ a c, v = .slice a n c := by
  rcases h.2 with ⟨rfl, rfl⟩ | ⟨g, cap, cur, rfl, _⟩
  · exact ⟨none, 0, rfl⟩
  · exact ⟨_, _, rfl⟩
theorem row_kind {w : World} {B n z : Nat} {e : TypeId} {v : Value} {xs : List Value} (h : w.ownsRow B e z v n xs) {b : Nat} (hb : v.ownBlock = some b) : ∃ cs, w.heap[b]? = some (.cells cs e (0, 0)) := by
  rcases h.2 with ⟨rfl, _⟩ | ⟨g, cap, cur, rfl, _, hg, _⟩
  · cases hb
  · cases hb
    exact ⟨_, hg⟩
theorem kind_ne {w : World} {b b' : Nat} {c c' : Array Value} {t t' : TypeId} {f f' : Nat × Nat} (h : w.heap[b]? = some (.cells c t f)) (h' : w.heap[b']? = some (.cells c' t' f')) (ht : t ≠ t') : b ≠ b' := by
  intro e
  subst e
  rw [h] at h'
  injection h' with h'
  injection h' with _ h2
  exact ht h2
theorem ownsRow_base {w : World} {B B' n z : Nat} {e : TypeId} {v : Value} {xs : List Value} (h : w.ownsRow B e z v n xs) (hB : B' ≤ B) : w.ownsRow B' e z v n xs := by
  refine ⟨h.1, ?_⟩
  rcases h.2 with hn | ⟨g, cap, cur, rfl, hg, rest⟩
  · exact .inl hn
  · exact .inr ⟨g, cap, cur, rfl, Nat.le_trans hB hg, rest⟩

def tcs (l : List ByteArray) : List Value := l.map Value.string
theorem tcs_length (l : List ByteArray) : (tcs l).length = l.length := by simp [tcs]
theorem tcs_append (a b : List ByteArray) : tcs (a ++ b) = tcs a ++ tcs b := by simp [tcs]
theorem tcs_one (l : List ByteArray) : ∀ u ∈ tcs l, u.oneCell' = true := by
  intro u hu
  simp [tcs] at hu
  obtain ⟨b, _, rfl⟩ := hu
  rfl
theorem tcs_at (l : List ByteArray) (i : Nat) (hi : i < l.length) : (tcs l)[i]? = some (.string (l.getD i ByteArray.empty)) := by simp [tcs, hi]

/-- What waits of a row, in memory. -/
structure TE where
  blk : Nat
  fv : Value
  num : Int
  fl : List ByteArray
structure RE where
  uid : Int
  gone : Bool
  rct : Bool
  tn : Option TE
def TE.pl (t : TE) : Int × List ByteArray := (t.num, t.fl)
def RE.pl (r : RE) : PR := ⟨r.uid, r.gone, r.rct, r.tn.map TE.pl⟩
def RE.ptr (r : RE) : Value := .pointer (r.tn.map fun t => ⟨t.blk, 0, none⟩)
def RE.enc (r : RE) : List Value := [.int .i64 r.uid, .bool r.gone, .bool r.rct, r.ptr]
def RE.val (r : RE) : Value := .agg #[.int .i64 r.uid, .bool r.gone, .bool r.rct, r.ptr]
def rwC (R : List RE) : List Value := R.flatMap RE.enc
theorem rwC_length (R : List RE) : (rwC R).length = R.length * 4 := by
  induction R with
  | nil => rfl
  | cons p r ih => simp only [rwC, List.flatMap_cons, List.length_append, List.length_cons] at *; rw [ih]; simp [RE.enc]; omega
theorem rwC_append (a b : List RE) : rwC (a ++ b) = rwC a ++ rwC b := by simp [rwC]
theorem rwC_one (R : List RE) : ∀ u ∈ rwC R, u.oneCell' = true := by
  intro u hu
  simp only [rwC, List.mem_flatMap, RE.enc] at hu
  obtain ⟨p, _, hp⟩ := hu
  simp at hp
  rcases hp with rfl | rfl | rfl | rfl <;> rfl
def RE0 : RE := ⟨0, false, false, none⟩
theorem rwC_at (R : List RE) (i : Nat) (hi : i < R.length) : (rwC R)[i * 4]? = some (.int .i64 (R.getD i RE0).uid) ∧ (rwC R)[i * 4 + 1]? = some (.bool (R.getD i RE0).gone) ∧ (rwC R)[i * 4 + 2]? = some (.bool (R.getD i RE0).rct) ∧ (rwC R)[i * 4 + 3]? = some (R.getD i RE0).ptr := by
  induction R generalizing i with
  | nil => simp at hi
  | cons p r ih =>
    have e : rwC (p :: r) = .int .i64 p.uid :: .bool p.gone :: .bool p.rct :: p.ptr :: rwC r := by simp [rwC, RE.enc]
    cases i with
    | zero => exact ⟨rfl, rfl, rfl, rfl⟩
    | succ i =>
      have := ih i (by simpa using hi)
      rw [e, show (i + 1) * 4 = i * 4 + 1 + 1 + 1 + 1 by omega]
      simp only [List.getElem?_cons_succ, List.getD_cons_succ]
      exact this
theorem rwC_set (R : List RE) (i : Nat) (r : RE) (hi : i < R.length) : ((((rwC R).set (i * 4) (.int .i64 r.uid)).set (i * 4 + 1) (.bool r.gone)).set (i * 4 + 2) (.bool r.rct)).set (i * 4 + 3) r.ptr = rwC (R.set i r) := by
  induction R generalizing i with
  | nil => simp at hi
  | cons p t ih =>
    have e : ∀ (q : RE) (s : List RE), rwC (q :: s) = .int .i64 q.uid :: .bool q.gone :: .bool q.rct :: q.ptr :: rwC s := fun q s => by simp [rwC, RE.enc]
    cases i with
    | zero => rw [e]; show _ = rwC (r :: t); rw [e]; rfl
    | succ i =>
      have := ih i (by simpa using hi)
      rw [e, show (i + 1) * 4 = i * 4 + 1 + 1 + 1 + 1 by omega]
      simp only [List.set_cons_succ]
      rw [this, e]
def TE.blks (t : TE) : List Nat := t.blk :: t.fv.ownBlock.toList
def RE.blks (r : RE) : List Nat := (r.tn.map TE.blks).getD []
def TE.obj (t : TE) : Obj := .cells #[.int .i64 t.num, t.fv] 116 (0, 0)
structure TurnAt (w : World) (t : TE) : Prop where
  obj : w.heap[t.blk]? = some t.obj
  row : w.ownsRow 0 9 1 t.fv t.fl.length (tcs t.fl)
def selfV (mk : Bool) (val : Int) (rv cv : Value) : Obj := .cells #[.bool mk, .int .i64 val, rv, cv] 28 (0, 0)
def fpV (P : Nat) (rv cv : Value) (R : List RE) : List Nat := P :: (rv.ownBlock.toList ++ (cv.ownBlock.toList ++ R.flatMap RE.blks))
/-- A view in memory, at block P. -/
structure VAt (mk : Bool) (P : Nat) (val : Int) (rv cv : Value) (R : List RE) (C : List Int) (w : World) : Prop where
  self : w.heap[P]? = some (selfV mk val rv cv)
  rows : w.ownsRow 0 82 4 rv R.length (rwC R)
  com : w.ownsRow 0 3 1 cv C.length (ic C)
  turns : ∀ r ∈ R, ∀ t, r.tn = some t → TurnAt w t
theorem mem_fpV_p {P : Nat} {rv cv : Value} {R : List RE} : P ∈ fpV P rv cv R := by simp [fpV]
theorem mem_fpV_r {P b : Nat} {rv cv : Value} {R : List RE} (h : rv.ownBlock = some b) : b ∈ fpV P rv cv R := by simp [fpV, h]
theorem mem_fpV_c {P b : Nat} {rv cv : Value} {R : List RE} (h : cv.ownBlock = some b) : b ∈ fpV P rv cv R := by simp [fpV, h]
theorem mem_fpV_t {P b : Nat} {rv cv : Value} {R : List RE} {r : RE} (hr : r ∈ R) (hb : b ∈ r.blks) : b ∈ fpV P rv cv R := by
  simp only [fpV, List.mem_cons, List.mem_append, List.mem_flatMap]
  exact .inr (.inr (.inr ⟨r, hr, hb⟩))
theorem mem_fpV {P b : Nat} {rv cv : Value} {R : List RE} : b ∈ fpV P rv cv R ↔ b = P ∨ rv.ownBlock = some b ∨ cv.ownBlock = some b ∨ ∃ r ∈ R, b ∈ r.blks := by
  simp only [fpV, List.mem_cons, List.mem_append, List.mem_flatMap, Option.mem_toList]
theorem blks_tn {r : RE} {t : TE} (h : r.tn = some t) : r.blks = t.blks := by simp [RE.blks, h]
theorem blks_no {r : RE} (h : r.tn = none) : r.blks = [] := by simp [RE.blks, h]
theorem TurnAt.hold {w w' : World} {t : TE} (h : TurnAt w t) (hs : ∀ b, b ∈ t.blks → w'.heap[b]? = w.heap[b]?) : TurnAt w' t :=
  ⟨by rw [hs t.blk (by simp [TE.blks])]; exact h.obj, ownsRow_same h.row (fun b e => hs b (by simp [TE.blks, e]))⟩
theorem TurnAt.lt {w : World} {t : TE} (h : TurnAt w t) {b : Nat} (hb : b ∈ t.blks) : b < w.heap.size := by
  simp only [TE.blks, List.mem_cons, Option.mem_toList] at hb
  rcases hb with rfl | hb
  · exact lt_of_heap h.obj
  · exact (h.row.lt b hb).2
theorem VAt.hold {P : Nat} {mk : Bool} {val : Int} {rv cv : Value} {R : List RE} {C : List Int} {w w' : World} (h : VAt mk P val rv cv R C w) (hs : ∀ b, b ∈ fpV P rv cv R → w'.heap[b]? = w.heap[b]?) : VAt mk P val rv cv R C w' :=
  ⟨by rw [hs P mem_fpV_p]; exact h.self, ownsRow_same h.rows (fun b e => hs b (mem_fpV_r e)), ownsRow_same h.com (fun b e => hs b (mem_fpV_c e)), fun r hr t ht => (h.turns r hr t ht).hold (fun b hb => hs b (mem_fpV_t hr (by rw [blks_tn ht]; exact hb)))⟩
theorem VAt.lt {P : Nat} {mk : Bool} {val : Int} {rv cv : Value} {R : List RE} {C : List Int} {w : World} (h : VAt mk P val rv cv R C w) {b : Nat} (hb : b ∈ fpV P rv cv R) : b < w.heap.size := by
  rcases mem_fpV.1 hb with rfl | hb | hb | ⟨r, hr, hb⟩
  · exact lt_of_heap h.self
  · exact (h.rows.lt b hb).2
  · exact (h.com.lt b hb).2
  · cases ht : r.tn with
    | none => rw [blks_no ht] at hb; cases hb
    | some t => rw [blks_tn ht] at hb; exact (h.turns r hr t ht).lt hb
theorem VAt.on {P : Nat} {mk : Bool} {val : Int} {rv cv : Value} {R : List RE} {C : List Int} {w w' : World} (h : VAt mk P val rv cv R C w) (hb : Below w.heap.size w w') : VAt mk P val rv cv R C w' := h.hold (fun b hm => hb.block b (h.lt hm))
/-- A view, by what is plain of it; fp: its blocks; mk: New made it. -/
def VWm (mk : Bool) (P : Nat) (V : PV) (fp : List Nat) (w : World) : Prop := ∃ rv cv R, VAt mk P V.val rv cv R V.com w ∧ R.map RE.pl = V.rows ∧ fp = fpV P rv cv R
abbrev VW := VWm true
/-- What a call of a view leaves. -/
def VGm (mk : Bool) (P : Nat) (V' : PV) (fp : List Nat) (w w' : World) : Prop := ∃ fp', VWm mk P V' fp' w' ∧ FO fp fp' w w'
abbrev VG := VGm true
section
variable {mk : Bool} {P : Nat} {V V1 V2 : PV} {fp : List Nat} {w w1 w' : World}
theorem VWm.on (h : VWm mk P V fp w) (hb : Below w.heap.size w w') : VWm mk P V fp w' := by
  obtain ⟨rv, cv, R, h1, h2, h3⟩ := h
  exact ⟨rv, cv, R, h1.on hb, h2, h3⟩
theorem VWm.hold (h : VWm mk P V fp w) (hs : ∀ b, b ∈ fp → w'.heap[b]? = w.heap[b]?) : VWm mk P V fp w' := by
  obtain ⟨rv, cv, R, h1, h2, rfl⟩ := h
  exact ⟨rv, cv, R, h1.hold hs, h2, rfl⟩
theorem VWm.lt (h : VWm mk P V fp w) {b : Nat} (hb : b ∈ fp) : b < w.heap.size := by
  obtain ⟨rv, cv, R, h1, h2, rfl⟩ := h
  exact h1.lt hb
theorem VW.on (h : VW P V fp w) (hb : Below w.heap.size w w') : VW P V fp w' := VWm.on h hb
theorem VW.hold (h : VW P V fp w) (hs : ∀ b, b ∈ fp → w'.heap[b]? = w.heap[b]?) : VW P V fp w' := VWm.hold h hs
theorem VW.lt (h : VW P V fp w) {b : Nat} (hb : b ∈ fp) : b < w.heap.size := VWm.lt h hb
theorem VGm.refl (h : VWm mk P V fp w) : VGm mk P V fp w w := ⟨fp, h, FO.refl _ _⟩
theorem VG.refl (h : VW P V fp w) : VG P V fp w w := ⟨fp, h, FO.refl _ _⟩
theorem VGm.on (h : VGm mk P V fp w w1) (hb : Below w1.heap.size w1 w') : VGm mk P V fp w w' := by
  obtain ⟨fp', h1, h2⟩ := h
  exact ⟨fp', h1.on hb, h2.trans (FO.below hb)⟩
theorem VG.on (h : VG P V fp w w1) (hb : Below w1.heap.size w1 w') : VG P V fp w w' := VGm.on h hb
theorem VG.trans (h : VG P V1 fp w w1) (k : ∀ fp1, VW P V1 fp1 w1 → VG P V2 fp1 w1 w') : VG P V2 fp w w' := by
  obtain ⟨fp', h1, h2⟩ := h
  obtain ⟨fp2, k1, k2⟩ := k fp' h1
  exact ⟨fp2, k1, h2.trans k2⟩
end
end Go.Proofs.YtflkhnmggmfhfaaGreat

/- view: one step of a view at a time. -/
namespace Go.Proofs.YtflkhnmggmfhfaaGreat
open Go.RowKit

theorem append_by_run {ops : Array Oper} {rest : List Oper} {o : Oper} {a : Act} {Q : Exit → Act → World → Prop} {w : World} (hgd : o.guard = none) (s x : Operand) (ts : Array TypeId)
    (ho : o.op = .call { callee := .builtin .append, args := #[s, x], argTypes := ts }) (ty : TypeId) (hty : o.type = ty) (u v : Value) (hs : a.eval s = u) (hx : a.eval x = v) (v' : Value) (w' : World)
    (hr : (Builtin.append_ ts ty #[u, v]).run Tryz.prog w = .ok v' w') (h : wpList Tryz.prog ops Q rest (a.put o.dst v') w') : wpList Tryz.prog ops Q (o :: rest) a w := by
  subst hty
  refine wpList_plain hgd fun K hK => ?_
  unfold Oper.wp execOp
  simp only [ho, resolve, invoke, builtin, Sem.run_bind, Sem.run_pure, Result.andThen_ok, List.map_toArray, List.map_cons, List.map_nil, hs, hx, hr]
  exact hK _ _ h
theorem info_parts' {P : Program} {t : TypeId} {z : Value} {a b : Nat} (h : (P.info? t).map (fun i => (i.zero, i.size, i.bytes)) = some (some z, a, b)) : ∃ i, P.info? t = some i ∧ i.zero = some z ∧ i.size = a ∧ i.bytes = b := by
  obtain ⟨i, hi, he⟩ := Option.map_eq_some_iff.1 h
  simp only [Prod.mk.injEq] at he
  exact ⟨i, hi, he.1, he.2.1, he.2.2⟩
/-- A row and one thing more, which lies in a new block. -/
theorem row_app {P : Program} {w : World} {v : Value} {n : Nat} {xs : List Value} (t e : TypeId) (z : Value) (size bytes : Nat) (ht : P.underlying t = some (.slice e)) (hi : (P.info? e).map (fun i => (i.zero, i.size, i.bytes)) = some (some z, size, bytes)) (hzs : z.cells.size = size) (hsz : 0 < size)
    (hown : w.ownsRow 0 e size v n xs) (cs : Array Value) (hcs : cs.size = size) (h1 : ∀ u ∈ cs.toList, u.oneCell' = true) (hl : n + 1 ≤ 4294967296) (hb : bytes ≤ 4096) :
    ∃ a c W1, (Builtin.append_ #[t, t] t #[v, .slice (some ⟨w.heap.size, 0, none⟩) 1 1]).run P (w.alloc (.cells cs e)) = .ok (.slice a (n + 1) c) W1 ∧
      W1.ownsRow 0 e size (.slice a (n + 1) c) (n + 1) (xs ++ cs.toList) ∧ w.grownBy W1 v.ownBlock ∧ ∀ b, (Value.slice a (n + 1) c).ownBlock = some b → v.ownBlock = some b ∨ w.heap.size ≤ b := by
  obtain ⟨i0, hi0, hz0, hz1, hz2⟩ := info_parts' hi
  have hnew : (w.alloc (.cells cs e)).heap[w.heap.size]? = some (.cells cs e (0, 0)) := heap_alloc_new w _
  have hmul : (n + 1) * bytes ≤ 4294967296 * 4096 := Nat.mul_le_mul hl hb
  obtain ⟨v', W3, hrun, hrow3, hgr, _, hat⟩ := run_append_own_at (P := P) (w.alloc (.cells cs e)) 0 t t e i0 z size bytes ht hi0 hz0 hz1 hz2 hzs hsz v n xs (hown.alloc _) ⟨w.heap.size, 0, none⟩ 1 1 cs.toList (by simpa using hcs) (by
      intro j u hj
      rw [show ((⟨w.heap.size, 0, none⟩ : Addr).add j) = ⟨w.heap.size, j, none⟩ from by rw [Addr.add_lit, Nat.zero_add], cell_of hnew j]
      rw [← hj]; simp) h1 (by unfold maxLen; omega) (by omega) (Nat.zero_le _)
  obtain ⟨a, c, rfl⟩ := ownsRow_shape hrow3
  refine ⟨a, c, W3, hrun, hrow3, ⟨hgr.os, hgr.tape, hgr.output, by have := hgr.size; simp at this; omega, fun k hk hne => by rw [hgr.block k (by simp; omega) hne, Below.heap_alloc _ _ _ hk]⟩, fun b hb => ?_⟩
  rcases hat with hat | hat
  · exact .inl (by rw [← hat]; exact hb)
  · rw [hat] at hb
    simp at hb
    exact .inr (by omega)
theorem Tryz.infoRow : (Tryz.prog.info? 82).map (fun i => (i.zero, i.size, i.bytes)) = some (some (.agg #[.int .i64 0, .bool false, .bool false, .pointer none]), 4, 24) := by kernel_rfl

structure SelfV (mk : Bool) (P : Nat) (val : Int) (rv cv : Value) (w : World) : Prop where
  c0 : w.cell? ⟨P, 0, none⟩ = some (.bool mk)
  c1 : w.cell? ⟨P, 1, none⟩ = some (.int .i64 val)
  c2 : w.cell? ⟨P, 2, none⟩ = some rv
  c3 : w.cell? ⟨P, 3, none⟩ = some cv
  f2 : w.frozen? ⟨P, 2, none⟩ = false
  f3 : w.frozen? ⟨P, 3, none⟩ = false
theorem selfV_cells {P : Nat} {mk : Bool} {val : Int} {rv cv : Value} {w : World} (hs : w.heap[P]? = some (selfV mk val rv cv)) : SelfV mk P val rv cv w := by
  unfold selfV at hs
  exact ⟨cell_of hs 0, cell_of hs 1, cell_of hs 2, cell_of hs 3, frozen_of hs 2, frozen_of hs 3⟩
section
variable {P : Nat} {mk : Bool} {val : Int} {rv cv : Value} {R : List RE} {C : List Int} {w : World}
theorem VAt.cells (h : VAt mk P val rv cv R C w) : SelfV mk P val rv cv w := selfV_cells h.self
theorem VAt.pr (h : VAt mk P val rv cv R C w) : rv.ownBlock ≠ some P := fun e => by
  obtain ⟨cs, hc⟩ := row_kind h.rows e
  exact kind_ne hc h.self (by decide) rfl
theorem VAt.pc (h : VAt mk P val rv cv R C w) : cv.ownBlock ≠ some P := fun e => by
  obtain ⟨cs, hc⟩ := row_kind h.com e
  exact kind_ne hc h.self (by decide) rfl
theorem VAt.rc (h : VAt mk P val rv cv R C w) {b : Nat} (e : rv.ownBlock = some b) : cv.ownBlock ≠ some b := fun e2 => by
  obtain ⟨cs, hc⟩ := row_kind h.rows e
  obtain ⟨cs2, hc2⟩ := row_kind h.com e2
  exact kind_ne hc hc2 (by decide) rfl
theorem TurnAt.kind {t : TE} (h : TurnAt w t) {b : Nat} (hb : b ∈ t.blks) : ∃ cs ty, w.heap[b]? = some (.cells cs ty (0, 0)) ∧ (ty = 116 ∨ ty = 9) := by
  simp only [TE.blks, List.mem_cons, Option.mem_toList] at hb
  rcases hb with rfl | hb
  · exact ⟨_, _, h.obj, .inl rfl⟩
  · obtain ⟨cs, hc⟩ := row_kind h.row hb
    exact ⟨_, _, hc, .inr rfl⟩
theorem VAt.tt (h : VAt mk P val rv cv R C w) {r : RE} (hr : r ∈ R) {t : TE} (ht : r.tn = some t) {b : Nat} (hb : b ∈ t.blks) : b ≠ P ∧ rv.ownBlock ≠ some b ∧ cv.ownBlock ≠ some b := by
  obtain ⟨cs, ty, hc, hty⟩ := (h.turns r hr t ht).kind hb
  refine ⟨kind_ne hc h.self (by rcases hty with rfl | rfl <;> decide), fun e => ?_, fun e => ?_⟩
  · obtain ⟨cs2, hc2⟩ := row_kind h.rows e
    exact kind_ne hc hc2 (by rcases hty with rfl | rfl <;> decide) rfl
  · obtain ⟨cs2, hc2⟩ := row_kind h.com e
    exact kind_ne hc hc2 (by rcases hty with rfl | rfl <;> decide) rfl
/-- coming = append(coming, u). -/
theorem VAt.addC (h : VAt mk P val rv cv R C w) (u : Int) (hl : C.length + 1 ≤ 4294967296) :
    ∃ a c W1, (Builtin.append_ #[26, 26] 26 #[cv, .slice (some ⟨w.heap.size, 0, none⟩) 1 1]).run Tryz.prog (w.alloc (.cells #[.int .i64 u] 3)) = .ok (.slice a (C.length + 1) c) W1 ∧ W1.heap[P]? = some (selfV mk val rv cv) ∧
      VAt mk P val rv (.slice a (C.length + 1) c) R (C ++ [u]) (W1.setCell ⟨P, 3, none⟩ (.slice a (C.length + 1) c)) ∧ FO (fpV P rv cv R) (fpV P rv (.slice a (C.length + 1) c) R) w (W1.setCell ⟨P, 3, none⟩ (.slice a (C.length + 1) c)) := by
  obtain ⟨a, c, W1, hrun, hrow, hg, hown⟩ := row_app (P := Tryz.prog) 26 3 (.int .i64 0) 1 8 Tryz.underlying26 Tryz.infoInt rfl (by decide) h.com #[.int .i64 u] rfl (by intro x hx; simp at hx; subst hx; rfl) hl (by omega)
  have hbl := lt_of_heap h.self
  have hs1 : W1.heap[P]? = some (selfV mk val rv cv) := by rw [hg.block P hbl (fun e => h.pc e.symm)]; exact h.self
  have hset : ∀ b, b ≠ P → (W1.setCell ⟨P, 3, none⟩ (.slice a (C.length + 1) c)).heap[b]? = W1.heap[b]? := fun b hb => Below.heap_setCell _ _ _ _ hb
  have keep : ∀ b, b < w.heap.size → b ≠ P → cv.ownBlock ≠ some b → (W1.setCell ⟨P, 3, none⟩ (.slice a (C.length + 1) c)).heap[b]? = w.heap[b]? := fun b hb hp hc => by
    rw [hset b hp, hg.block b hb (fun e => hc e.symm)]
  refine ⟨a, c, W1, hrun, hs1, ⟨?_, ?_, ?_, ?_⟩, ?_, ?_⟩
  · unfold selfV at hs1
    rw [heap_setCell_at _ hs1]
    rfl
  · exact ownsRow_same h.rows (fun b e => keep b (h.rows.lt b e).2 (fun e' => h.pr (e' ▸ e)) (h.rc e))
  · have := ownsRow_same hrow (w' := W1.setCell ⟨P, 3, none⟩ (.slice a (C.length + 1) c)) (fun b e => hset b (fun e' => by
      subst e'
      rcases hown _ e with e2 | e2
      · exact h.pc e2
      · omega))
    rw [List.length_append, ic_append]
    exact this
  · intro r hr t ht
    refine (h.turns r hr t ht).hold (fun b hb => ?_)
    have q := h.tt hr ht hb
    exact keep b ((h.turns r hr t ht).lt hb) q.1 q.2.2
  · exact Stays.setCell (p := ⟨P, 3, none⟩) (Stays.ofGrown hg (fun b e => mem_fpV_c e)) (.inl mem_fpV_p) _
  · intro b hb
    rcases mem_fpV.1 hb with rfl | hb | hb | ⟨r, hr, hb⟩
    · exact .inl mem_fpV_p
    · exact .inl (mem_fpV_r hb)
    · rcases hown b hb with e | e
      · exact .inl (mem_fpV_c e)
      · exact .inr e
    · exact .inl (mem_fpV_t hr hb)
/-- coming = nil. -/
theorem VAt.noC (h : VAt mk P val rv cv R C w) : VAt mk P val rv (.slice none 0 0) R [] (w.setCell ⟨P, 3, none⟩ (.slice none 0 0)) ∧ FO (fpV P rv cv R) (fpV P rv (.slice none 0 0) R) w (w.setCell ⟨P, 3, none⟩ (.slice none 0 0)) := by
  have hset : ∀ b, b ≠ P → (w.setCell ⟨P, 3, none⟩ (.slice none 0 0)).heap[b]? = w.heap[b]? := fun b hb => Below.heap_setCell _ _ _ _ hb
  refine ⟨⟨?_, ownsRow_same h.rows (fun b e => hset b (fun e' => h.pr (e' ▸ e))), World.ownsRow_nil _ _ _ _, fun r hr t ht => (h.turns r hr t ht).hold (fun b hb => hset b (h.tt hr ht hb).1)⟩, Stays.setCell (p := ⟨P, 3, none⟩) (Stays.refl _ _) (.inl mem_fpV_p) _, fun b hb => ?_⟩
  · have hs := h.self
    unfold selfV at hs
    rw [heap_setCell_at _ hs]
    rfl
  · rcases mem_fpV.1 hb with rfl | hb | hb | ⟨r, hr, hb⟩
    · exact .inl mem_fpV_p
    · exact .inl (mem_fpV_r hb)
    · simp [Value.ownBlock] at hb
    · exact .inl (mem_fpV_t hr hb)
/-- rows = append(rows, row{..}), nothing waits of it. -/
theorem VAt.addR (h : VAt mk P val rv cv R C w) (r0 : RE) (hr0 : r0.tn = none) (hl : R.length + 1 ≤ 4294967296) :
    ∃ a c W1, (Builtin.append_ #[25, 25] 25 #[rv, .slice (some ⟨w.heap.size, 0, none⟩) 1 1]).run Tryz.prog (w.alloc (.cells #[.int .i64 r0.uid, .bool r0.gone, .bool r0.rct, .pointer none] 82)) = .ok (.slice a (R.length + 1) c) W1 ∧ W1.heap[P]? = some (selfV mk val rv cv) ∧
      VAt mk P val (.slice a (R.length + 1) c) cv (R ++ [r0]) C (W1.setCell ⟨P, 2, none⟩ (.slice a (R.length + 1) c)) ∧ FO (fpV P rv cv R) (fpV P (.slice a (R.length + 1) c) cv (R ++ [r0])) w (W1.setCell ⟨P, 2, none⟩ (.slice a (R.length + 1) c)) := by
  have hptr : r0.ptr = .pointer none := by simp [RE.ptr, hr0]
  obtain ⟨a, c, W1, hrun, hrow, hg, hown⟩ := row_app (P := Tryz.prog) 25 82 _ 4 24 Tryz.underlying25 Tryz.infoRow rfl (by decide) h.rows #[.int .i64 r0.uid, .bool r0.gone, .bool r0.rct, .pointer none] rfl (by intro x hx; simp at hx; rcases hx with rfl | rfl | rfl | rfl <;> rfl) hl (by omega)
  have hbl := lt_of_heap h.self
  have hs1 : W1.heap[P]? = some (selfV mk val rv cv) := by rw [hg.block P hbl (fun e => h.pr e.symm)]; exact h.self
  have hset : ∀ b, b ≠ P → (W1.setCell ⟨P, 2, none⟩ (.slice a (R.length + 1) c)).heap[b]? = W1.heap[b]? := fun b hb => Below.heap_setCell _ _ _ _ hb
  have keep : ∀ b, b < w.heap.size → b ≠ P → rv.ownBlock ≠ some b → (W1.setCell ⟨P, 2, none⟩ (.slice a (R.length + 1) c)).heap[b]? = w.heap[b]? := fun b hb hp hc => by
    rw [hset b hp, hg.block b hb (fun e => hc e.symm)]
  refine ⟨a, c, W1, hrun, hs1, ⟨?_, ?_, ?_, ?_⟩, ?_, ?_⟩
  · unfold selfV at hs1
    rw [heap_setCell_at _ hs1]
    rfl
  · have := ownsRow_same hrow (w' := W1.setCell ⟨P, 2, none⟩ (.slice a (R.length + 1) c)) (fun b e => hset b (fun e' => by
      subst e'
      rcases hown _ e with e2 | e2
      · exact h.pr e2
      · omega))
    rw [List.length_append, rwC_append]
    rw [show rwC [r0] = [.int .i64 r0.uid, .bool r0.gone, .bool r0.rct, .pointer none] by simp [rwC, RE.enc, hptr]]
    exact this
  · exact ownsRow_same h.com (fun b e => keep b (h.com.lt b e).2 (fun e' => h.pc (e' ▸ e)) (fun e2 => h.rc e2 e))
  · intro r hr t ht
    rcases List.mem_append.1 hr with hr | hr
    · refine (h.turns r hr t ht).hold (fun b hb => ?_)
      have q := h.tt hr ht hb
      exact keep b ((h.turns r hr t ht).lt hb) q.1 q.2.1
    · simp at hr
      subst hr
      rw [hr0] at ht
      cases ht
  · exact Stays.setCell (p := ⟨P, 2, none⟩) (Stays.ofGrown hg (fun b e => mem_fpV_r e)) (.inl mem_fpV_p) _
  · intro b hb
    rcases mem_fpV.1 hb with rfl | hb | hb | ⟨r, hr, hb⟩
    · exact .inl mem_fpV_p
    · rcases hown b hb with e | e
      · exact .inl (mem_fpV_r e)
      · exact .inr e
    · exact .inl (mem_fpV_c hb)
    · rcases List.mem_append.1 hr with hr | hr
      · exact .inl (mem_fpV_t hr hb)
      · rw [List.mem_singleton.1 hr, blks_no hr0] at hb
        cases hb
end
end Go.Proofs.YtflkhnmggmfhfaaGreat
