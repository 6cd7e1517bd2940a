/- The document's disk: Do, what it has in memory. -/
import Derived.Test.YtgafomknpdnfcaaGreatDoorR9g
import Derived.Test.YtgafomknpdnfcaaGreatDoorD9k
import Derived.Test.YtgafomknpdnfcaaGreatDoorZv
import Derived.Deep.QuietTactic
namespace Go.Proofs.YtgafomknpdnfcaaGreatDoor
open Go.RowKit

/-- While Do goes on: its disk, its operation, its result. -/
structure DoAt (w : World) (fv : Value) (q st : Int) (sv : Value) (si : Int) (dn : Bool) (kd : Int) (nm dst dat : ByteArray) (n : Int) (X : World) : Prop where
  below : Below w.heap.size w X
  d : X.heap[w.heap.size]? = some (.cells #[fv, .int .i64 q, .int .i64 st, sv, .int .i64 si, .bool dn] 32 (0, 0))
  o : X.heap[w.heap.size + 1]? = some (.cells #[.int .i64 kd, .string nm, .string dst, .string dat, .int .i64 n] 55 (0, 0))
  r : ∃ cs : Array Value, X.heap[w.heap.size + 1 + 1]? = some (.cells cs 32 (0, 0)) ∧ cs.size = 6
theorem DoAt.on {w : World} {fv : Value} {q st : Int} {sv : Value} {si : Int} {dn : Bool} {kd : Int} {nm dst dat : ByteArray} {n : Int} {X Y : World} (h : DoAt w fv q st sv si dn kd nm dst dat n X) (hb : Below X.heap.size X Y) : DoAt w fv q st sv si dn kd nm dst dat n Y := by
  obtain ⟨cs, hr, hz⟩ := h.r
  exact ⟨h.below.trans (hb.mono h.below.size), by rw [hb.block _ (lt_of_heap h.d)]; exact h.d, by rw [hb.block _ (lt_of_heap h.o)]; exact h.o, cs, by rw [hb.block _ (lt_of_heap hr)]; exact hr, hz⟩
theorem DoAt.drew {w : World} {fv : Value} {q st : Int} {sv : Value} {si : Int} {dn : Bool} {kd : Int} {nm dst dat : ByteArray} {n : Int} {X : World} (h : DoAt w fv q st sv si dn kd nm dst dat n X) : DoAt w fv q st sv si dn kd nm dst dat n X.drew := h.on (Below.refl _ _).drew
theorem DoAt.ds {w : World} {fv : Value} {q st : Int} {sv : Value} {si : Int} {dn : Bool} {kd : Int} {nm dst dat : ByteArray} {n : Int} {X : World} (h : DoAt w fv q st sv si dn kd nm dst dat n X) : X.cell? ⟨w.heap.size, 0, none⟩ = some fv ∧ X.cell? ⟨w.heap.size, 1, none⟩ = some (.int .i64 q) ∧ X.cell? ⟨w.heap.size, 2, none⟩ = some (.int .i64 st) ∧ X.cell? ⟨w.heap.size, 3, none⟩ = some sv ∧ X.cell? ⟨w.heap.size, 4, none⟩ = some (.int .i64 si) ∧ X.cell? ⟨w.heap.size, 5, none⟩ = some (.bool dn) :=
  ⟨cell_of h.d 0, cell_of h.d 1, cell_of h.d 2, cell_of h.d 3, cell_of h.d 4, cell_of h.d 5⟩
theorem DoAt.df {w : World} {fv : Value} {q st : Int} {sv : Value} {si : Int} {dn : Bool} {kd : Int} {nm dst dat : ByteArray} {n : Int} {X : World} (h : DoAt w fv q st sv si dn kd nm dst dat n X) (i : Nat) : X.frozen? ⟨w.heap.size, i, none⟩ = false := frozen_of h.d i
theorem DoAt.os {w : World} {fv : Value} {q st : Int} {sv : Value} {si : Int} {dn : Bool} {kd : Int} {nm dst dat : ByteArray} {n : Int} {X : World} (h : DoAt w fv q st sv si dn kd nm dst dat n X) : X.cell? ⟨w.heap.size + 1, 0, none⟩ = some (.int .i64 kd) ∧ X.cell? ⟨w.heap.size + 1, 1, none⟩ = some (.string nm) ∧ X.cell? ⟨w.heap.size + 1, 2, none⟩ = some (.string dst) ∧ X.cell? ⟨w.heap.size + 1, 3, none⟩ = some (.string dat) ∧ X.cell? ⟨w.heap.size + 1, 4, none⟩ = some (.int .i64 n) :=
  ⟨cell_of h.o 0, cell_of h.o 1, cell_of h.o 2, cell_of h.o 3, cell_of h.o 4⟩
theorem DoAt.set {w : World} {fv : Value} {q st : Int} {sv : Value} {si : Int} {dn : Bool} {kd : Int} {nm dst dat : ByteArray} {n : Int} {X : World} (h : DoAt w fv q st sv si dn kd nm dst dat n X) (i : Nat) (v : Value) (fv' : Value) (st' : Int) (sv' : Value) (si' : Int) (dn' : Bool) (e : (#[fv, .int .i64 q, .int .i64 st, sv, .int .i64 si, .bool dn] : Array Value).setIfInBounds i v = #[fv', .int .i64 q, .int .i64 st', sv', .int .i64 si', .bool dn']) : DoAt w fv' q st' sv' si' dn' kd nm dst dat n (X.setCell ⟨w.heap.size, i, none⟩ v) := by
  obtain ⟨cs, hr, hz⟩ := h.r
  refine ⟨h.below.setCell (p := ⟨w.heap.size, i, none⟩) (Nat.le_refl _) v, ?_, ?_, cs, ?_, hz⟩
  · rw [heap_setCell_at _ h.d, e]
  · rw [Below.heap_setCell _ _ _ _ (by show w.heap.size + 1 ≠ w.heap.size; omega)]; exact h.o
  · rw [Below.heap_setCell _ _ _ _ (by show w.heap.size + 1 + 1 ≠ w.heap.size; omega)]; exact hr
theorem below_setQ {B : Nat} {a w : World} (h : Below B a w) {R : Nat} (hR : B ≤ R) (cs : Array Value) : Below B a (w.setRow R cs) :=
  h.trans ⟨rfl, rfl, rfl, by simp [World.setRow], fun k hk => setRow_other w R k cs (by omega)⟩
theorem DoAt.setR {w : World} {fv : Value} {q st : Int} {sv : Value} {si : Int} {dn : Bool} {kd : Int} {nm dst dat : ByteArray} {n : Int} {X : World} (h : DoAt w fv q st sv si dn kd nm dst dat n X) (cs' : Array Value) (hz' : cs'.size = 6) : DoAt w fv q st sv si dn kd nm dst dat n (X.setRow (w.heap.size + 1 + 1) cs') := by
  obtain ⟨cs, hr, hz⟩ := h.r
  refine ⟨below_setQ h.below (by omega) _, ?_, ?_, cs', setRow_heap _ _ _ _ _ _ hr, hz'⟩
  · rw [setRow_other _ _ _ _ (by omega)]; exact h.d
  · rw [setRow_other _ _ _ _ (by omega)]; exact h.o
theorem doAt_start (w : World) (fv : Value) (q st : Int) (sv : Value) (si : Int) (dn : Bool) (kd : Int) (nm dst dat : ByteArray) (n : Int) : DoAt w fv q st sv si dn kd nm dst dat n (((w.alloc (.cells #[fv, .int .i64 q, .int .i64 st, sv, .int .i64 si, .bool dn] 32)).alloc (.cells #[.int .i64 kd, .string nm, .string dst, .string dat, .int .i64 n] 55)).alloc (.cells #[.slice none 0 0, .int .i64 0, .int .i64 0, .slice none 0 0, .int .i64 0, .bool false] 32)) := by
  refine ⟨((((Below.refl _ _).alloc (Nat.le_refl _) _).alloc (by simp) _).alloc (by simp; omega) _), ?_, ?_, #[.slice none 0 0, .int .i64 0, .int .i64 0, .slice none 0 0, .int .i64 0, .bool false], ?_, rfl⟩
  · rw [Below.heap_alloc _ _ _ (by simp; omega), Below.heap_alloc _ _ _ (by simp)]
    exact heap_alloc_new _ _
  · rw [Below.heap_alloc _ _ _ (by simp)]
    exact heapR_second _ _ _
  · have := heap_alloc_new ((w.alloc (.cells #[fv, .int .i64 q, .int .i64 st, sv, .int .i64 si, .bool dn] 32)).alloc (.cells #[.int .i64 kd, .string nm, .string dst, .string dat, .int .i64 n] 55)) (.cells #[.slice none 0 0, .int .i64 0, .int .i64 0, .slice none 0 0, .int .i64 0, .bool false] 32)
    simpa using this
theorem resD4 {P : Program} {fn : Func} {p u v x : Tmp} {ty : TypeId} (h : fn.results = #[.cell p ty, .tmp u, .tmp v, .tmp x]) (tmps : Array Value) (w : World) (g : Nat) (t : TypeId) (cs : Array Value) (fr : Nat × Nat) (d : TypeDesc)
    (hp : tmps.getD p undef = .pointer (some ⟨g, 0, none⟩)) (hg : w.heap[g]? = some (.cells cs t fr))
    (hu : P.underlying ty = some d) (hd : (match d with | .struct _ | .array _ _ => true | _ => false) = true) (hi : (P.info? ty).map (·.size) = some cs.size) :
    (results fn tmps).run P w = .ok (.tuple #[.agg cs, tmps.getD u undef, tmps.getD v undef, tmps.getD x undef]) w := by
  have hp' : tmps[p]?.getD undef = .pointer (some ⟨g, 0, none⟩) := by simpa using hp
  simp [results, h, hp', asAddr, Result.andThen, run_loadVar_row w g t ty cs fr d hg hu hd hi]
/-- A slice of files hangs on its own block. -/
theorem FsAt.same {w w' : World} {v : Value} {l : List PF} (h : FsAt w v l) (hz : w.heap.size ≤ w'.heap.size) (hs : ∀ b, v.ownBlock = some b → w'.heap[b]? = w.heap[b]?) : FsAt w' v l := by
  rcases h with h | ⟨g, cap, rfl, hg, hc⟩
  · exact .inl h
  · have e := hs g rfl
    refine .inr ⟨g, cap, rfl, by omega, fun i p hp => ?_⟩
    obtain ⟨h1, h2, h3⟩ := hc i p hp
    exact ⟨by rw [World.cell?_of_block e]; exact h1, by rw [World.cell?_of_block e]; exact h2, by rw [World.cell?_of_block e]; exact h3⟩
theorem FsAt.lt {w : World} {v : Value} {l : List PF} (h : FsAt w v l) {b : Nat} (hb : v.ownBlock = some b) : b < w.heap.size := by
  rcases h with ⟨rfl, rfl⟩ | ⟨g, cap, rfl, hg, hc⟩
  · cases hb
  · have hb : g = b := Option.some.inj hb; omega
theorem OwnF.shape {B : Nat} {v : Value} {l : List PF} {W0 w : World} (h : OwnF B v l W0 w) : ∃ a c, v = .slice a l.length c := by
  rcases h.row.2 with ⟨rfl, h0⟩ | ⟨g, cap, cur, rfl, _⟩
  · exact ⟨none, 0, by rw [h0]⟩
  · exact ⟨_, _, rfl⟩
theorem DoAt.room {w : World} {fv : Value} {q st : Int} {sv : Value} {si : Int} {dn : Bool} {kd : Int} {nm dst dat : ByteArray} {n : Int} {X : World} (h : DoAt w fv q st sv si dn kd nm dst dat n X) : w.heap.size + 3 ≤ X.heap.size := by
  obtain ⟨cs, hr, _⟩ := h.r
  have := lt_of_heap hr
  omega
theorem OwnF.far {B : Nat} {v : Value} {l : List PF} {W0 w : World} (h : OwnF B v l W0 w) {b : Nat} (hb : v.ownBlock = some b) : B ≤ b := (h.row.lt b hb).1
/-- Files that were made behind Do's boxes stay, whatever becomes of these. -/
theorem OwnF.last {w X w6 Z : World} {v : Value} {l : List PF} (h : OwnF X.heap.size v l X w6) (hX : w.heap.size + 3 ≤ X.heap.size) (hz : w6.heap.size ≤ Z.heap.size) (hs : ∀ b, w.heap.size + 3 ≤ b → Z.heap[b]? = w6.heap[b]?) : FsAt Z v l ∧ ∀ b, v.ownBlock = some b → w.heap.size ≤ b :=
  ⟨h.at.same hz (fun b hb => hs b (Nat.le_trans hX (h.far hb))), fun b hb => by have := h.far hb; omega⟩
theorem StopsAt.lt {w : World} {sv : Value} {l : List (Int × Int × Int)} (h : StopsAt w sv l) {b : Nat} (hb : svBlk sv = some b) : b < w.heap.size := by
  obtain ⟨a, c, rfl, hl⟩ := h
  rcases hl with rfl | ⟨g, o, cur, rfl, _, hg, _⟩
  · cases a <;> cases hb
  · cases l with
    | nil => cases hb
    | cons x l => have hb : g = b := Option.some.inj hb; have := lt_of_heap hg; omega
theorem StopsAt.on {w w' : World} {sv : Value} {l : List (Int × Int × Int)} (h : StopsAt w sv l) (hb : Below w.heap.size w w') : StopsAt w' sv l := h.same (fun b e => hb.block b (h.lt e))
theorem stops_tail {w : World} {g o c : Nat} {cur : Array Value} {l : List (Int × Int × Int)} (hc : l.length + 1 ≤ c) (hg : w.heap[g]? = some (.cells cur 62 (0, 0))) (ht : (cur.toList.drop (o + 3)).take (3 * l.length) = stopCells l) (a' : Addr) (ha : a' = ⟨g, o + 3, none⟩ ∨ (l = [] ∧ a' = ⟨g, o, none⟩)) :
    StopsAt w (.slice (some a') l.length (c - 1)) l ∧ ∀ b, svBlk (.slice (some a') l.length (c - 1)) = some b → b = g := by
  constructor
  · refine ⟨_, c - 1, rfl, ?_⟩
    rcases ha with rfl | ⟨e, _⟩
    · exact .inr ⟨g, o + 3, cur, rfl, (by show l.length ≤ c - 1; omega), hg, ht⟩
    · exact .inl e
  · intro b hb
    cases l with
    | nil => cases hb
    | cons p l' =>
      rcases ha with rfl | ⟨e, _⟩
      · have hb : g = b := Option.some.inj hb; exact hb.symm
      · cases e
/-- What Do leaves of its disk. -/
structure DoOut (w : World) (fv sv : Value) (l' : List PF) (rs' : List (Int × Int × Int)) (fv' sv' : Value) (w' : World) : Prop where
  fs : FsAt w' fv' l'
  ss : StopsAt w' sv' rs'
  below : Below w.heap.size w w'
  fb : ∀ b, fv'.ownBlock = some b → fv.ownBlock = some b ∨ w.heap.size ≤ b
  sb : ∀ b, svBlk sv' = some b → svBlk sv = some b
def dueR (rs : List (Int × Int × Int)) (si : Int) : Option (Int × Int) := match rs with
  | [] => none
  | (a, y, z) :: _ => if a = si + 1 then some (y, z) else none
end Go.Proofs.YtgafomknpdnfcaaGreatDoor
