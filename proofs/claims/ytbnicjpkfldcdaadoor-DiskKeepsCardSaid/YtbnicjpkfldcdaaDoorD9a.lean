/- disk: a disk in memory; worlds that stay but for some blocks. -/
import Derived.Test.YtbnicjpkfldcdaaDoorPu
import Derived.Laws.AppendOwn
import Derived.Deep.LoopGhost
import Derived.Deep.RegionHeld3
import Derived.Deep.RegionWith
import Derived.Deep.DeepCutAuto
import Derived.Below
namespace Go.Proofs.YtbnicjpkfldcdaaDoor
open Go.RowKit

/-- Bytes as cells. -/
def bc (l : List UInt8) : List Value := l.map fun c => .int .u8 (c.toNat : Int)
theorem bc_length (l : List UInt8) : (bc l).length = l.length := by simp [bc]
theorem bc_append (a b : List UInt8) : bc (a ++ b) = bc a ++ bc b := by simp [bc]

/-- All blocks but those of fp are as they were. -/
structure Stays (fp : List Nat) (w w' : World) : Prop where
  os : w'.os = w.os
  tape : w'.tape = w.tape
  output : w'.output = w.output
  size : w.heap.size ≤ w'.heap.size
  block : ∀ b, b < w.heap.size → b ∉ fp → w'.heap[b]? = w.heap[b]?
theorem Stays.refl (fp : List Nat) (w : World) : Stays fp w w := ⟨rfl, rfl, rfl, Nat.le_refl _, fun _ _ _ => rfl⟩
theorem Stays.trans {fp fp' : List Nat} {w w1 w2 : World} (h : Stays fp w w1) (k : Stays fp' w1 w2) (hs : ∀ b, b ∈ fp' → b ∈ fp ∨ w.heap.size ≤ b) : Stays fp w w2 :=
  ⟨k.os.trans h.os, k.tape.trans h.tape, k.output.trans h.output, Nat.le_trans h.size k.size, fun b hb hn => by
    rw [k.block b (Nat.lt_of_lt_of_le hb h.size) (fun e => by rcases hs b e with e' | e' <;> first | exact hn e' | omega), h.block b hb hn]⟩
theorem Stays.mono {fp fp' : List Nat} {w w' : World} (h : Stays fp w w') (hs : ∀ b, b ∈ fp → b ∈ fp') : Stays fp' w w' :=
  ⟨h.os, h.tape, h.output, h.size, fun b hb hn => h.block b hb (fun e => hn (hs b e))⟩
theorem Stays.alloc {fp : List Nat} {w w1 : World} (h : Stays fp w w1) (o : Obj) : Stays fp w (w1.alloc o) :=
  ⟨h.os, h.tape, h.output, Nat.le_trans h.size (by simp), fun b hb hn => by rw [Below.heap_alloc _ _ _ (Nat.lt_of_lt_of_le hb h.size), h.block b hb hn]⟩
theorem Stays.drew {fp : List Nat} {w w1 : World} (h : Stays fp w w1) : Stays fp w w1.drew := ⟨h.os, h.tape, h.output, h.size, h.block⟩
theorem Stays.setCell {fp : List Nat} {w w1 : World} (h : Stays fp w w1) {p : Addr} (hp : p.block ∈ fp ∨ w.heap.size ≤ p.block) (u : Value) : Stays fp w (w1.setCell p u) :=
  ⟨h.os, h.tape, h.output, Nat.le_trans h.size (by simp [World.setCell]), fun b hb hn => by
    rw [Below.heap_setCell _ _ _ _ (fun e => by subst e; rcases hp with hp | hp <;> first | exact hn hp | omega), h.block b hb hn]⟩
/-- Another object at a block. -/
def putObj (w : World) (m : Nat) (o : Obj) : World := { w with heap := w.heap.setIfInBounds m o }
theorem putObj_at {w : World} {m : Nat} (o : Obj) (h : m < w.heap.size) : (putObj w m o).heap[m]? = some o := by
  simp [putObj, h]
theorem putObj_ne {w : World} {m b : Nat} (o : Obj) (h : b ≠ m) : (putObj w m o).heap[b]? = w.heap[b]? := by
  simp only [putObj, Array.getElem?_setIfInBounds]
  rw [if_neg (by omega)]
theorem putObj_size {w : World} {m : Nat} (o : Obj) : (putObj w m o).heap.size = w.heap.size := by simp [putObj]
theorem Stays.put {fp : List Nat} {w w1 : World} (h : Stays fp w w1) {m : Nat} (hp : m ∈ fp ∨ w.heap.size ≤ m) (o : Obj) : Stays fp w (putObj w1 m o) :=
  ⟨h.os, h.tape, h.output, by rw [putObj_size]; exact h.size, fun b hb hn => by
    rw [putObj_ne _ (fun e => by subst e; rcases hp with hp | hp <;> first | exact hn hp | omega), h.block b hb hn]⟩
theorem Stays.ofBelow {fp : List Nat} {w w' : World} (h : Below w.heap.size w w') : Stays fp w w' := ⟨h.os, h.tape, h.output, h.size, fun b hb _ => h.block b hb⟩
theorem Stays.ofGrown {fp : List Nat} {w w' : World} {row : Option Nat} (h : w.grownBy w' row) (hr : ∀ b, row = some b → b ∈ fp) : Stays fp w w' :=
  ⟨h.os, h.tape, h.output, h.size, fun b hb hn => h.block b hb (fun e => hn (hr b e.symm))⟩
theorem Stays.below {fp : List Nat} {w w' : World} {B : Nat} (h : Stays fp w w') (hf : ∀ b, b ∈ fp → B ≤ b) (hB : B ≤ w.heap.size) : Below B w w' :=
  ⟨h.os, h.tape, h.output, h.size, fun b hb => h.block b (by omega) (fun e => by have := hf b e; omega)⟩
theorem Stays.cell {fp : List Nat} {w w' : World} (h : Stays fp w w') {a : Addr} (hb : a.block < w.heap.size) (hn : a.block ∉ fp) : w'.cell? a = w.cell? a := World.cell?_of_block (h.block _ hb hn)
theorem Stays.frozen {fp : List Nat} {w w' : World} (h : Stays fp w w') {a : Addr} (hb : a.block < w.heap.size) (hn : a.block ∉ fp) : w'.frozen? a = w.frozen? a := World.frozen?_of_block (h.block _ hb hn)

theorem heap_setCell_at {w : World} {b o : Nat} {c : Array Value} {t : TypeId} {fz : Nat × Nat} (v : Value) (h : w.heap[b]? = some (.cells c t fz)) :
    (w.setCell ⟨b, o, none⟩ v).heap[b]? = some (.cells (c.setIfInBounds o v) t fz) := by
  have hl : b < w.heap.size := (Array.getElem?_eq_some_iff.1 h).1
  simp [World.setCell, Array.getElem?_modify, h]
theorem cell_of {w : World} {b : Nat} {c : Array Value} {t : TypeId} {fz : Nat × Nat} (h : w.heap[b]? = some (.cells c t fz)) (o : Nat) : w.cell? ⟨b, o, none⟩ = c[o]? := by
  simp [World.cell?, h]
theorem frozen_of {w : World} {b : Nat} {c : Array Value} {t : TypeId} (h : w.heap[b]? = some (.cells c t (0, 0))) (o : Nat) : w.frozen? ⟨b, o, none⟩ = false := by
  simp [World.frozen?, h]
theorem lt_of_heap {w : World} {b : Nat} {o : Obj} (h : w.heap[b]? = some o) : b < w.heap.size := (Array.getElem?_eq_some_iff.1 h).1

/-- A file: its name, its bytes, how many are durable; its block, its row of bytes, when its entry was born. -/
structure FE where
  name : ByteArray
  data : List UInt8
  dur : Nat
  blk : Nat
  row : Value
  born : Nat
def FE.entry (f : FE) : MapEntry := { key := .string f.name, val := .pointer (some ⟨f.blk, 0, none⟩), born := f.born }
def FE.obj (f : FE) : Obj := .cells #[f.row, .int .i64 (f.dur : Int)] 71 (0, 0)
def FE.blks (f : FE) : List Nat := f.blk :: f.row.ownBlock.toList
/-- What is plain of a file. -/
structure PF where
  name : ByteArray
  data : List UInt8
  dur : Nat
def FE.pl (f : FE) : PF := ⟨f.name, f.data, f.dur⟩
def usedF (F : List FE) : Nat := (F.map fun f => f.data.length).sum
def usedP (F : List PF) : Nat := (F.map fun f => f.data.length).sum
theorem usedF_pl (F : List FE) : usedF F = usedP (F.map FE.pl) := by
  simp [usedF, usedP, FE.pl, Function.comp_def]

/-- What of a disk is in its own cells. -/
structure DS where
  quota : Nat
  steps : Nat
  runs : Bool
  stops : List (Int × Int × Int)
def stopCells (l : List (Int × Int × Int)) : List Value := l.flatMap fun s => [.int .i64 s.1, .int .i64 s.2.1, .int .i64 s.2.2]
theorem stopCells_length (l : List (Int × Int × Int)) : (stopCells l).length = 3 * l.length := by
  induction l with
  | nil => rfl
  | cons a l ih => simp only [stopCells, List.flatMap_cons, List.length_append, List.length_cons, List.length_nil] at *; omega
/-- Stops in a slice. -/
def StopsAt (w : World) (sv : Value) (l : List (Int × Int × Int)) : Prop :=
  ∃ a c, sv = .slice a l.length c ∧ (l = [] ∨ ∃ g o cur, a = some ⟨g, o, none⟩ ∧ l.length ≤ c ∧ w.heap[g]? = some (.cells cur 56 (0, 0)) ∧ (cur.toList.drop o).take (3 * l.length) = stopCells l)
def svBlk : Value → Option Nat
  | .slice (some a) (_ + 1) _ => some a.block
  | _ => none
def selfObj (S : DS) (used : Nat) (sv : Value) (m : Nat) : Obj :=
  .cells #[.int .i64 (S.quota : Int), .int .i64 (used : Int), .int .i64 (S.steps : Int), .bool S.runs, sv, .map (some m)] 54 (0, 0)
def fpOf (d m : Nat) (sv : Value) (F : List FE) : List Nat := d :: m :: ((svBlk sv).toList ++ F.flatMap FE.blks)
structure FileAt (B : Nat) (w : World) (f : FE) : Prop where
  obj : w.heap[f.blk]? = some f.obj
  row : w.ownsRow B 5 1 f.row f.data.length (bc f.data)
  dur : f.dur ≤ f.data.length
/-- A disk in memory: at block d; its map at block m. -/
structure DiskAt (B d m clk : Nat) (sv : Value) (S : DS) (F : List FE) (w : World) : Prop where
  self : w.heap[d]? = some (selfObj S (usedF F) sv m)
  map : w.heap[m]? = some (.map (F.map FE.entry).toArray clk)
  born : ∀ f, f ∈ F → f.born < clk
  borns : (F.map FE.born).Nodup
  names : (F.map FE.name).Nodup
  files : ∀ f, f ∈ F → FileAt B w f
  stops : StopsAt w sv S.stops
  apart : (fpOf d m sv F).Nodup
  base : ∀ b, b ∈ fpOf d m sv F → B ≤ b
  size : B ≤ w.heap.size
  fits : usedF F ≤ S.quota
  quota : S.quota ≤ 1048576
  steps : S.steps ≤ 1000000000

theorem ownsRow_same {w w' : World} {B : Nat} {e : TypeId} {size : Nat} {v : Value} {n : Nat} {xs : List Value} (h : w.ownsRow B e size v n xs) (hs : ∀ b, v.ownBlock = some b → w'.heap[b]? = w.heap[b]?) : w'.ownsRow B e size v n xs := by
  refine ⟨h.1, ?_⟩
  rcases h.2 with hn | ⟨g, cap, cur, rfl, hb, hg, rest⟩
  · exact .inl hn
  · exact .inr ⟨g, cap, cur, rfl, hb, by rw [hs g rfl]; exact hg, rest⟩
theorem FileAt.same {B : Nat} {w w' : World} {f : FE} (h : FileAt B w f) (hs : ∀ b, b ∈ f.blks → w'.heap[b]? = w.heap[b]?) : FileAt B w' f :=
  ⟨by rw [hs _ (by simp [FE.blks])]; exact h.obj, ownsRow_same h.row (fun b hb => hs b (by simp [FE.blks, hb])), h.dur⟩
theorem StopsAt.same {w w' : World} {sv : Value} {l : List (Int × Int × Int)} (h : StopsAt w sv l) (hs : ∀ b, svBlk sv = some b → w'.heap[b]? = w.heap[b]?) : StopsAt w' sv l := by
  obtain ⟨a, c, rfl, hl⟩ := h
  refine ⟨a, c, rfl, ?_⟩
  rcases hl with hl | ⟨g, o, cur, rfl, hc, hg, ht⟩
  · exact .inl hl
  · cases l with
    | nil => exact .inl rfl
    | cons x l => exact .inr ⟨g, o, cur, rfl, hc, by rw [hs g rfl]; exact hg, ht⟩
theorem mem_fp_file {d m : Nat} {sv : Value} {F : List FE} {f : FE} (hf : f ∈ F) {b : Nat} (hb : b ∈ f.blks) : b ∈ fpOf d m sv F := by
  simp only [fpOf, List.mem_cons, List.mem_append, List.mem_flatMap]
  exact .inr (.inr (.inr ⟨f, hf, hb⟩))
theorem mem_fp_self {d m : Nat} {sv : Value} {F : List FE} : d ∈ fpOf d m sv F := by simp [fpOf]
theorem mem_fp_map {d m : Nat} {sv : Value} {F : List FE} : m ∈ fpOf d m sv F := by simp [fpOf]
theorem mem_fp_sv {d m : Nat} {sv : Value} {F : List FE} {b : Nat} (h : svBlk sv = some b) : b ∈ fpOf d m sv F := by simp [fpOf, h]
theorem DiskAt.same {B d m clk : Nat} {sv : Value} {S : DS} {F : List FE} {w w' : World} (h : DiskAt B d m clk sv S F w) (hz : w.heap.size ≤ w'.heap.size) (hs : ∀ b, b ∈ fpOf d m sv F → w'.heap[b]? = w.heap[b]?) : DiskAt B d m clk sv S F w' where
  self := by rw [hs d mem_fp_self]; exact h.self
  map := by rw [hs m mem_fp_map]; exact h.map
  born := h.born
  borns := h.borns
  names := h.names
  files := fun f hf => (h.files f hf).same (fun b hb => hs b (mem_fp_file hf hb))
  stops := h.stops.same (fun b hb => hs b (mem_fp_sv hb))
  apart := h.apart
  base := h.base
  size := Nat.le_trans h.size hz
  fits := h.fits
  quota := h.quota
  steps := h.steps
theorem DiskAt.lt {B d m clk : Nat} {sv : Value} {S : DS} {F : List FE} {w : World} (h : DiskAt B d m clk sv S F w) {b : Nat} (hb : b ∈ fpOf d m sv F) : b < w.heap.size := by
  simp only [fpOf, List.mem_cons, List.mem_append, List.mem_flatMap, Option.mem_toList] at hb
  rcases hb with rfl | rfl | hb | ⟨f, hf, hb⟩
  · exact lt_of_heap h.self
  · exact lt_of_heap h.map
  · obtain ⟨a, c, e, hl⟩ := h.stops
    rw [e] at hb
    rcases hl with hl | ⟨g, o, cur, rfl, _, hg, _⟩
    · rw [hl] at hb
      cases a <;> simp [svBlk] at hb
    · have : b = g := by
        cases hS : S.stops with
        | nil => rw [hS] at hb; simp [svBlk] at hb
        | cons x l => rw [hS] at hb; simp [svBlk] at hb; exact hb.symm
      subst this
      exact lt_of_heap hg
  · simp only [FE.blks, List.mem_cons, Option.mem_toList] at hb
    rcases hb with rfl | hb
    · exact lt_of_heap (h.files f hf).obj
    · exact ((h.files f hf).row.lt b hb).2
theorem DiskAt.below {B d m clk : Nat} {sv : Value} {S : DS} {F : List FE} {w w' : World} (h : DiskAt B d m clk sv S F w) (hb : Below w.heap.size w w') : DiskAt B d m clk sv S F w' :=
  h.same hb.size (fun b hm => hb.block b (h.lt hm))
theorem DiskAt.alloc {B d m clk : Nat} {sv : Value} {S : DS} {F : List FE} {w : World} (h : DiskAt B d m clk sv S F w) (o : Obj) : DiskAt B d m clk sv S F (w.alloc o) :=
  h.same (by simp) (fun b hm => Below.heap_alloc _ _ _ (h.lt hm))
theorem DiskAt.drew {B d m clk : Nat} {sv : Value} {S : DS} {F : List FE} {w : World} (h : DiskAt B d m clk sv S F w) : DiskAt B d m clk sv S F w.drew := h.same (Nat.le_refl _) (fun _ _ => rfl)
/-- A cell outside. -/
theorem DiskAt.setCell {B d m clk : Nat} {sv : Value} {S : DS} {F : List FE} {w : World} (h : DiskAt B d m clk sv S F w) {p : Addr} (hp : p.block ∉ fpOf d m sv F) (v : Value) : DiskAt B d m clk sv S F (w.setCell p v) :=
  h.same (by simp [World.setCell]) (fun b hm => Below.heap_setCell _ _ _ _ (fun e => by subst e; exact hp hm))
/-- The disk's cells. -/
structure SelfC (d m : Nat) (S : DS) (used : Nat) (sv : Value) (w : World) : Prop where
  c0 : w.cell? ⟨d, 0, none⟩ = some (.int .i64 (S.quota : Int))
  c1 : w.cell? ⟨d, 1, none⟩ = some (.int .i64 (used : Int))
  c2 : w.cell? ⟨d, 2, none⟩ = some (.int .i64 (S.steps : Int))
  c3 : w.cell? ⟨d, 3, none⟩ = some (.bool S.runs)
  c4 : w.cell? ⟨d, 4, none⟩ = some sv
  c5 : w.cell? ⟨d, 5, none⟩ = some (.map (some m))
  f1 : w.frozen? ⟨d, 1, none⟩ = false
  f2 : w.frozen? ⟨d, 2, none⟩ = false
  f3 : w.frozen? ⟨d, 3, none⟩ = false
  f4 : w.frozen? ⟨d, 4, none⟩ = false
theorem DiskAt.cells {B d m clk : Nat} {sv : Value} {S : DS} {F : List FE} {w : World} (h : DiskAt B d m clk sv S F w) : SelfC d m S (usedF F) sv w := by
  have hs := h.self
  unfold selfObj at hs
  exact ⟨cell_of hs 0, cell_of hs 1, cell_of hs 2, cell_of hs 3, cell_of hs 4, cell_of hs 5, frozen_of hs 1, frozen_of hs 2, frozen_of hs 3, frozen_of hs 4⟩
/-- Its own cells alone have turned (the stops' row is the same). -/
theorem DiskAt.turn {B d m clk : Nat} {sv : Value} {S : DS} {F : List FE} {w w' : World} (h : DiskAt B d m clk sv S F w) (S' : DS) (hq : S'.quota = S.quota) (hst : S'.stops = S.stops) (hstep : S'.steps ≤ 1000000000)
    (hd : w'.heap[d]? = some (selfObj S' (usedF F) sv m)) (hz : w.heap.size ≤ w'.heap.size) (hs : ∀ b, b ∈ fpOf d m sv F → b ≠ d → w'.heap[b]? = w.heap[b]?) : DiskAt B d m clk sv S' F w' where
  self := hd
  map := by
    rw [hs m mem_fp_map ?_]; exact h.map
    have := h.apart
    simp only [fpOf, List.nodup_cons, List.mem_cons] at this
    exact fun e => this.1 (.inl e.symm)
  born := h.born
  borns := h.borns
  names := h.names
  files := fun f hf => (h.files f hf).same (fun b hb => hs b (mem_fp_file hf hb) (by
    have := h.apart
    simp only [fpOf, List.nodup_cons, List.mem_cons, List.mem_append, List.mem_flatMap] at this
    exact fun e => this.1 (.inr (.inr ⟨f, hf, e ▸ hb⟩))))
  stops := by
    rw [hst]
    exact h.stops.same (fun b hb => hs b (mem_fp_sv hb) (by
      have := h.apart
      simp only [fpOf, List.nodup_cons, List.mem_cons, List.mem_append, Option.mem_toList] at this
      exact fun e => this.1 (.inr (.inl (e ▸ hb)))))
  apart := h.apart
  base := h.base
  size := Nat.le_trans h.size hz
  fits := by rw [hq]; exact h.fits
  quota := by rw [hq]; exact h.quota
  steps := hstep
end Go.Proofs.YtbnicjpkfldcdaaDoor
