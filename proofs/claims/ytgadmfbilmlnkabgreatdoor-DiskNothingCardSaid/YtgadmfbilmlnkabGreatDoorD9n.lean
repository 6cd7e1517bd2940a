/- disk: tear. -/
import Derived.Test.YtgadmfbilmlnkabGreatDoorD9m
import Derived.Maps.RangeRun
namespace Go.Proofs.YtgadmfbilmlnkabGreatDoor
open Go.RowKit Go.Lib
open Go.ChangeMaps (setBlock)

theorem run_rangeM {w : World} {m clk : Nat} {es : Array MapEntry} (h : w.heap[m]? = some (.map es clk)) :
    (Instr.range 26 (.map (some m))).run Tryz.prog w = .ok (.pointer (some ⟨w.heap.size, 0, none⟩)) (w.alloc (.mapIter (some m) clk #[] clk)) := by
  simp [Instr.range, run_underlying Tryz.underlying26, Go.MapKept.run_getObj_map h, Sem.run_bind, Result.andThen]
/-- How much of a file a stop leaves. -/
def leftP (rest : Int) (p : PF) : Nat := p.dur + (wth rest ((p.data.length : Int) - (p.dur : Int))).toNat
def tornP (rest : Int) (p : PF) : PF := ⟨p.name, p.data.take (leftP rest p), leftP rest p⟩
theorem wth_bd (n k : Int) (hk : 0 ≤ k) : 0 ≤ wth n k ∧ wth n k ≤ k := by unfold wth; omega
theorem leftP_le (rest : Int) (p : PF) (h : p.dur ≤ p.data.length) : leftP rest p ≤ p.data.length ∧ p.dur ≤ leftP rest p ∧ ((leftP rest p : Nat) : Int) = (p.dur : Int) + wth rest ((p.data.length : Int) - (p.dur : Int)) := by
  have := wth_bd rest ((p.data.length : Int) - (p.dur : Int)) (by omega)
  unfold leftP
  omega
/-- All bytes of a file are durable. -/
theorem sync_world {B d m clk : Nat} {sv : Value} {S : DS} {F1 F2 : List FE} {f : FE} {w : World} (h : DiskAt B d m clk sv S (F1 ++ f :: F2) w) :
    DiskAt B d m clk sv S (F1 ++ { f with dur := f.data.length } :: F2) (w.setCell ⟨f.blk, 1, none⟩ (.int .i64 (f.data.length : Int))) ∧ Stays (fpOf d m sv (F1 ++ f :: F2)) w (w.setCell ⟨f.blk, 1, none⟩ (.int .i64 (f.data.length : Int))) ∧
    fpOf d m sv (F1 ++ { f with dur := f.data.length } :: F2) = fpOf d m sv (F1 ++ f :: F2) := by
  have hf := h.files f (by simp)
  obtain ⟨hdb, hrd, hrb, hmd, hmb, hrm⟩ := apart_self h
  have hu : usedF (F1 ++ { f with dur := f.data.length } :: F2) = usedF (F1 ++ f :: F2) := by rw [usedF_mid, usedF_mid]
  refine ⟨h.refile { f with dur := f.data.length } rfl rfl rfl ?_ ?_ (Nat.le_refl _) (fun b e => .inl e) ?_ (by simp [World.setCell]) ?_ (by rw [hu]; exact h.fits), ?_, ?_⟩
  · have hob := hf.obj
    unfold FE.obj at hob
    rw [heap_setCell_at _ hob]
    rfl
  · exact ownsRow_same hf.row (fun b hb => Below.heap_setCell _ _ _ _ (fun e => hrb (by rw [hb, e])))
  · rw [Below.heap_setCell _ _ _ _ hdb, hu]; exact h.self
  · intro b _ _ h2 _
    exact Below.heap_setCell _ _ _ _ h2
  · exact Stays.setCell (p := ⟨f.blk, 1, none⟩) (Stays.refl _ _) (.inl (mem_fp_file (f := f) (by simp) (by simp [FE.blks]))) _
  · simp [fpOf, FE.blks]
/-- A file's cells. -/
structure FileC (k : Nat) (a : Option Addr) (n c dur : Nat) (w : World) : Prop where
  c0 : w.cell? ⟨k, 0, none⟩ = some (.slice a n c)
  c1 : w.cell? ⟨k, 1, none⟩ = some (.int .i64 (dur : Int))
  f1 : w.frozen? ⟨k, 1, none⟩ = false
theorem DiskAt.fileC {B d m clk : Nat} {sv : Value} {S : DS} {F : List FE} {f : FE} {w : World} (h : DiskAt B d m clk sv S F w) (hf : f ∈ F) : ∃ a c, f.row = .slice a f.data.length c ∧ FileC f.blk a f.data.length c f.dur w := by
  have hF := h.files f hf
  obtain ⟨a, c, hsh⟩ := ownsRow_shape hF.row
  have hob := hF.obj
  unfold FE.obj at hob
  rw [hsh] at hob
  exact ⟨a, c, hsh, cell_of hob 0, cell_of hob 1, frozen_of hob 1⟩
theorem setBlock_put (w : World) (b : Nat) (o : Obj) : setBlock w b o = putObj w b o := rfl
/-- What a tear has done so far. -/
structure Tearing (B d m clk r : Nat) (sv : Value) (S : DS) (F : List FE) (rest : Int) (w : World) (seen : Array Nat) (F' : List FE) (X : World) : Prop where
  disk : DiskAt B d m clk sv S F' X
  iter : X.heap[r]? = some (.mapIter (some m) clk seen clk)
  borns : F'.map FE.born = F.map FE.born
  files : F'.map FE.pl = F.map fun f => if seen.contains f.born then tornP rest f.pl else f.pl
  out : r ∉ fpOf d m sv F'
  new : w.heap.size ≤ r
  stays : Stays (fpOf d m sv F) w X
  fp : ∀ b, b ∈ fpOf d m sv F' → b ∈ fpOf d m sv F ∨ w.heap.size ≤ b
end Go.Proofs.YtgadmfbilmlnkabGreatDoor
