/- The document's Match: the walk. -/
import Derived.Test.YtedegnngdlkbhaaS12k
namespace Go.Proofs.Ytedegnngdlkbhaa
open Go.RowKit

/-- A row of marks. -/
structure BR (w : World) (B n : Nat) (g : Nat → Bool) : Prop where
  cells : ∀ i, i < n → w.cell? ⟨B, i, none⟩ = some (.bool (g i))
  free : ∀ i, i < n → w.frozen? ⟨B, i, none⟩ = false
theorem BR.same {w w' : World} {B n : Nat} {g : Nat → Bool} (h : BR w B n g) (e : w'.heap[B]? = w.heap[B]?) : BR w' B n g :=
  ⟨fun i hi => by rw [World.cell?_of_block (w := w) e]; exact h.cells i hi, fun i hi => by rw [World.frozen?_of_block (w := w) e]; exact h.free i hi⟩
theorem BR.congr {w : World} {B n : Nat} {g g' : Nat → Bool} (h : BR w B n g) (e : ∀ i, i < n → g i = g' i) : BR w B n g' :=
  ⟨fun i hi => by rw [← e i hi]; exact h.cells i hi, h.free⟩
theorem BR.set {w : World} {B n : Nat} {g g' : Nat → Bool} (h : BR w B n g) (k : Nat) (hk : k < n) (v : Bool) (hv : v = g' k) (he : ∀ i, i < n → i ≠ k → g i = g' i) : BR (w.setCell ⟨B, k, none⟩ (.bool v)) B n g' := by
  subst hv
  refine ⟨fun i hi => ?_, fun i hi => by rw [World.frozen?_setCell]; exact h.free i hi⟩
  by_cases e : i = k
  · subst e
    rw [World.cell?_setCell_same' _ _ _ (by rw [h.cells i hi]; rfl)]
  · rw [World.cell?_setCell_other _ _ _ _ (by intro hh; cases hh; exact e rfl), h.cells i hi, he i hi e]
def brow (n : Nat) : Obj := .cells (Array.replicate n (.bool false)) 4
theorem Try.infoBool : (Try.prog.info? 4).map (fun i => (i.zero, i.size, i.bytes)) = some (some (.bool false), 1, 1) := by kernel_rfl
theorem make_bools (n : Nat) (hn : n ≤ 1099511627776) (w : World) :
    (Instr.makeSlice 38 (.int .i64 (n : Int)) (.int .i64 (n : Int))).run Try.prog w = .ok (.slice (some ⟨w.heap.size, 0, none⟩) n n) (w.alloc (brow n)) := by
  obtain ⟨i0, hi, hz0, hz1, hz2⟩ := info_parts Try.infoBool
  have h := run_make (P := Try.prog) w 38 4 i0 (.bool false) Try.underlying38 hi hz0 .i64 .i64 (n : Int) (n : Int) (by omega) (Int.le_refl _) (by rw [hz2]; omega) (by omega)
  rw [h]
  have e : madeCells (Value.bool false).cells (((n : Int)).toNat * i0.size) = Array.replicate n (.bool false) := by
    rw [hz1, Int.toNat_natCast, Nat.mul_one]
    apply Array.ext
    · simp [madeCells]
    · intro i h1 h2
      simp [madeCells, Value.cells, Nat.mod_one]
  rw [e, Int.toNat_natCast]; rfl
theorem BR.brow {w : World} {B n : Nat} (h : w.heap[B]? = some (brow n)) : BR w B n (fun _ => false) := by
  unfold Go.Proofs.Ytedegnngdlkbhaa.brow at h
  refine ⟨fun i hi => ?_, fun i _ => frozen_of_row w _ i _ _ h⟩
  rw [cell_of_row w _ i _ _ _ h]; simp [hi]
def nx (p l : List UInt8) (i k x : Nat) : Bool := decide (x < k) && rg p l (i + 1) x
theorem nx_at (p l : List UInt8) (i k x : Nat) (h : x < k) : nx p l i k x = rg p l (i + 1) x := by unfold nx; rw [decide_eq_true h, Bool.true_and]
theorem nx_next (p l : List UInt8) (i k x : Nat) (h : x ≠ k) : nx p l i k x = nx p l i (k + 1) x := by
  unfold nx
  have : decide (x < k) = decide (x < k + 1) := by congr 1; apply propext; omega
  rw [this]
theorem nx_skip (p l : List UInt8) (i k x : Nat) (h : rg p l (i + 1) k = false) : nx p l i k x = nx p l i (k + 1) x := by
  by_cases e : x = k
  · subst e; unfold nx; rw [h, Bool.and_false, Bool.and_false]
  · exact nx_next p l i k x e
/-- The two rows of the document's Match, and what lies beneath. -/
structure RM (H : Nat) (w : World) (p l : List UInt8) (R N n i k : Nat) (X : World) : Prop where
  r : BR X R n (rg p l i)
  nr : BR X N n (nx p l i k)
  below : Below H w X
  hR : H ≤ R
  hN : H ≤ N
  ne : R ≠ N
theorem RM.put {H : Nat} {w : World} {p l : List UInt8} {R N n i k : Nat} {X : World} (h : RM H w p l R N n i k X) (hk : k < n) (v : Bool) (hv : v = rg p l (i + 1) k) : RM H w p l R N n i (k + 1) (X.setCell ⟨N, k, none⟩ (.bool v)) :=
  ⟨h.r.same (Below.heap_setCell _ _ _ _ h.ne), h.nr.set k hk v (by rw [nx_at _ _ _ _ _ (by omega)]; exact hv) (fun x _ hx => nx_next p l i k x hx), h.below.setCell (p := ⟨N, k, none⟩) h.hN _, h.hR, h.hN, h.ne⟩
theorem RM.skip {H : Nat} {w : World} {p l : List UInt8} {R N n i k : Nat} {X : World} (h : RM H w p l R N n i k X) (hv : rg p l (i + 1) k = false) : RM H w p l R N n i (k + 1) X :=
  ⟨h.r, h.nr.congr (fun x _ => nx_skip p l i k x hv), h.below, h.hR, h.hN, h.ne⟩
theorem RM.drew {H : Nat} {w : World} {p l : List UInt8} {R N n i k : Nat} {X : World} (h : RM H w p l R N n i k X) : RM H w p l R N n i k X.drew := ⟨h.r.same rfl, h.nr.same rfl, h.below.drew, h.hR, h.hN, h.ne⟩
theorem wild_tests (c : UInt8) : (((c.toNat : Nat) : Int) == 42) = (c == 42) ∧ (((c.toNat : Nat) : Int) == 37) = (c == 37) ∧ (((c.toNat : Nat) : Int) != 47) = !(c == 47) := by
  refine ⟨?_, ?_, ?_⟩
  · by_cases e : c = 42
    · subst e; rfl
    · have h2 : (c == 42) = false := by simpa using e
      rw [h2, beq_eq_false_iff_ne]; intro e'; exact e (UInt8.toNat_inj.1 (by show c.toNat = 42; omega))
  · by_cases e : c = 37
    · subst e; rfl
    · have h2 : (c == 37) = false := by simpa using e
      rw [h2, beq_eq_false_iff_ne]; intro e'; exact e (UInt8.toNat_inj.1 (by show c.toNat = 37; omega))
  · by_cases e : c = 47
    · subst e; rfl
    · have h2 : (c == 47) = false := by simpa using e
      rw [h2]
      show _ = true
      rw [bne_iff_ne]; intro e'; exact e (UInt8.toNat_inj.1 (by show c.toNat = 47; omega))
theorem byte_eq (a b : UInt8) : (((a.toNat : Nat) : Int) == ((b.toNat : Nat) : Int)) = (a == b) := by
  by_cases e : a = b
  · subst e; simp
  · have h2 : (a == b) = false := by simpa using e
    rw [h2, beq_eq_false_iff_ne]; intro e'; exact e (UInt8.toNat_inj.1 (by omega))

end Go.Proofs.Ytedegnngdlkbhaa
