/- Moments as values; what is asked of them, plain. -/
import Derived.Test.YtckdmbeokajdjaaGreatDoorProg
import Derived.Test.YtckdmbeokajdjaaGreatDoorPu
import Derived.Test.YtckdmbeokajdjaaGreatDoorCa
import Derived.Deep.QuietTactic
import Derived.Laws.ResultCell
import Derived.Laws.CopyOwn
namespace Go.Proofs.YtckdmbeokajdjaaGreatDoor
open Go.RowKit

/-- A moment as a value. -/
def mom (y m d h n s z : Int) : Value := .agg #[.int .i64 y, .int .i64 m, .int .i64 d, .int .i64 h, .int .i64 n, .int .i64 s, .int .i64 z]
def isDayB (y m d : Int) : Bool := decide (1 ≤ y ∧ y ≤ 9999 ∧ 1 ≤ m ∧ m ≤ 12 ∧ 1 ≤ d ∧ d ≤ (mlen y.toNat m.toNat : Int))

def timeB (h n s z : Int) : Bool := decide (0 ≤ h ∧ h ≤ 23 ∧ 0 ≤ n ∧ n ≤ 59 ∧ 0 ≤ s ∧ s ≤ 59 ∧ -1439 ≤ z ∧ z ≤ 1439)
def validB (y m d h n s z : Int) : Bool := isDayB y m d && timeB h n s z
theorem boxed {w w1 : World} {cs : Array Value} {t : TypeId} (hb : Below (w.alloc (.cells cs t)).heap.size (w.alloc (.cells cs t)) w1) (k : Nat) : w1.cell? ⟨w.heap.size, k, none⟩ = cs[k]? := by
  rw [hb.cell (p := ⟨w.heap.size, k, none⟩) (by simp)]
  exact cell_of_row _ _ k _ _ _ (heap_alloc_new w _)

def daysV (y m d h n s z : Int) : Int := if validB y m d h n s z then daysI y.toNat m.toNat d.toNat else 0
theorem valid_parts (y m d h n s z : Int) (hv : validB y m d h n s z = true) : ∃ Y M D : Nat, y = Y ∧ m = M ∧ d = D ∧ IsDay Y M D ∧ IsTime h n s z := by
  unfold validB isDayB timeB at hv
  rw [Bool.and_eq_true, decide_eq_true_iff, decide_eq_true_iff] at hv
  obtain ⟨⟨a1, a2, a3, a4, a5, a6⟩, b1, b2, b3, b4, b5, b6, b7, b8⟩ := hv
  obtain ⟨Y, rfl⟩ := Int.eq_ofNat_of_zero_le (show 0 ≤ y by omega)
  obtain ⟨M, rfl⟩ := Int.eq_ofNat_of_zero_le (show 0 ≤ m by omega)
  obtain ⟨D, rfl⟩ := Int.eq_ofNat_of_zero_le (show 0 ≤ d by omega)
  exact ⟨Y, M, D, rfl, rfl, rfl, ⟨by omega, by omega, by omega, by omega, by omega, by simpa using a6⟩, ⟨b1, b2, b3, b4, b5, b6, b7, b8⟩⟩

def wdayV (y m d h n s z : Int) : Int := if validB y m d h n s z then wdayI (daysI y.toNat m.toNat d.toNat) else 0
def stampV (y m d h n s z : Int) : Int := if validB y m d h n s z then stampI y.toNat m.toNat d.toNat h n s z else 0
theorem valid_time (y m d h n s z : Int) (hv : validB y m d h n s z = true) : 0 ≤ h ∧ h ≤ 23 ∧ 0 ≤ n ∧ n ≤ 59 ∧ 0 ≤ s ∧ s ≤ 59 ∧ -1439 ≤ z ∧ z ≤ 1439 := by
  unfold validB timeB at hv
  rw [Bool.and_eq_true, decide_eq_true_iff] at hv
  exact hv.2
theorem days_bounds (y m d h n s z : Int) (hv : validB y m d h n s z = true) : -719162 ≤ daysI y.toNat m.toNat d.toNat ∧ daysI y.toNat m.toNat d.toNat ≤ 2932896 := by
  obtain ⟨Y, M, D, rfl, rfl, rfl, hd, _⟩ := valid_parts y m d h n s z hv
  have := dno_lt Y M D hd
  simp only [Int.toNat_natCast]
  unfold daysI
  omega

theorem tmod7 (a : Int) : (wrap64 (a.tmod 7 + 7)).tmod 7 = a % 7 := by
  have key : a.tmod 7 = if 0 ≤ a then a % 7 else -((-a) % 7) := by
    split
    · rw [Int.tmod_eq_emod_of_nonneg (by omega)]
    · have : a = -(-a) := by omega
      rw [this, Int.neg_tmod, Int.tmod_eq_emod_of_nonneg (by omega)]
      simp
  have hb : -7 < a.tmod 7 ∧ a.tmod 7 < 7 := by rw [key]; split <;> omega
  have hw : wrap64 (a.tmod 7 + 7) = a.tmod 7 + 7 := by unfold wrap64; omega
  rw [hw, Int.tmod_eq_emod_of_nonneg (by omega), key]
  split <;> omega

/-- A moment in a block of its own. -/
structure Bx (b : Nat) (y m d h n s z : Int) (W : World) : Prop where
  blk : W.heap[b]? = some (.cells #[.int .i64 y, .int .i64 m, .int .i64 d, .int .i64 h, .int .i64 n, .int .i64 s, .int .i64 z] 23 (0, 0))
theorem Bx.on {b : Nat} {y m d h n s z : Int} {W W' : World} (h1 : Bx b y m d h n s z W) (hb : Below W.heap.size W W') : Bx b y m d h n s z W' :=
  ⟨by rw [hb.block b (Array.getElem?_eq_some_iff.1 h1.blk).1]; exact h1.blk⟩
theorem Bx.cells {b : Nat} {y m d h n s z : Int} {W : World} (h1 : Bx b y m d h n s z W) : W.cell? ⟨b, 0, none⟩ = some (.int .i64 y) ∧ W.cell? ⟨b, 1, none⟩ = some (.int .i64 m) ∧ W.cell? ⟨b, 2, none⟩ = some (.int .i64 d) ∧ W.cell? ⟨b, 3, none⟩ = some (.int .i64 h) ∧ W.cell? ⟨b, 4, none⟩ = some (.int .i64 n) ∧ W.cell? ⟨b, 5, none⟩ = some (.int .i64 s) ∧ W.cell? ⟨b, 6, none⟩ = some (.int .i64 z) :=
  ⟨cell_of_row _ _ 0 _ _ _ h1.blk, cell_of_row _ _ 1 _ _ _ h1.blk, cell_of_row _ _ 2 _ _ _ h1.blk, cell_of_row _ _ 3 _ _ _ h1.blk, cell_of_row _ _ 4 _ _ _ h1.blk, cell_of_row _ _ 5 _ _ _ h1.blk, cell_of_row _ _ 6 _ _ _ h1.blk⟩
/-- Which of two comes first. -/
def orderV (va vb : Bool) (sa sb : Int) : Int := if va = false ∧ vb = true then -1 else if va = true ∧ vb = false then 1 else if sa < sb then -1 else if sb < sa then 1 else 0
theorem order_ft (a b : Int) : orderV false true a b = -1 := by simp [orderV]
theorem order_tf (a b : Int) : orderV true false a b = 1 := by simp [orderV]
theorem order_lt (v : Bool) (a b : Int) (h : a < b) : orderV v v a b = -1 := by cases v <;> simp [orderV, h]
theorem order_gt (v : Bool) (a b : Int) (h : b < a) : orderV v v a b = 1 := by
  have : ¬ a < b := by omega
  cases v <;> simp [orderV, h, this]
theorem order_eq (v : Bool) (a b : Int) (h1 : ¬ a < b) (h2 : ¬ b < a) : orderV v v a b = 0 := by cases v <;> simp [orderV, h1, h2]
theorem stampV_bounds (y m d h n s z : Int) : -100000000000 ≤ stampV y m d h n s z ∧ stampV y m d h n s z ≤ 300000000000 := by
  unfold stampV
  cases hv : validB y m d h n s z with
  | false => simp
  | true =>
    have h1 := days_bounds y m d h n s z hv
    have h2 := valid_time y m d h n s z hv
    simp only [if_pos]
    unfold stampI
    omega

theorem res2 {P : Program} {fn : Func} {p u : Tmp} {ty : TypeId} (h : fn.results = #[.cell p ty, .tmp u]) (tmps : Array Value) (w : World) (g : Nat) (t : TypeId) (cs : Array Value) (fr : Nat × Nat) (d : TypeDesc)
    (hp : tmps.getD p undef = .pointer (some ⟨g, 0, none⟩)) (hg : w.heap[g]? = some (.cells cs t fr))
    (hu : P.underlying ty = some d) (hd : (match d with | .struct _ | .array _ _ => true | _ => false) = true) (hi : (P.info? ty).map (·.size) = some cs.size) :
    (results fn tmps).run P w = .ok (.tuple #[.agg cs, tmps.getD u undef]) w := by
  rw [results_cell_tmp h, hp]
  simp [asAddr, Result.andThen, run_loadVar_row w g t ty cs fr d hg hu hd hi]
theorem Tryz.sizeMom : (Tryz.prog.info? 23).map (·.size) = some 7 := by kernel_rfl

theorem mom_one (y m d h n s z : Int) : ((#[.int .i64 y, .int .i64 m, .int .i64 d, .int .i64 h, .int .i64 n, .int .i64 s, .int .i64 z] : Array Value).all (·.oneCell')) = true := by simp [Value.oneCell']
def momC (y m d h n s z : Int) : Array Value := #[.int .i64 y, .int .i64 m, .int .i64 d, .int .i64 h, .int .i64 n, .int .i64 s, .int .i64 z]

end Go.Proofs.YtckdmbeokajdjaaGreatDoor
