/- store: places (has, word, add), rows of words in memory. -/
import Derived.Test.YtedegnngdlkbhaaRows
import Derived.Test.YtedegnngdlkbhaaPu
import Derived.Test.YtedegnngdlkbhaaS12a
import Derived.Laws.AppendOwn
import Derived.Laws.BitsAllLaws
import Derived.Deep.LoopGhost
import Derived.Deep.RegionHeld3
import Derived.Deep.RegionWith
import Derived.Deep.WholeRow
import Derived.Below
import Derived.Lib.SliceRun
namespace Go.Proofs.Ytedegnngdlkbhaa
open Go.RowKit

/-- A row of words that bears these places. -/
structure PlR (w : World) (B n : Nat) (f : Nat → Bool) : Prop where
  cells : ∀ i, i < n → w.cell? ⟨B, i, none⟩ = some (.int .u64 ((wd f i : Nat) : Int))
  free : ∀ i, i < n → w.frozen? ⟨B, i, none⟩ = false

theorem PlR.drew {w : World} {B n : Nat} {f : Nat → Bool} (h : PlR w B n f) : PlR w.drew B n f := ⟨h.cells, h.free⟩
theorem PlR.other {w : World} {B n : Nat} {f : Nat → Bool} (h : PlR w B n f) (p : Addr) (v : Value) (hp : p.block ≠ B) : PlR (w.setCell p v) B n f :=
  ⟨fun i hi => by rw [World.cell?_setCell_other _ _ _ _ (by intro hh; subst hh; exact hp rfl)]; exact h.cells i hi, fun i hi => by rw [World.frozen?_setCell]; exact h.free i hi⟩
theorem PlR.set {w : World} {B n : Nat} {f g : Nat → Bool} (h : PlR w B n f) (k : Nat) (hk : k < n) (x : Int) (hx : x = ((wd g k : Nat) : Int)) (he : ∀ i, i < n → i ≠ k → wd f i = wd g i) :
    PlR (w.setCell ⟨B, k, none⟩ (.int .u64 x)) B n g := by
  subst hx
  refine ⟨fun i hi => ?_, fun i hi => by rw [World.frozen?_setCell]; exact h.free i hi⟩
  by_cases e : i = k
  · subst e
    rw [World.cell?_setCell_same' _ _ _ (by rw [h.cells i hi]; rfl)]
  · rw [World.cell?_setCell_other _ _ _ _ (by intro hh; cases hh; exact e rfl), h.cells i hi, he i hi e]
theorem PlR.same {w w' : World} {B n : Nat} {f : Nat → Bool} (h : PlR w B n f) (e : w'.heap[B]? = w.heap[B]?) : PlR w' B n f :=
  ⟨fun i hi => by rw [World.cell?_of_block (w := w) e]; exact h.cells i hi, fun i hi => by rw [World.frozen?_of_block (w := w) e]; exact h.free i hi⟩

theorem has_word (f : Nat → Bool) (k : Nat) : (Go.bits .and .u64 ((wd f (k / 64) : Nat) / 2 ^ (k % 64) : Int) 1 == 1) = f k := by
  have hu := wd_lt f (k / 64)
  have hh := wd_has f k
  have e1 : ((wd f (k / 64) : Nat) / 2 ^ (k % 64) : Int) = ((wd f (k / 64) >>> (k % 64) : Nat) : Int) := by
    rw [Nat.shiftRight_eq_div_pow]; push_cast; rfl
  have h2 : wd f (k / 64) >>> (k % 64) < 18446744073709551616 := by
    rw [Nat.shiftRight_eq_div_pow]; exact Nat.lt_of_le_of_lt (Nat.div_le_self _ _) hu
  have e2 := u64_and_nat (wd f (k / 64) >>> (k % 64)) 1 h2 (by decide)
  rw [show ((1 : Nat) : Int) = 1 from rfl] at e2
  rw [e1, e2, hh]
  cases f k <;> rfl

set_option maxHeartbeats 400000 in
theorem has_any (B n cap k : Nat) (f : Nat → Bool) (w : World) (h : PlR w B n f) (hk : k / 64 < n) (hk2 : k < 4611686018427387904) :
    Calls Try.prog 13 #[.slice (some ⟨B, 0, none⟩) n cap, .int .i64 (k : Int)] w fun e w' => e = .returned (.bool (f k)) ∧ w' = w := by
  have hc := h.cells (k / 64) hk
  have hh := has_word f k
  go_enter Try.func13, Try.ntmps13
  go_wp2
  go_ret
  exact ⟨rfl, rfl⟩

set_option maxHeartbeats 400000 in
theorem word_nil (i : Int) (w : World) :
    Calls Try.prog 23 #[.slice none 0 0, .int .i64 i] w fun e w' => e = .returned (.int .u64 0) ∧ w' = w := by
  have q31 : ∀ (w : World) (a : Option Addr) (n c n' c' : Nat), (binOp .eql 31 (.slice a n c) (.slice none n' c')).run Try.prog w = .ok (.bool a.isNone) w := fun w a n c n' c' => Lib.run_eql_slice_nil w _ _ a n c n' c' Try.underlying31
  go_enter Try.func23, Try.ntmps23
  go_wp2
  go_ret
  exact ⟨rfl, rfl⟩

set_option maxHeartbeats 400000 in
theorem word_some (B n cap i : Nat) (f : Nat → Bool) (w : World) (h : PlR w B n f) (hi : i < n) :
    Calls Try.prog 23 #[.slice (some ⟨B, 0, none⟩) n cap, .int .i64 (i : Int)] w fun e w' => e = .returned (.int .u64 ((wd f i : Nat) : Int)) ∧ w' = w := by
  have hc := h.cells i hi
  have q31 : ∀ (w : World) (a : Option Addr) (n c n' c' : Nat), (binOp .eql 31 (.slice a n c) (.slice none n' c')).run Try.prog w = .ok (.bool a.isNone) w := fun w a n c n' c' => Lib.run_eql_slice_nil w _ _ a n c n' c' Try.underlying31
  go_enter Try.func23, Try.ntmps23
  go_wp2
  go_ret
  exact ⟨rfl, rfl⟩

theorem add_word (f : Nat → Bool) (k : Nat) : Go.bits .or .u64 ((wd f (k / 64) : Nat) : Int) (IntKind.u64.wrap (2 ^ (k % 64))) = ((wd (fun j => f j || j == k) (k / 64) : Nat) : Int) := by
  have hu := wd_lt f (k / 64)
  have hl : 2 ^ (k % 64) < 18446744073709551616 := by
    have := Nat.pow_lt_pow_right (a := 2) (by omega) (Nat.mod_lt k (show 64 > 0 by omega)); omega
  have e1 : IntKind.u64.wrap (2 ^ (k % 64)) = ((2 ^ (k % 64) : Nat) : Int) := by
    have e0 : ((2 : Int) ^ (k % 64)) = ((2 ^ (k % 64) : Nat) : Int) := by push_cast; rfl
    rw [e0]
    generalize 2 ^ (k % 64) = x at hl
    simp [IntKind.wrap, IntKind.bits, IntKind.signed]; omega
  rw [e1, u64_or_nat _ _ hu hl, ← wd_add f k, Nat.shiftLeft_eq, Nat.one_mul]

set_option maxHeartbeats 400000 in
theorem add_any (B n cap k : Nat) (f : Nat → Bool) (w : World) (h : PlR w B n f) (hk : k / 64 < n) (hk2 : k < 4611686018427387904) :
    Calls Try.prog 21 #[.slice (some ⟨B, 0, none⟩) n cap, .int .i64 (k : Int)] w fun e w' => e = .returned (.tuple #[]) ∧ w' = (w.setCell ⟨B, k / 64, none⟩ (.int .u64 ((wd (fun j => f j || j == k) (k / 64) : Nat) : Int))).drew := by
  have hc := h.cells (k / 64) hk
  have hf := h.free (k / 64) hk
  go_enter Try.func21, Try.ntmps21
  go_region
  rw [add_word f k]
  first | refine bodyPost_end (results_none rfl _ _ _) rfl ?_ | refine bodyPost_ret (results_none rfl _ _ _) rfl ?_
  exact ⟨rfl, rfl⟩

end Go.Proofs.Ytedegnngdlkbhaa
