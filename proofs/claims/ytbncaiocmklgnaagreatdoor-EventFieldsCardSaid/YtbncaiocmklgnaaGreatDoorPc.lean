/- octet: worths. -/
import Derived.Test.YtbncaiocmklgnaaGreatDoorPb
import Derived.Great.BuildSlice
import Derived.Laws.CopyOwn
namespace Go.Proofs.YtbncaiocmklgnaaGreatDoor
open Go.RowKit

/-- The last place at which a letter stands, or -1. -/
def worthTo (l : List UInt8) : Nat → Nat → Int
  | 0, _ => -1
  | k + 1, c => if (bt l k).toNat = c then (k : Int) else worthTo l k c
def worthOf (l : List UInt8) (c : Nat) : Int := worthTo l l.length c

def tabHas (cs : Array Value) (f : Nat → Int) : Prop := cs.size = 256 ∧ ∀ j, j < 256 → cs[j]? = some (.int .i8 (f j))
theorem tabHas_set {cs : Array Value} {f : Nat → Int} (h : tabHas cs f) (k : Nat) (x : Int) : tabHas (cs.setIfInBounds k (.int .i8 x)) (fun j => if k = j then x else f j) := by
  refine ⟨by simp [h.1], fun j hj => ?_⟩
  rw [Array.getElem?_setIfInBounds]
  by_cases e : k = j
  · subst e; simp [h.1, hj]
  · simp [e, h.2 j hj]
theorem tabHas_congr {cs : Array Value} {f g : Nat → Int} (h : tabHas cs f) (e : ∀ j, j < 256 → f j = g j) : tabHas cs g := ⟨h.1, fun j hj => by rw [← e j hj]; exact h.2 j hj⟩
theorem tabHas_one {cs : Array Value} {f : Nat → Int} (h : tabHas cs f) : cs.all (·.oneCell') = true := by
  rw [Array.all_eq_true]
  intro i hi
  have := h.2 i (by have := h.1; omega)
  rw [Array.getElem?_eq_getElem hi] at this
  rw [Option.some.inj this]
  rfl
end Go.Proofs.YtbncaiocmklgnaaGreatDoor
