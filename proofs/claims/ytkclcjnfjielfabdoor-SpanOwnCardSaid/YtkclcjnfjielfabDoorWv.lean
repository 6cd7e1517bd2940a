/- Questions in memory. -/
import Derived.Test.YtkclcjnfjielfabDoorVu
namespace Go.Proofs.YtkclcjnfjielfabDoor
open Go.RowKit

/-- A question. -/
structure AskP where
  text : ByteArray
  set : List Rg
  n : Int
  g : Int
  list : List Int
  sets : List (List Rg)
def ask0 : AskP := ⟨ByteArray.empty, [], 0, 0, [], []⟩
instance : Inhabited AskP := ⟨ask0⟩
structure AskAt (w : World) (b o : Nat) (q : AskP) : Prop where
  c0 : w.cell? ⟨b, o, none⟩ = some (.string q.text)
  z0 : q.text.size ≤ 140737488355328
  c1 : ∃ v, w.cell? ⟨b, o + 1, none⟩ = some v ∧ Rgs w v q.set
  z1 : q.set.length ≤ 8796093022208
  c2 : w.cell? ⟨b, o + 2, none⟩ = some (.int .i64 q.n)
  c3 : w.cell? ⟨b, o + 3, none⟩ = some (.int .i64 q.g)
  c4 : ∃ v, w.cell? ⟨b, o + 4, none⟩ = some v ∧ Ints w v q.list
  z4 : q.list.length ≤ 17592186044416
  m4 : ∀ n ∈ q.list, n ≤ 9223372036854775807
  c5 : ∃ v, w.cell? ⟨b, o + 5, none⟩ = some v ∧ Sets w v q.sets
  z5 : q.sets.length ≤ 5864062014805
theorem cellOn {w X : World} {B i : Nat} {v : Value} (h : w.cell? ⟨B, i, none⟩ = some v) (hb : Below w.heap.size w X) : X.cell? ⟨B, i, none⟩ = some v := by
  rw [hb.cell (p := ⟨B, i, none⟩) (block_lt_of_cell h)]; exact h
theorem belThen {w X Y : World} (h : Below w.heap.size w X) (hb : Below X.heap.size X Y) : Below w.heap.size w Y := h.trans (hb.mono h.size)
theorem AskAt.on {w X : World} {b o : Nat} {q : AskP} (h : AskAt w b o q) (hb : Below w.heap.size w X) : AskAt X b o q := by
  obtain ⟨v1, e1, f1⟩ := h.c1
  obtain ⟨v4, e4, f4⟩ := h.c4
  obtain ⟨v5, e5, f5⟩ := h.c5
  exact ⟨cellOn h.c0 hb, h.z0, ⟨v1, cellOn e1 hb, f1.on hb⟩, h.z1, cellOn h.c2 hb, cellOn h.c3 hb, ⟨v4, cellOn e4 hb, f4.on hb⟩, h.z4, h.m4, ⟨v5, cellOn e5 hb, f5.on hb⟩, h.z5⟩
def Asks (w : World) (v : Value) (A : List AskP) : Prop :=
  ∃ ao cap, v = .slice ao A.length cap ∧ A.length ≤ 5864062014805 ∧ (0 < A.length → ∃ b off, ao = some ⟨b, off, none⟩ ∧ ∀ i, i < A.length → AskAt w b (off + i * 6) (A.getD i ask0))
theorem turn_up (k n : Nat) (w : World) (h : k < n) : Calls Tryd.prog 10 #[.int .i64 k, .int .i64 n] w fun e w' => e = .returned (.int .i64 (k : Nat)) ∧ w' = w := by
  have hz : (k : Int) < (n : Int) := by omega
  go_enter Tryd.func10, Tryd.ntmps10
  go_wp2_with fail
  go_ret
  exact ⟨rfl, rfl⟩
theorem turn_down (k n j : Nat) (w : World) (h : n ≤ k) (hk : k + j + 1 = 2 * n) (hn : n ≤ 1000000) : Calls Tryd.prog 10 #[.int .i64 k, .int .i64 n] w fun e w' => e = .returned (.int .i64 (j : Nat)) ∧ w' = w := by
  have hz : ¬ (k : Int) < (n : Int) := by omega
  have hj : (2 : Int) * (n : Int) - 1 - (k : Int) = (j : Int) := by omega
  have HJ := Lib.hid hj
  clear hj
  go_enter Tryd.func10, Tryd.ntmps10
  go_wp2_with fail
  go_ret
  exact ⟨congrArg (fun x => Ending.returned (.int .i64 x)) (by have := HJ.out; go_arith), rfl⟩
end Go.Proofs.YtkclcjnfjielfabDoor
