/- event: the flags of the system; rows of texts; bitOf. -/
import Derived.Test.YtbncaiocmklgnaaGreatDoorXl
import Derived.Lib.Hide
import Derived.Laws.AppendOwnNone
import Derived.Deep.WholeRow
namespace Go.Proofs.YtbncaiocmklgnaaGreatDoor
open Go.RowKit

def sysA : Array Value := #[.string ⟨#[92, 65, 110, 115, 119, 101, 114, 101, 100]⟩, .int .i64 1, .string ⟨#[92, 68, 101, 108, 101, 116, 101, 100]⟩, .int .i64 2, .string ⟨#[92, 68, 114, 97, 102, 116]⟩, .int .i64 4, .string ⟨#[92, 70, 108, 97, 103, 103, 101, 100]⟩, .int .i64 8, .string ⟨#[92, 83, 101, 101, 110]⟩, .int .i64 16]
def sysL : List (List UInt8) := [[92, 65, 110, 115, 119, 101, 114, 101, 100], [92, 68, 101, 108, 101, 116, 101, 100], [92, 68, 114, 97, 102, 116], [92, 70, 108, 97, 103, 103, 101, 100], [92, 83, 101, 101, 110]]
/-- The bit of a flag of the system, 0: it is none. -/
def bitN (l : List UInt8) : Nat := if same l [92, 65, 110, 115, 119, 101, 114, 101, 100] = true then 1 else if same l [92, 68, 101, 108, 101, 116, 101, 100] = true then 2 else if same l [92, 68, 114, 97, 102, 116] = true then 4 else if same l [92, 70, 108, 97, 103, 103, 101, 100] = true then 8 else if same l [92, 83, 101, 101, 110] = true then 16 else 0
/-- What package event holds. -/
structure EnvF (w : World) : Prop where
  sys : ∃ t fr, w.heap[0]? = some (.cells sysA t fr)
theorem EnvF.on {w w' : World} (h : EnvF w) (hb : Below w.heap.size w w') : EnvF w' := by
  obtain ⟨t, fr, h⟩ := h.sys
  exact ⟨t, fr, by rw [hb.block _ (Array.getElem?_eq_some_iff.1 h).1]; exact h⟩
theorem EnvF.cells {w : World} (h : EnvF w) : w.cell? ⟨0, 0, none⟩ = some (.string ⟨#[92, 65, 110, 115, 119, 101, 114, 101, 100]⟩) ∧ w.cell? ⟨0, 1, none⟩ = some (.int .i64 1) ∧ w.cell? ⟨0, 2, none⟩ = some (.string ⟨#[92, 68, 101, 108, 101, 116, 101, 100]⟩) ∧ w.cell? ⟨0, 3, none⟩ = some (.int .i64 2) ∧ w.cell? ⟨0, 4, none⟩ = some (.string ⟨#[92, 68, 114, 97, 102, 116]⟩) ∧ w.cell? ⟨0, 5, none⟩ = some (.int .i64 4) ∧ w.cell? ⟨0, 6, none⟩ = some (.string ⟨#[92, 70, 108, 97, 103, 103, 101, 100]⟩) ∧ w.cell? ⟨0, 7, none⟩ = some (.int .i64 8) ∧ w.cell? ⟨0, 8, none⟩ = some (.string ⟨#[92, 83, 101, 101, 110]⟩) ∧ w.cell? ⟨0, 9, none⟩ = some (.int .i64 16) := by
  obtain ⟨t, fr, h⟩ := h.sys
  exact ⟨cell_of_row _ _ 0 _ _ _ h, cell_of_row _ _ 1 _ _ _ h, cell_of_row _ _ 2 _ _ _ h, cell_of_row _ _ 3 _ _ _ h, cell_of_row _ _ 4 _ _ _ h, cell_of_row _ _ 5 _ _ _ h, cell_of_row _ _ 6 _ _ _ h, cell_of_row _ _ 7 _ _ _ h, cell_of_row _ _ 8 _ _ _ h, cell_of_row _ _ 9 _ _ _ h⟩
theorem Tryz.sysIx0 (w : World) : Sem.run Tryz.prog (Instr.index 83 (.agg #[.string ⟨#[92, 65, 110, 115, 119, 101, 114, 101, 100]⟩, .int .i64 1, .string ⟨#[92, 68, 101, 108, 101, 116, 101, 100]⟩, .int .i64 2, .string ⟨#[92, 68, 114, 97, 102, 116]⟩, .int .i64 4, .string ⟨#[92, 70, 108, 97, 103, 103, 101, 100]⟩, .int .i64 8, .string ⟨#[92, 83, 101, 101, 110]⟩, .int .i64 16]) (.int .i64 0)) w = .ok (.agg #[.string ⟨#[92, 65, 110, 115, 119, 101, 114, 101, 100]⟩, .int .i64 1]) w := by kernel_rfl
theorem Tryz.sysIx1 (w : World) : Sem.run Tryz.prog (Instr.index 83 (.agg #[.string ⟨#[92, 65, 110, 115, 119, 101, 114, 101, 100]⟩, .int .i64 1, .string ⟨#[92, 68, 101, 108, 101, 116, 101, 100]⟩, .int .i64 2, .string ⟨#[92, 68, 114, 97, 102, 116]⟩, .int .i64 4, .string ⟨#[92, 70, 108, 97, 103, 103, 101, 100]⟩, .int .i64 8, .string ⟨#[92, 83, 101, 101, 110]⟩, .int .i64 16]) (.int .i64 1)) w = .ok (.agg #[.string ⟨#[92, 68, 101, 108, 101, 116, 101, 100]⟩, .int .i64 2]) w := by kernel_rfl
theorem Tryz.sysIx2 (w : World) : Sem.run Tryz.prog (Instr.index 83 (.agg #[.string ⟨#[92, 65, 110, 115, 119, 101, 114, 101, 100]⟩, .int .i64 1, .string ⟨#[92, 68, 101, 108, 101, 116, 101, 100]⟩, .int .i64 2, .string ⟨#[92, 68, 114, 97, 102, 116]⟩, .int .i64 4, .string ⟨#[92, 70, 108, 97, 103, 103, 101, 100]⟩, .int .i64 8, .string ⟨#[92, 83, 101, 101, 110]⟩, .int .i64 16]) (.int .i64 2)) w = .ok (.agg #[.string ⟨#[92, 68, 114, 97, 102, 116]⟩, .int .i64 4]) w := by kernel_rfl
theorem Tryz.sysIx3 (w : World) : Sem.run Tryz.prog (Instr.index 83 (.agg #[.string ⟨#[92, 65, 110, 115, 119, 101, 114, 101, 100]⟩, .int .i64 1, .string ⟨#[92, 68, 101, 108, 101, 116, 101, 100]⟩, .int .i64 2, .string ⟨#[92, 68, 114, 97, 102, 116]⟩, .int .i64 4, .string ⟨#[92, 70, 108, 97, 103, 103, 101, 100]⟩, .int .i64 8, .string ⟨#[92, 83, 101, 101, 110]⟩, .int .i64 16]) (.int .i64 3)) w = .ok (.agg #[.string ⟨#[92, 70, 108, 97, 103, 103, 101, 100]⟩, .int .i64 8]) w := by kernel_rfl
theorem Tryz.sysIx4 (w : World) : Sem.run Tryz.prog (Instr.index 83 (.agg #[.string ⟨#[92, 65, 110, 115, 119, 101, 114, 101, 100]⟩, .int .i64 1, .string ⟨#[92, 68, 101, 108, 101, 116, 101, 100]⟩, .int .i64 2, .string ⟨#[92, 68, 114, 97, 102, 116]⟩, .int .i64 4, .string ⟨#[92, 70, 108, 97, 103, 103, 101, 100]⟩, .int .i64 8, .string ⟨#[92, 83, 101, 101, 110]⟩, .int .i64 16]) (.int .i64 4)) w = .ok (.agg #[.string ⟨#[92, 83, 101, 101, 110]⟩, .int .i64 16]) w := by kernel_rfl
theorem LS_list (l : List UInt8) : L ⟨l.toArray⟩ = l := rfl
set_option maxRecDepth 100000 in
set_option maxHeartbeats 2000000 in
theorem bitOf_any (f : ByteArray) (w : World) (he : EnvF w) (hs : f.size ≤ maxLen) :
    Calls Tryz.prog 38 #[.string f] w fun e w' => e = .returned (.int .i64 (bitN (L f) : Nat)) ∧ Below w.heap.size w w' := by
  have HS := Lib.hid (fun (b : ByteArray) (W : World) => Same_any f b W hs)
  obtain ⟨c0, c1, c2, c3, c4, c5, c6, c7, c8, c9⟩ := he.cells
  have x0 := Tryz.sysIx0
  have x1 := Tryz.sysIx1
  have x2 := Tryz.sysIx2
  have x3 := Tryz.sysIx3
  have x4 := Tryz.sysIx4
  clear he
  go_enter Tryz.func38, Tryz.ntmps38
  go_wp2
  go_loopw [6] (fun i wr => ∃ k : Nat, k ≤ 5 ∧ i = .int .i64 k ∧ Hid (∀ j, j < k → same (L f) (sysL.getD j []) = false) ∧ Below w.heap.size w wr) (fun i _ => 5 - (intOf i).toNat)
  case atStart => exact ⟨0, by omega, rfl, Lib.hid (fun j hj => absurd hj (by omega)), Below.refl _ _⟩
  case round =>
    obtain ⟨k, hk, rfl, HP, hb⟩ := hrel
    have HB := Lib.hid hb
    clear hb c0 c1 c2 c3 c4 c5 c6 c7 c8 c9
    have hk6 : k = 0 ∨ k = 1 ∨ k = 2 ∨ k = 3 ∨ k = 4 ∨ k = 5 := by omega
    rcases hk6 with rfl | rfl | rfl | rfl | rfl | rfl
    · clear hk
      cases hq : same (L f) [92, 65, 110, 115, 119, 101, 114, 101, 100] with
      | true =>
        have HQ := Lib.hid hq
        have HC : Hid (∀ W, Calls Tryz.prog 26 #[.string f, .string ⟨#[92, 65, 110, 115, 119, 101, 114, 101, 100]⟩] W fun e w' => e = .returned (.bool true) ∧ Below W.heap.size W w') := Lib.hid (fun W => by rw [← hq]; exact HS.out ⟨#[92, 65, 110, 115, 119, 101, 114, 101, 100]⟩ W)
        clear hq
        go_wp2_with fail
        refine (HC.out _).mono ?_
        rintro e w1 ⟨rfl, hb1⟩
        have hc : w1.cell? ⟨wr.heap.size, 1, none⟩ = some (.int .i64 1) := by
          rw [hb1.cell (p := ⟨wr.heap.size, 1, none⟩) (by simp)]
          exact cell_of_row _ _ 1 _ _ _ (heap_alloc_last wr _)
        have HB1 : Hid (Below w.heap.size w w1) := Lib.hid ((HB.out.alloc HB.out.size _).trans (hb1.mono (by have := HB.out.size; simp; omega)))
        clear hb1
        go_wp2_with fail
        go_ret
        refine ⟨ret_int ?_, HB1.out⟩

        unfold bitN
        rw [if_pos HQ.out]; rfl
      | false =>
        have HC : Hid (∀ W, Calls Tryz.prog 26 #[.string f, .string ⟨#[92, 65, 110, 115, 119, 101, 114, 101, 100]⟩] W fun e w' => e = .returned (.bool false) ∧ Below W.heap.size W w') := Lib.hid (fun W => by rw [← hq]; exact HS.out ⟨#[92, 65, 110, 115, 119, 101, 114, 101, 100]⟩ W)
        have HP2 : Hid (∀ j, j < 1 → same (L f) (sysL.getD j []) = false) := Lib.hid (fun j hj => by
          rcases Nat.lt_or_ge j 0 with h | h
          · exact HP.out j h
          · obtain rfl : j = 0 := by omega
            exact hq)
        clear hq HP
        go_wp2_with fail
        refine (HC.out _).mono ?_
        rintro e w1 ⟨rfl, hb1⟩
        have HB1 : Hid (Below w.heap.size w w1) := Lib.hid ((HB.out.alloc HB.out.size _).trans (hb1.mono (by have := HB.out.size; simp; omega)))
        clear hb1
        go_wp2_with fail
        go_roundw
        case rel => exact ⟨1, by omega, rfl, HP2, HB1.out⟩
        case measure => simp [intOf]
    · clear hk
      cases hq : same (L f) [92, 68, 101, 108, 101, 116, 101, 100] with
      | true =>
        have HQ := Lib.hid hq
        have HC : Hid (∀ W, Calls Tryz.prog 26 #[.string f, .string ⟨#[92, 68, 101, 108, 101, 116, 101, 100]⟩] W fun e w' => e = .returned (.bool true) ∧ Below W.heap.size W w') := Lib.hid (fun W => by rw [← hq]; exact HS.out ⟨#[92, 68, 101, 108, 101, 116, 101, 100]⟩ W)
        clear hq
        go_wp2_with fail
        refine (HC.out _).mono ?_
        rintro e w1 ⟨rfl, hb1⟩
        have hc : w1.cell? ⟨wr.heap.size, 1, none⟩ = some (.int .i64 2) := by
          rw [hb1.cell (p := ⟨wr.heap.size, 1, none⟩) (by simp)]
          exact cell_of_row _ _ 1 _ _ _ (heap_alloc_last wr _)
        have HB1 : Hid (Below w.heap.size w w1) := Lib.hid ((HB.out.alloc HB.out.size _).trans (hb1.mono (by have := HB.out.size; simp; omega)))
        clear hb1
        go_wp2_with fail
        go_ret
        refine ⟨ret_int ?_, HB1.out⟩
        have p0 : same (L f) [92, 65, 110, 115, 119, 101, 114, 101, 100] = false := HP.out 0 (by omega)
        unfold bitN
        rw [if_neg (by rw [p0]; decide), if_pos HQ.out]; rfl
      | false =>
        have HC : Hid (∀ W, Calls Tryz.prog 26 #[.string f, .string ⟨#[92, 68, 101, 108, 101, 116, 101, 100]⟩] W fun e w' => e = .returned (.bool false) ∧ Below W.heap.size W w') := Lib.hid (fun W => by rw [← hq]; exact HS.out ⟨#[92, 68, 101, 108, 101, 116, 101, 100]⟩ W)
        have HP2 : Hid (∀ j, j < 2 → same (L f) (sysL.getD j []) = false) := Lib.hid (fun j hj => by
          rcases Nat.lt_or_ge j 1 with h | h
          · exact HP.out j h
          · obtain rfl : j = 1 := by omega
            exact hq)
        clear hq HP
        go_wp2_with fail
        refine (HC.out _).mono ?_
        rintro e w1 ⟨rfl, hb1⟩
        have HB1 : Hid (Below w.heap.size w w1) := Lib.hid ((HB.out.alloc HB.out.size _).trans (hb1.mono (by have := HB.out.size; simp; omega)))
        clear hb1
        go_wp2_with fail
        go_roundw
        case rel => exact ⟨2, by omega, rfl, HP2, HB1.out⟩
        case measure => simp [intOf]
    · clear hk
      cases hq : same (L f) [92, 68, 114, 97, 102, 116] with
      | true =>
        have HQ := Lib.hid hq
        have HC : Hid (∀ W, Calls Tryz.prog 26 #[.string f, .string ⟨#[92, 68, 114, 97, 102, 116]⟩] W fun e w' => e = .returned (.bool true) ∧ Below W.heap.size W w') := Lib.hid (fun W => by rw [← hq]; exact HS.out ⟨#[92, 68, 114, 97, 102, 116]⟩ W)
        clear hq
        go_wp2_with fail
        refine (HC.out _).mono ?_
        rintro e w1 ⟨rfl, hb1⟩
        have hc : w1.cell? ⟨wr.heap.size, 1, none⟩ = some (.int .i64 4) := by
          rw [hb1.cell (p := ⟨wr.heap.size, 1, none⟩) (by simp)]
          exact cell_of_row _ _ 1 _ _ _ (heap_alloc_last wr _)
        have HB1 : Hid (Below w.heap.size w w1) := Lib.hid ((HB.out.alloc HB.out.size _).trans (hb1.mono (by have := HB.out.size; simp; omega)))
        clear hb1
        go_wp2_with fail
        go_ret
        refine ⟨ret_int ?_, HB1.out⟩
        have p0 : same (L f) [92, 65, 110, 115, 119, 101, 114, 101, 100] = false := HP.out 0 (by omega)
        have p1 : same (L f) [92, 68, 101, 108, 101, 116, 101, 100] = false := HP.out 1 (by omega)
        unfold bitN
        rw [if_neg (by rw [p0]; decide), if_neg (by rw [p1]; decide), if_pos HQ.out]; rfl
      | false =>
        have HC : Hid (∀ W, Calls Tryz.prog 26 #[.string f, .string ⟨#[92, 68, 114, 97, 102, 116]⟩] W fun e w' => e = .returned (.bool false) ∧ Below W.heap.size W w') := Lib.hid (fun W => by rw [← hq]; exact HS.out ⟨#[92, 68, 114, 97, 102, 116]⟩ W)
        have HP2 : Hid (∀ j, j < 3 → same (L f) (sysL.getD j []) = false) := Lib.hid (fun j hj => by
          rcases Nat.lt_or_ge j 2 with h | h
          · exact HP.out j h
          · obtain rfl : j = 2 := by omega
            exact hq)
        clear hq HP
        go_wp2_with fail
        refine (HC.out _).mono ?_
        rintro e w1 ⟨rfl, hb1⟩
        have HB1 : Hid (Below w.heap.size w w1) := Lib.hid ((HB.out.alloc HB.out.size _).trans (hb1.mono (by have := HB.out.size; simp; omega)))
        clear hb1
        go_wp2_with fail
        go_roundw
        case rel => exact ⟨3, by omega, rfl, HP2, HB1.out⟩
        case measure => simp [intOf]
    · clear hk
      cases hq : same (L f) [92, 70, 108, 97, 103, 103, 101, 100] with
      | true =>
        have HQ := Lib.hid hq
        have HC : Hid (∀ W, Calls Tryz.prog 26 #[.string f, .string ⟨#[92, 70, 108, 97, 103, 103, 101, 100]⟩] W fun e w' => e = .returned (.bool true) ∧ Below W.heap.size W w') := Lib.hid (fun W => by rw [← hq]; exact HS.out ⟨#[92, 70, 108, 97, 103, 103, 101, 100]⟩ W)
        clear hq
        go_wp2_with fail
        refine (HC.out _).mono ?_
        rintro e w1 ⟨rfl, hb1⟩
        have hc : w1.cell? ⟨wr.heap.size, 1, none⟩ = some (.int .i64 8) := by
          rw [hb1.cell (p := ⟨wr.heap.size, 1, none⟩) (by simp)]
          exact cell_of_row _ _ 1 _ _ _ (heap_alloc_last wr _)
        have HB1 : Hid (Below w.heap.size w w1) := Lib.hid ((HB.out.alloc HB.out.size _).trans (hb1.mono (by have := HB.out.size; simp; omega)))
        clear hb1
        go_wp2_with fail
        go_ret
        refine ⟨ret_int ?_, HB1.out⟩
        have p0 : same (L f) [92, 65, 110, 115, 119, 101, 114, 101, 100] = false := HP.out 0 (by omega)
        have p1 : same (L f) [92, 68, 101, 108, 101, 116, 101, 100] = false := HP.out 1 (by omega)
        have p2 : same (L f) [92, 68, 114, 97, 102, 116] = false := HP.out 2 (by omega)
        unfold bitN
        rw [if_neg (by rw [p0]; decide), if_neg (by rw [p1]; decide), if_neg (by rw [p2]; decide), if_pos HQ.out]; rfl
      | false =>
        have HC : Hid (∀ W, Calls Tryz.prog 26 #[.string f, .string ⟨#[92, 70, 108, 97, 103, 103, 101, 100]⟩] W fun e w' => e = .returned (.bool false) ∧ Below W.heap.size W w') := Lib.hid (fun W => by rw [← hq]; exact HS.out ⟨#[92, 70, 108, 97, 103, 103, 101, 100]⟩ W)
        have HP2 : Hid (∀ j, j < 4 → same (L f) (sysL.getD j []) = false) := Lib.hid (fun j hj => by
          rcases Nat.lt_or_ge j 3 with h | h
          · exact HP.out j h
          · obtain rfl : j = 3 := by omega
            exact hq)
        clear hq HP
        go_wp2_with fail
        refine (HC.out _).mono ?_
        rintro e w1 ⟨rfl, hb1⟩
        have HB1 : Hid (Below w.heap.size w w1) := Lib.hid ((HB.out.alloc HB.out.size _).trans (hb1.mono (by have := HB.out.size; simp; omega)))
        clear hb1
        go_wp2_with fail
        go_roundw
        case rel => exact ⟨4, by omega, rfl, HP2, HB1.out⟩
        case measure => simp [intOf]
    · clear hk
      cases hq : same (L f) [92, 83, 101, 101, 110] with
      | true =>
        have HQ := Lib.hid hq
        have HC : Hid (∀ W, Calls Tryz.prog 26 #[.string f, .string ⟨#[92, 83, 101, 101, 110]⟩] W fun e w' => e = .returned (.bool true) ∧ Below W.heap.size W w') := Lib.hid (fun W => by rw [← hq]; exact HS.out ⟨#[92, 83, 101, 101, 110]⟩ W)
        clear hq
        go_wp2_with fail
        refine (HC.out _).mono ?_
        rintro e w1 ⟨rfl, hb1⟩
        have hc : w1.cell? ⟨wr.heap.size, 1, none⟩ = some (.int .i64 16) := by
          rw [hb1.cell (p := ⟨wr.heap.size, 1, none⟩) (by simp)]
          exact cell_of_row _ _ 1 _ _ _ (heap_alloc_last wr _)
        have HB1 : Hid (Below w.heap.size w w1) := Lib.hid ((HB.out.alloc HB.out.size _).trans (hb1.mono (by have := HB.out.size; simp; omega)))
        clear hb1
        go_wp2_with fail
        go_ret
        refine ⟨ret_int ?_, HB1.out⟩
        have p0 : same (L f) [92, 65, 110, 115, 119, 101, 114, 101, 100] = false := HP.out 0 (by omega)
        have p1 : same (L f) [92, 68, 101, 108, 101, 116, 101, 100] = false := HP.out 1 (by omega)
        have p2 : same (L f) [92, 68, 114, 97, 102, 116] = false := HP.out 2 (by omega)
        have p3 : same (L f) [92, 70, 108, 97, 103, 103, 101, 100] = false := HP.out 3 (by omega)
        unfold bitN
        rw [if_neg (by rw [p0]; decide), if_neg (by rw [p1]; decide), if_neg (by rw [p2]; decide), if_neg (by rw [p3]; decide), if_pos HQ.out]; rfl
      | false =>
        have HC : Hid (∀ W, Calls Tryz.prog 26 #[.string f, .string ⟨#[92, 83, 101, 101, 110]⟩] W fun e w' => e = .returned (.bool false) ∧ Below W.heap.size W w') := Lib.hid (fun W => by rw [← hq]; exact HS.out ⟨#[92, 83, 101, 101, 110]⟩ W)
        have HP2 : Hid (∀ j, j < 5 → same (L f) (sysL.getD j []) = false) := Lib.hid (fun j hj => by
          rcases Nat.lt_or_ge j 4 with h | h
          · exact HP.out j h
          · obtain rfl : j = 4 := by omega
            exact hq)
        clear hq HP
        go_wp2_with fail
        refine (HC.out _).mono ?_
        rintro e w1 ⟨rfl, hb1⟩
        have HB1 : Hid (Below w.heap.size w w1) := Lib.hid ((HB.out.alloc HB.out.size _).trans (hb1.mono (by have := HB.out.size; simp; omega)))
        clear hb1
        go_wp2_with fail
        go_roundw
        case rel => exact ⟨5, by omega, rfl, HP2, HB1.out⟩
        case measure => simp [intOf]
    · go_wp2_with fail
      go_ret
      refine ⟨ret_int ?_, HB.out⟩
      have p0 : same (L f) [92, 65, 110, 115, 119, 101, 114, 101, 100] = false := HP.out 0 (by omega)
      have p1 : same (L f) [92, 68, 101, 108, 101, 116, 101, 100] = false := HP.out 1 (by omega)
      have p2 : same (L f) [92, 68, 114, 97, 102, 116] = false := HP.out 2 (by omega)
      have p3 : same (L f) [92, 70, 108, 97, 103, 103, 101, 100] = false := HP.out 3 (by omega)
      have p4 : same (L f) [92, 83, 101, 101, 110] = false := HP.out 4 (by omega)
      unfold bitN
      rw [if_neg (by rw [p0]; decide), if_neg (by rw [p1]; decide), if_neg (by rw [p2]; decide), if_neg (by rw [p3]; decide), if_neg (by rw [p4]; decide)]; rfl
end Go.Proofs.YtbncaiocmklgnaaGreatDoor
