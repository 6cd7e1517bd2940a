/- lex: isMark, bitsOf, isAll. -/
import Derived.Test.YtbncaiocmklgnaaGreatDoorRows
import Derived.Test.YtbncaiocmklgnaaGreatDoorXa
import Derived.Test.YtbncaiocmklgnaaGreatDoorSh
import Derived.Lib.IndexAny
namespace Go.Proofs.YtbncaiocmklgnaaGreatDoor
open Go.RowKit

theorem beqI_no {n k : Int} (h : n ≠ k) : (n == k) = false := by rw [beq_eq_false_iff_ne]; exact h
theorem toU8_cast (c : UInt8) : ((c.toNat : Int)).toNat.toUInt8 = c := by simp
theorem mark_index (c : UInt8) : markB c = decide (0 ≤ Lib.indexByte [40, 41, 91, 93, 123, 125, 34] c) := by
  rw [← Lib.contains_iff_indexByte]
  exact all_bytes (p := fun c => markB c = [40, 41, 91, 93, 123, 125, 34].contains c) (by decide +kernel) c
set_option maxHeartbeats 400000 in
theorem isMark_any (c : UInt8) (w : World) :
    Calls Tryz.prog 62 #[.int .u8 (c.toNat : Int)] w fun e w' => e = .returned (.bool (markB c)) ∧ w' = w := by
  have hI := Lib.hid (fun W => Tryz.strings_IndexByte ⟨#[40, 41, 91, 93, 123, 125, 34]⟩ (c.toNat : Int) W)
  rw [toU8_cast, mark_index] at *
  change Hid (∀ W, Calls _ _ _ W fun e w' => e = .returned (.int .i64 (Lib.indexByte [40, 41, 91, 93, 123, 125, 34] c)) ∧ w' = W) at hI
  generalize Lib.indexByte [40, 41, 91, 93, 123, 125, 34] c = i at *
  go_enter Tryz.func62, Tryz.ntmps62
  go_wp2_with (go_at_call 81; refine (hI.out _).mono ?_; rintro e w' ⟨rfl, rfl⟩)
  all_goals (
    go_ret
    exact ⟨ret_bool (by first | rfl | (symm; rw [decide_eq_true_iff]; omega) | (symm; rw [decide_eq_false_iff_not]; omega)), rfl⟩)
theorem bits_class (c : UInt8) : (c.toNat = 0 ∧ bitsN c = 0) ∨ (c.toNat = 10 ∧ bitsN c = 0) ∨ (c.toNat = 13 ∧ bitsN c = 0) ∨ (127 < c.toNat ∧ bitsN c = 0) ∨ (c.toNat = 43 ∧ bitsN c = 30) ∨ (c.toNat = 37 ∧ bitsN c = 28) ∨ (c.toNat = 42 ∧ bitsN c = 28)
    ∨ (c.toNat = 92 ∧ bitsN c = 24) ∨ ((c.toNat ≤ 32 ∧ c.toNat ≠ 0 ∧ c.toNat ≠ 10 ∧ c.toNat ≠ 13) ∧ bitsN c = 16) ∨ (c.toNat = 127 ∧ bitsN c = 16)
    ∨ ((33 ≤ c.toNat ∧ c.toNat ≤ 126 ∧ c.toNat ≠ 43 ∧ c.toNat ≠ 37 ∧ c.toNat ≠ 42 ∧ c.toNat ≠ 92) ∧ markB c = true ∧ bitsN c = 16)
    ∨ ((33 ≤ c.toNat ∧ c.toNat ≤ 126 ∧ c.toNat ≠ 43 ∧ c.toNat ≠ 37 ∧ c.toNat ≠ 42 ∧ c.toNat ≠ 92) ∧ markB c = false ∧ bitsN c = 31) :=
  all_bytes (p := fun c => (c.toNat = 0 ∧ bitsN c = 0) ∨ (c.toNat = 10 ∧ bitsN c = 0) ∨ (c.toNat = 13 ∧ bitsN c = 0) ∨ (127 < c.toNat ∧ bitsN c = 0) ∨ (c.toNat = 43 ∧ bitsN c = 30) ∨ (c.toNat = 37 ∧ bitsN c = 28) ∨ (c.toNat = 42 ∧ bitsN c = 28)
    ∨ (c.toNat = 92 ∧ bitsN c = 24) ∨ ((c.toNat ≤ 32 ∧ c.toNat ≠ 0 ∧ c.toNat ≠ 10 ∧ c.toNat ≠ 13) ∧ bitsN c = 16) ∨ (c.toNat = 127 ∧ bitsN c = 16)
    ∨ ((33 ≤ c.toNat ∧ c.toNat ≤ 126 ∧ c.toNat ≠ 43 ∧ c.toNat ≠ 37 ∧ c.toNat ≠ 42 ∧ c.toNat ≠ 92) ∧ markB c = true ∧ bitsN c = 16)
    ∨ ((33 ≤ c.toNat ∧ c.toNat ≤ 126 ∧ c.toNat ≠ 43 ∧ c.toNat ≠ 37 ∧ c.toNat ≠ 42 ∧ c.toNat ≠ 92) ∧ markB c = false ∧ bitsN c = 31)) (by decide +kernel) c
set_option maxHeartbeats 1000000 in
theorem bitsOf_any (c : UInt8) (w : World) :
    Calls Tryz.prog 54 #[.int .u8 (c.toNat : Int)] w fun e w' => e = .returned (.int .i64 (bitsN c : Nat)) ∧ w' = w := by
  have hM := Lib.hid (fun W => isMark_any c W)
  have h256 : c.toNat < 256 := c.toNat_lt
  rcases bits_class c with ⟨h, e⟩ | ⟨h, e⟩ | ⟨h, e⟩ | ⟨h, e⟩ | ⟨h, e⟩ | ⟨h, e⟩ | ⟨h, e⟩ | ⟨h, e⟩ | ⟨⟨h, h1, h2, h3⟩, e⟩ | ⟨h, e⟩ | ⟨⟨h1, h2, h3, h4, h5, h6⟩, hm, e⟩ | ⟨⟨h1, h2, h3, h4, h5, h6⟩, hm, e⟩
  all_goals rw [e]
  all_goals clear e
  all_goals try rw [hm] at hM
  all_goals try clear hm
  all_goals generalize c.toNat = n at *
  all_goals try subst h
  all_goals try have a0 := beqI_no (n := (n : Int)) (k := 0) (by omega)
  all_goals try have a1 := beqI_no (n := (n : Int)) (k := 10) (by omega)
  all_goals try have a2 := beqI_no (n := (n : Int)) (k := 13) (by omega)
  all_goals try have a3 := beqI_no (n := (n : Int)) (k := 43) (by omega)
  all_goals try have a4 := beqI_no (n := (n : Int)) (k := 37) (by omega)
  all_goals try have a5 := beqI_no (n := (n : Int)) (k := 42) (by omega)
  all_goals try have a6 := beqI_no (n := (n : Int)) (k := 92) (by omega)
  all_goals try have a7 := beqI_no (n := (n : Int)) (k := 127) (by omega)
  all_goals (
    go_enter Tryz.func54, Tryz.ntmps54
    go_wp2_with (go_at_call 62; refine (hM.out _).mono ?_; rintro e w' ⟨rfl, rfl⟩)
    go_ret
    exact ⟨rfl, rfl⟩)
end Go.Proofs.YtbncaiocmklgnaaGreatDoor
