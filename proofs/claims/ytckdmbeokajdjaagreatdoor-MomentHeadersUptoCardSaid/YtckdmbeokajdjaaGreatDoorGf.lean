/- The reference of chapter 2: text at its three widths, PrintDay. -/
import Derived.Test.YtckdmbeokajdjaaGreatDoorGe
import Derived.Test.YtckdmbeokajdjaaGreatDoorDo
namespace Go.Proofs.YtckdmbeokajdjaaGreatDoor
open Go.RowKit

theorem digs_1 (n : Nat) (h : n < 10) : digs 1 n = Lib.decDigits n := by
  rw [dec1 n h]; show [dg (n / 10 ^ 0 % 10)] = _
  rw [Nat.pow_zero, Nat.div_one, Nat.mod_eq_of_lt h]
theorem digs_2 (n : Nat) (h : n < 100) : digs 2 n = pad2 n := by
  show [dg (n / 10 ^ 1 % 10), dg (n / 10 ^ 0 % 10)] = [dg (n / 10), dg (n % 10)]
  rw [Nat.pow_zero, Nat.div_one, Nat.pow_one, Nat.mod_eq_of_lt (show n / 10 < 10 by omega)]
theorem digs_4 (n : Nat) (h : n < 10000) : digs 4 n = pad4 n := by
  show [dg (n / 10 ^ 3 % 10), dg (n / 10 ^ 2 % 10), dg (n / 10 ^ 1 % 10), dg (n / 10 ^ 0 % 10)] = [dg (n / 1000), dg (n / 100 % 10), dg (n / 10 % 10), dg (n % 10)]
  rw [Nat.pow_zero, Nat.div_one, Nat.pow_one, show (10 : Nat) ^ 3 = 1000 from rfl, show (10 : Nat) ^ 2 = 100 from rfl, Nat.mod_eq_of_lt (show n / 1000 < 10 by omega)]
theorem text_2 (n : Nat) (w : World) (h : n < 100) :
    Calls Tryz.prog 42 #[.int .i64 n, .int .i64 2] w fun e w' => e = .returned (.string (S (pad2 n))) ∧ Below w.heap.size w w' := by
  have := text_any n 2 2 w (by omega) (by omega) (by show n / 100 = 0; omega) (Nat.le_refl _) (fun j hj => .inr hj)
  rw [digs_2 n h] at this
  exact this
theorem text_4 (n : Nat) (w : World) (h : n < 10000) :
    Calls Tryz.prog 42 #[.int .i64 n, .int .i64 4] w fun e w' => e = .returned (.string (S (pad4 n))) ∧ Below w.heap.size w w' := by
  have := text_any n 4 4 w (by omega) (by omega) (by show n / 10000 = 0; omega) (Nat.le_refl _) (fun j hj => .inr hj)
  rw [digs_4 n h] at this
  exact this
theorem text_1 (n : Nat) (w : World) (h : n < 100) :
    Calls Tryz.prog 42 #[.int .i64 n, .int .i64 1] w fun e w' => e = .returned (.string (S (Lib.decDigits n))) ∧ Below w.heap.size w w' := by
  rcases Nat.lt_or_ge n 10 with h1 | h1
  · have := text_any n 1 1 w (by omega) (by omega) (by show n / 10 = 0; omega) (Nat.le_refl _) (fun j hj => .inr hj)
    rw [digs_1 n h1] at this
    exact this
  · have := text_any n 1 2 w (by omega) (by omega) (by show n / 100 = 0; omega) (by omega) (fun j hj => by
      rcases (by omega : j = 0 ∨ j = 1) with rfl | rfl
      · exact .inr (by omega)
      · left; show 0 < n / 10; omega)
    rw [digs_2 n h, show pad2 n = Lib.decDigits n from (dec2 n h1 h).symm] at this
    exact this
def largeB : ByteArray := ⟨#[74, 97, 110, 70, 101, 98, 77, 97, 114, 65, 112, 114, 77, 97, 121, 74, 117, 110, 74, 117, 108, 65, 117, 103, 83, 101, 112, 79, 99, 116, 78, 111, 118, 68, 101, 99]⟩
theorem large_at (k : Nat) (h : k < 12) : largeB.extract (3 * k) (3 * k + 3) = S (monN k) := by
  have : ∀ k : Fin 12, L (largeB.extract (3 * k.val) (3 * k.val + 3)) = monN k.val := by decide +kernel
  have h2 := this ⟨k, h⟩
  rw [← S_L (largeB.extract (3 * k) (3 * k + 3))]
  exact congrArg S h2
/-- What holds while the reference writes. -/
abbrev S7 (w : World) (y m d h n s z : Int) (X : World) : Prop :=
  X.cell? ⟨w.heap.size, 0, none⟩ = some (.int .i64 y) ∧ X.cell? ⟨w.heap.size, 1, none⟩ = some (.int .i64 m) ∧ X.cell? ⟨w.heap.size, 2, none⟩ = some (.int .i64 d) ∧ X.cell? ⟨w.heap.size, 3, none⟩ = some (.int .i64 h) ∧ X.cell? ⟨w.heap.size, 4, none⟩ = some (.int .i64 n) ∧ X.cell? ⟨w.heap.size, 5, none⟩ = some (.int .i64 s) ∧ X.cell? ⟨w.heap.size, 6, none⟩ = some (.int .i64 z) ∧ Below w.heap.size w X
theorem S7.on {w : World} {y m d h n s z : Int} {X Y : World} (k : S7 w y m d h n s z X) (hb : Below X.heap.size X Y) : S7 w y m d h n s z Y := by
  obtain ⟨a0, a1, a2, a3, a4, a5, a6, hq⟩ := k
  obtain ⟨c0, c1, c2, c3, c4, c5, c6⟩ := (Cells7.mk a0 a1 a2 a3 a4 a5 a6).on hb
  exact ⟨c0, c1, c2, c3, c4, c5, c6, hq.trans (hb.mono hq.size)⟩
theorem S7.new (w : World) (y m d h n s z : Int) : S7 w y m d h n s z (w.alloc (.cells #[.int .i64 y, .int .i64 m, .int .i64 d, .int .i64 h, .int .i64 n, .int .i64 s, .int .i64 z] 23)) := by
  obtain ⟨c0, c1, c2, c3, c4, c5, c6⟩ := cells7_new w y m d h n s z 23
  exact ⟨c0, c1, c2, c3, c4, c5, c6, (Below.refl _ _).alloc (Nat.le_refl _) _⟩
end Go.Proofs.YtckdmbeokajdjaaGreatDoor
