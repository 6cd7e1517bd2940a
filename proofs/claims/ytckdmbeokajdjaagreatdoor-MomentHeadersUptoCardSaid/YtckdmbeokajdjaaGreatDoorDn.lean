/- moment: dayText. -/
import Derived.Test.YtckdmbeokajdjaaGreatDoorDm
namespace Go.Proofs.YtckdmbeokajdjaaGreatDoor
open Go.RowKit

def dayL (Y M D : Nat) : List UInt8 := Lib.decDigits D ++ [45] ++ monN (M - 1) ++ [45] ++ pad4 Y
def SD (w : World) (b k : Nat) (y m d h n s z : Int) (nm : ByteArray) (X : World) : Prop :=
  X.cell? ⟨b, 0, none⟩ = some (.int .i64 y) ∧ X.cell? ⟨b, 1, none⟩ = some (.int .i64 m) ∧ X.cell? ⟨b, 2, none⟩ = some (.int .i64 d) ∧ X.cell? ⟨b, 3, none⟩ = some (.int .i64 h) ∧ X.cell? ⟨b, 4, none⟩ = some (.int .i64 n) ∧ X.cell? ⟨b, 5, none⟩ = some (.int .i64 s) ∧ X.cell? ⟨b, 6, none⟩ = some (.int .i64 z) ∧ X.cell? ⟨0, k, none⟩ = some (.string nm) ∧ Env X ∧ Below w.heap.size w X
theorem SD.env {w : World} {b k : Nat} {y m d h n s z : Int} {nm : ByteArray} {X : World} (q : SD w b k y m d h n s z nm X) : Env X ∧ Below w.heap.size w X := by
  obtain ⟨_, _, _, _, _, _, _, _, he, hw⟩ := q
  exact ⟨he, hw⟩
theorem SD.on {w : World} {b k : Nat} {y m d h n s z : Int} {nm : ByteArray} {X X' : World} (q : SD w b k y m d h n s z nm X) (hb : Below X.heap.size X X') : SD w b k y m d h n s z nm X' := by
  obtain ⟨a0, a1, a2, a3, a4, a5, a6, a7, he, hw⟩ := q
  have c := Cells7.on ⟨a0, a1, a2, a3, a4, a5, a6⟩ hb
  exact ⟨c.c0, c.c1, c.c2, c.c3, c.c4, c.c5, c.c6, by rw [hb.cell (p := ⟨_, k, none⟩) (block_lt_of_cell a7)]; exact a7, he.on hb, hw.trans (hb.mono hw.size)⟩
structure DayF (w : World) (b k : Nat) (h n s z M : Int) (Y D : Nat) (a1 nm a3 : ByteArray) : Prop where
  p1 : ∀ X, SD w b k Y M D h n s z nm X → Calls Tryz.prog 38 #[.int .i64 D] X fun e w' => e = .returned (.string a1) ∧ SD w b k Y M D h n s z nm w'
  p3 : ∀ X, SD w b k Y M D h n s z nm X → Calls Tryz.prog 39 #[.int .i64 Y, .int .i64 4] X fun e w' => e = .returned (.string a3) ∧ SD w b k Y M D h n s z nm w'
theorem monN_len (k : Nat) (h : k < 12) : (monN k).length = 3 := by
  rcases (by omega : k = 0 ∨ k = 1 ∨ k = 2 ∨ k = 3 ∨ k = 4 ∨ k = 5 ∨ k = 6 ∨ k = 7 ∨ k = 8 ∨ k = 9 ∨ k = 10 ∨ k = 11) with rfl | rfl | rfl | rfl | rfl | rfl | rfl | rfl | rfl | rfl | rfl | rfl <;> rfl
theorem dec_len (D : Nat) (h : D < 100) : (Lib.decDigits D).length = 1 ∨ (Lib.decDigits D).length = 2 := by
  rcases Nat.lt_or_ge D 10 with h1 | h1
  · left; rw [dec1 D h1]; rfl
  · right; rw [dec2 D h1 h]; rfl
set_option maxRecDepth 100000 in
set_option maxHeartbeats 8000000 in
theorem dayText_any (h n s z : Int) (Y M D : Nat) (w : World) (he : Env w) (hY : Y < 10000) (hM1 : 1 ≤ M) (hM2 : M ≤ 12) (hD : D < 100) :
    Calls Tryz.prog 17 #[mom Y M D h n s z] w fun e w' => e = .returned (.string (S (dayL Y M D))) ∧ Below w.heap.size w w' := by
  obtain ⟨k, hk⟩ : ∃ k, k = M - 1 := ⟨_, rfl⟩
  have hF : DayF w w.heap.size k h n s z M Y D (S (Lib.decDigits D)) (S (monN k)) (S (pad4 Y)) :=
    ⟨fun X hX => (Itoa_any D X hX.env.1 (by omega)).mono fun e w' ⟨k1, k2⟩ => ⟨k1, hX.on k2⟩,
     fun X hX => (padded4 Y X hX.env.1 hY).mono fun e w' ⟨k1, k2⟩ => ⟨k1, hX.on k2⟩⟩
  have HA : Hid (S (Lib.decDigits D) ++ (⟨#[45]⟩ : ByteArray) ++ S (monN k) ++ (⟨#[45]⟩ : ByteArray) ++ S (pad4 Y) = S (dayL Y M D)) := Lib.hid (by
    rw [show (⟨#[45]⟩ : ByteArray) = S [45] from rfl, S_app, S_app, S_app, S_app, hk]; rfl)
  obtain ⟨j, z1, hj⟩ : ∃ j, (S (Lib.decDigits D)).size = j ∧ (j = 1 ∨ j = 2) := ⟨_, rfl, dec_len D hD⟩
  have z2 : (S (monN k)).size = 3 := monN_len k (by omega)
  have z3 : (S (pad4 Y)).size = 4 := rfl
  have q0 : Below w.heap.size w (w.alloc (.cells #[.int .i64 Y, .int .i64 M, .int .i64 D, .int .i64 h, .int .i64 n, .int .i64 s, .int .i64 z] 23)) := (Below.refl _ _).alloc (Nat.le_refl _) _
  have st' : SD w w.heap.size k Y M D h n s z (S (monN k)) (w.alloc (.cells #[.int .i64 Y, .int .i64 M, .int .i64 D, .int .i64 h, .int .i64 n, .int .i64 s, .int .i64 z] 23)).drew := by
    have c := (cells7_new w Y M D h n s z 23).on (Below.refl _ _).drew
    have e := he.on q0.drew
    exact ⟨c.c0, c.c1, c.c2, c.c3, c.c4, c.c5, c.c6, e.monC k (by omega), e, q0.drew⟩
  have hw2 : (M : Int) - 1 = (k : Int) := by omega
  have hwk : IntKind.i64.wrap (k : Int) = (k : Int) := by simp [IntKind.wrap, IntKind.bits, IntKind.signed]; omega
  have hk0 : (0 : Int) ≤ (k : Int) := by omega
  have hk12 : (k : Int) < 12 := by omega
  generalize S (Lib.decDigits D) = a1 at *
  generalize S (monN k) = nm at *
  generalize S (pad4 Y) = a3 at *
  generalize S (dayL Y M D) = res at *
  clear he q0 hk hM1 hM2
  unfold mom
  rcases hj with rfl | rfl
  all_goals (
    go_enter Tryz.func17, Tryz.ntmps17
    go_wp2
    first | (go_region_held3 (fun X => X.cell? ⟨w.heap.size, 0, none⟩ = some (.int .i64 (Y : Int)) ∧ X.cell? ⟨w.heap.size, 1, none⟩ = some (.int .i64 (M : Int)) ∧ X.cell? ⟨w.heap.size, 2, none⟩ = some (.int .i64 (D : Int)) ∧ X.cell? ⟨w.heap.size, 3, none⟩ = some (.int .i64 h) ∧ X.cell? ⟨w.heap.size, 4, none⟩ = some (.int .i64 n) ∧ X.cell? ⟨w.heap.size, 5, none⟩ = some (.int .i64 s) ∧ X.cell? ⟨w.heap.size, 6, none⟩ = some (.int .i64 z) ∧ X.cell? ⟨0, k, none⟩ = some (.string nm) ∧ Env X ∧ Below w.heap.size w X) (first | exact st' | assumption) (first | (go_at_call 38; refine (hF.p1 _ ?_).mono ?_; assumption; rintro e w2 ⟨rfl, hs2⟩) | (go_at_call 39; refine (hF.p3 _ ?_).mono ?_; assumption; rintro e w4 ⟨rfl, hs4⟩))) | fail
    go_wp2
    go_ret
    exact ⟨ret_str HA.out, hs4.env.2⟩)
end Go.Proofs.YtckdmbeokajdjaaGreatDoor
