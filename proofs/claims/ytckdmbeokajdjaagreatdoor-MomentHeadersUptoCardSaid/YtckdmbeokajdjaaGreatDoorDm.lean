/- moment: clockText, dayText, printable, PrintInternal, PrintDay. -/
import Derived.Test.YtckdmbeokajdjaaGreatDoorDl
import Derived.Test.YtckdmbeokajdjaaGreatDoorDf
namespace Go.Proofs.YtckdmbeokajdjaaGreatDoor
open Go.RowKit

theorem S1.env {w : World} {b : Nat} {y m d h n s z : Int} {X : World} (k : S1 w b y m d h n s z X) : Env X ∧ Below w.heap.size w X := by
  obtain ⟨_, _, _, _, _, _, _, he, hw⟩ := k
  exact ⟨he, hw⟩
def clockL (h n s : Nat) : List UInt8 := pad2 h ++ [58] ++ pad2 n ++ [58] ++ pad2 s
structure ClockF (w : World) (b : Nat) (y m d z : Int) (h n s : Nat) (a1 a2 a3 : ByteArray) : Prop where
  p1 : ∀ X, S1 w b y m d h n s z X → Calls Tryz.prog 39 #[.int .i64 h, .int .i64 2] X fun e w' => e = .returned (.string a1) ∧ S1 w b y m d h n s z w'
  p2 : ∀ X, S1 w b y m d h n s z X → Calls Tryz.prog 39 #[.int .i64 n, .int .i64 2] X fun e w' => e = .returned (.string a2) ∧ S1 w b y m d h n s z w'
  p3 : ∀ X, S1 w b y m d h n s z X → Calls Tryz.prog 39 #[.int .i64 s, .int .i64 2] X fun e w' => e = .returned (.string a3) ∧ S1 w b y m d h n s z w'
set_option maxRecDepth 100000 in
set_option maxHeartbeats 2000000 in
theorem clockText_any (y m d z : Int) (h n s : Nat) (w : World) (he : Env w) (hh : h < 100) (hn : n < 100) (hs : s < 100) :
    Calls Tryz.prog 18 #[mom y m d h n s z] w fun e w' => e = .returned (.string (S (clockL h n s))) ∧ Below w.heap.size w w' := by
  have hF : ClockF w w.heap.size y m d z h n s (S (pad2 h)) (S (pad2 n)) (S (pad2 s)) :=
    ⟨fun X hX => (padded2 h X hX.env.1 hh).mono fun e w' ⟨k1, k2⟩ => ⟨k1, hX.on k2⟩,
     fun X hX => (padded2 n X hX.env.1 hn).mono fun e w' ⟨k1, k2⟩ => ⟨k1, hX.on k2⟩,
     fun X hX => (padded2 s X hX.env.1 hs).mono fun e w' ⟨k1, k2⟩ => ⟨k1, hX.on k2⟩⟩
  have HA : Hid (S (pad2 h) ++ (⟨#[58]⟩ : ByteArray) ++ S (pad2 n) ++ (⟨#[58]⟩ : ByteArray) ++ S (pad2 s) = S (clockL h n s)) := Lib.hid (by
    rw [show (⟨#[58]⟩ : ByteArray) = S [58] from rfl, S_app, S_app, S_app, S_app]; rfl)
  have z1 : (S (pad2 h)).size = 2 := rfl
  have z2 : (S (pad2 n)).size = 2 := rfl
  have z3 : (S (pad2 s)).size = 2 := rfl
  have st : S1 w w.heap.size y m d h n s z (w.alloc (.cells #[.int .i64 y, .int .i64 m, .int .i64 d, .int .i64 h, .int .i64 n, .int .i64 s, .int .i64 z] 23)) := S1.mk' (cells7_new w y m d h n s z _) (he.on ((Below.refl _ _).alloc (Nat.le_refl _) _)) ((Below.refl _ _).alloc (Nat.le_refl _) _)
  have st' := st.on (Below.refl _ _).drew
  generalize S (pad2 h) = a1 at *
  generalize S (pad2 n) = a2 at *
  generalize S (pad2 s) = a3 at *
  clear he st hh hn hs
  unfold mom
  go_enter Tryz.func18, Tryz.ntmps18
  go_wp2
  first | (go_region_held3 (fun X => X.cell? ⟨w.heap.size, 0, none⟩ = some (.int .i64 y) ∧ X.cell? ⟨w.heap.size, 1, none⟩ = some (.int .i64 m) ∧ X.cell? ⟨w.heap.size, 2, none⟩ = some (.int .i64 d) ∧ X.cell? ⟨w.heap.size, 3, none⟩ = some (.int .i64 (h : Int)) ∧ X.cell? ⟨w.heap.size, 4, none⟩ = some (.int .i64 (n : Int)) ∧ X.cell? ⟨w.heap.size, 5, none⟩ = some (.int .i64 (s : Int)) ∧ X.cell? ⟨w.heap.size, 6, none⟩ = some (.int .i64 z) ∧ Env X ∧ Below w.heap.size w X) (first | exact st' | assumption) (first | (go_at_call_of 39 (h : Int); refine (hF.p1 _ ?_).mono ?_; assumption; rintro e w2 ⟨rfl, hs2⟩) | (go_at_call_of 39 (n : Int); refine (hF.p2 _ ?_).mono ?_; assumption; rintro e w3 ⟨rfl, hs3⟩) | (go_at_call_of 39 (s : Int); refine (hF.p3 _ ?_).mono ?_; assumption; rintro e w4 ⟨rfl, hs4⟩))) | fail
  go_wp2
  go_ret
  exact ⟨ret_str HA.out, hs4.env.2⟩
end Go.Proofs.YtckdmbeokajdjaaGreatDoor
