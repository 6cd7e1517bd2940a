/- span: an end, a piece, a piece settled, where a piece lies. -/
import Derived.Test.YtlmlbcnjohjnlaaDoorProg
import Derived.Test.YtlmlbcnjohjnlaaDoorPu
import Derived.Test.YtlmlbcnjohjnlaaDoorVa
import Derived.Handy
import Derived.Laws.ResultCell
import Derived.Laws.CopyOwn
namespace Go.Proofs.YtlmlbcnjohjnlaaDoor
open Go.RowKit

set_option maxHeartbeats 400000 in
theorem isEnd_any (x : Int) (w : World) :
    Calls Tryd.prog 84 #[.int .i64 x] w fun e w' => e = .returned (.bool (endB x)) ∧ w' = w := by
  by_cases h : 0 ≤ x
  · go_enter Tryd.func84, Tryd.ntmps84
    go_wp2
    go_ret
    exact ⟨ret_bool (by simp [endB, h]), rfl⟩
  · go_enter Tryd.func84, Tryd.ntmps84
    go_wp2
    go_ret
    exact ⟨ret_bool (by simp [endB]; omega), rfl⟩

abbrev rgV (a b : Int) : Value := .agg #[.int .i64 a, .int .i64 b]
set_option maxHeartbeats 400000 in
theorem isPiece_any (a b : Int) (w : World) :
    Calls Tryd.prog 81 #[rgV a b] w fun e w' => e = .returned (.bool (pieceB (a, b))) ∧ Below w.heap.size w w' := by
  have HP : Hid (pieceB (a, b) = (endB a && endB b)) := Lib.hid rfl
  generalize pieceB (a, b) = r at *
  cases ha : endB a with
  | true =>
    rw [ha, Bool.true_and] at HP
    go_enter Tryd.func81, Tryd.ntmps81
    go_wp2_with (go_at_call 84; refine (isEnd_any _ _).mono ?_; rintro e w' ⟨rfl, rfl⟩)
    go_ret
    exact ⟨ret_bool HP.out.symm, (Below.refl _ _).alloc (Nat.le_refl _) _⟩
  | false =>
    rw [ha, Bool.false_and] at HP
    go_enter Tryd.func81, Tryd.ntmps81
    go_wp2_with (go_at_call 84; refine (isEnd_any _ _).mono ?_; rintro e w' ⟨rfl, rfl⟩)
    go_ret
    exact ⟨ret_bool HP.out.symm, (Below.refl _ _).alloc (Nat.le_refl _) _⟩

def sideI (a b n : Int) : Int := if b < n then -1 else if n < a then 1 else 0
set_option maxHeartbeats 400000 in
theorem sideOf_any (a b n : Int) (w : World) :
    Calls Tryd.prog 82 #[rgV a b, .int .i64 n] w fun e w' => e = .returned (.int .i64 (sideI a b n)) ∧ Below w.heap.size w w' := by
  unfold sideI
  by_cases h1 : b < n
  · go_enter Tryd.func82, Tryd.ntmps82
    go_wp2
    go_ret
    exact ⟨rfl, (Below.refl _ _).alloc (Nat.le_refl _) _⟩
  · by_cases h2 : n < a
    · go_enter Tryd.func82, Tryd.ntmps82
      go_wp2
      go_ret
      exact ⟨rfl, (Below.refl _ _).alloc (Nat.le_refl _) _⟩
    · go_enter Tryd.func82, Tryd.ntmps82
      go_wp2
      go_ret
      exact ⟨rfl, (Below.refl _ _).alloc (Nat.le_refl _) _⟩

set_option maxHeartbeats 400000 in
theorem rising_any (a b : Int) (w : World) :
    Calls Tryd.prog 85 #[rgV a b] w fun e w' => e = .returned (rgV (min a b) (max a b)) ∧ Below w.heap.size w w' := by
  rcases Int.lt_trichotomy a b with h | h | h
  · rw [Int.min_eq_left (by omega), Int.max_eq_right (by omega)]
    go_enter Tryd.func85, Tryd.ntmps85
    go_wp2
    exact bodyPost_ret (v := rgV a b) (by simp [results, Tryd.results85, go_sem]) rfl ⟨rfl, ((Below.refl _ _).alloc (Nat.le_refl _) _).alloc (by simp) _⟩
  · subst h
    rw [Int.min_self, Int.max_self]
    go_enter Tryd.func85, Tryd.ntmps85
    go_wp2
    exact bodyPost_ret (v := rgV a a) (by simp [results, Tryd.results85, go_sem]) rfl ⟨rfl, ((Below.refl _ _).alloc (Nat.le_refl _) _).alloc (by simp) _⟩
  · rw [Int.min_eq_right (by omega), Int.max_eq_left (by omega)]
    go_enter Tryd.func85, Tryd.ntmps85
    go_wp2
    exact bodyPost_ret (v := rgV b a) (by simp [results, Tryd.results85, go_sem]) rfl ⟨rfl, ((Below.refl _ _).alloc (Nat.le_refl _) _).alloc (by simp) _⟩

theorem bcell {W w1 : World} (hb : Below W.heap.size W w1) : (∀ b o, b < W.heap.size → w1.cell? ⟨b, o, none⟩ = W.cell? ⟨b, o, none⟩) ∧ (∀ b o, b < W.heap.size → w1.frozen? ⟨b, o, none⟩ = W.frozen? ⟨b, o, none⟩) :=
  ⟨fun b o h => hb.cell (p := ⟨b, o, none⟩) h, fun b o h => hb.frozen (p := ⟨b, o, none⟩) h⟩
set_option maxHeartbeats 400000 in
theorem settled_any (a b g : Int) (w : World) :
    Calls Tryd.prog 83 #[rgV a b, .int .i64 g] w fun e w' => e = .returned (rgV (setl (a, b) g).1 (setl (a, b) g).2) ∧ Below w.heap.size w w' := by
  unfold setl starI
  by_cases h1 : a = 0 <;> by_cases h2 : b = 0
  all_goals
    (first | rw [if_pos h1] | rw [if_neg h1])
    (first | rw [if_pos h2] | rw [if_neg h2])
    (try subst h1)
    (try subst h2)
    (try (have h1' : (a == 0) = false := by simpa using h1))
    (try (have h2' : (b == 0) = false := by simpa using h2))
    (try clear h1)
    (try clear h2)
    go_enter Tryd.func83, Tryd.ntmps83
    go_wp2_with (go_at_call 85; refine (rising_any _ _ _).mono ?_; rintro e w1 ⟨rfl, hb⟩; obtain ⟨hc, hf⟩ := bcell hb; have hz : w.heap.size + 1 < w1.heap.size := by (have := hb.size; simp at this; omega))
    refine bodyPost_ret (v := rgV _ _) (by simp [results, Tryd.results83, go_sem, hc]) rfl ⟨rfl, ?_⟩
    refine ((Below.trans ?_ (hb.mono (by simp; omega))).setCell (by simp) _).setCell (by simp) _
    repeat (first | exact Below.refl _ _ | refine Below.alloc ?_ (by simp) _ | refine Below.setCell ?_ (by simp) _)

/-- What Has's closure reads: the two numbers that it caught. -/
abbrev hasS (w : World) (bn bg bp : Nat) (a b n g : Int) : World → Prop := fun X => X.cell? ⟨bn, 0, none⟩ = some (.int .i64 n) ∧ X.cell? ⟨bg, 0, none⟩ = some (.int .i64 g) ∧ X.cell? ⟨bp, 0, none⟩ = some (.int .i64 a) ∧ X.cell? ⟨bp, 1, none⟩ = some (.int .i64 b) ∧ Below w.heap.size w X ∧ bn < X.heap.size ∧ bg < X.heap.size ∧ bp < X.heap.size
theorem hasS.on {w : World} {bn bg bp : Nat} {a b n g : Int} {X Y : World} (h : hasS w bn bg bp a b n g X) (hb : Below X.heap.size X Y) : hasS w bn bg bp a b n g Y := by
  obtain ⟨h1, h2, h3, h4, h5, h6, h7, h8⟩ := h
  have := hb.size
  exact ⟨by rw [hb.cell (p := ⟨bn, 0, none⟩) h6]; exact h1, by rw [hb.cell (p := ⟨bg, 0, none⟩) h7]; exact h2, by rw [hb.cell (p := ⟨bp, 0, none⟩) h8]; exact h3, by rw [hb.cell (p := ⟨bp, 1, none⟩) h8]; exact h4, h5.trans (hb.mono h5.size), by omega, by omega, by omega⟩
end Go.Proofs.YtlmlbcnjohjnlaaDoor
