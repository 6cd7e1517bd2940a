/- The statement LexTexts: the walk. -/
import Derived.Test.YtmpbbkjdfneklaaDoorXw
import Derived.Deep.RegionHeld3
namespace Go.Proofs.YtmpbbkjdfneklaaDoor
open Go.RowKit

/-- What holds while the law's last row is reckoned. -/
def TS (w : World) (b : Bool) (s : ByteArray) (X : World) : Prop :=
  X.cell? ⟨w.heap.size, 0, none⟩ = some (.bool b) ∧ X.cell? ⟨w.heap.size, 1, none⟩ = some (.string s) ∧ Env X ∧ Below w.heap.size w X
theorem TS.on {w : World} {b : Bool} {s : ByteArray} {X Y : World} (h : TS w b s X) (hb : Below X.heap.size X Y) : TS w b s Y := by
  obtain ⟨h1, h2, h3, h4⟩ := h
  refine ⟨?_, ?_, h3.on hb, h4.trans (hb.mono h4.size)⟩
  · rw [hb.cell (p := ⟨w.heap.size, 0, none⟩) (block_lt_of_cell h1)]; exact h1
  · rw [hb.cell (p := ⟨w.heap.size, 1, none⟩) (block_lt_of_cell h2)]; exact h2
structure TF (w : World) (b : Bool) (s a c d : ByteArray) : Prop where
  p1 : ∀ X, TS w b s X → Calls Tryd.prog 9 #[.string s] X fun e w' => e = .returned (.string a) ∧ TS w b s w'
  p2 : ∀ X, TS w b s X → Calls Tryd.prog 10 #[.string s] X fun e w' => e = .returned (.string a) ∧ TS w b s w'
  p3 : ∀ X, TS w b s X → Calls Tryd.prog 8 #[.string s] X fun e w' => e = .returned (.string c) ∧ TS w b s w'
  p4 : ∀ X, TS w b s X → Calls Tryd.prog 11 #[.string s] X fun e w' => e = .returned (.string c) ∧ TS w b s w'
  p5 : ∀ X, TS w b s X → Calls Tryd.prog 12 #[.agg #[.bool b, .string s]] X fun e w' => e = .returned (.string d) ∧ TS w b s w'
  p6 : ∀ X, TS w b s X → Calls Tryd.prog 13 #[.agg #[.bool b, .string s]] X fun e w' => e = .returned (.string d) ∧ TS w b s w'
  p7 : ∀ X, TS w b s X → Calls Tryd.prog 8 #[.string ⟨#[73, 78, 66, 79, 88]⟩] X fun e w' => e = .returned (.string ⟨#[73, 78, 66, 79, 88]⟩) ∧ TS w b s w'
set_option maxRecDepth 100000 in
set_option maxHeartbeats 4000000 in
theorem LexTexts_walk (s : ByteArray) (b : Bool) (w : World) (he : Env w) (hs : s.size ≤ 1048576) :
    Calls Tryd.prog 4 #[.string s, .bool b] w fun e w' => e = .returned (.bool true) ∧ Below w.heap.size w w' := by
  have hF : TF w b s (S (strL (L s))) (S (putL (L s))) (S (nstrL b (L s))) :=
    ⟨fun X hX => (lString_any s X hX.2.2.1 hs).mono fun e w' ⟨k1, k2⟩ => ⟨k1, hX.on k2⟩,
     fun X hX => (rString_any s X hs).mono fun e w' ⟨k1, k2⟩ => ⟨k1, hX.on k2⟩,
     fun X hX => (lPut_any s X hX.2.2.1 hs).mono fun e w' ⟨k1, k2⟩ => ⟨k1, hX.on k2⟩,
     fun X hX => (rPut_any s X hs).mono fun e w' ⟨k1, k2⟩ => ⟨k1, hX.on k2⟩,
     fun X hX => (lNstring_any b s X hX.2.2.1 hs).mono fun e w' ⟨k1, k2⟩ => ⟨k1, hX.on k2⟩,
     fun X hX => (rNstring_any b s X hs).mono fun e w' ⟨k1, k2⟩ => ⟨k1, hX.on k2⟩,
     fun X hX => (lPut_any ⟨#[73, 78, 66, 79, 88]⟩ X hX.2.2.1 (by decide)).mono fun e w' ⟨k1, k2⟩ => ⟨k1, hX.on k2⟩⟩
  have hb0 : Below w.heap.size w (w.alloc (.cells #[.bool b, .string s] 26)) := (Below.refl _ _).alloc (Nat.le_refl _) _
  have st0 : TS w b s (w.alloc (.cells #[.bool b, .string s] 26)) := ⟨by simp, by simp, he.on hb0, hb0⟩
  have st' : Hid (TS w b s (w.alloc (.cells #[.bool b, .string s] 26)).drew) := Lib.hid (st0.on (Below.refl _ _).drew)
  generalize S (strL (L s)) = a at *
  generalize S (putL (L s)) = c at *
  generalize S (nstrL b (L s)) = d at *
  clear he hb0 st0
  go_enter Tryd.func4, Tryd.ntmps4
  go_wp2
  first | (go_region_held3 (fun X => X.cell? ⟨w.heap.size, 0, none⟩ = some (.bool b) ∧ X.cell? ⟨w.heap.size, 1, none⟩ = some (.string s) ∧ Env X ∧ Below w.heap.size w X) (first | exact st'.out | assumption) (first | (go_at_call 9; refine (hF.p1 _ ?_).mono ?_; assumption; rintro e w1 ⟨rfl, hs1⟩) | (go_at_call 10; refine (hF.p2 _ ?_).mono ?_; assumption; rintro e w2 ⟨rfl, hs2⟩) | (go_at_call 11; refine (hF.p4 _ ?_).mono ?_; assumption; rintro e w4 ⟨rfl, hs4⟩) | (go_at_call 12; refine (hF.p5 _ ?_).mono ?_; assumption; rintro e w5 ⟨rfl, hs5⟩) | (go_at_call 13; refine (hF.p6 _ ?_).mono ?_; assumption; rintro e w6 ⟨rfl, hs6⟩) | (go_at_call 8; with_reducible refine (hF.p3 _ ?_).mono ?_; assumption; rintro e w3 ⟨rfl, hs3⟩) | (go_at_call 8; with_reducible refine (hF.p7 _ ?_).mono ?_; assumption; rintro e w7 ⟨rfl, hs7⟩))) | fail
  go_wp2
  go_ret
  exact ⟨rfl, hs7.2.2.2⟩
end Go.Proofs.YtmpbbkjdfneklaaDoor
