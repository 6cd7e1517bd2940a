/- span: Has. -/
import Derived.Test.YtlmlbcnjohjnlaaDoorVb
import Derived.Deep.RegionHeld3
import Derived.Deep.RegionWith
import Derived.Deep.LoopGhost
namespace Go.Proofs.YtlmlbcnjohjnlaaDoor
open Go.RowKit

def hitB (a b n g : Int) : Bool := pieceB (a, b) && inB (setl (a, b) g) n
theorem side_zero (p : Rg) (n : Int) : (sideI p.1 p.2 n == 0) = inB p n := by
  unfold sideI inB
  by_cases h1 : p.2 < n
  · rw [if_pos h1]; simp; omega
  · rw [if_neg h1]
    by_cases h2 : n < p.1
    · rw [if_pos h2]; simp; omega
    · rw [if_neg h2]; simp; omega
set_option maxRecDepth 100000 in
set_option maxHeartbeats 1000000 in
theorem hasC_any (a b n g : Int) (bn bg : Nat) (w : World) (hn : w.cell? ⟨bn, 0, none⟩ = some (.int .i64 n)) (hg : w.cell? ⟨bg, 0, none⟩ = some (.int .i64 g)) :
    Calls Tryd.prog 80 #[rgV a b, .pointer (some ⟨bg, 0, none⟩), .pointer (some ⟨bn, 0, none⟩)] w fun e w' => e = .returned (.bool (hitB a b n g)) ∧ Below w.heap.size w w' := by
  have ln : bn < w.heap.size := block_lt_of_cell hn
  have lg : bg < w.heap.size := block_lt_of_cell hg
  have hI := Lib.hid (fun X (hX : hasS w bn bg w.heap.size a b n g X) => (isPiece_any a b X).mono (fun e w' ⟨h1, h2⟩ => (⟨h1, hasS.on hX h2⟩ : _ ∧ hasS w bn bg w.heap.size a b n g w')))
  have hS := Lib.hid (fun X (hX : hasS w bn bg w.heap.size a b n g X) => (settled_any a b g X).mono (fun e w' ⟨h1, h2⟩ => (⟨h1, hasS.on hX h2⟩ : _ ∧ hasS w bn bg w.heap.size a b n g w')))
  have hO := Lib.hid (fun X (hX : hasS w bn bg w.heap.size a b n g X) => (sideOf_any (setl (a, b) g).1 (setl (a, b) g).2 n X).mono (fun e w' ⟨h1, h2⟩ => (⟨h1, hasS.on hX h2⟩ : _ ∧ hasS w bn bg w.heap.size a b n g w')))
  have HH : Hid (hitB a b n g = (pieceB (a, b) && (sideI (setl (a, b) g).1 (setl (a, b) g).2 n == 0))) := Lib.hid (by rw [side_zero]; rfl)
  have H0 : Hid (hasS w bn bg w.heap.size a b n g (w.alloc (.cells #[.int .i64 a, .int .i64 b] 91)).drew) := Lib.hid (by
    refine hasS.on (X := w.alloc (.cells #[.int .i64 a, .int .i64 b] 91)) ⟨?_, ?_, by simp, by simp, (Below.refl _ _).alloc (Nat.le_refl _) _, by simp; omega, by simp; omega, by simp⟩ (Below.refl _ _).drew
    · rw [World.cell?_alloc_old _ _ _ (Nat.ne_of_lt ln)]; exact hn
    · rw [World.cell?_alloc_old _ _ _ (Nat.ne_of_lt lg)]; exact hg)
  clear hn hg
  generalize hitB a b n g = r at *
  generalize (setl (a, b) g).1 = x at *
  generalize (setl (a, b) g).2 = y at *
  generalize sideI x y n = q at *
  cases hp : pieceB (a, b) with
  | true =>
    rw [hp] at hI HH
    rw [Bool.true_and] at HH
    clear hp
    go_enter Tryd.func80, Tryd.ntmps80
    go_wp2_with fail
    go_region_held3 (hasS w bn bg w.heap.size a b n g) (first | with_reducible exact H0.out | with_reducible assumption) (first | (go_at_call 81; with_reducible refine (hI.out _ ?_).mono ?_; with_reducible assumption; rintro e w1 ⟨rfl, h1⟩) | (go_at_call 83; with_reducible refine (hS.out _ ?_).mono ?_; with_reducible assumption; rintro e w2 ⟨rfl, h2⟩) | (go_at_call 82; with_reducible refine (hO.out _ ?_).mono ?_; with_reducible assumption; rintro e w3 ⟨rfl, h3⟩))
    go_wp2_with fail
    go_ret
    exact ⟨ret_bool HH.out.symm, h3.2.2.2.2.1⟩
  | false =>
    rw [hp] at hI HH
    rw [Bool.false_and] at HH
    clear hp
    go_enter Tryd.func80, Tryd.ntmps80
    go_wp2_with fail
    go_region_with (go_at_call 81; with_reducible refine (hI.out _ ?_).mono ?_; with_reducible exact H0.out; rintro e w1 ⟨rfl, h1⟩)
    all_goals
      go_wp2_with fail
      go_ret
      exact ⟨ret_bool HH.out.symm, h1.2.2.2.2.1⟩

end Go.Proofs.YtlmlbcnjohjnlaaDoor
