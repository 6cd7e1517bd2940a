/- mirror: whether an answer ends the picture. -/
import Derived.Test.YtfcpmiafliegiaaDoorM19e
namespace Go.Proofs.YtfcpmiafliegiaaDoor
open Go.RowKit

def ownBad (a : AN) : Bool := a.k == 1 && !a.tag.toList.isEmpty && a.out == 3
set_option maxRecDepth 20000 in
set_option maxHeartbeats 2000000 in
theorem begins_any (P : Nat) (q : Value) (bg : Bool) (k : Option AK) (a : AN) (w : World) (hq : w.cell? ⟨P, 0, none⟩ = some q) (h7 : w.cell? ⟨P, 7, none⟩ = some (.bool bg)) (hP : P < w.heap.size) (hh : Hand w q k) :
    Calls Tryd.prog 21 #[.pointer (some ⟨P, 0, none⟩), .agg (anC a)] w fun e w' => e = .returned (.bool (opn k && !bg && !ownBad a)) ∧ Below w.heap.size w w' := by
  have q1 : Below w.heap.size w (w.alloc (anO a)) := (Below.refl _ _).alloc (Nat.le_refl _) _
  obtain ⟨Y, hY⟩ : ∃ Y, w.alloc (anO a) = Y := ⟨_, rfl⟩
  have r0 : Y.heap[w.heap.size]? = some (anO a) := by rw [← hY]; exact heap_new _ _
  rw [hY] at q1
  obtain ⟨c0, c1, c2, _, _, _⟩ := an_cells r0
  have HI : Hid (Calls Tryd.prog 28 #[.pointer (some ⟨P, 0, none⟩)] Y fun e w' => e = .returned (.bool (opn k)) ∧ Below Y.heap.size Y w') := Lib.hid (isOpening_any P q k Y (by rw [q1.cell (p := ⟨P, 0, none⟩) hP]; exact hq) (Nat.lt_of_lt_of_le hP q1.size) (hh.on q1))
  have H7 : Hid (∀ X, Below Y.heap.size Y X → X.cell? ⟨P, 7, none⟩ = some (.bool bg)) := Lib.hid (fun X hX => by rw [hX.cell (p := ⟨P, 7, none⟩) (Nat.lt_of_lt_of_le hP q1.size), q1.cell (p := ⟨P, 7, none⟩) hP]; exact h7)
  have Q1 := Lib.hid q1
  have HY := Lib.hid hY
  obtain ⟨ob, hob⟩ : ∃ ob, opn k = ob := ⟨_, rfl⟩
  rw [hob] at HI ⊢
  obtain ⟨bd, hbd⟩ : ∃ bd, ownBad a = bd := ⟨_, rfl⟩
  rw [hbd]
  unfold ownBad at hbd
  clear hY q1 r0 hq h7 hh hob
  unfold anO at HY
  obtain ⟨x1, hx1⟩ : ∃ x, (a.k == 1) = x := ⟨_, rfl⟩
  obtain ⟨x2, hx2⟩ : ∃ x, a.tag.toList.isEmpty = x := ⟨_, rfl⟩
  obtain ⟨x3, hx3⟩ : ∃ x, (a.out == 3) = x := ⟨_, rfl⟩
  rw [hx1, hx2, hx3] at hbd
  subst hbd
  cases x1 <;> cases x2 <;> cases x3 <;> cases ob <;> cases bg <;> (
    simp only [Bool.and_true, Bool.and_false, Bool.not_true, Bool.not_false]
    go_enter Tryd.func21, Tryd.ntmps21
    go_upto_region 1 with fail
    rw [HY.out]
    clear HY
    go_wp2_with (go_at_call 28; refine HI.out.mono ?_; rintro e w3 ⟨rfl, hb3⟩; have d7 := H7.out _ hb3; have HB3 := Lib.hid hb3; clear hb3)
    go_ret
    first | exact ⟨rfl, Q1.out.trans (HB3.out.mono Q1.out.size)⟩ | exact Q1.out.trans (HB3.out.mono Q1.out.size))
end Go.Proofs.YtfcpmiafliegiaaDoor
