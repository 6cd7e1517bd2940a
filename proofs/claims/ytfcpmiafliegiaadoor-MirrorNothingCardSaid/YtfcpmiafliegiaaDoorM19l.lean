/- mirror: states; an answer is heard. -/
import Derived.Test.YtfcpmiafliegiaaDoorM19f
import Derived.Test.YtfcpmiafliegiaaDoorM19g
import Derived.Test.YtfcpmiafliegiaaDoorM19k
namespace Go.Proofs.YtfcpmiafliegiaaDoor
open Go.RowKit

set_option maxRecDepth 20000 in
set_option maxHeartbeats 2000000 in
theorem state_tag (P : Nat) (a : AN) (ht : a.tag.toList.isEmpty = false) (ho : a.out = 1) (w : World) (R : Value → World → World → Prop) (H0 : ∀ X, Below w.heap.size w X → Calls Tryd.prog 38 #[.pointer (some ⟨P, 0, none⟩), .agg (anC a)] X fun e w' => ∃ v, e = .returned v ∧ R v X w') :
    Calls Tryd.prog 30 #[.pointer (some ⟨P, 0, none⟩), .agg (anC a)] w fun e w' => ∃ v, e = .returned v ∧ ∃ X, Below w.heap.size w X ∧ R v X w' := by
  have H := Lib.hid H0
  have q2 := two_below w (mpO P) (anO a)
  obtain ⟨Y, hY⟩ : ∃ Y, (w.alloc (mpO P)).alloc (anO a) = Y := ⟨_, rfl⟩
  rw [hY] at q2
  have r0 : Y.heap[w.heap.size]? = some (mpO P) := by rw [← hY, Below.heap_alloc _ _ _ (by simp)]; exact heap_new _ _
  have r1 : Y.heap[w.heap.size + 1]? = some (anO a) := by rw [← hY]; have := heap_new (w.alloc (mpO P)) (anO a); rw [show (w.alloc (mpO P)).heap.size = w.heap.size + 1 from by simp] at this; exact this
  have p0 : Y.cell? ⟨w.heap.size, 0, none⟩ = some (.pointer (some ⟨P, 0, none⟩)) := by unfold mpO at r0; exact cell_of r0 0
  obtain ⟨_, x1, x2, _, _, _⟩ := an_cells r1
  rw [ho] at x2
  have HC : Hid (Y.rangeAt (w.heap.size + 1) 0 (anC a).toList) := Lib.hid (an_range r1)
  have Q2 := Lib.hid q2
  have HY := Lib.hid hY
  clear H0 q2 hY r0 r1 ho
  unfold anO mpO at HY
  go_enter Tryd.func30, Tryd.ntmps30
  go_upto_region 1 with fail
  rw [HY.out]
  clear HY
  go_wp2_with (first | (refine wpList_load_mid rfl 43 _ rfl (w.heap.size + 1) 0 rfl _ _ HC.out Tryd.underlying43 rfl Tryd.sizeAn ?_) | (go_at_call 38; refine (H.out _ Q2.out).mono ?_; rintro e w4 ⟨v, rfl, hr⟩; have HR := Lib.hid hr; clear hr))
  go_ret
  exact ⟨v, rfl, _, Q2.out, HR.out⟩
set_option maxRecDepth 20000 in
set_option maxHeartbeats 2000000 in
theorem state_ok (P : Nat) (a : AN) (ht : a.tag.toList.isEmpty = true) (ho : a.out = 1) (w : World) (R : Value → World → World → Prop) (H0 : ∀ X, Below w.heap.size w X → Calls Tryd.prog 40 #[.pointer (some ⟨P, 0, none⟩), .agg (anC a)] X fun e w' => ∃ v, e = .returned v ∧ R v X w') :
    Calls Tryd.prog 30 #[.pointer (some ⟨P, 0, none⟩), .agg (anC a)] w fun e w' => ∃ v, e = .returned v ∧ ∃ X, Below w.heap.size w X ∧ R v X w' := by
  have H := Lib.hid H0
  have q2 := two_below w (mpO P) (anO a)
  obtain ⟨Y, hY⟩ : ∃ Y, (w.alloc (mpO P)).alloc (anO a) = Y := ⟨_, rfl⟩
  rw [hY] at q2
  have r0 : Y.heap[w.heap.size]? = some (mpO P) := by rw [← hY, Below.heap_alloc _ _ _ (by simp)]; exact heap_new _ _
  have r1 : Y.heap[w.heap.size + 1]? = some (anO a) := by rw [← hY]; have := heap_new (w.alloc (mpO P)) (anO a); rw [show (w.alloc (mpO P)).heap.size = w.heap.size + 1 from by simp] at this; exact this
  have p0 : Y.cell? ⟨w.heap.size, 0, none⟩ = some (.pointer (some ⟨P, 0, none⟩)) := by unfold mpO at r0; exact cell_of r0 0
  obtain ⟨_, x1, x2, _, _, _⟩ := an_cells r1
  rw [ho] at x2
  have HC : Hid (Y.rangeAt (w.heap.size + 1) 0 (anC a).toList) := Lib.hid (an_range r1)
  have Q2 := Lib.hid q2
  have HY := Lib.hid hY
  clear H0 q2 hY r0 r1 ho
  unfold anO mpO at HY
  go_enter Tryd.func30, Tryd.ntmps30
  go_upto_region 1 with fail
  rw [HY.out]
  clear HY
  go_wp2_with (first | (refine wpList_load_mid rfl 43 _ rfl (w.heap.size + 1) 0 rfl _ _ HC.out Tryd.underlying43 rfl Tryd.sizeAn ?_) | (go_at_call 40; refine (H.out _ Q2.out).mono ?_; rintro e w4 ⟨v, rfl, hr⟩; have HR := Lib.hid hr; clear hr))
  go_ret
  exact ⟨v, rfl, _, Q2.out, HR.out⟩
end Go.Proofs.YtfcpmiafliegiaaDoor
