/- mirror: an answer is heard. -/
import Derived.Test.YtlmlbcnjohjnlaaDoorM19f
import Derived.Test.YtlmlbcnjohjnlaaDoorM19h
namespace Go.Proofs.YtlmlbcnjohjnlaaDoor
open Go.RowKit

theorem Tryd.eqFn3 (fn : Nat) (c : Array Value) (w : World) : (binOp .eql 1 (.func (.func fn) #[] c) .nilFunc).run Tryd.prog w = .ok (.bool false) w := by kernel_rfl
theorem Tryd.eqNil3 (w : World) : (binOp .eql 1 .nilFunc .nilFunc).run Tryd.prog w = .ok (.bool true) w := by kernel_rfl
set_option maxRecDepth 20000 in
set_option maxHeartbeats 2000000 in
theorem Hear_deny (P : Nat) (a : AN) (w : World) (HC0 : Calls Tryd.prog 20 #[.pointer (some ⟨P, 0, none⟩), .agg (anC a)] (w.alloc (anO a)) fun e w' => e = .returned .nilFunc ∧ Below (w.alloc (anO a)).heap.size (w.alloc (anO a)) w') :
    Calls Tryd.prog 9 #[.pointer (some ⟨P, 0, none⟩), .agg (anC a)] w fun e w' => e = .returned (.int .i64 190) ∧ Below w.heap.size w w' := by
  have HC := Lib.hid HC0
  have eqn := Tryd.eqNil3
  obtain ⟨Y, hY⟩ : ∃ Y, w.alloc (anO a) = Y := ⟨_, rfl⟩
  have b1 : Below w.heap.size w Y := by rw [← hY]; exact (Below.refl _ _).alloc (Nat.le_refl _) _
  rw [hY] at HC
  have r1 : Y.heap[w.heap.size]? = some (anO a) := by rw [← hY]; exact heap_new _ _
  have HR1 : Hid (Y.rangeAt w.heap.size 0 (anC a).toList) := Lib.hid (an_range r1)
  have HY := Lib.hid hY
  have B1 := Lib.hid b1
  clear hY r1 HC0 b1
  unfold anO at HY
  go_enter Tryd.func9, Tryd.ntmps9
  go_upto_region 1 with fail
  rw [HY.out]
  clear HY
  go_wp2_with (first | (refine wpList_load_mid rfl 43 _ rfl w.heap.size 0 rfl _ _ HR1.out Tryd.underlying43 rfl Tryd.sizeAn ?_) | (go_at_call 20; refine HC.out.mono ?_; rintro e w2 ⟨rfl, hc⟩; have HC2 := Lib.hid hc; clear hc))
  go_ret
  first | exact ⟨rfl, B1.out.trans (HC2.out.mono B1.out.size)⟩ | exact B1.out.trans (HC2.out.mono B1.out.size)
set_option maxRecDepth 20000 in
set_option maxHeartbeats 2000000 in
theorem Hear_exists (P : Nat) (a : AN) (w : World) (C D E : Nat → Nat → World → Prop) (F : World → Prop)
    (HC0 : Calls Tryd.prog 20 #[.pointer (some ⟨P, 0, none⟩), .agg (anC a)] (w.alloc (anO a)) fun e w' => ∃ b0 b1, e = .returned (fnV 42 #[.pointer (some ⟨b0, 0, none⟩), .pointer (some ⟨b1, 0, none⟩)]) ∧ C b0 b1 w')
    (HA0 : ∀ b0 b1 X, C b0 b1 X → X.heap[w.heap.size]? = some (anO a))
    (HB0 : ∀ b0 b1 X, C b0 b1 X → Calls Tryd.prog 21 #[.pointer (some ⟨P, 0, none⟩), .agg (anC a)] X fun e w' => e = .returned (.bool true) ∧ D b0 b1 w')
    (HP0 : ∀ b0 b1 X, D b0 b1 X → ∃ q sel v n h rows was bg, X.heap[P]? = some (mirO q sel v n h rows was bg) ∧ ∀ X', X'.heap[P]? = some (mirO q false 0 0 0 (.slice none 0 0) (.map none) true) → Stays [P] X X' → E b0 b1 X')
    (HD0 : ∀ b0 b1 X, E b0 b1 X → Calls Tryd.prog 42 #[.pointer (some ⟨b0, 0, none⟩), .pointer (some ⟨b1, 0, none⟩)] X fun e w' => e = .returned (.tuple #[]) ∧ F w') :
    Calls Tryd.prog 9 #[.pointer (some ⟨P, 0, none⟩), .agg (anC a)] w fun e w' => e = .returned (.int .i64 0) ∧ F w' := by
  have HC := Lib.hid HC0
  have HA := Lib.hid HA0
  have HB := Lib.hid HB0
  have HP := Lib.hid HP0
  have HD := Lib.hid HD0
  have eqf := Tryd.eqFn3
  obtain ⟨Y, hY⟩ : ∃ Y, w.alloc (anO a) = Y := ⟨_, rfl⟩
  rw [hY] at HC
  have r1 : Y.heap[w.heap.size]? = some (anO a) := by rw [← hY]; exact heap_new _ _
  have HR1 : Hid (Y.rangeAt w.heap.size 0 (anC a).toList) := Lib.hid (an_range r1)
  have HY := Lib.hid hY
  clear hY r1 HC0 HA0 HB0 HP0 HD0
  unfold anO at HY
  unfold fnV at HC
  go_enter Tryd.func9, Tryd.ntmps9
  go_upto_region 1 with fail
  rw [HY.out]
  clear HY
  go_upto_region 6 with (first | (refine wpList_load_mid rfl 43 _ rfl w.heap.size 0 rfl _ _ HR1.out Tryd.underlying43 rfl Tryd.sizeAn ?_) | (go_at_call 20; refine HC.out.mono ?_; rintro e w2 ⟨b0, b1, rfl, hc⟩; have HC2 := Lib.hid hc; clear hc))
  have HR2 : Hid (w2.rangeAt w.heap.size 0 (anC a).toList) := Lib.hid (an_range (HA.out _ _ _ HC2.out))
  clear HR1 HC HA
  go_upto_region 7 with (first | (refine wpList_load_mid rfl 43 _ rfl w.heap.size 0 rfl _ _ HR2.out Tryd.underlying43 rfl Tryd.sizeAn ?_) | (go_at_call 21; refine (HB.out _ _ _ HC2.out).mono ?_; rintro e w3 ⟨rfl, hd⟩; have HD3 := Lib.hid hd; clear hd))
  obtain ⟨q, sel, v, n, h, rows, was, bg, hM, hE⟩ := HP.out _ _ _ HD3.out
  have m1 := (mir_cells hM).c1
  have m2 := (mir_cells hM).c2
  have m3 := (mir_cells hM).c3
  have m4 := (mir_cells hM).c4
  have m5 := (mir_cells hM).c5
  have m6 := (mir_cells hM).c6
  have m7 := (mir_cells hM).c7
  have fz := mir_fz hM
  have HM := Lib.hid hM
  have HE := Lib.hid hE
  clear hM hE HB HC2 HP HR2 HD3
  go_upto_region 8 with fail
  clear m1 m2 m3 m4 m5 m6 m7 fz
  refine wp_gen (fun Z hZ => ?_)
  have zE : E b0 b1 Z := by
    refine HE.out _ ?_ ?_
    · rw [hZ]
      have k := HM.out
      unfold mirO mirC at k ⊢
      rw [heap_setCell_at _ (heap_setCell_at _ (heap_setCell_at _ (heap_setCell_at _ (heap_setCell_at _ (heap_setCell_at _ (heap_setCell_at _ k))))))]
      rfl
    · rw [hZ]
      have sp : ∀ (X : World), Stays [P] w3 X → ∀ (o : Nat) (u : Value), Stays [P] w3 (X.setCell ⟨P, o, none⟩ u) := fun X hX o u => hX.setCell (.inl (by simp)) u
      exact sp _ (sp _ (sp _ (sp _ (sp _ (sp _ (sp _ (Stays.refl _ _) _ _) _ _) _ _) _ _) _ _) _ _) _ _
  have ZE := Lib.hid zE
  clear hZ zE HM HE
  go_wp2_with (go_at_call 42; refine (HD.out _ _ _ ZE.out).mono ?_; rintro e w5 ⟨rfl, hf⟩; have HF := Lib.hid hf; clear hf)
  go_ret
  first | exact ⟨rfl, HF.out⟩ | exact HF.out
set_option maxRecDepth 20000 in
set_option maxHeartbeats 2000000 in
theorem Hear_coded (P : Nat) (a : AN) (w : World) (C D E : Nat → Nat → World → Prop) (F : World → Prop)
    (HC0 : Calls Tryd.prog 20 #[.pointer (some ⟨P, 0, none⟩), .agg (anC a)] (w.alloc (anO a)) fun e w' => ∃ b0 b1, e = .returned (fnV 60 #[.pointer (some ⟨b0, 0, none⟩), .pointer (some ⟨b1, 0, none⟩)]) ∧ C b0 b1 w')
    (HA0 : ∀ b0 b1 X, C b0 b1 X → X.heap[w.heap.size]? = some (anO a))
    (HB0 : ∀ b0 b1 X, C b0 b1 X → Calls Tryd.prog 21 #[.pointer (some ⟨P, 0, none⟩), .agg (anC a)] X fun e w' => e = .returned (.bool false) ∧ D b0 b1 w')
    (HP0 : ∀ b0 b1 X, D b0 b1 X → E b0 b1 X)
    (HD0 : ∀ b0 b1 X, E b0 b1 X → Calls Tryd.prog 60 #[.pointer (some ⟨b0, 0, none⟩), .pointer (some ⟨b1, 0, none⟩)] X fun e w' => e = .returned (.tuple #[]) ∧ F w') :
    Calls Tryd.prog 9 #[.pointer (some ⟨P, 0, none⟩), .agg (anC a)] w fun e w' => e = .returned (.int .i64 0) ∧ F w' := by
  have HC := Lib.hid HC0
  have HA := Lib.hid HA0
  have HB := Lib.hid HB0
  have HP := Lib.hid HP0
  have HD := Lib.hid HD0
  have eqf := Tryd.eqFn3
  obtain ⟨Y, hY⟩ : ∃ Y, w.alloc (anO a) = Y := ⟨_, rfl⟩
  rw [hY] at HC
  have r1 : Y.heap[w.heap.size]? = some (anO a) := by rw [← hY]; exact heap_new _ _
  have HR1 : Hid (Y.rangeAt w.heap.size 0 (anC a).toList) := Lib.hid (an_range r1)
  have HY := Lib.hid hY
  clear hY r1 HC0 HA0 HB0 HP0 HD0
  unfold anO at HY
  unfold fnV at HC
  go_enter Tryd.func9, Tryd.ntmps9
  go_upto_region 1 with fail
  rw [HY.out]
  clear HY
  go_upto_region 6 with (first | (refine wpList_load_mid rfl 43 _ rfl w.heap.size 0 rfl _ _ HR1.out Tryd.underlying43 rfl Tryd.sizeAn ?_) | (go_at_call 20; refine HC.out.mono ?_; rintro e w2 ⟨b0, b1, rfl, hc⟩; have HC2 := Lib.hid hc; clear hc))
  have HR2 : Hid (w2.rangeAt w.heap.size 0 (anC a).toList) := Lib.hid (an_range (HA.out _ _ _ HC2.out))
  clear HR1 HC HA
  go_upto_region 8 with (first | (refine wpList_load_mid rfl 43 _ rfl w.heap.size 0 rfl _ _ HR2.out Tryd.underlying43 rfl Tryd.sizeAn ?_) | (go_at_call 21; refine (HB.out _ _ _ HC2.out).mono ?_; rintro e w3 ⟨rfl, hd⟩; have ZE := Lib.hid (HP.out _ _ _ hd); clear hd))
  clear HB HC2 HP HR2
  go_wp2_with (go_at_call 60; refine (HD.out _ _ _ ZE.out).mono ?_; rintro e w5 ⟨rfl, hf⟩; have HF := Lib.hid hf; clear hf)
  go_ret
  first | exact ⟨rfl, HF.out⟩ | exact HF.out
set_option maxRecDepth 20000 in
set_option maxHeartbeats 2000000 in
theorem Hear_answered (P : Nat) (a : AN) (w : World) (C D E : Nat → Nat → Nat → World → Prop) (F : World → Prop)
    (HC0 : Calls Tryd.prog 20 #[.pointer (some ⟨P, 0, none⟩), .agg (anC a)] (w.alloc (anO a)) fun e w' => ∃ b0 b1 b2, e = .returned (fnV 55 #[.pointer (some ⟨b0, 0, none⟩), .pointer (some ⟨b1, 0, none⟩), .pointer (some ⟨b2, 0, none⟩)]) ∧ C b0 b1 b2 w')
    (HA0 : ∀ b0 b1 b2 X, C b0 b1 b2 X → X.heap[w.heap.size]? = some (anO a))
    (HB0 : ∀ b0 b1 b2 X, C b0 b1 b2 X → Calls Tryd.prog 21 #[.pointer (some ⟨P, 0, none⟩), .agg (anC a)] X fun e w' => e = .returned (.bool false) ∧ D b0 b1 b2 w')
    (HP0 : ∀ b0 b1 b2 X, D b0 b1 b2 X → E b0 b1 b2 X)
    (HD0 : ∀ b0 b1 b2 X, E b0 b1 b2 X → Calls Tryd.prog 55 #[.pointer (some ⟨b0, 0, none⟩), .pointer (some ⟨b1, 0, none⟩), .pointer (some ⟨b2, 0, none⟩)] X fun e w' => e = .returned (.tuple #[]) ∧ F w') :
    Calls Tryd.prog 9 #[.pointer (some ⟨P, 0, none⟩), .agg (anC a)] w fun e w' => e = .returned (.int .i64 0) ∧ F w' := by
  have HC := Lib.hid HC0
  have HA := Lib.hid HA0
  have HB := Lib.hid HB0
  have HP := Lib.hid HP0
  have HD := Lib.hid HD0
  have eqf := Tryd.eqFn3
  obtain ⟨Y, hY⟩ : ∃ Y, w.alloc (anO a) = Y := ⟨_, rfl⟩
  rw [hY] at HC
  have r1 : Y.heap[w.heap.size]? = some (anO a) := by rw [← hY]; exact heap_new _ _
  have HR1 : Hid (Y.rangeAt w.heap.size 0 (anC a).toList) := Lib.hid (an_range r1)
  have HY := Lib.hid hY
  clear hY r1 HC0 HA0 HB0 HP0 HD0
  unfold anO at HY
  unfold fnV at HC
  go_enter Tryd.func9, Tryd.ntmps9
  go_upto_region 1 with fail
  rw [HY.out]
  clear HY
  go_upto_region 6 with (first | (refine wpList_load_mid rfl 43 _ rfl w.heap.size 0 rfl _ _ HR1.out Tryd.underlying43 rfl Tryd.sizeAn ?_) | (go_at_call 20; refine HC.out.mono ?_; rintro e w2 ⟨b0, b1, b2, rfl, hc⟩; have HC2 := Lib.hid hc; clear hc))
  have HR2 : Hid (w2.rangeAt w.heap.size 0 (anC a).toList) := Lib.hid (an_range (HA.out _ _ _ _ HC2.out))
  clear HR1 HC HA
  go_upto_region 8 with (first | (refine wpList_load_mid rfl 43 _ rfl w.heap.size 0 rfl _ _ HR2.out Tryd.underlying43 rfl Tryd.sizeAn ?_) | (go_at_call 21; refine (HB.out _ _ _ _ HC2.out).mono ?_; rintro e w3 ⟨rfl, hd⟩; have ZE := Lib.hid (HP.out _ _ _ _ hd); clear hd))
  clear HB HC2 HP HR2
  go_wp2_with (go_at_call 55; refine (HD.out _ _ _ _ ZE.out).mono ?_; rintro e w5 ⟨rfl, hf⟩; have HF := Lib.hid hf; clear hf)
  go_ret
  first | exact ⟨rfl, HF.out⟩ | exact HF.out
end Go.Proofs.YtlmlbcnjohjnlaaDoor
