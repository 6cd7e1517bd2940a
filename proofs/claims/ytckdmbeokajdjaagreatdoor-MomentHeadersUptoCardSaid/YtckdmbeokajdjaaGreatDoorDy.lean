/- postbaglaw2: known. -/
import Derived.Test.YtckdmbeokajdjaaGreatDoorDx
namespace Go.Proofs.YtckdmbeokajdjaaGreatDoor
open Go.RowKit

set_option maxRecDepth 100000 in
set_option maxHeartbeats 4000000 in
theorem known_any (w : World) (he : Env w) :
    Calls Tryz.prog 4 #[] w fun e w' => e = .returned (.bool true) ∧ Below w.heap.size w w' := by
  have K := kf
  generalize S kT = sk at K
  have HE := Lib.hid he
  clear he
  have q0 : Below w.heap.size w (w.alloc (.cells #[.int .i64 2026, .int .i64 2, .int .i64 1, .int .i64 10, .int .i64 0, .int .i64 0, .int .i64 60] 23)) := (Below.refl _ _).alloc (Nat.le_refl _) _
  have x0 := cells7_new w 2026 2 1 10 0 0 60 23
  go_enter Tryz.func4, Tryz.ntmps4
  go_wp2_with fail
  refine (K.p _ (HE.out.on q0)).mono ?_
  rintro e w1 ⟨rfl, hb1⟩
  have q1 := q0.trans (hb1.mono q0.size)
  have x1 := x0.on hb1
  clear hb1 q0 x0
  go_wp2_with fail
  refine (K.r _ (HE.out.on q1)).mono ?_
  rintro e w2 ⟨rfl, hb2⟩
  have q2 := q1.trans (hb2.mono q1.size)
  have x2 := x1.on hb2
  unfold mom
  clear hb2 q1 x1
  have q3 : Below w.heap.size w (w2.alloc (.cells #[.int .i64 2026, .int .i64 2, .int .i64 1, .int .i64 10, .int .i64 0, .int .i64 0, .int .i64 60] 23)) := q2.alloc q2.size _
  have x3 := x2.on ((Below.refl _ _).alloc (Nat.le_refl _) (.cells #[.int .i64 2026, .int .i64 2, .int .i64 1, .int .i64 10, .int .i64 0, .int .i64 0, .int .i64 60] 23))
  have y3 := cells7_new w2 2026 2 1 10 0 0 60 23
  go_wp2_with fail
  refine (K.h _ (HE.out.on q3)).mono ?_
  rintro e w4 ⟨rfl, hb4⟩
  have q4 := q3.trans (hb4.mono q3.size)
  have x4 := x3.on hb4
  have y4 := y3.on hb4
  clear hb4 q3 x3 y3 x2 q2
  have q5 : Below w.heap.size w (w4.alloc (.cells #[.int .i64 2026, .int .i64 2, .int .i64 1, .int .i64 10, .int .i64 0, .int .i64 0, .int .i64 60] 23)) := q4.alloc q4.size _
  have b5 : Below w4.heap.size w4 (w4.alloc (.cells #[.int .i64 2026, .int .i64 2, .int .i64 1, .int .i64 10, .int .i64 0, .int .i64 0, .int .i64 60] 23)) := (Below.refl _ _).alloc (Nat.le_refl _) _
  have x5 := x4.on b5
  have y5 := y4.on b5
  have z5 := cells7_new w4 2026 2 1 10 0 0 60 23
  unfold mom
  clear x4 y4 q4 b5
  obtain ⟨a0, a1, a2, a3, a4, a5, a6⟩ := x5
  obtain ⟨c0, c1, c2, c3, c4, c5, c6⟩ := y5
  obtain ⟨d0, d1, d2, d3, d4, d5, d6⟩ := z5
  go_wp2_with fail
  refine (K.v _ (HE.out.on q5)).mono ?_
  rintro e w6 ⟨rfl, hb6⟩
  have q6 := q5.trans (hb6.mono q5.size)
  have x6 := Cells7.on ⟨a0, a1, a2, a3, a4, a5, a6⟩ hb6
  clear a0 a1 a2 a3 a4 a5 a6 c0 c1 c2 c3 c4 c5 c6 d0 d1 d2 d3 d4 d5 d6 hb6 q5
  obtain ⟨a0, a1, a2, a3, a4, a5, a6⟩ := x6
  go_wp2_with fail
  refine (K.wd _ (HE.out.on q6)).mono ?_
  rintro e w7 ⟨rfl, hb7⟩
  have q7 := q6.trans (hb7.mono q6.size)
  have x7 := Cells7.on ⟨a0, a1, a2, a3, a4, a5, a6⟩ hb7
  clear a0 a1 a2 a3 a4 a5 a6 hb7 q6
  obtain ⟨a0, a1, a2, a3, a4, a5, a6⟩ := x7
  go_wp2_with fail
  refine (K.d _ (HE.out.on q7)).mono ?_
  rintro e w8 ⟨rfl, hb8⟩
  have q8 := q7.trans (hb8.mono q7.size)
  go_wp2
  go_ret
  exact ⟨rfl, q8⟩
end Go.Proofs.YtckdmbeokajdjaaGreatDoor
