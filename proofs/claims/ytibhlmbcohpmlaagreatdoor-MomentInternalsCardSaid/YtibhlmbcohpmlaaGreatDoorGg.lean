/- The statement MomentDays: the walk. -/
import Derived.Test.YtibhlmbcohpmlaaGreatDoorGf
import Derived.Test.YtibhlmbcohpmlaaGreatDoorDy
namespace Go.Proofs.YtibhlmbcohpmlaaGreatDoor
open Go.RowKit

set_option maxHeartbeats 400000 in
theorem mnum_any (e : Int) (w : World) :
    Calls Tryz.prog 31 #[.int .i64 e] w fun x w' => x = .returned (.int .i64 e) ∧ w' = w := by
  go_enter Tryz.func31, Tryz.ntmps31
  go_wp2
  go_ret
  exact ⟨rfl, rfl⟩
set_option maxRecDepth 100000 in
set_option maxHeartbeats 4000000 in
theorem lawDay_any (x : ByteArray) (y m d h n s z : Int) (w : World) (he : Env w) (hx : x.size ≤ 140737488355328) :
    Calls Tryz.prog 12 #[.string x, mom y m d h n s z] w fun e w' => e = .returned (.bool true) ∧ Below w.heap.size w w' := by
  have H1 := Lib.hid (fun W hW => momReadDay_any x W hW hx)
  have H2 := Lib.hid (fun W => refReadDay_any x W hx)
  have H3 := Lib.hid (fun W hW => momPrintDay_any y m d h n s z W hW)
  have H4 := Lib.hid (fun W => refPrintDay_any y m d h n s z W)
  obtain ⟨r0, r1, r2, r3, r4, r5, r6, hr⟩ := judV_shape (tdB (L x)) (tdY (L x)) (tdM (L x)) (tdD (L x)) 0 0 0 0
  rw [hr] at H1 H2
  clear hr
  generalize judE (tdB (L x)) (tdY (L x)) (tdM (L x)) (tdD (L x)) = er at *
  generalize S (pdL y m d) = t at *
  generalize pdE y m d = eg at *
  have q0 : Below w.heap.size w (w.alloc (.cells #[.int .i64 y, .int .i64 m, .int .i64 d, .int .i64 h, .int .i64 n, .int .i64 s, .int .i64 z] 23)) := (Below.refl _ _).alloc (Nat.le_refl _) _
  have k0 : Cells7 w.heap.size y m d h n s z (w.alloc (.cells #[.int .i64 y, .int .i64 m, .int .i64 d, .int .i64 h, .int .i64 n, .int .i64 s, .int .i64 z] 23)) := cells7_new w y m d h n s z _
  have e0 := he.on q0
  clear he
  unfold mom at H1 H2 H3 H4 ⊢
  go_enter Tryz.func12, Tryz.ntmps12
  go_wp2_with fail
  refine (H1.out _ e0).mono ?_
  rintro e w1 ⟨rfl, hb1⟩
  have q1 := q0.trans (hb1.mono q0.size)
  have q1a := q1.alloc q1.size (.cells #[.int .i64 r0, .int .i64 r1, .int .i64 r2, .int .i64 r3, .int .i64 r4, .int .i64 r5, .int .i64 r6] 23)
  have k1 := (k0.on hb1).on ((Below.refl _ _).alloc (Nat.le_refl _) (.cells #[.int .i64 r0, .int .i64 r1, .int .i64 r2, .int .i64 r3, .int .i64 r4, .int .i64 r5, .int .i64 r6] 23))
  have a1 : Cells7 w1.heap.size r0 r1 r2 r3 r4 r5 r6 (w1.alloc (.cells #[.int .i64 r0, .int .i64 r1, .int .i64 r2, .int .i64 r3, .int .i64 r4, .int .i64 r5, .int .i64 r6] 23)) := cells7_new w1 r0 r1 r2 r3 r4 r5 r6 _
  have e1 := (e0.on hb1).on ((Below.refl _ _).alloc (Nat.le_refl _) (.cells #[.int .i64 r0, .int .i64 r1, .int .i64 r2, .int .i64 r3, .int .i64 r4, .int .i64 r5, .int .i64 r6] 23))
  clear hb1 q0 q1 k0 e0
  go_wp2_with fail
  refine (H2.out _).mono ?_
  rintro e w2 ⟨rfl, hb2⟩
  have q2 := q1a.trans (hb2.mono q1a.size)
  have q2a := q2.alloc q2.size (.cells #[.int .i64 r0, .int .i64 r1, .int .i64 r2, .int .i64 r3, .int .i64 r4, .int .i64 r5, .int .i64 r6] 23)
  have k2 := (k1.on hb2).on ((Below.refl _ _).alloc (Nat.le_refl _) (.cells #[.int .i64 r0, .int .i64 r1, .int .i64 r2, .int .i64 r3, .int .i64 r4, .int .i64 r5, .int .i64 r6] 23))
  have a2 := (a1.on hb2).on ((Below.refl _ _).alloc (Nat.le_refl _) (.cells #[.int .i64 r0, .int .i64 r1, .int .i64 r2, .int .i64 r3, .int .i64 r4, .int .i64 r5, .int .i64 r6] 23))
  have b2 : Cells7 w2.heap.size r0 r1 r2 r3 r4 r5 r6 (w2.alloc (.cells #[.int .i64 r0, .int .i64 r1, .int .i64 r2, .int .i64 r3, .int .i64 r4, .int .i64 r5, .int .i64 r6] 23)) := cells7_new w2 r0 r1 r2 r3 r4 r5 r6 _
  have e2 := (e1.on hb2).on ((Below.refl _ _).alloc (Nat.le_refl _) (.cells #[.int .i64 r0, .int .i64 r1, .int .i64 r2, .int .i64 r3, .int .i64 r4, .int .i64 r5, .int .i64 r6] 23))
  clear hb2 q1a q2 k1 a1 e1
  obtain ⟨c0, c1, c2, c3, c4, c5, c6⟩ := k2
  go_wp2_with fail
  refine (H3.out _ e2).mono ?_
  rintro e w3 ⟨rfl, hb3⟩
  have q3 := q2a.trans (hb3.mono q2a.size)
  have k3 := (Cells7.mk c0 c1 c2 c3 c4 c5 c6).on hb3
  have a3 := a2.on hb3
  have b3 := b2.on hb3
  clear hb3 q2a a2 b2 e2 c0 c1 c2 c3 c4 c5 c6
  obtain ⟨c0, c1, c2, c3, c4, c5, c6⟩ := k3
  go_wp2_with fail
  refine (H4.out _).mono ?_
  rintro e w4 ⟨rfl, hb4⟩
  have q4 := q3.trans (hb4.mono q3.size)
  have a4 := a3.on hb4
  have b4 := b3.on hb4
  clear hb4 q3 a3 b3 c0 c1 c2 c3 c4 c5 c6 H1 H2 H3 H4
  obtain ⟨c0, c1, c2, c3, c4, c5, c6⟩ := a4
  obtain ⟨d0, d1, d2, d3, d4, d5, d6⟩ := b4
  go_wp2_with (go_at_call 31; refine (mnum_any _ _).mono ?_; rintro e w5 ⟨rfl, rfl⟩)
  go_ret
  exact ⟨rfl, q4⟩
end Go.Proofs.YtibhlmbcohpmlaaGreatDoor
