/- The statement MomentHeaders: the walk. -/
import Derived.Test.YtckdmbeokajdjaaGreatDoorH2i
import Derived.Test.YtckdmbeokajdjaaGreatDoorH2n
import Derived.Test.YtckdmbeokajdjaaGreatDoorH2o
import Derived.Test.YtckdmbeokajdjaaGreatDoorGg
import Derived.Test.YtckdmbeokajdjaaGreatDoorDy
namespace Go.Proofs.YtckdmbeokajdjaaGreatDoor
open Go.RowKit

abbrev SQ (w : World) (y m d h n s z : Int) (X : World) : Prop :=
  X.cell? ⟨w.heap.size, 0, none⟩ = some (.int .i64 y) ∧ X.cell? ⟨w.heap.size, 1, none⟩ = some (.int .i64 m) ∧ X.cell? ⟨w.heap.size, 2, none⟩ = some (.int .i64 d) ∧ X.cell? ⟨w.heap.size, 3, none⟩ = some (.int .i64 h) ∧ X.cell? ⟨w.heap.size, 4, none⟩ = some (.int .i64 n) ∧ X.cell? ⟨w.heap.size, 5, none⟩ = some (.int .i64 s) ∧ X.cell? ⟨w.heap.size, 6, none⟩ = some (.int .i64 z) ∧ Env X ∧ Below w.heap.size w X
theorem SQ.on {w : World} {y m d h n s z : Int} {X Y : World} (k : SQ w y m d h n s z X) (hb : Below X.heap.size X Y) : SQ w y m d h n s z Y := by
  obtain ⟨a0, a1, a2, a3, a4, a5, a6, he, hq⟩ := k
  obtain ⟨c0, c1, c2, c3, c4, c5, c6⟩ := (Cells7.mk a0 a1 a2 a3 a4 a5 a6).on hb
  exact ⟨c0, c1, c2, c3, c4, c5, c6, he.on hb, hq.trans (hb.mono hq.size)⟩
set_option maxRecDepth 100000 in
set_option maxHeartbeats 4000000 in
theorem lawHeader_any (x : ByteArray) (y m d h n s z : Int) (w : World) (he : Env w) (hx : x.size ≤ 1048576) :
    Calls Tryz.prog 5 #[.string x, mom y m d h n s z] w fun e w' => e = .returned (.bool true) ∧ Below w.heap.size w w' := by
  have H1 := Lib.hid (fun W hW => momReadHeader_any x W hW (by omega))
  have H2 := Lib.hid (fun W => refReadHeader_any x W hx)
  have H3 := Lib.hid (fun W hW => momPrintHeader_any y m d h n s z W hW)
  have H4 := Lib.hid (fun W => refPrintHeader_any y m d h n s z W)
  obtain ⟨r0, r1, r2, r3, r4, r5, r6, hr⟩ := rhV_shape (L x) (nzI (hc3 (L x)).p)
  rw [hr] at H1 H2
  clear hr hx
  generalize rhE (L x) = er at *
  generalize S (phL y m d h n s z) = t at *
  generalize prE y m d h n s z = eg at *
  have q0 : Below w.heap.size w (w.alloc (.cells #[.int .i64 y, .int .i64 m, .int .i64 d, .int .i64 h, .int .i64 n, .int .i64 s, .int .i64 z] 23)) := (Below.refl _ _).alloc (Nat.le_refl _) _
  have k0 : Cells7 w.heap.size y m d h n s z (w.alloc (.cells #[.int .i64 y, .int .i64 m, .int .i64 d, .int .i64 h, .int .i64 n, .int .i64 s, .int .i64 z] 23)) := cells7_new w y m d h n s z _
  have e0 := he.on q0
  clear he
  unfold mom at H1 H2 H3 H4 ⊢
  go_enter Tryz.func5, Tryz.ntmps5
  go_wp2_with fail
  refine (H1.out _ e0).mono ?_
  rintro e w1 ⟨rfl, hb1⟩
  have q1 := q0.trans (hb1.mono q0.size)
  have q1a := q1.alloc q1.size (.cells #[.int .i64 r0, .int .i64 r1, .int .i64 r2, .int .i64 r3, .int .i64 r4, .int .i64 r5, .int .i64 r6] 23)
  have k1 := (k0.on hb1).on ((Below.refl _ _).alloc (Nat.le_refl _) (.cells #[.int .i64 r0, .int .i64 r1, .int .i64 r2, .int .i64 r3, .int .i64 r4, .int .i64 r5, .int .i64 r6] 23))
  have a1 : Cells7 w1.heap.size r0 r1 r2 r3 r4 r5 r6 (w1.alloc (.cells #[.int .i64 r0, .int .i64 r1, .int .i64 r2, .int .i64 r3, .int .i64 r4, .int .i64 r5, .int .i64 r6] 23)) := cells7_new w1 r0 r1 r2 r3 r4 r5 r6 _
  have e1 := (e0.on hb1).on ((Below.refl _ _).alloc (Nat.le_refl _) (.cells #[.int .i64 r0, .int .i64 r1, .int .i64 r2, .int .i64 r3, .int .i64 r4, .int .i64 r5, .int .i64 r6] 23))
  clear hb1 q0 q1 k0 e0
  go_wp2_with fail
  refine (H2.out _).mono ?_
  rintro e w2 ⟨rfl, hb2⟩
  have q2 := q1a.trans (hb2.mono q1a.size)
  have q2a := q2.alloc q2.size (.cells #[.int .i64 r0, .int .i64 r1, .int .i64 r2, .int .i64 r3, .int .i64 r4, .int .i64 r5, .int .i64 r6] 23)
  have k2 := (k1.on hb2).on ((Below.refl _ _).alloc (Nat.le_refl _) (.cells #[.int .i64 r0, .int .i64 r1, .int .i64 r2, .int .i64 r3, .int .i64 r4, .int .i64 r5, .int .i64 r6] 23))
  have a2 := (a1.on hb2).on ((Below.refl _ _).alloc (Nat.le_refl _) (.cells #[.int .i64 r0, .int .i64 r1, .int .i64 r2, .int .i64 r3, .int .i64 r4, .int .i64 r5, .int .i64 r6] 23))
  have b2 : Cells7 w2.heap.size r0 r1 r2 r3 r4 r5 r6 (w2.alloc (.cells #[.int .i64 r0, .int .i64 r1, .int .i64 r2, .int .i64 r3, .int .i64 r4, .int .i64 r5, .int .i64 r6] 23)) := cells7_new w2 r0 r1 r2 r3 r4 r5 r6 _
  have e2 := (e1.on hb2).on ((Below.refl _ _).alloc (Nat.le_refl _) (.cells #[.int .i64 r0, .int .i64 r1, .int .i64 r2, .int .i64 r3, .int .i64 r4, .int .i64 r5, .int .i64 r6] 23))
  clear hb2 q1a q2 k1 a1 e1
  obtain ⟨c0, c1, c2, c3, c4, c5, c6⟩ := k2
  go_wp2_with fail
  refine (H3.out _ e2).mono ?_
  rintro e w3 ⟨rfl, hb3⟩
  have q3 := q2a.trans (hb3.mono q2a.size)
  have k3 := (Cells7.mk c0 c1 c2 c3 c4 c5 c6).on hb3
  have a3 := a2.on hb3
  have b3 := b2.on hb3
  clear hb3 q2a a2 b2 e2 c0 c1 c2 c3 c4 c5 c6
  obtain ⟨c0, c1, c2, c3, c4, c5, c6⟩ := k3
  go_wp2_with fail
  refine (H4.out _).mono ?_
  rintro e w4 ⟨rfl, hb4⟩
  have q4 := q3.trans (hb4.mono q3.size)
  have a4 := a3.on hb4
  have b4 := b3.on hb4
  clear hb4 q3 a3 b3 c0 c1 c2 c3 c4 c5 c6 H1 H2 H3 H4
  obtain ⟨c0, c1, c2, c3, c4, c5, c6⟩ := a4
  obtain ⟨d0, d1, d2, d3, d4, d5, d6⟩ := b4
  go_wp2_with (go_at_call 15; refine (mnum_any _ _).mono ?_; rintro e w5 ⟨rfl, rfl⟩)
  go_ret
  exact ⟨rfl, q4⟩
structure HdsF (w : World) (y m d h n s z : Int) (x o : ByteArray) : Prop where
  k : ∀ X, SQ w y m d h n s z X → Calls Tryz.prog 4 #[] X fun e w' => e = .returned (.bool true) ∧ SQ w y m d h n s z w'
  p : ∀ X, SQ w y m d h n s z X → Calls Tryz.prog 5 #[.string x, .agg #[.int .i64 y, .int .i64 m, .int .i64 d, .int .i64 h, .int .i64 n, .int .i64 s, .int .i64 z]] X fun e w' => e = .returned (.bool true) ∧ SQ w y m d h n s z w'
  q : ∀ X, SQ w y m d h n s z X → Calls Tryz.prog 5 #[.string o, .agg #[.int .i64 y, .int .i64 m, .int .i64 d, .int .i64 h, .int .i64 n, .int .i64 s, .int .i64 z]] X fun e w' => e = .returned (.bool true) ∧ SQ w y m d h n s z w'
set_option maxRecDepth 100000 in
set_option maxHeartbeats 4000000 in
theorem MomentHeaders_walk (x : ByteArray) (y m d h n s z : Int) (o : ByteArray) (w : World) (he : Env w) (hx : x.size ≤ 1048576) (ho : o.size ≤ 1048576) :
    Calls Tryz.prog 3 #[.string x, mom y m d h n s z, .string o] w fun e w' => e = .returned (.bool true) ∧ Below w.heap.size w w' := by
  have hF : HdsF w y m d h n s z x o :=
    ⟨fun X hX => (known_any X hX.2.2.2.2.2.2.2.1).mono fun e w' ⟨k1, k2⟩ => ⟨k1, SQ.on hX k2⟩,
     fun X hX => (lawHeader_any x y m d h n s z X hX.2.2.2.2.2.2.2.1 hx).mono fun e w' ⟨k1, k2⟩ => ⟨k1, SQ.on hX k2⟩,
     fun X hX => (lawHeader_any o y m d h n s z X hX.2.2.2.2.2.2.2.1 ho).mono fun e w' ⟨k1, k2⟩ => ⟨k1, SQ.on hX k2⟩⟩
  have q0 : Below w.heap.size w (w.alloc (.cells #[.int .i64 y, .int .i64 m, .int .i64 d, .int .i64 h, .int .i64 n, .int .i64 s, .int .i64 z] 23)) := (Below.refl _ _).alloc (Nat.le_refl _) _
  have st : Hid (SQ w y m d h n s z (w.alloc (.cells #[.int .i64 y, .int .i64 m, .int .i64 d, .int .i64 h, .int .i64 n, .int .i64 s, .int .i64 z] 23))) := Lib.hid (SQ.on (X := w.alloc (.cells #[.int .i64 y, .int .i64 m, .int .i64 d, .int .i64 h, .int .i64 n, .int .i64 s, .int .i64 z] 23)) (by
    obtain ⟨c0, c1, c2, c3, c4, c5, c6⟩ := cells7_new w y m d h n s z 23
    exact ⟨c0, c1, c2, c3, c4, c5, c6, he.on q0, q0⟩) (Below.refl _ _))
  clear he q0
  unfold mom
  go_enter Tryz.func3, Tryz.ntmps3
  go_wp2_with fail
  refine (hF.k _ st.out).mono ?_
  rintro e w1 ⟨rfl, hs1⟩
  have cc2 := hs1
  obtain ⟨x0, x1, x2, x3, x4, x5, x6, _, _⟩ := cc2
  go_wp2_with fail
  refine (hF.p _ hs1).mono ?_
  rintro e w2 ⟨rfl, hs2⟩
  clear x0 x1 x2 x3 x4 x5 x6
  have cc3 := hs2
  obtain ⟨x0, x1, x2, x3, x4, x5, x6, _, _⟩ := cc3
  go_wp2_with fail
  refine (hF.q _ hs2).mono ?_
  rintro e w3 ⟨rfl, hs3⟩
  clear x0 x1 x2 x3 x4 x5 x6
  have cc4 := hs3
  obtain ⟨x0, x1, x2, x3, x4, x5, x6, _, _⟩ := cc4
  go_wp2_with fail
  refine (hF.p _ hs3).mono ?_
  rintro e w4 ⟨rfl, hs4⟩
  clear x0 x1 x2 x3 x4 x5 x6
  go_wp2
  go_ret
  exact ⟨rfl, hs4.2.2.2.2.2.2.2.2⟩
end Go.Proofs.YtckdmbeokajdjaaGreatDoor
