/- The statements MomentCounts, MomentOrders: the walks. -/
import Derived.Test.YtmhkfdnaldeijabGreatDoorDy
import Derived.Test.YtmhkfdnaldeijabGreatDoorCd
namespace Go.Proofs.YtmhkfdnaldeijabGreatDoor
open Go.RowKit

structure CountF (w : World) (b : Nat) (y m d h n s z : Int) (va : Bool) (da ka ta : Int) : Prop where
  fv : ∀ X, S1 w b y m d h n s z X → Calls Tryz.prog 18 #[.agg #[.int .i64 y, .int .i64 m, .int .i64 d, .int .i64 h, .int .i64 n, .int .i64 s, .int .i64 z]] X fun e w' => e = .returned (.bool va) ∧ S1 w b y m d h n s z w'
  fv' : ∀ X, S1 w b y m d h n s z X → Calls Tryz.prog 21 #[.agg #[.int .i64 y, .int .i64 m, .int .i64 d, .int .i64 h, .int .i64 n, .int .i64 s, .int .i64 z]] X fun e w' => e = .returned (.bool va) ∧ S1 w b y m d h n s z w'
  fd : ∀ X, S1 w b y m d h n s z X → Calls Tryz.prog 20 #[.agg #[.int .i64 y, .int .i64 m, .int .i64 d, .int .i64 h, .int .i64 n, .int .i64 s, .int .i64 z]] X fun e w' => e = .returned (.int .i64 da) ∧ S1 w b y m d h n s z w'
  fd' : ∀ X, S1 w b y m d h n s z X → Calls Tryz.prog 22 #[.agg #[.int .i64 y, .int .i64 m, .int .i64 d, .int .i64 h, .int .i64 n, .int .i64 s, .int .i64 z]] X fun e w' => e = .returned (.int .i64 da) ∧ S1 w b y m d h n s z w'
  fk : ∀ X, S1 w b y m d h n s z X → Calls Tryz.prog 19 #[.agg #[.int .i64 y, .int .i64 m, .int .i64 d, .int .i64 h, .int .i64 n, .int .i64 s, .int .i64 z]] X fun e w' => e = .returned (.int .i64 ka) ∧ S1 w b y m d h n s z w'
  fk' : ∀ X, S1 w b y m d h n s z X → Calls Tryz.prog 23 #[.agg #[.int .i64 y, .int .i64 m, .int .i64 d, .int .i64 h, .int .i64 n, .int .i64 s, .int .i64 z]] X fun e w' => e = .returned (.int .i64 ka) ∧ S1 w b y m d h n s z w'
  ft : ∀ X, S1 w b y m d h n s z X → Calls Tryz.prog 24 #[.agg #[.int .i64 y, .int .i64 m, .int .i64 d, .int .i64 h, .int .i64 n, .int .i64 s, .int .i64 z]] X fun e w' => e = .returned (.int .i64 ta) ∧ S1 w b y m d h n s z w'
  ft' : ∀ X, S1 w b y m d h n s z X → Calls Tryz.prog 25 #[.agg #[.int .i64 y, .int .i64 m, .int .i64 d, .int .i64 h, .int .i64 n, .int .i64 s, .int .i64 z]] X fun e w' => e = .returned (.int .i64 ta) ∧ S1 w b y m d h n s z w'
set_option maxRecDepth 100000 in
set_option maxHeartbeats 4000000 in
theorem counted_any (y m d h n s z : Int) (w : World) (he : Env w) :
    Calls Tryz.prog 9 #[mom y m d h n s z] w fun e w' => e = .returned (.bool true) ∧ Below w.heap.size w w' := by
  have hF : CountF w w.heap.size y m d h n s z (validB y m d h n s z) (daysV y m d h n s z) (wdayV y m d h n s z) (stampV y m d h n s z) :=
    ⟨fun X hX => (momValid_any y m d h n s z X hX.env.1).mono fun e w' ⟨h1, h2⟩ => ⟨h1, hX.on h2⟩, fun X hX => (Valid_any y m d h n s z X).mono fun e w' ⟨h1, h2⟩ => ⟨h1, hX.on h2⟩, fun X hX => (momDays_any y m d h n s z X hX.env.1).mono fun e w' ⟨h1, h2⟩ => ⟨h1, hX.on h2⟩, fun X hX => (refDays_any y m d h n s z X).mono fun e w' ⟨h1, h2⟩ => ⟨h1, hX.on h2⟩, fun X hX => (momWeekday_any y m d h n s z X hX.env.1).mono fun e w' ⟨h1, h2⟩ => ⟨h1, hX.on h2⟩, fun X hX => (refWeekday_any y m d h n s z X).mono fun e w' ⟨h1, h2⟩ => ⟨h1, hX.on h2⟩, fun X hX => (momStamp_any y m d h n s z X hX.env.1).mono fun e w' ⟨h1, h2⟩ => ⟨h1, hX.on h2⟩, fun X hX => (refStamp_any y m d h n s z X).mono fun e w' ⟨h1, h2⟩ => ⟨h1, hX.on h2⟩⟩
  generalize validB y m d h n s z = va at *
  generalize daysV y m d h n s z = da at *
  generalize wdayV y m d h n s z = ka at *
  generalize stampV y m d h n s z = ta at *
  have q0 : Below w.heap.size w (w.alloc (.cells #[.int .i64 y, .int .i64 m, .int .i64 d, .int .i64 h, .int .i64 n, .int .i64 s, .int .i64 z] 23)) := (Below.refl _ _).alloc (Nat.le_refl _) _
  have st0 : S1 w w.heap.size y m d h n s z (w.alloc (.cells #[.int .i64 y, .int .i64 m, .int .i64 d, .int .i64 h, .int .i64 n, .int .i64 s, .int .i64 z] 23)) := S1.mk' (cells7_new w y m d h n s z _) (he.on q0) q0
  have st1 := st0.on (Below.refl _ _).drew
  clear he q0
  unfold mom
  go_enter Tryz.func9, Tryz.ntmps9
  go_wp2
  first | (go_region_held3 (fun X => X.cell? ⟨w.heap.size, 0, none⟩ = some (.int .i64 y) ∧ X.cell? ⟨w.heap.size, 1, none⟩ = some (.int .i64 m) ∧ X.cell? ⟨w.heap.size, 2, none⟩ = some (.int .i64 d) ∧ X.cell? ⟨w.heap.size, 3, none⟩ = some (.int .i64 h) ∧ X.cell? ⟨w.heap.size, 4, none⟩ = some (.int .i64 n) ∧ X.cell? ⟨w.heap.size, 5, none⟩ = some (.int .i64 s) ∧ X.cell? ⟨w.heap.size, 6, none⟩ = some (.int .i64 z) ∧ Env X ∧ Below w.heap.size w X) (first | exact st1 | assumption) (first | (go_at_call 18; refine (hF.fv _ ?_).mono ?_; assumption; rintro e wv0 ⟨rfl, hs0⟩) | (go_at_call 21; refine (hF.fv' _ ?_).mono ?_; assumption; rintro e wv1 ⟨rfl, hs1⟩) | (go_at_call 20; refine (hF.fd _ ?_).mono ?_; assumption; rintro e wv2 ⟨rfl, hs2⟩) | (go_at_call 22; refine (hF.fd' _ ?_).mono ?_; assumption; rintro e wv3 ⟨rfl, hs3⟩) | (go_at_call 19; refine (hF.fk _ ?_).mono ?_; assumption; rintro e wv4 ⟨rfl, hs4⟩) | (go_at_call 23; refine (hF.fk' _ ?_).mono ?_; assumption; rintro e wv5 ⟨rfl, hs5⟩) | (go_at_call 24; refine (hF.ft _ ?_).mono ?_; assumption; rintro e wv6 ⟨rfl, hs6⟩) | (go_at_call 25; refine (hF.ft' _ ?_).mono ?_; assumption; rintro e wv7 ⟨rfl, hs7⟩))) | fail
  go_wp2
  go_ret
  exact ⟨rfl, hs7.env.2⟩

theorem s2_new (w : World) (y m d h n s z y' m' d' h' n' s' z' : Int) (he : Env w) : S2 w w.heap.size (w.heap.size + 1) y m d h n s z y' m' d' h' n' s' z' ((w.alloc (.cells #[.int .i64 y, .int .i64 m, .int .i64 d, .int .i64 h, .int .i64 n, .int .i64 s, .int .i64 z] 23)).alloc (.cells #[.int .i64 y', .int .i64 m', .int .i64 d', .int .i64 h', .int .i64 n', .int .i64 s', .int .i64 z'] 23)) := by
  have q1 : Below w.heap.size w (w.alloc (.cells #[.int .i64 y, .int .i64 m, .int .i64 d, .int .i64 h, .int .i64 n, .int .i64 s, .int .i64 z] 23)) := (Below.refl _ _).alloc (Nat.le_refl _) _
  have q2 := q1.alloc (by simp) (.cells #[.int .i64 y', .int .i64 m', .int .i64 d', .int .i64 h', .int .i64 n', .int .i64 s', .int .i64 z'] 23)
  refine S2.mk' ((cells7_new w y m d h n s z _).on ((Below.refl _ _).alloc (Nat.le_refl _) _)) ?_ (he.on q2) q2
  have := cells7_new (w.alloc (.cells #[.int .i64 y, .int .i64 m, .int .i64 d, .int .i64 h, .int .i64 n, .int .i64 s, .int .i64 z] 23)) y' m' d' h' n' s' z' 23
  rw [show (w.alloc (.cells #[.int .i64 y, .int .i64 m, .int .i64 d, .int .i64 h, .int .i64 n, .int .i64 s, .int .i64 z] 23)).heap.size = w.heap.size + 1 by simp] at this
  exact this
structure CountG (w : World) (b c : Nat) (y m d h n s z y' m' d' h' n' s' z' : Int) : Prop where
  gk : ∀ X, S2 w b c y m d h n s z y' m' d' h' n' s' z' X → Calls Tryz.prog 8 #[] X fun e w' => e = .returned (.bool true) ∧ S2 w b c y m d h n s z y' m' d' h' n' s' z' w'
  ga : ∀ X, S2 w b c y m d h n s z y' m' d' h' n' s' z' X → Calls Tryz.prog 9 #[.agg #[.int .i64 y, .int .i64 m, .int .i64 d, .int .i64 h, .int .i64 n, .int .i64 s, .int .i64 z]] X fun e w' => e = .returned (.bool true) ∧ S2 w b c y m d h n s z y' m' d' h' n' s' z' w'
  gb : ∀ X, S2 w b c y m d h n s z y' m' d' h' n' s' z' X → Calls Tryz.prog 9 #[.agg #[.int .i64 y', .int .i64 m', .int .i64 d', .int .i64 h', .int .i64 n', .int .i64 s', .int .i64 z']] X fun e w' => e = .returned (.bool true) ∧ S2 w b c y m d h n s z y' m' d' h' n' s' z' w'
set_option maxRecDepth 100000 in
set_option maxHeartbeats 4000000 in
theorem MomentCounts_walk (y m d h n s z y' m' d' h' n' s' z' : Int) (w : World) (he : Env w) :
    Calls Tryz.prog 3 #[mom y m d h n s z, mom y' m' d' h' n' s' z'] w fun e w' => e = .returned (.bool true) ∧ Below w.heap.size w w' := by
  have hF : CountG w w.heap.size (w.heap.size + 1) y m d h n s z y' m' d' h' n' s' z' :=
    ⟨fun X hX => (known_any X hX.env.1).mono fun e w' ⟨h1, h2⟩ => ⟨h1, hX.on h2⟩, fun X hX => (counted_any y m d h n s z X hX.env.1).mono fun e w' ⟨h1, h2⟩ => ⟨h1, hX.on h2⟩, fun X hX => (counted_any y' m' d' h' n' s' z' X hX.env.1).mono fun e w' ⟨h1, h2⟩ => ⟨h1, hX.on h2⟩⟩
  have st0 := s2_new w y m d h n s z y' m' d' h' n' s' z' he
  have st1 := st0.on (Below.refl _ _).drew
  clear he
  unfold mom
  go_enter Tryz.func3, Tryz.ntmps3
  go_wp2_with fail
  refine (hF.gk _ st0).mono ?_
  rintro e w1 ⟨rfl, hs1⟩
  obtain ⟨p0, p1, p2, p3, p4, p5, p6, p7, p8, p9, p10, p11, p12, p13, pe, pb⟩ := hs1
  clear st0 st1
  go_wp2_with fail
  refine (hF.ga _ ⟨p0, p1, p2, p3, p4, p5, p6, p7, p8, p9, p10, p11, p12, p13, pe, pb⟩).mono ?_
  rintro e w2 ⟨rfl, hs2⟩
  obtain ⟨q0, q1, q2, q3, q4, q5, q6, q7, q8, q9, q10, q11, q12, q13, qe, qb⟩ := hs2
  clear p0 p1 p2 p3 p4 p5 p6 p7 p8 p9 p10 p11 p12 p13 pe pb
  go_wp2_with fail
  refine (hF.gb _ ⟨q0, q1, q2, q3, q4, q5, q6, q7, q8, q9, q10, q11, q12, q13, qe, qb⟩).mono ?_
  rintro e w3 ⟨rfl, hs3⟩
  obtain ⟨p0, p1, p2, p3, p4, p5, p6, p7, p8, p9, p10, p11, p12, p13, pe, pb⟩ := hs3
  clear q0 q1 q2 q3 q4 q5 q6 q7 q8 q9 q10 q11 q12 q13 qe qb
  go_wp2_with fail
  refine (hF.ga _ ⟨p0, p1, p2, p3, p4, p5, p6, p7, p8, p9, p10, p11, p12, p13, pe, pb⟩).mono ?_
  rintro e w4 ⟨rfl, hs4⟩
  clear p0 p1 p2 p3 p4 p5 p6 p7 p8 p9 p10 p11 p12 p13 pe pb
  go_wp2
  go_ret
  exact ⟨rfl, hs4.env.2⟩

structure OrdG (w : World) (b c : Nat) (y m d h n s z y' m' d' h' n' s' z' : Int) (ab ba : Int) : Prop where
  gk : ∀ X, S2 w b c y m d h n s z y' m' d' h' n' s' z' X → Calls Tryz.prog 8 #[] X fun e w' => e = .returned (.bool true) ∧ S2 w b c y m d h n s z y' m' d' h' n' s' z' w'
  oab : ∀ X, S2 w b c y m d h n s z y' m' d' h' n' s' z' X → Calls Tryz.prog 10 #[.agg #[.int .i64 y, .int .i64 m, .int .i64 d, .int .i64 h, .int .i64 n, .int .i64 s, .int .i64 z], .agg #[.int .i64 y', .int .i64 m', .int .i64 d', .int .i64 h', .int .i64 n', .int .i64 s', .int .i64 z']] X fun e w' => e = .returned (.int .i64 ab) ∧ S2 w b c y m d h n s z y' m' d' h' n' s' z' w'
  oba : ∀ X, S2 w b c y m d h n s z y' m' d' h' n' s' z' X → Calls Tryz.prog 10 #[.agg #[.int .i64 y', .int .i64 m', .int .i64 d', .int .i64 h', .int .i64 n', .int .i64 s', .int .i64 z'], .agg #[.int .i64 y, .int .i64 m, .int .i64 d, .int .i64 h, .int .i64 n, .int .i64 s, .int .i64 z]] X fun e w' => e = .returned (.int .i64 ba) ∧ S2 w b c y m d h n s z y' m' d' h' n' s' z' w'
  oaa : ∀ X, S2 w b c y m d h n s z y' m' d' h' n' s' z' X → Calls Tryz.prog 10 #[.agg #[.int .i64 y, .int .i64 m, .int .i64 d, .int .i64 h, .int .i64 n, .int .i64 s, .int .i64 z], .agg #[.int .i64 y, .int .i64 m, .int .i64 d, .int .i64 h, .int .i64 n, .int .i64 s, .int .i64 z]] X fun e w' => e = .returned (.int .i64 0) ∧ S2 w b c y m d h n s z y' m' d' h' n' s' z' w'
  orab : ∀ X, S2 w b c y m d h n s z y' m' d' h' n' s' z' X → Calls Tryz.prog 11 #[.agg #[.int .i64 y, .int .i64 m, .int .i64 d, .int .i64 h, .int .i64 n, .int .i64 s, .int .i64 z], .agg #[.int .i64 y', .int .i64 m', .int .i64 d', .int .i64 h', .int .i64 n', .int .i64 s', .int .i64 z']] X fun e w' => e = .returned (.int .i64 ab) ∧ S2 w b c y m d h n s z y' m' d' h' n' s' z' w'
  orba : ∀ X, S2 w b c y m d h n s z y' m' d' h' n' s' z' X → Calls Tryz.prog 11 #[.agg #[.int .i64 y', .int .i64 m', .int .i64 d', .int .i64 h', .int .i64 n', .int .i64 s', .int .i64 z'], .agg #[.int .i64 y, .int .i64 m, .int .i64 d, .int .i64 h, .int .i64 n, .int .i64 s, .int .i64 z]] X fun e w' => e = .returned (.int .i64 ba) ∧ S2 w b c y m d h n s z y' m' d' h' n' s' z' w'
set_option maxRecDepth 100000 in
set_option maxHeartbeats 4000000 in
theorem MomentOrders_walk (y m d h n s z y' m' d' h' n' s' z' : Int) (w : World) (he : Env w) :
    Calls Tryz.prog 4 #[mom y m d h n s z, mom y' m' d' h' n' s' z'] w fun e w' => e = .returned (.bool true) ∧ Below w.heap.size w w' := by
  have hF : OrdG w w.heap.size (w.heap.size + 1) y m d h n s z y' m' d' h' n' s' z' (orderV (validB y m d h n s z) (validB y' m' d' h' n' s' z') (stampV y m d h n s z) (stampV y' m' d' h' n' s' z')) (orderV (validB y' m' d' h' n' s' z') (validB y m d h n s z) (stampV y' m' d' h' n' s' z') (stampV y m d h n s z)) :=
    ⟨fun X hX => (known_any X hX.env.1).mono fun e w' ⟨h1, h2⟩ => ⟨h1, hX.on h2⟩,
     fun X hX => (momOrder_any y m d h n s z y' m' d' h' n' s' z' X hX.env.1).mono fun e w' ⟨h1, h2⟩ => ⟨h1, hX.on h2⟩,
     fun X hX => (momOrder_any y' m' d' h' n' s' z' y m d h n s z X hX.env.1).mono fun e w' ⟨h1, h2⟩ => ⟨h1, hX.on h2⟩,
     fun X hX => (momOrder_any y m d h n s z y m d h n s z X hX.env.1).mono fun e w' ⟨h1, h2⟩ => ⟨by rw [h1, order_eq _ _ _ (by omega) (by omega)], hX.on h2⟩,
     fun X hX => (refOrder_any y m d h n s z y' m' d' h' n' s' z' X).mono fun e w' ⟨h1, h2⟩ => ⟨h1, hX.on h2⟩,
     fun X hX => (refOrder_any y' m' d' h' n' s' z' y m d h n s z X).mono fun e w' ⟨h1, h2⟩ => ⟨h1, hX.on h2⟩⟩
  generalize orderV (validB y m d h n s z) (validB y' m' d' h' n' s' z') (stampV y m d h n s z) (stampV y' m' d' h' n' s' z') = ab at *
  generalize orderV (validB y' m' d' h' n' s' z') (validB y m d h n s z) (stampV y' m' d' h' n' s' z') (stampV y m d h n s z) = ba at *
  have st0 := s2_new w y m d h n s z y' m' d' h' n' s' z' he
  have st1 := st0.on (Below.refl _ _).drew
  clear he
  unfold mom
  go_enter Tryz.func4, Tryz.ntmps4
  go_wp2
  first | (go_region_held3 (fun X => X.cell? ⟨w.heap.size, 0, none⟩ = some (.int .i64 y) ∧ X.cell? ⟨w.heap.size, 1, none⟩ = some (.int .i64 m) ∧ X.cell? ⟨w.heap.size, 2, none⟩ = some (.int .i64 d) ∧ X.cell? ⟨w.heap.size, 3, none⟩ = some (.int .i64 h) ∧ X.cell? ⟨w.heap.size, 4, none⟩ = some (.int .i64 n) ∧ X.cell? ⟨w.heap.size, 5, none⟩ = some (.int .i64 s) ∧ X.cell? ⟨w.heap.size, 6, none⟩ = some (.int .i64 z) ∧ X.cell? ⟨(w.heap.size + 1), 0, none⟩ = some (.int .i64 y') ∧ X.cell? ⟨(w.heap.size + 1), 1, none⟩ = some (.int .i64 m') ∧ X.cell? ⟨(w.heap.size + 1), 2, none⟩ = some (.int .i64 d') ∧ X.cell? ⟨(w.heap.size + 1), 3, none⟩ = some (.int .i64 h') ∧ X.cell? ⟨(w.heap.size + 1), 4, none⟩ = some (.int .i64 n') ∧ X.cell? ⟨(w.heap.size + 1), 5, none⟩ = some (.int .i64 s') ∧ X.cell? ⟨(w.heap.size + 1), 6, none⟩ = some (.int .i64 z') ∧ Env X ∧ Below w.heap.size w X) (first | exact st1 | assumption) (first | (go_at_call 8; refine (hF.gk _ ?_).mono ?_; assumption; rintro e wv0 ⟨rfl, hs0⟩) | (go_at_call 10; with_reducible refine (hF.oab _ ?_).mono ?_; assumption; rintro e wv1 ⟨rfl, hs1⟩) | (go_at_call 10; with_reducible refine (hF.oba _ ?_).mono ?_; assumption; rintro e wv2 ⟨rfl, hs2⟩) | (go_at_call 10; with_reducible refine (hF.oaa _ ?_).mono ?_; assumption; rintro e wv3 ⟨rfl, hs3⟩) | (go_at_call 11; with_reducible refine (hF.orab _ ?_).mono ?_; assumption; rintro e wv4 ⟨rfl, hs4⟩) | (go_at_call 11; with_reducible refine (hF.orba _ ?_).mono ?_; assumption; rintro e wv5 ⟨rfl, hs5⟩))) | fail
  go_wp2
  go_ret
  exact ⟨rfl, hs3.env.2⟩
end Go.Proofs.YtmhkfdnaldeijabGreatDoor
