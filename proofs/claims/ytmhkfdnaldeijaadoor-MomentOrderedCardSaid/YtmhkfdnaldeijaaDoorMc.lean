/- The statement MomentOrdered: the walk. -/
import Derived.Test.YtmhkfdnaldeijaaDoorMa
import Derived.Test.YtmhkfdnaldeijaaDoorDy
namespace Go.Proofs.YtmhkfdnaldeijaaDoor
open Go.RowKit

structure Three (w : World) (b0 b1 b2 : Nat) (y m d h n s z y' m' d' h' n' s' z' y2 m2 d2 h2 n2 s2 z2 : Int) (X : World) : Prop where
  a : Cells7 b0 y m d h n s z X
  b : Cells7 b1 y' m' d' h' n' s' z' X
  c : Cells7 b2 y2 m2 d2 h2 n2 s2 z2 X
  e : Env X
  q : Below w.heap.size w X
theorem Three.on {w : World} {b0 b1 b2 : Nat} {y m d h n s z y' m' d' h' n' s' z' y2 m2 d2 h2 n2 s2 z2 : Int} {X X' : World} (k : Three w b0 b1 b2 y m d h n s z y' m' d' h' n' s' z' y2 m2 d2 h2 n2 s2 z2 X) (hb : Below X.heap.size X X') : Three w b0 b1 b2 y m d h n s z y' m' d' h' n' s' z' y2 m2 d2 h2 n2 s2 z2 X' :=
  ⟨k.a.on hb, k.b.on hb, k.c.on hb, k.e.on hb, k.q.trans (hb.mono k.q.size)⟩
theorem three_new (w : World) (y m d h n s z y' m' d' h' n' s' z' y2 m2 d2 h2 n2 s2 z2 : Int) (he : Env w) : Three w w.heap.size (w.heap.size + 1) (w.heap.size + 2) y m d h n s z y' m' d' h' n' s' z' y2 m2 d2 h2 n2 s2 z2 (((w.alloc (.cells #[.int .i64 y, .int .i64 m, .int .i64 d, .int .i64 h, .int .i64 n, .int .i64 s, .int .i64 z] 23)).alloc (.cells #[.int .i64 y', .int .i64 m', .int .i64 d', .int .i64 h', .int .i64 n', .int .i64 s', .int .i64 z'] 23)).alloc (.cells #[.int .i64 y2, .int .i64 m2, .int .i64 d2, .int .i64 h2, .int .i64 n2, .int .i64 s2, .int .i64 z2] 23)) := by
  have p1 : Below w.heap.size w (w.alloc (.cells #[.int .i64 y, .int .i64 m, .int .i64 d, .int .i64 h, .int .i64 n, .int .i64 s, .int .i64 z] 23)) := (Below.refl _ _).alloc (Nat.le_refl _) _
  have p2 := p1.alloc (by simp) (.cells #[.int .i64 y', .int .i64 m', .int .i64 d', .int .i64 h', .int .i64 n', .int .i64 s', .int .i64 z'] 23)
  have p3 := p2.alloc (by simp; omega) (.cells #[.int .i64 y2, .int .i64 m2, .int .i64 d2, .int .i64 h2, .int .i64 n2, .int .i64 s2, .int .i64 z2] 23)
  have c1 := (cells7_new w y m d h n s z 23)
  have c2 := cells7_new (w.alloc (.cells #[.int .i64 y, .int .i64 m, .int .i64 d, .int .i64 h, .int .i64 n, .int .i64 s, .int .i64 z] 23)) y' m' d' h' n' s' z' 23
  have c3 := cells7_new ((w.alloc (.cells #[.int .i64 y, .int .i64 m, .int .i64 d, .int .i64 h, .int .i64 n, .int .i64 s, .int .i64 z] 23)).alloc (.cells #[.int .i64 y', .int .i64 m', .int .i64 d', .int .i64 h', .int .i64 n', .int .i64 s', .int .i64 z'] 23)) y2 m2 d2 h2 n2 s2 z2 23
  have e1 : (w.alloc (.cells #[.int .i64 y, .int .i64 m, .int .i64 d, .int .i64 h, .int .i64 n, .int .i64 s, .int .i64 z] 23)).heap.size = w.heap.size + 1 := by simp
  have e2 : ((w.alloc (.cells #[.int .i64 y, .int .i64 m, .int .i64 d, .int .i64 h, .int .i64 n, .int .i64 s, .int .i64 z] 23)).alloc (.cells #[.int .i64 y', .int .i64 m', .int .i64 d', .int .i64 h', .int .i64 n', .int .i64 s', .int .i64 z'] 23)).heap.size = w.heap.size + 2 := by simp
  have f1 := (c1.on ((Below.refl _ _).alloc (Nat.le_refl _) (.cells #[.int .i64 y', .int .i64 m', .int .i64 d', .int .i64 h', .int .i64 n', .int .i64 s', .int .i64 z'] 23))).on ((Below.refl _ _).alloc (Nat.le_refl _) (.cells #[.int .i64 y2, .int .i64 m2, .int .i64 d2, .int .i64 h2, .int .i64 n2, .int .i64 s2, .int .i64 z2] 23))
  have f2 := c2.on ((Below.refl _ _).alloc (Nat.le_refl _) (.cells #[.int .i64 y2, .int .i64 m2, .int .i64 d2, .int .i64 h2, .int .i64 n2, .int .i64 s2, .int .i64 z2] 23))
  rw [e1] at f2
  rw [e2] at c3
  exact ⟨f1, f2, c3, he.on p3, p3⟩
structure OrdF (w : World) (y m d h n s z y' m' d' h' n' s' z' y2 m2 d2 h2 n2 s2 z2 : Int) (ab bc ac ba : Int) : Prop where
  k : ∀ X, Env X → Calls Tryd.prog 9 #[] X fun e w' => e = .returned (.bool true) ∧ Below X.heap.size X w'
  ab : ∀ X, Env X → Calls Tryd.prog 24 #[.agg #[.int .i64 y, .int .i64 m, .int .i64 d, .int .i64 h, .int .i64 n, .int .i64 s, .int .i64 z], .agg #[.int .i64 y', .int .i64 m', .int .i64 d', .int .i64 h', .int .i64 n', .int .i64 s', .int .i64 z']] X fun e w' => e = .returned (.int .i64 ab) ∧ Below X.heap.size X w'
  bc : ∀ X, Env X → Calls Tryd.prog 24 #[.agg #[.int .i64 y', .int .i64 m', .int .i64 d', .int .i64 h', .int .i64 n', .int .i64 s', .int .i64 z'], .agg #[.int .i64 y2, .int .i64 m2, .int .i64 d2, .int .i64 h2, .int .i64 n2, .int .i64 s2, .int .i64 z2]] X fun e w' => e = .returned (.int .i64 bc) ∧ Below X.heap.size X w'
  ac : ∀ X, Env X → Calls Tryd.prog 24 #[.agg #[.int .i64 y, .int .i64 m, .int .i64 d, .int .i64 h, .int .i64 n, .int .i64 s, .int .i64 z], .agg #[.int .i64 y2, .int .i64 m2, .int .i64 d2, .int .i64 h2, .int .i64 n2, .int .i64 s2, .int .i64 z2]] X fun e w' => e = .returned (.int .i64 ac) ∧ Below X.heap.size X w'
  ba : ∀ X, Env X → Calls Tryd.prog 24 #[.agg #[.int .i64 y', .int .i64 m', .int .i64 d', .int .i64 h', .int .i64 n', .int .i64 s', .int .i64 z'], .agg #[.int .i64 y, .int .i64 m, .int .i64 d, .int .i64 h, .int .i64 n, .int .i64 s, .int .i64 z]] X fun e w' => e = .returned (.int .i64 ba) ∧ Below X.heap.size X w'
/-- What the tail needs of two moments of one stamp. -/
structure TailF (w : World) (b c : Nat) (y m d h n s z y' m' d' h' n' s' z' st : Int) : Prop where
  o : ∀ X, S2 w b c y m d h n s z y' m' d' h' n' s' z' X → Calls Tryd.prog 24 #[.agg #[.int .i64 y, .int .i64 m, .int .i64 d, .int .i64 h, .int .i64 n, .int .i64 s, .int .i64 z], .agg #[.int .i64 y', .int .i64 m', .int .i64 d', .int .i64 h', .int .i64 n', .int .i64 s', .int .i64 z']] X fun e w' => e = .returned (.int .i64 0) ∧ S2 w b c y m d h n s z y' m' d' h' n' s' z' w'
  s1 : ∀ X, S2 w b c y m d h n s z y' m' d' h' n' s' z' X → Calls Tryd.prog 13 #[.agg #[.int .i64 y, .int .i64 m, .int .i64 d, .int .i64 h, .int .i64 n, .int .i64 s, .int .i64 z]] X fun e w' => e = .returned (.int .i64 st) ∧ S2 w b c y m d h n s z y' m' d' h' n' s' z' w'
  s2 : ∀ X, S2 w b c y m d h n s z y' m' d' h' n' s' z' X → Calls Tryd.prog 13 #[.agg #[.int .i64 y', .int .i64 m', .int .i64 d', .int .i64 h', .int .i64 n', .int .i64 s', .int .i64 z']] X fun e w' => e = .returned (.int .i64 st) ∧ S2 w b c y m d h n s z y' m' d' h' n' s' z' w'
theorem tailF (w : World) (b c : Nat) (y m d h n s z y' m' d' h' n' s' z' st : Int) (hv : validB y m d h n s z = true) (hv' : validB y' m' d' h' n' s' z' = true) (hs : stampV y m d h n s z = st) (hs' : stampV y' m' d' h' n' s' z' = st) : TailF w b c y m d h n s z y' m' d' h' n' s' z' st := by
  refine ⟨fun X hX => ?_, fun X hX => ?_, fun X hX => ?_⟩
  · have := momOrder_any y m d h n s z y' m' d' h' n' s' z' X hX.env.1
    rw [hv, hv', hs, hs', order_eq true st st (by omega) (by omega)] at this
    exact this.mono fun e w' ⟨k1, k2⟩ => ⟨k1, hX.on k2⟩
  · have := momStamp_any y m d h n s z X hX.env.1
    rw [hs] at this
    exact this.mono fun e w' ⟨k1, k2⟩ => ⟨k1, hX.on k2⟩
  · have := momStamp_any y' m' d' h' n' s' z' X hX.env.1
    rw [hs'] at this
    exact this.mono fun e w' ⟨k1, k2⟩ => ⟨k1, hX.on k2⟩
theorem at_gen (st x : Int) (h : (∃ er, AtNo st x er) ∨ ∃ y m d h n s, AtOk st x y m d h n s) : ∃ y m d h n s z er, (∀ W, Env W → Calls Tryd.prog 15 #[.int .i64 st, .int .i64 x] W fun e w' => e = .returned (.tuple #[.agg #[.int .i64 y, .int .i64 m, .int .i64 d, .int .i64 h, .int .i64 n, .int .i64 s, .int .i64 z], .int .i64 er]) ∧ Below W.heap.size W w') ∧ ((er != 0) = true ∨ (er = 0 ∧ validB y m d h n s z = true ∧ stampV y m d h n s z = st)) := by
  rcases h with ⟨er, h⟩ | ⟨y, m, d, h, n, s, k⟩
  · exact ⟨0, 0, 0, 0, 0, 0, 0, er, fun W _ => h.c W, .inl h.e⟩
  · exact ⟨y, m, d, h, n, s, x, 0, k.c, .inr ⟨rfl, k.v, k.sv⟩⟩
set_option maxRecDepth 100000 in
set_option maxHeartbeats 8000000 in
theorem MomentOrdered_walk (y m d h n s z y' m' d' h' n' s' z' y2 m2 d2 h2 n2 s2 z2 st x yo : Int) (w : World) (he : Env w) (h64 : -9223372036854775808 ≤ st) (h65 : st ≤ 9223372036854775807) :
    Calls Tryd.prog 8 #[mom y m d h n s z, mom y' m' d' h' n' s' z', mom y2 m2 d2 h2 n2 s2 z2, .int .i64 st, .int .i64 x, .int .i64 yo] w fun e w' => e = .returned (.bool true) ∧ Below w.heap.size w w' := by
  have hp := ordP (validB y m d h n s z) (validB y' m' d' h' n' s' z') (validB y2 m2 d2 h2 n2 s2 z2) (stampV y m d h n s z) (stampV y' m' d' h' n' s' z') (stampV y2 m2 d2 h2 n2 s2 z2)
    (by cases hv : validB y m d h n s z; exact .inr (stampV_no _ _ _ _ _ _ _ hv); exact .inl rfl) (by cases hv : validB y' m' d' h' n' s' z'; exact .inr (stampV_no _ _ _ _ _ _ _ hv); exact .inl rfl) (by cases hv : validB y2 m2 d2 h2 n2 s2 z2; exact .inr (stampV_no _ _ _ _ _ _ _ hv); exact .inl rfl)
  have hF : OrdF w y m d h n s z y' m' d' h' n' s' z' y2 m2 d2 h2 n2 s2 z2 (orderV (validB y m d h n s z) (validB y' m' d' h' n' s' z') (stampV y m d h n s z) (stampV y' m' d' h' n' s' z')) (orderV (validB y' m' d' h' n' s' z') (validB y2 m2 d2 h2 n2 s2 z2) (stampV y' m' d' h' n' s' z') (stampV y2 m2 d2 h2 n2 s2 z2)) (orderV (validB y m d h n s z) (validB y2 m2 d2 h2 n2 s2 z2) (stampV y m d h n s z) (stampV y2 m2 d2 h2 n2 s2 z2)) (orderV (validB y' m' d' h' n' s' z') (validB y m d h n s z) (stampV y' m' d' h' n' s' z') (stampV y m d h n s z)) :=
    ⟨fun X hX => known_any X hX, fun X hX => momOrder_any y m d h n s z y' m' d' h' n' s' z' X hX, fun X hX => momOrder_any y' m' d' h' n' s' z' y2 m2 d2 h2 n2 s2 z2 X hX, fun X hX => momOrder_any y m d h n s z y2 m2 d2 h2 n2 s2 z2 X hX, fun X hX => momOrder_any y' m' d' h' n' s' z' y m d h n s z X hX⟩
  generalize orderV (validB y m d h n s z) (validB y' m' d' h' n' s' z') (stampV y m d h n s z) (stampV y' m' d' h' n' s' z') = ab at *
  generalize orderV (validB y' m' d' h' n' s' z') (validB y2 m2 d2 h2 n2 s2 z2) (stampV y' m' d' h' n' s' z') (stampV y2 m2 d2 h2 n2 s2 z2) = bc at *
  generalize orderV (validB y m d h n s z) (validB y2 m2 d2 h2 n2 s2 z2) (stampV y m d h n s z) (stampV y2 m2 d2 h2 n2 s2 z2) = ac at *
  generalize orderV (validB y' m' d' h' n' s' z') (validB y m d h n s z) (stampV y' m' d' h' n' s' z') (stampV y m d h n s z) = ba at *
  have K0 := three_new w y m d h n s z y' m' d' h' n' s' z' y2 m2 d2 h2 n2 s2 z2 he
  obtain ⟨p1, p2, p3, p4, p5, p6⟩ := hp
  have hatx := at_cases st x h64 h65
  have haty := at_cases st yo h64 h65
  clear he h64 h65
  unfold mom
  go_enter Tryd.func8, Tryd.ntmps8
  go_wp2_with fail
  refine (hF.k _ K0.e).mono ?_
  rintro e w1 ⟨rfl, hb1⟩
  have K1 := K0.on hb1
  clear hb1 K0
  obtain ⟨⟨a0, a1, a2, a3, a4, a5, a6⟩, ⟨b0, b1, b2, b3, b4, b5, b6⟩, ⟨c0, c1, c2, c3, c4, c5, c6⟩, e1, q1⟩ := K1
  go_wp2_with fail
  refine (hF.ab _ e1).mono ?_
  rintro e w2 ⟨rfl, hb2⟩
  have K2 : Three w w.heap.size (w.heap.size + 1) (w.heap.size + 2) y m d h n s z y' m' d' h' n' s' z' y2 m2 d2 h2 n2 s2 z2 w2 := Three.on ⟨⟨a0, a1, a2, a3, a4, a5, a6⟩, ⟨b0, b1, b2, b3, b4, b5, b6⟩, ⟨c0, c1, c2, c3, c4, c5, c6⟩, e1, q1⟩ hb2
  clear hb2 a0 a1 a2 a3 a4 a5 a6 b0 b1 b2 b3 b4 b5 b6 c0 c1 c2 c3 c4 c5 c6 e1 q1
  obtain ⟨⟨a0, a1, a2, a3, a4, a5, a6⟩, ⟨b0, b1, b2, b3, b4, b5, b6⟩, ⟨c0, c1, c2, c3, c4, c5, c6⟩, e1, q1⟩ := K2
  go_wp2_with fail
  refine (hF.bc _ e1).mono ?_
  rintro e w3 ⟨rfl, hb3⟩
  have K3 : Three w w.heap.size (w.heap.size + 1) (w.heap.size + 2) y m d h n s z y' m' d' h' n' s' z' y2 m2 d2 h2 n2 s2 z2 w3 := Three.on ⟨⟨a0, a1, a2, a3, a4, a5, a6⟩, ⟨b0, b1, b2, b3, b4, b5, b6⟩, ⟨c0, c1, c2, c3, c4, c5, c6⟩, e1, q1⟩ hb3
  clear hb3 a0 a1 a2 a3 a4 a5 a6 b0 b1 b2 b3 b4 b5 b6 c0 c1 c2 c3 c4 c5 c6 e1 q1
  obtain ⟨⟨a0, a1, a2, a3, a4, a5, a6⟩, ⟨b0, b1, b2, b3, b4, b5, b6⟩, ⟨c0, c1, c2, c3, c4, c5, c6⟩, e1, q1⟩ := K3
  go_wp2_with fail
  refine (hF.ac _ e1).mono ?_
  rintro e w4 ⟨rfl, hb4⟩
  have K4 : Three w w.heap.size (w.heap.size + 1) (w.heap.size + 2) y m d h n s z y' m' d' h' n' s' z' y2 m2 d2 h2 n2 s2 z2 w4 := Three.on ⟨⟨a0, a1, a2, a3, a4, a5, a6⟩, ⟨b0, b1, b2, b3, b4, b5, b6⟩, ⟨c0, c1, c2, c3, c4, c5, c6⟩, e1, q1⟩ hb4
  clear hb4 a0 a1 a2 a3 a4 a5 a6 b0 b1 b2 b3 b4 b5 b6 c0 c1 c2 c3 c4 c5 c6 e1 q1
  obtain ⟨⟨a0, a1, a2, a3, a4, a5, a6⟩, ⟨b0, b1, b2, b3, b4, b5, b6⟩, ⟨c0, c1, c2, c3, c4, c5, c6⟩, e1, q1⟩ := K4
  go_wp2_with fail
  refine (hF.ba _ e1).mono ?_
  rintro e w5 ⟨rfl, hb5⟩
  have E5 := Lib.hid (e1.on hb5)
  have Q5 := Lib.hid (q1.trans (hb5.mono q1.size))
  clear hb5 a0 a1 a2 a3 a4 a5 a6 b0 b1 b2 b3 b4 b5 b6 c0 c1 c2 c3 c4 c5 c6 e1 q1 hF
  have t1 : (ba != -ab) = false := by simp [p1]
  have T1 := Lib.hid p1
  have t2 : decide (ab < -1) = false := by rw [decide_eq_false_iff_not]; omega
  have t3 : decide (1 < ab) = false := by rw [decide_eq_false_iff_not]; omega
  have hcs : (0 < ab) ∨ (ab < 0 ∧ bc ≤ 0 ∧ ac < 0) ∨ (ab < 0 ∧ 0 < bc) ∨ (ab = 0 ∧ bc < 0 ∧ ac < 0) ∨ (ab = 0 ∧ bc = 0 ∧ ac ≤ 0) ∨ (ab = 0 ∧ 0 < bc) := by omega
  obtain ⟨py, pm, pd, ph, pn, ps, pz, ex, hx, hx2⟩ := at_gen st x hatx
  obtain ⟨qy, qm, qd, qh, qn, qs, qz, ey, hy, hy2⟩ := at_gen st yo haty
  have HX := Lib.hid hx
  have HY := Lib.hid hy
  clear hx hy hatx haty p1 p4 p5 p6
  rcases hcs with h1 | ⟨h1, h2, h3⟩ | ⟨h1, h2⟩ | ⟨rfl, h2, h3⟩ | ⟨rfl, rfl, h3⟩ | ⟨rfl, h2⟩
  all_goals (
    go_wp2_with fail
    all_goals try (exfalso; have hT := T1.out; omega)
    refine (HX.out _ E5.out).mono ?_
    rintro e w6 ⟨rfl, hb6⟩
    have e6 := E5.out.on hb6
    have q6 := Q5.out.trans (hb6.mono Q5.out.size)
    have q7 : Below w.heap.size w (w6.alloc (.cells #[.int .i64 py, .int .i64 pm, .int .i64 pd, .int .i64 ph, .int .i64 pn, .int .i64 ps, .int .i64 pz] 23)) := q6.alloc q6.size _
    have e7 : Env (w6.alloc (.cells #[.int .i64 py, .int .i64 pm, .int .i64 pd, .int .i64 ph, .int .i64 pn, .int .i64 ps, .int .i64 pz] 23)) := e6.on ((Below.refl _ _).alloc (Nat.le_refl _) _)
    have c7 := cells7_new w6 py pm pd ph pn ps pz 23
    clear hb6 e6 q6
    go_wp2_with fail
    refine (HY.out _ e7).mono ?_
    rintro e w8 ⟨rfl, hb8⟩
    have c8 := c7.on hb8
    have e8 := e7.on hb8
    have q8 := q7.trans (hb8.mono q7.size)
    have al9 : Below w8.heap.size w8 (w8.alloc (.cells #[.int .i64 qy, .int .i64 qm, .int .i64 qd, .int .i64 qh, .int .i64 qn, .int .i64 qs, .int .i64 qz] 23)) := (Below.refl _ _).alloc (Nat.le_refl _) _
    have q9 : Below w.heap.size w (w8.alloc (.cells #[.int .i64 qy, .int .i64 qm, .int .i64 qd, .int .i64 qh, .int .i64 qn, .int .i64 qs, .int .i64 qz] 23)) := q8.alloc q8.size _
    have c9 := c8.on al9
    have d9 := cells7_new w8 qy qm qd qh qn qs qz 23
    have e9 := e8.on al9
    have st9 : S2 w w6.heap.size w8.heap.size py pm pd ph pn ps pz qy qm qd qh qn qs qz (w8.alloc (.cells #[.int .i64 qy, .int .i64 qm, .int .i64 qd, .int .i64 qh, .int .i64 qn, .int .i64 qs, .int .i64 qz] 23)) := S2.mk' c9 d9 e9 q9
    have st10 := st9.on (Below.refl _ _).drew
    have Q9 := Lib.hid q9
    clear hb8 c7 e7 q7 c8 e8 q8 al9 c9 d9 e9 q9
    rcases hx2 with tx | ⟨rfl, vx, sx⟩
    · go_wp2
      go_ret
      exact ⟨rfl, Q9.out⟩
    · rcases hy2 with ty | ⟨rfl, vy, sy⟩
      · go_wp2
        go_ret
        exact ⟨rfl, Q9.out⟩
      · have hT := tailF w w6.heap.size w8.heap.size py pm pd ph pn ps pz qy qm qd qh qn qs qz st vx vy sx sy
        clear vx vy sx sy HX HY E5 Q5
        go_wp2
        first | (go_region_held3 (fun X => X.cell? ⟨w6.heap.size, 0, none⟩ = some (.int .i64 py) ∧ X.cell? ⟨w6.heap.size, 1, none⟩ = some (.int .i64 pm) ∧ X.cell? ⟨w6.heap.size, 2, none⟩ = some (.int .i64 pd) ∧ X.cell? ⟨w6.heap.size, 3, none⟩ = some (.int .i64 ph) ∧ X.cell? ⟨w6.heap.size, 4, none⟩ = some (.int .i64 pn) ∧ X.cell? ⟨w6.heap.size, 5, none⟩ = some (.int .i64 ps) ∧ X.cell? ⟨w6.heap.size, 6, none⟩ = some (.int .i64 pz) ∧ X.cell? ⟨w8.heap.size, 0, none⟩ = some (.int .i64 qy) ∧ X.cell? ⟨w8.heap.size, 1, none⟩ = some (.int .i64 qm) ∧ X.cell? ⟨w8.heap.size, 2, none⟩ = some (.int .i64 qd) ∧ X.cell? ⟨w8.heap.size, 3, none⟩ = some (.int .i64 qh) ∧ X.cell? ⟨w8.heap.size, 4, none⟩ = some (.int .i64 qn) ∧ X.cell? ⟨w8.heap.size, 5, none⟩ = some (.int .i64 qs) ∧ X.cell? ⟨w8.heap.size, 6, none⟩ = some (.int .i64 qz) ∧ Env X ∧ Below w.heap.size w X) (first | exact st10 | assumption) (first | (go_at_call 24; refine (hT.o _ ?_).mono ?_; assumption; rintro e w11 ⟨rfl, hs11⟩) | (go_at_call_of 13 py; refine (hT.s1 _ ?_).mono ?_; assumption; rintro e w12 ⟨rfl, hs12⟩) | (go_at_call_of 13 qy; refine (hT.s2 _ ?_).mono ?_; assumption; rintro e w13 ⟨rfl, hs13⟩))) | fail
        go_wp2
        go_ret
        exact ⟨rfl, hs13.env.2⟩)
end Go.Proofs.YtmhkfdnaldeijaaDoor
