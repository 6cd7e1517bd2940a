/- The statement MomentInternals: the walk. -/
import Derived.Test.YtlcjpkbcnoibeabGreatDoorUj
import Derived.Test.YtlcjpkbcnoibeabGreatDoorGn
import Derived.Test.YtlcjpkbcnoibeabGreatDoorGh
namespace Go.Proofs.YtlcjpkbcnoibeabGreatDoor
open Go.RowKit

theorem refReadInternal_any (s : ByteArray) (w : World) :
    Calls Tryz.prog 32 #[.string s] w fun e w' => e = .returned (.tuple #[riV (L s), .int .i64 (riE (L s))]) ∧ Below w.heap.size w w' := by
  by_cases h : (L s).length = 26 ∧ (bt (L s) 11 == 32) = true ∧ (bt (L s) 14 == 58) = true ∧ (bt (L s) 17 == 58) = true ∧ (bt (L s) 20 == 32) = true
  · exact refReadInternal_yes s w h.1 h.2.1 h.2.2.1 h.2.2.2.1 h.2.2.2.2
  · have hb := ri_no (L s) h
    have h1 : riV (L s) = mom 0 0 0 0 0 0 0 := by unfold riV; rw [hb]; rfl
    have h2 : riE (L s) = 20 := by unfold riE; rw [hb]; rfl
    rw [h1, h2]
    exact refReadInternal_no s w h
theorem momReadInternal_any (s : ByteArray) (w : World) (he : Env w) :
    Calls Tryz.prog 16 #[.string s] w fun e w' => e = .returned (.tuple #[riV (L s), .int .i64 (riE (L s))]) ∧ Below w.heap.size w w' := by
  by_cases h : s.size = 26 ∧ (bt (L s) 11 == 32) = true ∧ (bt (L s) 20 == 32) = true
  · exact momReadInternal_yes s w he h.1 h.2.1 h.2.2
  · have hb := ri_no (L s) (fun k => h ⟨k.1, k.2.1, k.2.2.2.2⟩)
    have h1 : riV (L s) = mom 0 0 0 0 0 0 0 := by unfold riV; rw [hb]; rfl
    have h2 : riE (L s) = 20 := by unfold riE; rw [hb]; rfl
    rw [h1, h2]
    refine momReadInternal_no s w ?_
    by_cases h26 : s.size = 26
    · right
      refine ⟨h26, ?_⟩
      cases p1 : (bt (L s) 11 == 32) with
      | false => exact .inl rfl
      | true =>
        right
        refine ⟨rfl, ?_⟩
        cases p2 : (bt (L s) 20 == 32) with
        | false => rfl
        | true => exact absurd ⟨h26, p1, p2⟩ h
    · exact .inl h26
set_option maxRecDepth 100000 in
set_option maxHeartbeats 4000000 in
theorem lawInternal_any (x : ByteArray) (y m d h n s z : Int) (w : World) (he : Env w) :
    Calls Tryz.prog 13 #[.string x, mom y m d h n s z] w fun e w' => e = .returned (.bool true) ∧ Below w.heap.size w w' := by
  have H1 := Lib.hid (fun W hW => momReadInternal_any x W hW)
  have H2 := Lib.hid (fun W => refReadInternal_any x W)
  have H3 := Lib.hid (fun W hW => momPrintInternal_any y m d h n s z W hW)
  have H4 := Lib.hid (fun W => refPrintInternal_any y m d h n s z W)
  obtain ⟨r0, r1, r2, r3, r4, r5, r6, hr0⟩ := judV_shape (riB (L x)) (tdY (riDay (L x))) (tdM (riDay (L x))) (tdD (riDay (L x))) (tcH (((L x).drop 12).take 8)) (tcN (((L x).drop 12).take 8)) (tcS (((L x).drop 12).take 8)) (tzV ((L x).drop 21))
  have hr : riV (L x) = mom r0 r1 r2 r3 r4 r5 r6 := hr0
  rw [hr] at H1 H2
  clear hr hr0
  generalize riE (L x) = er at *
  generalize S (piL y m d h n s z) = t at *
  generalize prE y m d h n s z = eg at *
  have q0 : Below w.heap.size w (w.alloc (.cells #[.int .i64 y, .int .i64 m, .int .i64 d, .int .i64 h, .int .i64 n, .int .i64 s, .int .i64 z] 23)) := (Below.refl _ _).alloc (Nat.le_refl _) _
  have k0 : Cells7 w.heap.size y m d h n s z (w.alloc (.cells #[.int .i64 y, .int .i64 m, .int .i64 d, .int .i64 h, .int .i64 n, .int .i64 s, .int .i64 z] 23)) := cells7_new w y m d h n s z _
  have e0 := he.on q0
  clear he
  unfold mom at H1 H2 H3 H4 ⊢
  go_enter Tryz.func13, Tryz.ntmps13
  go_wp2_with fail
  refine (H1.out _ e0).mono ?_
  rintro e w1 ⟨rfl, hb1⟩
  have q1 := q0.trans (hb1.mono q0.size)
  have q1a := q1.alloc q1.size (.cells #[.int .i64 r0, .int .i64 r1, .int .i64 r2, .int .i64 r3, .int .i64 r4, .int .i64 r5, .int .i64 r6] 23)
  have k1 := (k0.on hb1).on ((Below.refl _ _).alloc (Nat.le_refl _) (.cells #[.int .i64 r0, .int .i64 r1, .int .i64 r2, .int .i64 r3, .int .i64 r4, .int .i64 r5, .int .i64 r6] 23))
  have a1 : Cells7 w1.heap.size r0 r1 r2 r3 r4 r5 r6 (w1.alloc (.cells #[.int .i64 r0, .int .i64 r1, .int .i64 r2, .int .i64 r3, .int .i64 r4, .int .i64 r5, .int .i64 r6] 23)) := cells7_new w1 r0 r1 r2 r3 r4 r5 r6 _
  have e1 := (e0.on hb1).on ((Below.refl _ _).alloc (Nat.le_refl _) (.cells #[.int .i64 r0, .int .i64 r1, .int .i64 r2, .int .i64 r3, .int .i64 r4, .int .i64 r5, .int .i64 r6] 23))
  clear hb1 q0 q1 k0 e0
  go_wp2_with fail
  refine (H2.out _).mono ?_
  rintro e w2 ⟨rfl, hb2⟩
  have q2 := q1a.trans (hb2.mono q1a.size)
  have q2a := q2.alloc q2.size (.cells #[.int .i64 r0, .int .i64 r1, .int .i64 r2, .int .i64 r3, .int .i64 r4, .int .i64 r5, .int .i64 r6] 23)
  have k2 := (k1.on hb2).on ((Below.refl _ _).alloc (Nat.le_refl _) (.cells #[.int .i64 r0, .int .i64 r1, .int .i64 r2, .int .i64 r3, .int .i64 r4, .int .i64 r5, .int .i64 r6] 23))
  have a2 := (a1.on hb2).on ((Below.refl _ _).alloc (Nat.le_refl _) (.cells #[.int .i64 r0, .int .i64 r1, .int .i64 r2, .int .i64 r3, .int .i64 r4, .int .i64 r5, .int .i64 r6] 23))
  have b2 : Cells7 w2.heap.size r0 r1 r2 r3 r4 r5 r6 (w2.alloc (.cells #[.int .i64 r0, .int .i64 r1, .int .i64 r2, .int .i64 r3, .int .i64 r4, .int .i64 r5, .int .i64 r6] 23)) := cells7_new w2 r0 r1 r2 r3 r4 r5 r6 _
  have e2 := (e1.on hb2).on ((Below.refl _ _).alloc (Nat.le_refl _) (.cells #[.int .i64 r0, .int .i64 r1, .int .i64 r2, .int .i64 r3, .int .i64 r4, .int .i64 r5, .int .i64 r6] 23))
  clear hb2 q1a q2 k1 a1 e1
  obtain ⟨c0, c1, c2, c3, c4, c5, c6⟩ := k2
  go_wp2_with fail
  refine (H3.out _ e2).mono ?_
  rintro e w3 ⟨rfl, hb3⟩
  have q3 := q2a.trans (hb3.mono q2a.size)
  have k3 := (Cells7.mk c0 c1 c2 c3 c4 c5 c6).on hb3
  have a3 := a2.on hb3
  have b3 := b2.on hb3
  clear hb3 q2a a2 b2 e2 c0 c1 c2 c3 c4 c5 c6
  obtain ⟨c0, c1, c2, c3, c4, c5, c6⟩ := k3
  go_wp2_with fail
  refine (H4.out _).mono ?_
  rintro e w4 ⟨rfl, hb4⟩
  have q4 := q3.trans (hb4.mono q3.size)
  have a4 := a3.on hb4
  have b4 := b3.on hb4
  clear hb4 q3 a3 b3 c0 c1 c2 c3 c4 c5 c6 H1 H2 H3 H4
  obtain ⟨c0, c1, c2, c3, c4, c5, c6⟩ := a4
  obtain ⟨d0, d1, d2, d3, d4, d5, d6⟩ := b4
  go_wp2_with (go_at_call 31; refine (mnum_any _ _).mono ?_; rintro e w5 ⟨rfl, rfl⟩)
  go_ret
  exact ⟨rfl, q4⟩
structure IntsF (w : World) (y m d h n s z : Int) (x o : ByteArray) : Prop where
  k : ∀ X, SQ w y m d h n s z X → Calls Tryz.prog 8 #[] X fun e w' => e = .returned (.bool true) ∧ SQ w y m d h n s z w'
  p : ∀ X, SQ w y m d h n s z X → Calls Tryz.prog 13 #[.string x, .agg #[.int .i64 y, .int .i64 m, .int .i64 d, .int .i64 h, .int .i64 n, .int .i64 s, .int .i64 z]] X fun e w' => e = .returned (.bool true) ∧ SQ w y m d h n s z w'
  q : ∀ X, SQ w y m d h n s z X → Calls Tryz.prog 13 #[.string o, .agg #[.int .i64 y, .int .i64 m, .int .i64 d, .int .i64 h, .int .i64 n, .int .i64 s, .int .i64 z]] X fun e w' => e = .returned (.bool true) ∧ SQ w y m d h n s z w'
set_option maxRecDepth 100000 in
set_option maxHeartbeats 4000000 in
theorem MomentInternals_walk (x : ByteArray) (y m d h n s z : Int) (o : ByteArray) (w : World) (he : Env w) (_ : x.size ≤ 140737488355328) (_ : o.size ≤ 140737488355328) :
    Calls Tryz.prog 6 #[.string x, mom y m d h n s z, .string o] w fun e w' => e = .returned (.bool true) ∧ Below w.heap.size w w' := by
  have hF : IntsF w y m d h n s z x o :=
    ⟨fun X hX => (known_any X hX.2.2.2.2.2.2.2.1).mono fun e w' ⟨k1, k2⟩ => ⟨k1, SQ.on hX k2⟩,
     fun X hX => (lawInternal_any x y m d h n s z X hX.2.2.2.2.2.2.2.1).mono fun e w' ⟨k1, k2⟩ => ⟨k1, SQ.on hX k2⟩,
     fun X hX => (lawInternal_any o y m d h n s z X hX.2.2.2.2.2.2.2.1).mono fun e w' ⟨k1, k2⟩ => ⟨k1, SQ.on hX k2⟩⟩
  have q0 : Below w.heap.size w (w.alloc (.cells #[.int .i64 y, .int .i64 m, .int .i64 d, .int .i64 h, .int .i64 n, .int .i64 s, .int .i64 z] 23)) := (Below.refl _ _).alloc (Nat.le_refl _) _
  have st : Hid (SQ w y m d h n s z (w.alloc (.cells #[.int .i64 y, .int .i64 m, .int .i64 d, .int .i64 h, .int .i64 n, .int .i64 s, .int .i64 z] 23))) := Lib.hid (SQ.on (X := w.alloc (.cells #[.int .i64 y, .int .i64 m, .int .i64 d, .int .i64 h, .int .i64 n, .int .i64 s, .int .i64 z] 23)) (by
    obtain ⟨c0, c1, c2, c3, c4, c5, c6⟩ := cells7_new w y m d h n s z 23
    exact ⟨c0, c1, c2, c3, c4, c5, c6, he.on q0, q0⟩) (Below.refl _ _))
  clear he q0
  unfold mom
  go_enter Tryz.func6, Tryz.ntmps6
  go_wp2_with fail
  refine (hF.k _ st.out).mono ?_
  rintro e w1 ⟨rfl, hs1⟩
  have cc2 := hs1
  obtain ⟨x0, x1, x2, x3, x4, x5, x6, _, _⟩ := cc2
  go_wp2_with fail
  refine (hF.p _ hs1).mono ?_
  rintro e w2 ⟨rfl, hs2⟩
  clear x0 x1 x2 x3 x4 x5 x6
  have cc3 := hs2
  obtain ⟨x0, x1, x2, x3, x4, x5, x6, _, _⟩ := cc3
  go_wp2_with fail
  refine (hF.q _ hs2).mono ?_
  rintro e w3 ⟨rfl, hs3⟩
  clear x0 x1 x2 x3 x4 x5 x6
  have cc4 := hs3
  obtain ⟨x0, x1, x2, x3, x4, x5, x6, _, _⟩ := cc4
  go_wp2_with fail
  refine (hF.p _ hs3).mono ?_
  rintro e w4 ⟨rfl, hs4⟩
  clear x0 x1 x2 x3 x4 x5 x6
  go_wp2
  go_ret
  exact ⟨rfl, hs4.2.2.2.2.2.2.2.2⟩
end Go.Proofs.YtlcjpkbcnoibeabGreatDoor
