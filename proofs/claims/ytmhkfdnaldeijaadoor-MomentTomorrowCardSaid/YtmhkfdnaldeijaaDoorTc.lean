/- The statement MomentTomorrow: the walk. -/
import Derived.Test.YtmhkfdnaldeijaaDoorTb
namespace Go.Proofs.YtmhkfdnaldeijaaDoor
open Go.RowKit

structure TomG (w : World) (g : Nat) (y m d h n s z a b c da ka ta db kb tb : Int) : Prop where
  nv : ∀ X, S2 w w.heap.size g y m d h n s z a b c h n s z X → Calls Tryd.prog 10 #[.agg #[.int .i64 a, .int .i64 b, .int .i64 c, .int .i64 h, .int .i64 n, .int .i64 s, .int .i64 z]] X fun e w' => e = .returned (.bool true) ∧ S2 w w.heap.size g y m d h n s z a b c h n s z w'
  nd : ∀ X, S2 w w.heap.size g y m d h n s z a b c h n s z X → Calls Tryd.prog 11 #[.agg #[.int .i64 a, .int .i64 b, .int .i64 c, .int .i64 h, .int .i64 n, .int .i64 s, .int .i64 z]] X fun e w' => e = .returned (.int .i64 db) ∧ S2 w w.heap.size g y m d h n s z a b c h n s z w'
  od : ∀ X, S2 w w.heap.size g y m d h n s z a b c h n s z X → Calls Tryd.prog 11 #[.agg #[.int .i64 y, .int .i64 m, .int .i64 d, .int .i64 h, .int .i64 n, .int .i64 s, .int .i64 z]] X fun e w' => e = .returned (.int .i64 da) ∧ S2 w w.heap.size g y m d h n s z a b c h n s z w'
  nk : ∀ X, S2 w w.heap.size g y m d h n s z a b c h n s z X → Calls Tryd.prog 12 #[.agg #[.int .i64 a, .int .i64 b, .int .i64 c, .int .i64 h, .int .i64 n, .int .i64 s, .int .i64 z]] X fun e w' => e = .returned (.int .i64 kb) ∧ S2 w w.heap.size g y m d h n s z a b c h n s z w'
  nt : ∀ X, S2 w w.heap.size g y m d h n s z a b c h n s z X → Calls Tryd.prog 13 #[.agg #[.int .i64 a, .int .i64 b, .int .i64 c, .int .i64 h, .int .i64 n, .int .i64 s, .int .i64 z]] X fun e w' => e = .returned (.int .i64 tb) ∧ S2 w w.heap.size g y m d h n s z a b c h n s z w'
  ot : ∀ X, S2 w w.heap.size g y m d h n s z a b c h n s z X → Calls Tryd.prog 13 #[.agg #[.int .i64 y, .int .i64 m, .int .i64 d, .int .i64 h, .int .i64 n, .int .i64 s, .int .i64 z]] X fun e w' => e = .returned (.int .i64 ta) ∧ S2 w w.heap.size g y m d h n s z a b c h n s z w'
def S3 (w : World) (g k : Nat) (y m d h n s z a b c d1 : Int) (X : World) : Prop := X.cell? ⟨w.heap.size, 0, none⟩ = some (.int .i64 y) ∧ X.cell? ⟨w.heap.size, 1, none⟩ = some (.int .i64 m) ∧ X.cell? ⟨w.heap.size, 2, none⟩ = some (.int .i64 d) ∧ X.cell? ⟨w.heap.size, 3, none⟩ = some (.int .i64 h) ∧ X.cell? ⟨w.heap.size, 4, none⟩ = some (.int .i64 n) ∧ X.cell? ⟨w.heap.size, 5, none⟩ = some (.int .i64 s) ∧ X.cell? ⟨w.heap.size, 6, none⟩ = some (.int .i64 z) ∧ X.cell? ⟨g, 0, none⟩ = some (.int .i64 a) ∧ X.cell? ⟨g, 1, none⟩ = some (.int .i64 b) ∧ X.cell? ⟨g, 2, none⟩ = some (.int .i64 c) ∧ X.cell? ⟨g, 3, none⟩ = some (.int .i64 h) ∧ X.cell? ⟨g, 4, none⟩ = some (.int .i64 n) ∧ X.cell? ⟨g, 5, none⟩ = some (.int .i64 s) ∧ X.cell? ⟨g, 6, none⟩ = some (.int .i64 z) ∧ X.cell? ⟨k, 0, none⟩ = some (.int .i64 y) ∧ X.cell? ⟨k, 1, none⟩ = some (.int .i64 m) ∧ X.cell? ⟨k, 2, none⟩ = some (.int .i64 d1) ∧ X.cell? ⟨k, 3, none⟩ = some (.int .i64 h) ∧ X.cell? ⟨k, 4, none⟩ = some (.int .i64 n) ∧ X.cell? ⟨k, 5, none⟩ = some (.int .i64 s) ∧ X.cell? ⟨k, 6, none⟩ = some (.int .i64 z) ∧ Env X ∧ Below w.heap.size w X
theorem S3.mk' {w : World} {g k : Nat} {y m d h n s z a b c d1 : Int} {X : World} (k0 : Cells7 w.heap.size y m d h n s z X) (k1 : Cells7 g a b c h n s z X) (k2 : Cells7 k y m d1 h n s z X) (he : Env X) (hb : Below w.heap.size w X) : S3 w g k y m d h n s z a b c d1 X :=
  ⟨k0.c0, k0.c1, k0.c2, k0.c3, k0.c4, k0.c5, k0.c6, k1.c0, k1.c1, k1.c2, k1.c3, k1.c4, k1.c5, k1.c6, k2.c0, k2.c1, k2.c2, k2.c3, k2.c4, k2.c5, k2.c6, he, hb⟩
theorem S3.on {w : World} {g k : Nat} {y m d h n s z a b c d1 : Int} {X X' : World} (q : S3 w g k y m d h n s z a b c d1 X) (hb : Below X.heap.size X X') : S3 w g k y m d h n s z a b c d1 X' := by
  obtain ⟨a0, a1, a2, a3, a4, a5, a6, b0, b1, b2, b3, b4, b5, b6, c0, c1, c2, c3, c4, c5, c6, he, hw⟩ := q
  exact S3.mk' (Cells7.on ⟨a0, a1, a2, a3, a4, a5, a6⟩ hb) (Cells7.on ⟨b0, b1, b2, b3, b4, b5, b6⟩ hb) (Cells7.on ⟨c0, c1, c2, c3, c4, c5, c6⟩ hb) (he.on hb) (hw.trans (hb.mono hw.size))
theorem S3.env {w : World} {g k : Nat} {y m d h n s z a b c d1 : Int} {X : World} (q : S3 w g k y m d h n s z a b c d1 X) : Env X := q.2.2.2.2.2.2.2.2.2.2.2.2.2.2.2.2.2.2.2.2.2.1
structure TomV (w : World) (g k : Nat) (y m d h n s z a b c d1 : Int) (vn : Bool) : Prop where
  v : ∀ X, S3 w g k y m d h n s z a b c d1 X → Calls Tryd.prog 10 #[.agg #[.int .i64 y, .int .i64 m, .int .i64 d1, .int .i64 h, .int .i64 n, .int .i64 s, .int .i64 z]] X fun e w' => e = .returned (.bool vn) ∧ S3 w g k y m d h n s z a b c d1 w'
structure TomH (w : World) (g : Nat) (y m d h n s z fy da df ka : Int) : Prop where
  hfd : ∀ X, S2 w w.heap.size g y m d h n s z fy m d h n s z X → Calls Tryd.prog 11 #[.agg #[.int .i64 fy, .int .i64 m, .int .i64 d, .int .i64 h, .int .i64 n, .int .i64 s, .int .i64 z]] X fun e w' => e = .returned (.int .i64 df) ∧ S2 w w.heap.size g y m d h n s z fy m d h n s z w'
  hod : ∀ X, S2 w w.heap.size g y m d h n s z fy m d h n s z X → Calls Tryd.prog 11 #[.agg #[.int .i64 y, .int .i64 m, .int .i64 d, .int .i64 h, .int .i64 n, .int .i64 s, .int .i64 z]] X fun e w' => e = .returned (.int .i64 da) ∧ S2 w w.heap.size g y m d h n s z fy m d h n s z w'
  hfk : ∀ X, S2 w w.heap.size g y m d h n s z fy m d h n s z X → Calls Tryd.prog 12 #[.agg #[.int .i64 fy, .int .i64 m, .int .i64 d, .int .i64 h, .int .i64 n, .int .i64 s, .int .i64 z]] X fun e w' => e = .returned (.int .i64 ka) ∧ S2 w w.heap.size g y m d h n s z fy m d h n s z w'
theorem cell_alT {X : World} {b i : Nat} {v : Value} (h : X.cell? ⟨b, i, none⟩ = some v) (o : Obj) : (X.alloc o).cell? ⟨b, i, none⟩ = some v := by
  rw [((Below.refl X.heap.size X).alloc (Nat.le_refl _) o).cell (p := ⟨b, i, none⟩) (block_lt_of_cell h)]; exact h
structure TomN (w : World) (y m d h n s z a b c : Int) (is : Bool) : Prop where
  beh : ∀ X, Calls Tryd.prog 14 #[.agg #[.int .i64 y, .int .i64 m, .int .i64 d, .int .i64 h, .int .i64 n, .int .i64 s, .int .i64 z]] X fun e w' => e = .returned (.tuple #[.agg #[.int .i64 a, .int .i64 b, .int .i64 c, .int .i64 h, .int .i64 n, .int .i64 s, .int .i64 z], .bool is]) ∧ Below X.heap.size X w'
theorem wr64 (k : Int) (h1 : -9223372036854775808 ≤ k) (h2 : k ≤ 9223372036854775807) : IntKind.i64.wrap k = k := by simp [IntKind.wrap, IntKind.bits, IntKind.signed]; omega
set_option maxRecDepth 100000 in
set_option maxHeartbeats 8000000 in
theorem MomentTomorrow_1 (y m d h n s z a b c da ka ta db kb tb : Int) (w : World) (he : Env w) (hG : ∀ g, TomG w g y m d h n s z a b c da ka ta db kb tb) (t1 : (db != da + 1) = false) (t2' : (kb != (ka + 1).tmod 7) = false) (t3 : (tb != ta + 86400) = false) (fy fz df dz : Int) (hfy : wrap64 (y + 400) = fy) (hfz : wrap64 (y - 400) = fz) (hU : (decide (9999 < fy) = false ∧ (df == da + 146097) = true ∧ ∀ g, TomH w g y m d h n s z fy da df ka) ∨ (decide (9999 < fy) = true ∧ (dz + 146097 == da) = true ∧ -10000000 ≤ dz ∧ dz ≤ 10000000 ∧ ∀ g, TomH w g y m d h n s z fz da dz ka)) (vn : Bool) (d1 : Int) (hd1 : wrap64 (d + 1) = d1) (hcm : (vn = true ∧ y = a ∧ m = b ∧ d1 = c) ∨ (vn = false ∧ (d1 == c) = false ∧ (c == d1) = false)) (hVn : ∀ g k, TomV w g k y m d h n s z a b c d1 vn) (l1 : -10000000 ≤ da) (l2 : da ≤ 10000000) (l3 : 0 ≤ ka) (l4 : ka ≤ 6) (l5 : -1000000000000 ≤ ta) (l6 : ta ≤ 1000000000000) (hv : validB y m d h n s z = true) (hN : TomN w y m d h n s z a b c true) (hk : wdayV y m d h n s z = ka) :
    Calls Tryd.prog 3 #[mom y m d h n s z] w fun e w' => e = .returned (.bool true) ∧ Below w.heap.size w w' := by
  have HK := Lib.hid (fun W hW => known_any W hW)
  have HV := Lib.hid (fun W hW => momValid_any y m d h n s z W hW)
  have HW := Lib.hid (fun W hW => momWeekday_any y m d h n s z W hW)
  rw [hk] at HW
  have q0 : Below w.heap.size w (w.alloc (.cells #[.int .i64 y, .int .i64 m, .int .i64 d, .int .i64 h, .int .i64 n, .int .i64 s, .int .i64 z] 23)) := (Below.refl _ _).alloc (Nat.le_refl _) _
  have st0 : S1 w w.heap.size y m d h n s z (w.alloc (.cells #[.int .i64 y, .int .i64 m, .int .i64 d, .int .i64 h, .int .i64 n, .int .i64 s, .int .i64 z] 23)) := S1.mk' (cells7_new w y m d h n s z _) (he.on q0) q0
  rw [hv] at HV
  clear he q0 hv
  unfold mom at HV HW ⊢
  go_enter Tryd.func3, Tryd.ntmps3
  go_wp2_with fail
  refine (HK.out _ st0.evT).mono ?_
  rintro e w1 ⟨rfl, hb1⟩
  have st1 := st0.on hb1
  clear hb1 st0
  obtain ⟨x0, x1, x2, x3, x4, x5, x6, xe, xb⟩ := st1
  go_wp2_with fail
  refine (HV.out _ xe).mono ?_
  rintro e w2 ⟨rfl, hb2⟩
  have st2 : S1 w w.heap.size y m d h n s z w2 := S1.on ⟨x0, x1, x2, x3, x4, x5, x6, xe, xb⟩ hb2
  clear hb2 x0 x1 x2 x3 x4 x5 x6 xe xb HK HV
  obtain ⟨x0, x1, x2, x3, x4, x5, x6, xe, xb⟩ := st2
  go_wp2_with fail
  refine (HW.out _ xe).mono ?_
  rintro e w3 ⟨rfl, hb3⟩
  have st3 : S1 w w.heap.size y m d h n s z w3 := S1.on ⟨x0, x1, x2, x3, x4, x5, x6, xe, xb⟩ hb3
  clear hb3 x0 x1 x2 x3 x4 x5 x6 xe xb HW
  obtain ⟨x0, x1, x2, x3, x4, x5, x6, xe, xb⟩ := st3
  go_wp2_with fail
  refine (hN.beh _).mono ?_
  rintro e w5 ⟨rfl, hb5⟩
  have st5 : S1 w w.heap.size y m d h n s z w5 := S1.on ⟨x0, x1, x2, x3, x4, x5, x6, xe, xb⟩ hb5
  clear hb5 x0 x1 x2 x3 x4 x5 x6 xe xb
  obtain ⟨x0, x1, x2, x3, x4, x5, x6, xe, xb⟩ := st5
  have hG5 := hG w5.heap.size
  have wr1 := wr64 (da + 1) (by omega) (by omega)
  have wr2 := wr64 (ka + 1) (by omega) (by omega)
  have wr3 := wr64 (ta + 86400) (by omega) (by omega)
  have wr4 := wr64 ((ka + 1).tmod 7) (by rw [Int.tmod_eq_emod_of_nonneg (by omega)]; omega) (by rw [Int.tmod_eq_emod_of_nonneg (by omega)]; omega)
  have wr5 := wr64 ((ka + 1) % 7) (by omega) (by omega)
  have c5 := cells7_new w5 a b c h n s z 23
  have al5 : Below w5.heap.size w5 (w5.alloc (.cells #[.int .i64 a, .int .i64 b, .int .i64 c, .int .i64 h, .int .i64 n, .int .i64 s, .int .i64 z] 23)) := (Below.refl _ _).alloc (Nat.le_refl _) _
  have st6 : S2 w w.heap.size w5.heap.size y m d h n s z a b c h n s z (w5.alloc (.cells #[.int .i64 a, .int .i64 b, .int .i64 c, .int .i64 h, .int .i64 n, .int .i64 s, .int .i64 z] 23)) := S2.mk' (Cells7.on ⟨x0, x1, x2, x3, x4, x5, x6⟩ al5) c5 (xe.on al5) (xb.trans (al5.mono xb.size))
  have st7 := st6.on (Below.refl _ _).drew
  clear c5 al5
  go_wp2
  (go_region_held3 (fun X => X.cell? ⟨w.heap.size, 0, none⟩ = some (.int .i64 y) ∧ X.cell? ⟨w.heap.size, 1, none⟩ = some (.int .i64 m) ∧ X.cell? ⟨w.heap.size, 2, none⟩ = some (.int .i64 d) ∧ X.cell? ⟨w.heap.size, 3, none⟩ = some (.int .i64 h) ∧ X.cell? ⟨w.heap.size, 4, none⟩ = some (.int .i64 n) ∧ X.cell? ⟨w.heap.size, 5, none⟩ = some (.int .i64 s) ∧ X.cell? ⟨w.heap.size, 6, none⟩ = some (.int .i64 z) ∧ X.cell? ⟨w5.heap.size, 0, none⟩ = some (.int .i64 a) ∧ X.cell? ⟨w5.heap.size, 1, none⟩ = some (.int .i64 b) ∧ X.cell? ⟨w5.heap.size, 2, none⟩ = some (.int .i64 c) ∧ X.cell? ⟨w5.heap.size, 3, none⟩ = some (.int .i64 h) ∧ X.cell? ⟨w5.heap.size, 4, none⟩ = some (.int .i64 n) ∧ X.cell? ⟨w5.heap.size, 5, none⟩ = some (.int .i64 s) ∧ X.cell? ⟨w5.heap.size, 6, none⟩ = some (.int .i64 z) ∧ Env X ∧ Below w.heap.size w X) (first | exact st7 | assumption) (first | (go_at_call 10; refine (hG5.nv _ ?_).mono ?_; assumption; rintro e wv0 ⟨rfl, hs0⟩) | (go_at_call_of 11 a; refine (hG5.nd _ ?_).mono ?_; assumption; rintro e wv1 ⟨rfl, hs1⟩) | (go_at_call_of 11 y; refine (hG5.od _ ?_).mono ?_; assumption; rintro e wv2 ⟨rfl, hs2⟩) | (go_at_call 12; refine (hG5.nk _ ?_).mono ?_; assumption; rintro e wv3 ⟨rfl, hs3⟩) | (go_at_call_of 13 a; refine (hG5.nt _ ?_).mono ?_; assumption; rintro e wv4 ⟨rfl, hs4⟩) | (go_at_call_of 13 y; refine (hG5.ot _ ?_).mono ?_; assumption; rintro e wv5 ⟨rfl, hs5⟩)))
  clear st6 st7 hG hG5 hN wr1 wr2 wr3 wr4 wr5 t1 t2' t3 l5 l6 x0 x1 x2 x3 x4 x5 x6 xe xb
  obtain ⟨x0, x1, x2, x3, x4, x5, x6, z0, z1, z2, z3, z4, z5, z6, xe, xb⟩ := hs5
  have c8 := cells7_new wv5 y m d1 h n s z 23
  have al8 : Below wv5.heap.size wv5 (wv5.alloc (.cells #[.int .i64 y, .int .i64 m, .int .i64 d1, .int .i64 h, .int .i64 n, .int .i64 s, .int .i64 z] 23)) := (Below.refl _ _).alloc (Nat.le_refl _) _
  have st8 : S3 w w5.heap.size wv5.heap.size y m d h n s z a b c d1 (wv5.alloc (.cells #[.int .i64 y, .int .i64 m, .int .i64 d1, .int .i64 h, .int .i64 n, .int .i64 s, .int .i64 z] 23)) := S3.mk' (Cells7.on ⟨x0, x1, x2, x3, x4, x5, x6⟩ al8) (Cells7.on ⟨z0, z1, z2, z3, z4, z5, z6⟩ al8) c8 (xe.on al8) (xb.trans (al8.mono xb.size))
  have st9 := st8.on (Below.refl _ _).drew
  have hV9 := hVn w5.heap.size wv5.heap.size
  clear hVn st8
  rcases hcm with ⟨rfl, rfl, rfl, rfl⟩ | ⟨rfl, hc1, hc2⟩
  · go_wp2
    (go_region_held3 (fun X => X.cell? ⟨w.heap.size, 0, none⟩ = some (.int .i64 y) ∧ X.cell? ⟨w.heap.size, 1, none⟩ = some (.int .i64 m) ∧ X.cell? ⟨w.heap.size, 2, none⟩ = some (.int .i64 d) ∧ X.cell? ⟨w.heap.size, 3, none⟩ = some (.int .i64 h) ∧ X.cell? ⟨w.heap.size, 4, none⟩ = some (.int .i64 n) ∧ X.cell? ⟨w.heap.size, 5, none⟩ = some (.int .i64 s) ∧ X.cell? ⟨w.heap.size, 6, none⟩ = some (.int .i64 z) ∧ X.cell? ⟨w5.heap.size, 0, none⟩ = some (.int .i64 y) ∧ X.cell? ⟨w5.heap.size, 1, none⟩ = some (.int .i64 m) ∧ X.cell? ⟨w5.heap.size, 2, none⟩ = some (.int .i64 d1) ∧ X.cell? ⟨w5.heap.size, 3, none⟩ = some (.int .i64 h) ∧ X.cell? ⟨w5.heap.size, 4, none⟩ = some (.int .i64 n) ∧ X.cell? ⟨w5.heap.size, 5, none⟩ = some (.int .i64 s) ∧ X.cell? ⟨w5.heap.size, 6, none⟩ = some (.int .i64 z) ∧ X.cell? ⟨wv5.heap.size, 0, none⟩ = some (.int .i64 y) ∧ X.cell? ⟨wv5.heap.size, 1, none⟩ = some (.int .i64 m) ∧ X.cell? ⟨wv5.heap.size, 2, none⟩ = some (.int .i64 d1) ∧ X.cell? ⟨wv5.heap.size, 3, none⟩ = some (.int .i64 h) ∧ X.cell? ⟨wv5.heap.size, 4, none⟩ = some (.int .i64 n) ∧ X.cell? ⟨wv5.heap.size, 5, none⟩ = some (.int .i64 s) ∧ X.cell? ⟨wv5.heap.size, 6, none⟩ = some (.int .i64 z) ∧ Env X ∧ Below w.heap.size w X) (first | exact st9 | assumption) (first | (go_at_call 10; refine (hV9.v _ ?_).mono ?_; assumption; rintro e wv9 ⟨rfl, hs9⟩)))
    clear x0 x1 x2 x3 x4 x5 x6 z0 z1 z2 z3 z4 z5 z6 xe xb st9 hV9
    obtain ⟨x0, x1, x2, x3, x4, x5, x6, _, _, _, _, _, _, _, _, _, _, _, _, _, _, xe, xb⟩ := hs9
    rcases hU with ⟨hy, hq, hH⟩ | ⟨hy, hq, e1, e2, hH⟩
    · have cf := cells7_new wv9 fy m d h n s z 23
      have alf : Below wv9.heap.size wv9 (wv9.alloc (.cells #[.int .i64 fy, .int .i64 m, .int .i64 d, .int .i64 h, .int .i64 n, .int .i64 s, .int .i64 z] 23)) := (Below.refl _ _).alloc (Nat.le_refl _) _
      have stf : S2 w w.heap.size wv9.heap.size y m d h n s z fy m d h n s z (wv9.alloc (.cells #[.int .i64 fy, .int .i64 m, .int .i64 d, .int .i64 h, .int .i64 n, .int .i64 s, .int .i64 z] 23)) := S2.mk' (Cells7.on ⟨x0, x1, x2, x3, x4, x5, x6⟩ alf) cf (xe.on alf) (xb.trans (alf.mono xb.size))
      have stf' := stf.on (Below.refl _ _).drew
      have hH9 := hH wv9.heap.size
      have wf1 := wr64 (da + 146097) (by omega) (by omega)
      clear cf alf hH
      have hya := cell_alT x0
      go_wp2
      (go_region_held3 (fun X => X.cell? ⟨w.heap.size, 0, none⟩ = some (.int .i64 y) ∧ X.cell? ⟨w.heap.size, 1, none⟩ = some (.int .i64 m) ∧ X.cell? ⟨w.heap.size, 2, none⟩ = some (.int .i64 d) ∧ X.cell? ⟨w.heap.size, 3, none⟩ = some (.int .i64 h) ∧ X.cell? ⟨w.heap.size, 4, none⟩ = some (.int .i64 n) ∧ X.cell? ⟨w.heap.size, 5, none⟩ = some (.int .i64 s) ∧ X.cell? ⟨w.heap.size, 6, none⟩ = some (.int .i64 z) ∧ X.cell? ⟨wv9.heap.size, 0, none⟩ = some (.int .i64 fy) ∧ X.cell? ⟨wv9.heap.size, 1, none⟩ = some (.int .i64 m) ∧ X.cell? ⟨wv9.heap.size, 2, none⟩ = some (.int .i64 d) ∧ X.cell? ⟨wv9.heap.size, 3, none⟩ = some (.int .i64 h) ∧ X.cell? ⟨wv9.heap.size, 4, none⟩ = some (.int .i64 n) ∧ X.cell? ⟨wv9.heap.size, 5, none⟩ = some (.int .i64 s) ∧ X.cell? ⟨wv9.heap.size, 6, none⟩ = some (.int .i64 z) ∧ Env X ∧ Below w.heap.size w X) (first | exact stf' | assumption) (first | (go_at_call_of 11 fy; refine (hH9.hfd _ ?_).mono ?_; assumption; rintro e wu0 ⟨rfl, hu0⟩) | (go_at_call_of 11 y; refine (hH9.hod _ ?_).mono ?_; assumption; rintro e wu1 ⟨rfl, hu1⟩) | (go_at_call 12; refine (hH9.hfk _ ?_).mono ?_; assumption; rintro e wu2 ⟨rfl, hu2⟩)))
      go_wp2
      go_ret
      exact ⟨rfl, hu2.env.2⟩
    · have cf := cells7_new wv9 fz m d h n s z 23
      have alf : Below wv9.heap.size wv9 (wv9.alloc (.cells #[.int .i64 fz, .int .i64 m, .int .i64 d, .int .i64 h, .int .i64 n, .int .i64 s, .int .i64 z] 23)) := (Below.refl _ _).alloc (Nat.le_refl _) _
      have stf : S2 w w.heap.size wv9.heap.size y m d h n s z fz m d h n s z (wv9.alloc (.cells #[.int .i64 fz, .int .i64 m, .int .i64 d, .int .i64 h, .int .i64 n, .int .i64 s, .int .i64 z] 23)) := S2.mk' (Cells7.on ⟨x0, x1, x2, x3, x4, x5, x6⟩ alf) cf (xe.on alf) (xb.trans (alf.mono xb.size))
      have stf' := stf.on (Below.refl _ _).drew
      have hH9 := hH wv9.heap.size
      have wf1 := wr64 (dz + 146097) (by omega) (by omega)
      clear cf alf hH
      have hya := cell_alT x0
      go_wp2
      (go_region_held3 (fun X => X.cell? ⟨w.heap.size, 0, none⟩ = some (.int .i64 y) ∧ X.cell? ⟨w.heap.size, 1, none⟩ = some (.int .i64 m) ∧ X.cell? ⟨w.heap.size, 2, none⟩ = some (.int .i64 d) ∧ X.cell? ⟨w.heap.size, 3, none⟩ = some (.int .i64 h) ∧ X.cell? ⟨w.heap.size, 4, none⟩ = some (.int .i64 n) ∧ X.cell? ⟨w.heap.size, 5, none⟩ = some (.int .i64 s) ∧ X.cell? ⟨w.heap.size, 6, none⟩ = some (.int .i64 z) ∧ X.cell? ⟨wv9.heap.size, 0, none⟩ = some (.int .i64 fz) ∧ X.cell? ⟨wv9.heap.size, 1, none⟩ = some (.int .i64 m) ∧ X.cell? ⟨wv9.heap.size, 2, none⟩ = some (.int .i64 d) ∧ X.cell? ⟨wv9.heap.size, 3, none⟩ = some (.int .i64 h) ∧ X.cell? ⟨wv9.heap.size, 4, none⟩ = some (.int .i64 n) ∧ X.cell? ⟨wv9.heap.size, 5, none⟩ = some (.int .i64 s) ∧ X.cell? ⟨wv9.heap.size, 6, none⟩ = some (.int .i64 z) ∧ Env X ∧ Below w.heap.size w X) (first | exact stf' | assumption) (first | (go_at_call_of 11 fz; refine (hH9.hfd _ ?_).mono ?_; assumption; rintro e wu0 ⟨rfl, hu0⟩) | (go_at_call_of 11 y; refine (hH9.hod _ ?_).mono ?_; assumption; rintro e wu1 ⟨rfl, hu1⟩) | (go_at_call 12; refine (hH9.hfk _ ?_).mono ?_; assumption; rintro e wu2 ⟨rfl, hu2⟩)))
      go_wp2
      go_ret
      exact ⟨rfl, hu2.env.2⟩
  · go_wp2
    (go_region_held3 (fun X => X.cell? ⟨w.heap.size, 0, none⟩ = some (.int .i64 y) ∧ X.cell? ⟨w.heap.size, 1, none⟩ = some (.int .i64 m) ∧ X.cell? ⟨w.heap.size, 2, none⟩ = some (.int .i64 d) ∧ X.cell? ⟨w.heap.size, 3, none⟩ = some (.int .i64 h) ∧ X.cell? ⟨w.heap.size, 4, none⟩ = some (.int .i64 n) ∧ X.cell? ⟨w.heap.size, 5, none⟩ = some (.int .i64 s) ∧ X.cell? ⟨w.heap.size, 6, none⟩ = some (.int .i64 z) ∧ X.cell? ⟨w5.heap.size, 0, none⟩ = some (.int .i64 a) ∧ X.cell? ⟨w5.heap.size, 1, none⟩ = some (.int .i64 b) ∧ X.cell? ⟨w5.heap.size, 2, none⟩ = some (.int .i64 c) ∧ X.cell? ⟨w5.heap.size, 3, none⟩ = some (.int .i64 h) ∧ X.cell? ⟨w5.heap.size, 4, none⟩ = some (.int .i64 n) ∧ X.cell? ⟨w5.heap.size, 5, none⟩ = some (.int .i64 s) ∧ X.cell? ⟨w5.heap.size, 6, none⟩ = some (.int .i64 z) ∧ X.cell? ⟨wv5.heap.size, 0, none⟩ = some (.int .i64 y) ∧ X.cell? ⟨wv5.heap.size, 1, none⟩ = some (.int .i64 m) ∧ X.cell? ⟨wv5.heap.size, 2, none⟩ = some (.int .i64 d1) ∧ X.cell? ⟨wv5.heap.size, 3, none⟩ = some (.int .i64 h) ∧ X.cell? ⟨wv5.heap.size, 4, none⟩ = some (.int .i64 n) ∧ X.cell? ⟨wv5.heap.size, 5, none⟩ = some (.int .i64 s) ∧ X.cell? ⟨wv5.heap.size, 6, none⟩ = some (.int .i64 z) ∧ Env X ∧ Below w.heap.size w X) (first | exact st9 | assumption) (first | (go_at_call 10; refine (hV9.v _ ?_).mono ?_; assumption; rintro e wv9 ⟨rfl, hs9⟩)))
    clear x0 x1 x2 x3 x4 x5 x6 z0 z1 z2 z3 z4 z5 z6 xe xb st9 hV9
    obtain ⟨x0, x1, x2, x3, x4, x5, x6, _, _, _, _, _, _, _, _, _, _, _, _, _, _, xe, xb⟩ := hs9
    rcases hU with ⟨hy, hq, hH⟩ | ⟨hy, hq, e1, e2, hH⟩
    · have cf := cells7_new wv9 fy m d h n s z 23
      have alf : Below wv9.heap.size wv9 (wv9.alloc (.cells #[.int .i64 fy, .int .i64 m, .int .i64 d, .int .i64 h, .int .i64 n, .int .i64 s, .int .i64 z] 23)) := (Below.refl _ _).alloc (Nat.le_refl _) _
      have stf : S2 w w.heap.size wv9.heap.size y m d h n s z fy m d h n s z (wv9.alloc (.cells #[.int .i64 fy, .int .i64 m, .int .i64 d, .int .i64 h, .int .i64 n, .int .i64 s, .int .i64 z] 23)) := S2.mk' (Cells7.on ⟨x0, x1, x2, x3, x4, x5, x6⟩ alf) cf (xe.on alf) (xb.trans (alf.mono xb.size))
      have stf' := stf.on (Below.refl _ _).drew
      have hH9 := hH wv9.heap.size
      have wf1 := wr64 (da + 146097) (by omega) (by omega)
      clear cf alf hH
      have hya := cell_alT x0
      go_wp2
      (go_region_held3 (fun X => X.cell? ⟨w.heap.size, 0, none⟩ = some (.int .i64 y) ∧ X.cell? ⟨w.heap.size, 1, none⟩ = some (.int .i64 m) ∧ X.cell? ⟨w.heap.size, 2, none⟩ = some (.int .i64 d) ∧ X.cell? ⟨w.heap.size, 3, none⟩ = some (.int .i64 h) ∧ X.cell? ⟨w.heap.size, 4, none⟩ = some (.int .i64 n) ∧ X.cell? ⟨w.heap.size, 5, none⟩ = some (.int .i64 s) ∧ X.cell? ⟨w.heap.size, 6, none⟩ = some (.int .i64 z) ∧ X.cell? ⟨wv9.heap.size, 0, none⟩ = some (.int .i64 fy) ∧ X.cell? ⟨wv9.heap.size, 1, none⟩ = some (.int .i64 m) ∧ X.cell? ⟨wv9.heap.size, 2, none⟩ = some (.int .i64 d) ∧ X.cell? ⟨wv9.heap.size, 3, none⟩ = some (.int .i64 h) ∧ X.cell? ⟨wv9.heap.size, 4, none⟩ = some (.int .i64 n) ∧ X.cell? ⟨wv9.heap.size, 5, none⟩ = some (.int .i64 s) ∧ X.cell? ⟨wv9.heap.size, 6, none⟩ = some (.int .i64 z) ∧ Env X ∧ Below w.heap.size w X) (first | exact stf' | assumption) (first | (go_at_call_of 11 fy; refine (hH9.hfd _ ?_).mono ?_; assumption; rintro e wu0 ⟨rfl, hu0⟩) | (go_at_call_of 11 y; refine (hH9.hod _ ?_).mono ?_; assumption; rintro e wu1 ⟨rfl, hu1⟩) | (go_at_call 12; refine (hH9.hfk _ ?_).mono ?_; assumption; rintro e wu2 ⟨rfl, hu2⟩)))
      go_wp2
      go_ret
      exact ⟨rfl, hu2.env.2⟩
    · have cf := cells7_new wv9 fz m d h n s z 23
      have alf : Below wv9.heap.size wv9 (wv9.alloc (.cells #[.int .i64 fz, .int .i64 m, .int .i64 d, .int .i64 h, .int .i64 n, .int .i64 s, .int .i64 z] 23)) := (Below.refl _ _).alloc (Nat.le_refl _) _
      have stf : S2 w w.heap.size wv9.heap.size y m d h n s z fz m d h n s z (wv9.alloc (.cells #[.int .i64 fz, .int .i64 m, .int .i64 d, .int .i64 h, .int .i64 n, .int .i64 s, .int .i64 z] 23)) := S2.mk' (Cells7.on ⟨x0, x1, x2, x3, x4, x5, x6⟩ alf) cf (xe.on alf) (xb.trans (alf.mono xb.size))
      have stf' := stf.on (Below.refl _ _).drew
      have hH9 := hH wv9.heap.size
      have wf1 := wr64 (dz + 146097) (by omega) (by omega)
      clear cf alf hH
      have hya := cell_alT x0
      go_wp2
      (go_region_held3 (fun X => X.cell? ⟨w.heap.size, 0, none⟩ = some (.int .i64 y) ∧ X.cell? ⟨w.heap.size, 1, none⟩ = some (.int .i64 m) ∧ X.cell? ⟨w.heap.size, 2, none⟩ = some (.int .i64 d) ∧ X.cell? ⟨w.heap.size, 3, none⟩ = some (.int .i64 h) ∧ X.cell? ⟨w.heap.size, 4, none⟩ = some (.int .i64 n) ∧ X.cell? ⟨w.heap.size, 5, none⟩ = some (.int .i64 s) ∧ X.cell? ⟨w.heap.size, 6, none⟩ = some (.int .i64 z) ∧ X.cell? ⟨wv9.heap.size, 0, none⟩ = some (.int .i64 fz) ∧ X.cell? ⟨wv9.heap.size, 1, none⟩ = some (.int .i64 m) ∧ X.cell? ⟨wv9.heap.size, 2, none⟩ = some (.int .i64 d) ∧ X.cell? ⟨wv9.heap.size, 3, none⟩ = some (.int .i64 h) ∧ X.cell? ⟨wv9.heap.size, 4, none⟩ = some (.int .i64 n) ∧ X.cell? ⟨wv9.heap.size, 5, none⟩ = some (.int .i64 s) ∧ X.cell? ⟨wv9.heap.size, 6, none⟩ = some (.int .i64 z) ∧ Env X ∧ Below w.heap.size w X) (first | exact stf' | assumption) (first | (go_at_call_of 11 fz; refine (hH9.hfd _ ?_).mono ?_; assumption; rintro e wu0 ⟨rfl, hu0⟩) | (go_at_call_of 11 y; refine (hH9.hod _ ?_).mono ?_; assumption; rintro e wu1 ⟨rfl, hu1⟩) | (go_at_call 12; refine (hH9.hfk _ ?_).mono ?_; assumption; rintro e wu2 ⟨rfl, hu2⟩)))
      go_wp2
      go_ret
      exact ⟨rfl, hu2.env.2⟩
end Go.Proofs.YtmhkfdnaldeijaaDoor
