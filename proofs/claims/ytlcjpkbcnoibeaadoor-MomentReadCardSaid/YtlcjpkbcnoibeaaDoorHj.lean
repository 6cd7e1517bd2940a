/- The statement MomentRead: the walk, case by case. -/
import Derived.Test.YtlcjpkbcnoibeaaDoorHi
import Derived.Deep.RegionHeld3
namespace Go.Proofs.YtlcjpkbcnoibeaaDoor
open Go.RowKit

theorem day_stamp (y m d : Int) (hd : isDayB y m d = true) : stampV y m d 0 0 0 0 = 86400 * daysV y m d 0 0 0 0 ∧ -10000000 ≤ daysV y m d 0 0 0 0 ∧ daysV y m d 0 0 0 0 ≤ 10000000 := by
  have hv : validB y m d 0 0 0 0 = true := time_valid hd (by omega) (by omega) (by omega) (by omega) (by omega) (by omega) (by omega) (by omega)
  have hb := stampV_bounds y m d 0 0 0 0
  have e : stampV y m d 0 0 0 0 = 86400 * daysV y m d 0 0 0 0 := by
    unfold stampV daysV stampI
    rw [hv, if_pos rfl, if_pos rfl]
    omega
  refine ⟨e, ?_, ?_⟩ <;> omega
abbrev SD2 (W1 : World) (a b : Nat) (y m d : Int) (X : World) : Prop :=
  X.cell? ⟨a, 0, none⟩ = some (.int .i64 y) ∧ X.cell? ⟨a, 1, none⟩ = some (.int .i64 m) ∧ X.cell? ⟨a, 2, none⟩ = some (.int .i64 d) ∧ X.cell? ⟨a, 3, none⟩ = some (.int .i64 0) ∧ X.cell? ⟨a, 4, none⟩ = some (.int .i64 0) ∧ X.cell? ⟨a, 5, none⟩ = some (.int .i64 0) ∧ X.cell? ⟨a, 6, none⟩ = some (.int .i64 0) ∧ X.cell? ⟨b, 0, none⟩ = some (.int .i64 y) ∧ X.cell? ⟨b, 1, none⟩ = some (.int .i64 m) ∧ X.cell? ⟨b, 2, none⟩ = some (.int .i64 d) ∧ X.cell? ⟨b, 3, none⟩ = some (.int .i64 0) ∧ X.cell? ⟨b, 4, none⟩ = some (.int .i64 0) ∧ X.cell? ⟨b, 5, none⟩ = some (.int .i64 0) ∧ X.cell? ⟨b, 6, none⟩ = some (.int .i64 0) ∧ Env X ∧ Below W1.heap.size W1 X
theorem SD2.mk' {W1 : World} {a b : Nat} {y m d : Int} (k : Cells7 a y m d 0 0 0 0 W1) (l : Cells7 b y m d 0 0 0 0 W1) (he : Env W1) : SD2 W1 a b y m d W1 :=
  ⟨k.c0, k.c1, k.c2, k.c3, k.c4, k.c5, k.c6, l.c0, l.c1, l.c2, l.c3, l.c4, l.c5, l.c6, he, Below.refl _ _⟩
theorem SD2.on {W1 : World} {a b : Nat} {y m d : Int} {X Y : World} (k : SD2 W1 a b y m d X) (hb : Below X.heap.size X Y) : SD2 W1 a b y m d Y := by
  obtain ⟨a0, a1, a2, a3, a4, a5, a6, b0, b1, b2, b3, b4, b5, b6, he, hq⟩ := k
  obtain ⟨c0, c1, c2, c3, c4, c5, c6⟩ := (Cells7.mk a0 a1 a2 a3 a4 a5 a6).on hb
  obtain ⟨d0, d1, d2, d3, d4, d5, d6⟩ := (Cells7.mk b0 b1 b2 b3 b4 b5 b6).on hb
  exact ⟨c0, c1, c2, c3, c4, c5, c6, d0, d1, d2, d3, d4, d5, d6, he.on hb, hq.trans (hb.mono hq.size)⟩
structure SDF (W1 : World) (a b : Nat) (y m d sv dv : Int) : Prop where
  st : ∀ X, SD2 W1 a b y m d X → Calls Tryd.prog 13 #[.agg #[.int .i64 y, .int .i64 m, .int .i64 d, .int .i64 0, .int .i64 0, .int .i64 0, .int .i64 0]] X fun e w' => e = .returned (.int .i64 sv) ∧ SD2 W1 a b y m d w'
  dy : ∀ X, SD2 W1 a b y m d X → Calls Tryd.prog 11 #[.agg #[.int .i64 y, .int .i64 m, .int .i64 d, .int .i64 0, .int .i64 0, .int .i64 0, .int .i64 0]] X fun e w' => e = .returned (.int .i64 dv) ∧ SD2 W1 a b y m d w'
set_option maxRecDepth 100000 in
set_option maxHeartbeats 4000000 in
theorem MomentRead_000 (x : ByteArray) (w : World) (he : Env w) (er : Int) (her : er ≠ 0) (HA : ∀ W, Env W → Calls Tryd.prog 20 #[.string x] W fun e w' => e = .returned (.tuple #[.agg #[.int .i64 0, .int .i64 0, .int .i64 0, .int .i64 0, .int .i64 0, .int .i64 0, .int .i64 0], .int .i64 er]) ∧ Below W.heap.size W w') (fr : Int) (hfr : fr ≠ 0) (HD : ∀ W, Env W → Calls Tryd.prog 19 #[.string x] W fun e w' => e = .returned (.tuple #[.agg #[.int .i64 0, .int .i64 0, .int .i64 0, .int .i64 0, .int .i64 0, .int .i64 0, .int .i64 0], .int .i64 fr]) ∧ Below W.heap.size W w') (gr : Int) (hgr : gr ≠ 0) (HH : ∀ W, Env W → Calls Tryd.prog 21 #[.string x] W fun e w' => e = .returned (.tuple #[.agg #[.int .i64 0, .int .i64 0, .int .i64 0, .int .i64 0, .int .i64 0, .int .i64 0, .int .i64 0], .int .i64 gr]) ∧ Below W.heap.size W w') :
    Calls Tryd.prog 6 #[.string x] w fun e w' => e = .returned (.bool true) ∧ Below w.heap.size w w' := by
  have HK := Lib.hid (fun W hW => known_any W hW)
  replace HA := Lib.hid HA
  replace HD := Lib.hid HD
  replace HH := Lib.hid HH
  have ber : (er != 0) = true := by rw [bne_iff_ne]; exact her
  have beq : (er == 0) = false := by rw [beq_eq_false_iff_ne]; exact her
  clear her
  have bfr : (fr != 0) = true := by rw [bne_iff_ne]; exact hfr
  have bfq : (fr == 0) = false := by rw [beq_eq_false_iff_ne]; exact hfr
  clear hfr
  have bgr : (gr != 0) = true := by rw [bne_iff_ne]; exact hgr
  have bgq : (gr == 0) = false := by rw [beq_eq_false_iff_ne]; exact hgr
  clear hgr
  go_enter Tryd.func6, Tryd.ntmps6
  go_wp2_with fail
  refine (HK.out _ he).mono ?_
  rintro e w1 ⟨rfl, hb1⟩
  have e1 := he.on hb1
  have q1 := hb1
  clear hb1 he
  go_wp2_with fail
  refine (HA.out _ e1).mono ?_
  rintro e w2 ⟨rfl, hb2⟩
  have e2 := e1.on hb2
  have q2 := q1.trans (hb2.mono q1.size)
  clear hb2 e1 q1
  have al2 : Below w2.heap.size w2 (w2.alloc (.cells #[.int .i64 0, .int .i64 0, .int .i64 0, .int .i64 0, .int .i64 0, .int .i64 0, .int .i64 0] 23)) := (Below.refl _ _).alloc (Nat.le_refl _) _
  have e2' := e2.on al2
  have q2' := q2.alloc q2.size (.cells #[.int .i64 0, .int .i64 0, .int .i64 0, .int .i64 0, .int .i64 0, .int .i64 0, .int .i64 0] 23)
  have ka2' : Cells7 w2.heap.size 0 0 0 0 0 0 0 (w2.alloc (.cells #[.int .i64 0, .int .i64 0, .int .i64 0, .int .i64 0, .int .i64 0, .int .i64 0, .int .i64 0] 23)) := cells7_new w2 0 0 0 0 0 0 0 _
  clear al2 e2 q2
  go_wp2_with fail
  refine (HD.out _ e2').mono ?_
  rintro e w3 ⟨rfl, hb3⟩
  have e3 := e2'.on hb3
  have q3 := q2'.trans (hb3.mono q2'.size)
  have ka3 := ka2'.on hb3
  clear hb3 e2' q2' ka2'
  have al3 : Below w3.heap.size w3 (w3.alloc (.cells #[.int .i64 0, .int .i64 0, .int .i64 0, .int .i64 0, .int .i64 0, .int .i64 0, .int .i64 0] 23)) := (Below.refl _ _).alloc (Nat.le_refl _) _
  have e3' := e3.on al3
  have q3' := q3.alloc q3.size (.cells #[.int .i64 0, .int .i64 0, .int .i64 0, .int .i64 0, .int .i64 0, .int .i64 0, .int .i64 0] 23)
  have ka3' := ka3.on al3
  have kb3' : Cells7 w3.heap.size 0 0 0 0 0 0 0 (w3.alloc (.cells #[.int .i64 0, .int .i64 0, .int .i64 0, .int .i64 0, .int .i64 0, .int .i64 0, .int .i64 0] 23)) := cells7_new w3 0 0 0 0 0 0 0 _
  clear al3 e3 q3 ka3
  go_wp2_with fail
  refine (HH.out _ e3').mono ?_
  rintro e w4 ⟨rfl, hb4⟩
  have e4 := e3'.on hb4
  have q4 := q3'.trans (hb4.mono q3'.size)
  have ka4 := ka3'.on hb4
  have kb4 := kb3'.on hb4
  clear hb4 e3' q3' ka3' kb3'
  have al4 : Below w4.heap.size w4 (w4.alloc (.cells #[.int .i64 0, .int .i64 0, .int .i64 0, .int .i64 0, .int .i64 0, .int .i64 0, .int .i64 0] 23)) := (Below.refl _ _).alloc (Nat.le_refl _) _
  have e4' := e4.on al4
  have q4' := q4.alloc q4.size (.cells #[.int .i64 0, .int .i64 0, .int .i64 0, .int .i64 0, .int .i64 0, .int .i64 0, .int .i64 0] 23)
  have ka4' := ka4.on al4
  have kb4' := kb4.on al4
  have kc4' : Cells7 w4.heap.size 0 0 0 0 0 0 0 (w4.alloc (.cells #[.int .i64 0, .int .i64 0, .int .i64 0, .int .i64 0, .int .i64 0, .int .i64 0, .int .i64 0] 23)) := cells7_new w4 0 0 0 0 0 0 0 _
  clear al4 e4 q4 ka4 kb4
  have kk1 := ka4'
  obtain ⟨a0_0, a0_1, a0_2, a0_3, a0_4, a0_5, a0_6⟩ := kk1
  have kk2 := kb4'
  obtain ⟨b1_0, b1_1, b1_2, b1_3, b1_4, b1_5, b1_6⟩ := kk2
  have kk3 := kc4'
  obtain ⟨c2_0, c2_1, c2_2, c2_3, c2_4, c2_5, c2_6⟩ := kk3
  go_wp2
  go_ret
  exact ⟨rfl, q4'⟩
set_option maxRecDepth 100000 in
set_option maxHeartbeats 4000000 in
theorem MomentRead_100 (x : ByteArray) (w : World) (he : Env w) (y m d h n s z : Int) (hv : validB y m d h n s z = true) (x26 : x.size = 26) (HA : ∀ W, Env W → Calls Tryd.prog 20 #[.string x] W fun e w' => e = .returned (.tuple #[.agg #[.int .i64 y, .int .i64 m, .int .i64 d, .int .i64 h, .int .i64 n, .int .i64 s, .int .i64 z], .int .i64 0]) ∧ Below W.heap.size W w') (fr : Int) (hfr : fr ≠ 0) (HD : ∀ W, Env W → Calls Tryd.prog 19 #[.string x] W fun e w' => e = .returned (.tuple #[.agg #[.int .i64 0, .int .i64 0, .int .i64 0, .int .i64 0, .int .i64 0, .int .i64 0, .int .i64 0], .int .i64 fr]) ∧ Below W.heap.size W w') (gr : Int) (hgr : gr ≠ 0) (HH : ∀ W, Env W → Calls Tryd.prog 21 #[.string x] W fun e w' => e = .returned (.tuple #[.agg #[.int .i64 0, .int .i64 0, .int .i64 0, .int .i64 0, .int .i64 0, .int .i64 0, .int .i64 0], .int .i64 gr]) ∧ Below W.heap.size W w') :
    Calls Tryd.prog 6 #[.string x] w fun e w' => e = .returned (.bool true) ∧ Below w.heap.size w w' := by
  have HK := Lib.hid (fun W hW => known_any W hW)
  replace HA := Lib.hid HA
  replace HD := Lib.hid HD
  replace HH := Lib.hid HH
  obtain ⟨_, rI⟩ := read_int y m d h n s z hv
  have RI := Lib.hid rI
  have PI := Lib.hid (fun W hW => momPrintInternal_any y m d h n s z W hW)
  rw [prE_ok hv] at PI
  generalize S (piL y m d h n s z) = t1 at *
  clear rI hv
  unfold mom at RI PI
  have bfr : (fr != 0) = true := by rw [bne_iff_ne]; exact hfr
  have bfq : (fr == 0) = false := by rw [beq_eq_false_iff_ne]; exact hfr
  clear hfr
  have bgr : (gr != 0) = true := by rw [bne_iff_ne]; exact hgr
  have bgq : (gr == 0) = false := by rw [beq_eq_false_iff_ne]; exact hgr
  clear hgr
  go_enter Tryd.func6, Tryd.ntmps6
  go_wp2_with fail
  refine (HK.out _ he).mono ?_
  rintro e w1 ⟨rfl, hb1⟩
  have e1 := he.on hb1
  have q1 := hb1
  clear hb1 he
  go_wp2_with fail
  refine (HA.out _ e1).mono ?_
  rintro e w2 ⟨rfl, hb2⟩
  have e2 := e1.on hb2
  have q2 := q1.trans (hb2.mono q1.size)
  clear hb2 e1 q1
  have al2 : Below w2.heap.size w2 (w2.alloc (.cells #[.int .i64 y, .int .i64 m, .int .i64 d, .int .i64 h, .int .i64 n, .int .i64 s, .int .i64 z] 23)) := (Below.refl _ _).alloc (Nat.le_refl _) _
  have e2' := e2.on al2
  have q2' := q2.alloc q2.size (.cells #[.int .i64 y, .int .i64 m, .int .i64 d, .int .i64 h, .int .i64 n, .int .i64 s, .int .i64 z] 23)
  have ka2' : Cells7 w2.heap.size y m d h n s z (w2.alloc (.cells #[.int .i64 y, .int .i64 m, .int .i64 d, .int .i64 h, .int .i64 n, .int .i64 s, .int .i64 z] 23)) := cells7_new w2 y m d h n s z _
  clear al2 e2 q2
  go_wp2_with fail
  refine (HD.out _ e2').mono ?_
  rintro e w3 ⟨rfl, hb3⟩
  have e3 := e2'.on hb3
  have q3 := q2'.trans (hb3.mono q2'.size)
  have ka3 := ka2'.on hb3
  clear hb3 e2' q2' ka2'
  have al3 : Below w3.heap.size w3 (w3.alloc (.cells #[.int .i64 0, .int .i64 0, .int .i64 0, .int .i64 0, .int .i64 0, .int .i64 0, .int .i64 0] 23)) := (Below.refl _ _).alloc (Nat.le_refl _) _
  have e3' := e3.on al3
  have q3' := q3.alloc q3.size (.cells #[.int .i64 0, .int .i64 0, .int .i64 0, .int .i64 0, .int .i64 0, .int .i64 0, .int .i64 0] 23)
  have ka3' := ka3.on al3
  have kb3' : Cells7 w3.heap.size 0 0 0 0 0 0 0 (w3.alloc (.cells #[.int .i64 0, .int .i64 0, .int .i64 0, .int .i64 0, .int .i64 0, .int .i64 0, .int .i64 0] 23)) := cells7_new w3 0 0 0 0 0 0 0 _
  clear al3 e3 q3 ka3
  go_wp2_with fail
  refine (HH.out _ e3').mono ?_
  rintro e w4 ⟨rfl, hb4⟩
  have e4 := e3'.on hb4
  have q4 := q3'.trans (hb4.mono q3'.size)
  have ka4 := ka3'.on hb4
  have kb4 := kb3'.on hb4
  clear hb4 e3' q3' ka3' kb3'
  have al4 : Below w4.heap.size w4 (w4.alloc (.cells #[.int .i64 0, .int .i64 0, .int .i64 0, .int .i64 0, .int .i64 0, .int .i64 0, .int .i64 0] 23)) := (Below.refl _ _).alloc (Nat.le_refl _) _
  have e4' := e4.on al4
  have q4' := q4.alloc q4.size (.cells #[.int .i64 0, .int .i64 0, .int .i64 0, .int .i64 0, .int .i64 0, .int .i64 0, .int .i64 0] 23)
  have ka4' := ka4.on al4
  have kb4' := kb4.on al4
  have kc4' : Cells7 w4.heap.size 0 0 0 0 0 0 0 (w4.alloc (.cells #[.int .i64 0, .int .i64 0, .int .i64 0, .int .i64 0, .int .i64 0, .int .i64 0, .int .i64 0] 23)) := cells7_new w4 0 0 0 0 0 0 0 _
  clear al4 e4 q4 ka4 kb4
  have kk1 := ka4'
  obtain ⟨a0_0, a0_1, a0_2, a0_3, a0_4, a0_5, a0_6⟩ := kk1
  have kk2 := kb4'
  obtain ⟨b1_0, b1_1, b1_2, b1_3, b1_4, b1_5, b1_6⟩ := kk2
  have kk3 := kc4'
  obtain ⟨c2_0, c2_1, c2_2, c2_3, c2_4, c2_5, c2_6⟩ := kk3
  go_wp2_with fail
  refine (PI.out _ e4').mono ?_
  rintro e w5 ⟨rfl, hb5⟩
  have e5 := e4'.on hb5
  have q5 := q4'.trans (hb5.mono q4'.size)
  have ka5 := ka4'.on hb5
  have kb5 := kb4'.on hb5
  have kc5 := kc4'.on hb5
  clear hb5 a0_0 a0_1 a0_2 a0_3 a0_4 a0_5 a0_6 b1_0 b1_1 b1_2 b1_3 b1_4 b1_5 b1_6 c2_0 c2_1 c2_2 c2_3 c2_4 c2_5 c2_6 e4' q4' ka4' kb4' kc4'
  go_wp2_with fail
  refine (RI.out _ e5).mono ?_
  rintro e w6 ⟨rfl, hb6⟩
  have e6 := e5.on hb6
  have q6 := q5.trans (hb6.mono q5.size)
  have ka6 := ka5.on hb6
  have kb6 := kb5.on hb6
  have kc6 := kc5.on hb6
  clear hb6 e5 q5 ka5 kb5 kc5
  have al6 : Below w6.heap.size w6 (w6.alloc (.cells #[.int .i64 y, .int .i64 m, .int .i64 d, .int .i64 h, .int .i64 n, .int .i64 s, .int .i64 z] 23)) := (Below.refl _ _).alloc (Nat.le_refl _) _
  have e6' := e6.on al6
  have q6' := q6.alloc q6.size (.cells #[.int .i64 y, .int .i64 m, .int .i64 d, .int .i64 h, .int .i64 n, .int .i64 s, .int .i64 z] 23)
  have ka6' := ka6.on al6
  have kb6' := kb6.on al6
  have kc6' := kc6.on al6
  have kx6' : Cells7 w6.heap.size y m d h n s z (w6.alloc (.cells #[.int .i64 y, .int .i64 m, .int .i64 d, .int .i64 h, .int .i64 n, .int .i64 s, .int .i64 z] 23)) := cells7_new w6 y m d h n s z _
  clear al6 e6 q6 ka6 kb6 kc6
  have kk4 := ka6'
  obtain ⟨a3_0, a3_1, a3_2, a3_3, a3_4, a3_5, a3_6⟩ := kk4
  have kk5 := kx6'
  obtain ⟨x4_0, x4_1, x4_2, x4_3, x4_4, x4_5, x4_6⟩ := kk5
  go_wp2
  go_ret
  exact ⟨rfl, q6'⟩
end Go.Proofs.YtlcjpkbcnoibeaaDoor
