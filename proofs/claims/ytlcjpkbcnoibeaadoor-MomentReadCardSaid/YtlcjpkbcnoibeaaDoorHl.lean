/- The statement MomentRead: the walk, case by case. -/
import Derived.Test.YtlcjpkbcnoibeaaDoorHk
import Derived.Deep.RegionHeld3
namespace Go.Proofs.YtlcjpkbcnoibeaaDoor
open Go.RowKit

set_option maxRecDepth 100000 in
set_option maxHeartbeats 4000000 in
theorem MomentRead_101 (x : ByteArray) (w : World) (he : Env w) (y m d h n s z : Int) (hv : validB y m d h n s z = true) (x26 : x.size = 26) (HA : ∀ W, Env W → Calls Tryd.prog 20 #[.string x] W fun e w' => e = .returned (.tuple #[.agg #[.int .i64 y, .int .i64 m, .int .i64 d, .int .i64 h, .int .i64 n, .int .i64 s, .int .i64 z], .int .i64 0]) ∧ Below W.heap.size W w') (fr : Int) (hfr : fr ≠ 0) (HD : ∀ W, Env W → Calls Tryd.prog 19 #[.string x] W fun e w' => e = .returned (.tuple #[.agg #[.int .i64 0, .int .i64 0, .int .i64 0, .int .i64 0, .int .i64 0, .int .i64 0, .int .i64 0], .int .i64 fr]) ∧ Below W.heap.size W w') (y2 m2 d2 h2 n2 s2 z2 : Int) (hv2 : validB y2 m2 d2 h2 n2 s2 z2 = true) (HH : ∀ W, Env W → Calls Tryd.prog 21 #[.string x] W fun e w' => e = .returned (.tuple #[.agg #[.int .i64 y2, .int .i64 m2, .int .i64 d2, .int .i64 h2, .int .i64 n2, .int .i64 s2, .int .i64 z2], .int .i64 0]) ∧ Below W.heap.size W w') :
    Calls Tryd.prog 6 #[.string x] w fun e w' => e = .returned (.bool true) ∧ Below w.heap.size w w' := by
  have HK := Lib.hid (fun W hW => known_any W hW)
  replace HA := Lib.hid HA
  replace HD := Lib.hid HD
  replace HH := Lib.hid HH
  obtain ⟨_, rI⟩ := read_int y m d h n s z hv
  have RI := Lib.hid rI
  have PI := Lib.hid (fun W hW => momPrintInternal_any y m d h n s z W hW)
  rw [prE_ok hv] at PI
  generalize S (piL y m d h n s z) = t1 at *
  clear rI hv
  unfold mom at RI PI
  have bfr : (fr != 0) = true := by rw [bne_iff_ne]; exact hfr
  have bfq : (fr == 0) = false := by rw [beq_eq_false_iff_ne]; exact hfr
  clear hfr
  have RH := Lib.hid (read_head y2 m2 d2 h2 n2 s2 z2 hv2)
  have PH := Lib.hid (fun W hW => momPrintHeader_any y2 m2 d2 h2 n2 s2 z2 W hW)
  rw [prE_ok hv2] at PH
  generalize S (phL y2 m2 d2 h2 n2 s2 z2) = t3 at *
  clear hv2
  unfold mom at RH PH
  go_enter Tryd.func6, Tryd.ntmps6
  go_wp2_with fail
  refine (HK.out _ he).mono ?_
  rintro e w1 ⟨rfl, hb1⟩
  have e1 := he.on hb1
  have q1 := hb1
  clear hb1 he
  go_wp2_with fail
  refine (HA.out _ e1).mono ?_
  rintro e w2 ⟨rfl, hb2⟩
  have e2 := e1.on hb2
  have q2 := q1.trans (hb2.mono q1.size)
  clear hb2 e1 q1
  have al2 : Below w2.heap.size w2 (w2.alloc (.cells #[.int .i64 y, .int .i64 m, .int .i64 d, .int .i64 h, .int .i64 n, .int .i64 s, .int .i64 z] 23)) := (Below.refl _ _).alloc (Nat.le_refl _) _
  have e2' := e2.on al2
  have q2' := q2.alloc q2.size (.cells #[.int .i64 y, .int .i64 m, .int .i64 d, .int .i64 h, .int .i64 n, .int .i64 s, .int .i64 z] 23)
  have ka2' : Cells7 w2.heap.size y m d h n s z (w2.alloc (.cells #[.int .i64 y, .int .i64 m, .int .i64 d, .int .i64 h, .int .i64 n, .int .i64 s, .int .i64 z] 23)) := cells7_new w2 y m d h n s z _
  clear al2 e2 q2
  go_wp2_with fail
  refine (HD.out _ e2').mono ?_
  rintro e w3 ⟨rfl, hb3⟩
  have e3 := e2'.on hb3
  have q3 := q2'.trans (hb3.mono q2'.size)
  have ka3 := ka2'.on hb3
  clear hb3 e2' q2' ka2'
  have al3 : Below w3.heap.size w3 (w3.alloc (.cells #[.int .i64 0, .int .i64 0, .int .i64 0, .int .i64 0, .int .i64 0, .int .i64 0, .int .i64 0] 23)) := (Below.refl _ _).alloc (Nat.le_refl _) _
  have e3' := e3.on al3
  have q3' := q3.alloc q3.size (.cells #[.int .i64 0, .int .i64 0, .int .i64 0, .int .i64 0, .int .i64 0, .int .i64 0, .int .i64 0] 23)
  have ka3' := ka3.on al3
  have kb3' : Cells7 w3.heap.size 0 0 0 0 0 0 0 (w3.alloc (.cells #[.int .i64 0, .int .i64 0, .int .i64 0, .int .i64 0, .int .i64 0, .int .i64 0, .int .i64 0] 23)) := cells7_new w3 0 0 0 0 0 0 0 _
  clear al3 e3 q3 ka3
  go_wp2_with fail
  refine (HH.out _ e3').mono ?_
  rintro e w4 ⟨rfl, hb4⟩
  have e4 := e3'.on hb4
  have q4 := q3'.trans (hb4.mono q3'.size)
  have ka4 := ka3'.on hb4
  have kb4 := kb3'.on hb4
  clear hb4 e3' q3' ka3' kb3'
  have al4 : Below w4.heap.size w4 (w4.alloc (.cells #[.int .i64 y2, .int .i64 m2, .int .i64 d2, .int .i64 h2, .int .i64 n2, .int .i64 s2, .int .i64 z2] 23)) := (Below.refl _ _).alloc (Nat.le_refl _) _
  have e4' := e4.on al4
  have q4' := q4.alloc q4.size (.cells #[.int .i64 y2, .int .i64 m2, .int .i64 d2, .int .i64 h2, .int .i64 n2, .int .i64 s2, .int .i64 z2] 23)
  have ka4' := ka4.on al4
  have kb4' := kb4.on al4
  have kc4' : Cells7 w4.heap.size y2 m2 d2 h2 n2 s2 z2 (w4.alloc (.cells #[.int .i64 y2, .int .i64 m2, .int .i64 d2, .int .i64 h2, .int .i64 n2, .int .i64 s2, .int .i64 z2] 23)) := cells7_new w4 y2 m2 d2 h2 n2 s2 z2 _
  clear al4 e4 q4 ka4 kb4
  have kk1 := ka4'
  obtain ⟨a0_0, a0_1, a0_2, a0_3, a0_4, a0_5, a0_6⟩ := kk1
  have kk2 := kb4'
  obtain ⟨b1_0, b1_1, b1_2, b1_3, b1_4, b1_5, b1_6⟩ := kk2
  go_wp2_with fail
  refine (PI.out _ e4').mono ?_
  rintro e w5 ⟨rfl, hb5⟩
  have e5 := e4'.on hb5
  have q5 := q4'.trans (hb5.mono q4'.size)
  have ka5 := ka4'.on hb5
  have kb5 := kb4'.on hb5
  have kc5 := kc4'.on hb5
  clear hb5 a0_0 a0_1 a0_2 a0_3 a0_4 a0_5 a0_6 b1_0 b1_1 b1_2 b1_3 b1_4 b1_5 b1_6 e4' q4' ka4' kb4' kc4'
  go_wp2_with fail
  refine (RI.out _ e5).mono ?_
  rintro e w6 ⟨rfl, hb6⟩
  have e6 := e5.on hb6
  have q6 := q5.trans (hb6.mono q5.size)
  have ka6 := ka5.on hb6
  have kb6 := kb5.on hb6
  have kc6 := kc5.on hb6
  clear hb6 e5 q5 ka5 kb5 kc5
  have al6 : Below w6.heap.size w6 (w6.alloc (.cells #[.int .i64 y, .int .i64 m, .int .i64 d, .int .i64 h, .int .i64 n, .int .i64 s, .int .i64 z] 23)) := (Below.refl _ _).alloc (Nat.le_refl _) _
  have e6' := e6.on al6
  have q6' := q6.alloc q6.size (.cells #[.int .i64 y, .int .i64 m, .int .i64 d, .int .i64 h, .int .i64 n, .int .i64 s, .int .i64 z] 23)
  have ka6' := ka6.on al6
  have kb6' := kb6.on al6
  have kc6' := kc6.on al6
  have kx6' : Cells7 w6.heap.size y m d h n s z (w6.alloc (.cells #[.int .i64 y, .int .i64 m, .int .i64 d, .int .i64 h, .int .i64 n, .int .i64 s, .int .i64 z] 23)) := cells7_new w6 y m d h n s z _
  clear al6 e6 q6 ka6 kb6 kc6
  have kk3 := ka6'
  obtain ⟨a2_0, a2_1, a2_2, a2_3, a2_4, a2_5, a2_6⟩ := kk3
  have kk4 := kc6'
  obtain ⟨c3_0, c3_1, c3_2, c3_3, c3_4, c3_5, c3_6⟩ := kk4
  have kk5 := kx6'
  obtain ⟨x4_0, x4_1, x4_2, x4_3, x4_4, x4_5, x4_6⟩ := kk5
  go_wp2_with fail
  refine (PH.out _ e6').mono ?_
  rintro e w7 ⟨rfl, hb7⟩
  have e7 := e6'.on hb7
  have q7 := q6'.trans (hb7.mono q6'.size)
  have ka7 := ka6'.on hb7
  have kb7 := kb6'.on hb7
  have kc7 := kc6'.on hb7
  have kx7 := kx6'.on hb7
  clear hb7 a2_0 a2_1 a2_2 a2_3 a2_4 a2_5 a2_6 c3_0 c3_1 c3_2 c3_3 c3_4 c3_5 c3_6 x4_0 x4_1 x4_2 x4_3 x4_4 x4_5 x4_6 e6' q6' ka6' kb6' kc6' kx6'
  go_wp2_with fail
  refine (RH.out _ e7).mono ?_
  rintro e w8 ⟨rfl, hb8⟩
  have e8 := e7.on hb8
  have q8 := q7.trans (hb8.mono q7.size)
  have ka8 := ka7.on hb8
  have kb8 := kb7.on hb8
  have kc8 := kc7.on hb8
  have kx8 := kx7.on hb8
  clear hb8 e7 q7 ka7 kb7 kc7 kx7
  have al8 : Below w8.heap.size w8 (w8.alloc (.cells #[.int .i64 y2, .int .i64 m2, .int .i64 d2, .int .i64 h2, .int .i64 n2, .int .i64 s2, .int .i64 z2] 23)) := (Below.refl _ _).alloc (Nat.le_refl _) _
  have e8' := e8.on al8
  have q8' := q8.alloc q8.size (.cells #[.int .i64 y2, .int .i64 m2, .int .i64 d2, .int .i64 h2, .int .i64 n2, .int .i64 s2, .int .i64 z2] 23)
  have ka8' := ka8.on al8
  have kb8' := kb8.on al8
  have kc8' := kc8.on al8
  have kx8' := kx8.on al8
  have kv8' : Cells7 w8.heap.size y2 m2 d2 h2 n2 s2 z2 (w8.alloc (.cells #[.int .i64 y2, .int .i64 m2, .int .i64 d2, .int .i64 h2, .int .i64 n2, .int .i64 s2, .int .i64 z2] 23)) := cells7_new w8 y2 m2 d2 h2 n2 s2 z2 _
  clear al8 e8 q8 ka8 kb8 kc8 kx8
  have kk6 := kc8'
  obtain ⟨c5_0, c5_1, c5_2, c5_3, c5_4, c5_5, c5_6⟩ := kk6
  have kk7 := kv8'
  obtain ⟨v6_0, v6_1, v6_2, v6_3, v6_4, v6_5, v6_6⟩ := kk7
  go_wp2
  go_ret
  exact ⟨rfl, q8'⟩
set_option maxRecDepth 100000 in
set_option maxHeartbeats 4000000 in
theorem MomentRead_011 (x : ByteArray) (w : World) (he : Env w) (er : Int) (her : er ≠ 0) (HA : ∀ W, Env W → Calls Tryd.prog 20 #[.string x] W fun e w' => e = .returned (.tuple #[.agg #[.int .i64 0, .int .i64 0, .int .i64 0, .int .i64 0, .int .i64 0, .int .i64 0, .int .i64 0], .int .i64 er]) ∧ Below W.heap.size W w') (y' m' d' : Int) (hd : isDayB y' m' d' = true) (HD : ∀ W, Env W → Calls Tryd.prog 19 #[.string x] W fun e w' => e = .returned (.tuple #[.agg #[.int .i64 y', .int .i64 m', .int .i64 d', .int .i64 0, .int .i64 0, .int .i64 0, .int .i64 0], .int .i64 0]) ∧ Below W.heap.size W w') (y2 m2 d2 h2 n2 s2 z2 : Int) (hv2 : validB y2 m2 d2 h2 n2 s2 z2 = true) (HH : ∀ W, Env W → Calls Tryd.prog 21 #[.string x] W fun e w' => e = .returned (.tuple #[.agg #[.int .i64 y2, .int .i64 m2, .int .i64 d2, .int .i64 h2, .int .i64 n2, .int .i64 s2, .int .i64 z2], .int .i64 0]) ∧ Below W.heap.size W w') :
    Calls Tryd.prog 6 #[.string x] w fun e w' => e = .returned (.bool true) ∧ Below w.heap.size w w' := by
  have HK := Lib.hid (fun W hW => known_any W hW)
  replace HA := Lib.hid HA
  replace HD := Lib.hid HD
  replace HH := Lib.hid HH
  have ber : (er != 0) = true := by rw [bne_iff_ne]; exact her
  have beq : (er == 0) = false := by rw [beq_eq_false_iff_ne]; exact her
  clear her
  have RD := Lib.hid (read_day y' m' d' hd)
  have PD := Lib.hid (fun W hW => momPrintDay_any y' m' d' 0 0 0 0 W hW)
  have e5 : pdE y' m' d' = 0 := by unfold pdE; rw [hd]; rfl
  rw [e5] at PD
  have ST := Lib.hid (fun W hW => momStamp_any y' m' d' 0 0 0 0 W hW)
  have DY := Lib.hid (fun W hW => momDays_any y' m' d' 0 0 0 0 W hW)
  obtain ⟨hst, hdb1, hdb2⟩ := day_stamp y' m' d' hd
  rw [hst] at ST
  generalize daysV y' m' d' 0 0 0 0 = dv at *
  have hwr : IntKind.i64.wrap (86400 * dv) = 86400 * dv := by simp [IntKind.wrap, IntKind.bits, IntKind.signed]; omega
  generalize hsv : 86400 * dv = sv at *
  skip
  skip
  generalize S (pdL y' m' d') = t2 at *
  clear e5 hst hd
  unfold mom at RD PD ST DY
  have RH := Lib.hid (read_head y2 m2 d2 h2 n2 s2 z2 hv2)
  have PH := Lib.hid (fun W hW => momPrintHeader_any y2 m2 d2 h2 n2 s2 z2 W hW)
  rw [prE_ok hv2] at PH
  generalize S (phL y2 m2 d2 h2 n2 s2 z2) = t3 at *
  clear hv2
  unfold mom at RH PH
  go_enter Tryd.func6, Tryd.ntmps6
  go_wp2_with fail
  refine (HK.out _ he).mono ?_
  rintro e w1 ⟨rfl, hb1⟩
  have e1 := he.on hb1
  have q1 := hb1
  clear hb1 he
  go_wp2_with fail
  refine (HA.out _ e1).mono ?_
  rintro e w2 ⟨rfl, hb2⟩
  have e2 := e1.on hb2
  have q2 := q1.trans (hb2.mono q1.size)
  clear hb2 e1 q1
  have al2 : Below w2.heap.size w2 (w2.alloc (.cells #[.int .i64 0, .int .i64 0, .int .i64 0, .int .i64 0, .int .i64 0, .int .i64 0, .int .i64 0] 23)) := (Below.refl _ _).alloc (Nat.le_refl _) _
  have e2' := e2.on al2
  have q2' := q2.alloc q2.size (.cells #[.int .i64 0, .int .i64 0, .int .i64 0, .int .i64 0, .int .i64 0, .int .i64 0, .int .i64 0] 23)
  have ka2' : Cells7 w2.heap.size 0 0 0 0 0 0 0 (w2.alloc (.cells #[.int .i64 0, .int .i64 0, .int .i64 0, .int .i64 0, .int .i64 0, .int .i64 0, .int .i64 0] 23)) := cells7_new w2 0 0 0 0 0 0 0 _
  clear al2 e2 q2
  go_wp2_with fail
  refine (HD.out _ e2').mono ?_
  rintro e w3 ⟨rfl, hb3⟩
  have e3 := e2'.on hb3
  have q3 := q2'.trans (hb3.mono q2'.size)
  have ka3 := ka2'.on hb3
  clear hb3 e2' q2' ka2'
  have al3 : Below w3.heap.size w3 (w3.alloc (.cells #[.int .i64 y', .int .i64 m', .int .i64 d', .int .i64 0, .int .i64 0, .int .i64 0, .int .i64 0] 23)) := (Below.refl _ _).alloc (Nat.le_refl _) _
  have e3' := e3.on al3
  have q3' := q3.alloc q3.size (.cells #[.int .i64 y', .int .i64 m', .int .i64 d', .int .i64 0, .int .i64 0, .int .i64 0, .int .i64 0] 23)
  have ka3' := ka3.on al3
  have kb3' : Cells7 w3.heap.size (y') (m') (d') 0 0 0 0 (w3.alloc (.cells #[.int .i64 y', .int .i64 m', .int .i64 d', .int .i64 0, .int .i64 0, .int .i64 0, .int .i64 0] 23)) := cells7_new w3 y' m' d' 0 0 0 0 _
  clear al3 e3 q3 ka3
  go_wp2_with fail
  refine (HH.out _ e3').mono ?_
  rintro e w4 ⟨rfl, hb4⟩
  have e4 := e3'.on hb4
  have q4 := q3'.trans (hb4.mono q3'.size)
  have ka4 := ka3'.on hb4
  have kb4 := kb3'.on hb4
  clear hb4 e3' q3' ka3' kb3'
  have al4 : Below w4.heap.size w4 (w4.alloc (.cells #[.int .i64 y2, .int .i64 m2, .int .i64 d2, .int .i64 h2, .int .i64 n2, .int .i64 s2, .int .i64 z2] 23)) := (Below.refl _ _).alloc (Nat.le_refl _) _
  have e4' := e4.on al4
  have q4' := q4.alloc q4.size (.cells #[.int .i64 y2, .int .i64 m2, .int .i64 d2, .int .i64 h2, .int .i64 n2, .int .i64 s2, .int .i64 z2] 23)
  have ka4' := ka4.on al4
  have kb4' := kb4.on al4
  have kc4' : Cells7 w4.heap.size y2 m2 d2 h2 n2 s2 z2 (w4.alloc (.cells #[.int .i64 y2, .int .i64 m2, .int .i64 d2, .int .i64 h2, .int .i64 n2, .int .i64 s2, .int .i64 z2] 23)) := cells7_new w4 y2 m2 d2 h2 n2 s2 z2 _
  clear al4 e4 q4 ka4 kb4
  have kk1 := ka4'
  obtain ⟨a0_0, a0_1, a0_2, a0_3, a0_4, a0_5, a0_6⟩ := kk1
  have kk2 := kb4'
  obtain ⟨b1_0, b1_1, b1_2, b1_3, b1_4, b1_5, b1_6⟩ := kk2
  go_wp2_with fail
  refine (PD.out _ e4').mono ?_
  rintro e w5 ⟨rfl, hb5⟩
  have e5 := e4'.on hb5
  have q5 := q4'.trans (hb5.mono q4'.size)
  have ka5 := ka4'.on hb5
  have kb5 := kb4'.on hb5
  have kc5 := kc4'.on hb5
  clear hb5 a0_0 a0_1 a0_2 a0_3 a0_4 a0_5 a0_6 b1_0 b1_1 b1_2 b1_3 b1_4 b1_5 b1_6 e4' q4' ka4' kb4' kc4'
  go_wp2_with fail
  refine (RD.out _ e5).mono ?_
  rintro e w6 ⟨rfl, hb6⟩
  have e6 := e5.on hb6
  have q6 := q5.trans (hb6.mono q5.size)
  have ka6 := ka5.on hb6
  have kb6 := kb5.on hb6
  have kc6 := kc5.on hb6
  clear hb6 e5 q5 ka5 kb5 kc5
  have al6 : Below w6.heap.size w6 (w6.alloc (.cells #[.int .i64 y', .int .i64 m', .int .i64 d', .int .i64 0, .int .i64 0, .int .i64 0, .int .i64 0] 23)) := (Below.refl _ _).alloc (Nat.le_refl _) _
  have e6' := e6.on al6
  have q6' := q6.alloc q6.size (.cells #[.int .i64 y', .int .i64 m', .int .i64 d', .int .i64 0, .int .i64 0, .int .i64 0, .int .i64 0] 23)
  have ka6' := ka6.on al6
  have kb6' := kb6.on al6
  have kc6' := kc6.on al6
  have ku6' : Cells7 w6.heap.size (y') (m') (d') 0 0 0 0 (w6.alloc (.cells #[.int .i64 y', .int .i64 m', .int .i64 d', .int .i64 0, .int .i64 0, .int .i64 0, .int .i64 0] 23)) := cells7_new w6 y' m' d' 0 0 0 0 _
  clear al6 e6 q6 ka6 kb6 kc6
  have hS : SDF (w6.alloc (.cells #[.int .i64 y', .int .i64 m', .int .i64 d', .int .i64 0, .int .i64 0, .int .i64 0, .int .i64 0] 23)) (w3.heap.size) (w6.heap.size) y' m' d' sv dv := ⟨fun X hX => (ST.out X hX.2.2.2.2.2.2.2.2.2.2.2.2.2.2.1).mono fun e w' ⟨k1, k2⟩ => ⟨k1, SD2.on hX k2⟩, fun X hX => (DY.out X hX.2.2.2.2.2.2.2.2.2.2.2.2.2.2.1).mono fun e w' ⟨k1, k2⟩ => ⟨k1, SD2.on hX k2⟩⟩
  have stS : Hid (SD2 (w6.alloc (.cells #[.int .i64 y', .int .i64 m', .int .i64 d', .int .i64 0, .int .i64 0, .int .i64 0, .int .i64 0] 23)) (w3.heap.size) (w6.heap.size) y' m' d' (w6.alloc (.cells #[.int .i64 y', .int .i64 m', .int .i64 d', .int .i64 0, .int .i64 0, .int .i64 0, .int .i64 0] 23)).drew) := Lib.hid (SD2.on (SD2.mk' kb6' ku6' e6') (Below.refl _ _).drew)
  go_wp2
  first | (go_region_held3 (fun X => X.cell? ⟨w3.heap.size, 0, none⟩ = some (.int .i64 y') ∧ X.cell? ⟨w3.heap.size, 1, none⟩ = some (.int .i64 m') ∧ X.cell? ⟨w3.heap.size, 2, none⟩ = some (.int .i64 d') ∧ X.cell? ⟨w3.heap.size, 3, none⟩ = some (.int .i64 0) ∧ X.cell? ⟨w3.heap.size, 4, none⟩ = some (.int .i64 0) ∧ X.cell? ⟨w3.heap.size, 5, none⟩ = some (.int .i64 0) ∧ X.cell? ⟨w3.heap.size, 6, none⟩ = some (.int .i64 0) ∧ X.cell? ⟨w6.heap.size, 0, none⟩ = some (.int .i64 y') ∧ X.cell? ⟨w6.heap.size, 1, none⟩ = some (.int .i64 m') ∧ X.cell? ⟨w6.heap.size, 2, none⟩ = some (.int .i64 d') ∧ X.cell? ⟨w6.heap.size, 3, none⟩ = some (.int .i64 0) ∧ X.cell? ⟨w6.heap.size, 4, none⟩ = some (.int .i64 0) ∧ X.cell? ⟨w6.heap.size, 5, none⟩ = some (.int .i64 0) ∧ X.cell? ⟨w6.heap.size, 6, none⟩ = some (.int .i64 0) ∧ Env X ∧ Below (w6.alloc (.cells #[.int .i64 y', .int .i64 m', .int .i64 d', .int .i64 0, .int .i64 0, .int .i64 0, .int .i64 0] 23)).heap.size (w6.alloc (.cells #[.int .i64 y', .int .i64 m', .int .i64 d', .int .i64 0, .int .i64 0, .int .i64 0, .int .i64 0] 23)) X) (first | with_reducible exact stS.out | with_reducible assumption) (first | (go_at_call 13; with_reducible refine (hS.st _ ?_).mono ?_; with_reducible assumption; rintro e wS ⟨rfl, hsS⟩) | (go_at_call 11; with_reducible refine (hS.dy _ ?_).mono ?_; with_reducible assumption; rintro e wD ⟨rfl, hsD⟩))) | fail
  have hb7 := hsD.2.2.2.2.2.2.2.2.2.2.2.2.2.2.2
  have e7 := hsD.2.2.2.2.2.2.2.2.2.2.2.2.2.2.1
  have q7 := q6'.trans (hb7.mono q6'.size)
  have ka7 := ka6'.on hb7
  have kb7 := kb6'.on hb7
  have kc7 := kc6'.on hb7
  have ku7 := ku6'.on hb7
  clear hb7 hsS hsD stS hS e6' q6' ka6' kb6' kc6' ku6'
  have kk3 := kc7
  obtain ⟨c2_0, c2_1, c2_2, c2_3, c2_4, c2_5, c2_6⟩ := kk3
  go_wp2_with fail
  refine (PH.out _ e7).mono ?_
  rintro e w8 ⟨rfl, hb8⟩
  have e8 := e7.on hb8
  have q8 := q7.trans (hb8.mono q7.size)
  have ka8 := ka7.on hb8
  have kb8 := kb7.on hb8
  have kc8 := kc7.on hb8
  have ku8 := ku7.on hb8
  clear hb8 c2_0 c2_1 c2_2 c2_3 c2_4 c2_5 c2_6 e7 q7 ka7 kb7 kc7 ku7
  go_wp2_with fail
  refine (RH.out _ e8).mono ?_
  rintro e w9 ⟨rfl, hb9⟩
  have e9 := e8.on hb9
  have q9 := q8.trans (hb9.mono q8.size)
  have ka9 := ka8.on hb9
  have kb9 := kb8.on hb9
  have kc9 := kc8.on hb9
  have ku9 := ku8.on hb9
  clear hb9 e8 q8 ka8 kb8 kc8 ku8
  have al9 : Below w9.heap.size w9 (w9.alloc (.cells #[.int .i64 y2, .int .i64 m2, .int .i64 d2, .int .i64 h2, .int .i64 n2, .int .i64 s2, .int .i64 z2] 23)) := (Below.refl _ _).alloc (Nat.le_refl _) _
  have e9' := e9.on al9
  have q9' := q9.alloc q9.size (.cells #[.int .i64 y2, .int .i64 m2, .int .i64 d2, .int .i64 h2, .int .i64 n2, .int .i64 s2, .int .i64 z2] 23)
  have ka9' := ka9.on al9
  have kb9' := kb9.on al9
  have kc9' := kc9.on al9
  have ku9' := ku9.on al9
  have kv9' : Cells7 w9.heap.size y2 m2 d2 h2 n2 s2 z2 (w9.alloc (.cells #[.int .i64 y2, .int .i64 m2, .int .i64 d2, .int .i64 h2, .int .i64 n2, .int .i64 s2, .int .i64 z2] 23)) := cells7_new w9 y2 m2 d2 h2 n2 s2 z2 _
  clear al9 e9 q9 ka9 kb9 kc9 ku9
  have kk4 := kc9'
  obtain ⟨c3_0, c3_1, c3_2, c3_3, c3_4, c3_5, c3_6⟩ := kk4
  have kk5 := kv9'
  obtain ⟨v4_0, v4_1, v4_2, v4_3, v4_4, v4_5, v4_6⟩ := kk5
  go_wp2
  go_ret
  exact ⟨rfl, q9'⟩
end Go.Proofs.YtlcjpkbcnoibeaaDoor
