/- The statement MomentPrinted: a day, and a moment that may be. -/
import Derived.Test.YtngpejoiicpnkaaDoorHe
namespace Go.Proofs.YtngpejoiicpnkaaDoor
open Go.RowKit

theorem read_day (y m d : Int) (hf : isDayB y m d = true) : ∀ W, Env W → Calls Tryd.prog 19 #[.string (S (pdL y m d))] W fun e w' => e = .returned (.tuple #[mom y m d 0 0 0 0, .int .i64 0]) ∧ Below W.heap.size W w' := by
  intro W hW
  have hp : pdL y m d = dayL y.toNat m.toNat d.toNat := by unfold pdL; rw [hf]; rfl
  obtain ⟨Y, M, D, rfl, rfl, rfl, hd⟩ := isDay_parts hf
  have hml := mlen_bounds Y M
  have hd2 := hd.d2
  obtain ⟨r1, r2, r3, r4⟩ := dayL_read Y M D (by have := hd.y2; omega) hd.m1 hd.m2 (by omega)
  have hl := dayL_len Y M D hf
  simp only [Int.toNat_natCast] at hp hl
  have := momReadDay_any (S (pdL Y M D)) W hW (by rw [S_size, hp, hl]; split <;> omega)
  rw [L_S, hp, r1, r2, r3, r4] at this
  rw [hp]
  have e1 : judV true Y M D 0 0 0 0 = mom Y M D 0 0 0 0 := by unfold judV; rw [hf]; rfl
  have e2 : judE true Y M D = 0 := by unfold judE; rw [hf]; rfl
  rw [e1, e2] at this
  exact this
set_option maxRecDepth 100000 in
set_option maxHeartbeats 4000000 in
theorem MomentPrinted_day (y m d h n s z : Int) (w : World) (he : Env w) (hf : isDayB y m d = true) (hv : validB y m d h n s z = false) :
    Calls Tryd.prog 5 #[mom y m d h n s z] w fun e w' => e = .returned (.bool true) ∧ Below w.heap.size w w' := by
  have HK := Lib.hid (fun W hW => known_any W hW)
  have H1 := Lib.hid (fun W hW => momPrintInternal_any y m d h n s z W hW)
  have H2 := Lib.hid (fun W hW => momPrintHeader_any y m d h n s z W hW)
  have H3 := Lib.hid (fun W hW => momPrintDay_any y m d h n s z W hW)
  have H4 := Lib.hid (fun W hW => momValid_any y m d h n s z W hW)
  have H5 := Lib.hid (read_day y m d hf)
  have e1 : prE y m d h n s z = 20 := by unfold prE; rw [hf, hv]; rfl
  have e2 : S (piL y m d h n s z) = ⟨#[]⟩ := by unfold piL; rw [hv]; rfl
  have e3 : S (phL y m d h n s z) = ⟨#[]⟩ := by unfold phL; rw [hv]; rfl
  have e5 : pdE y m d = 0 := by unfold pdE; rw [hf]; rfl
  rw [e1, e2] at H1
  rw [e1, e3] at H2
  rw [e5] at H3
  rw [hv] at H4
  generalize S (pdL y m d) = u at *
  have st0 := At7.new w y m d h n s z he
  clear he e1 e2 e3 e5 hf hv
  unfold mom at H1 H2 H3 H4 H5 ⊢
  go_enter Tryd.func5, Tryd.ntmps5
  obtain ⟨x0, x1, x2, x3, x4, x5, x6⟩ := st0.c
  go_wp2_with fail
  refine (HK.out _ st0.e).mono ?_
  rintro e w1 ⟨rfl, hb1⟩
  have st1 := st0.on hb1
  clear hb1 st0 x0 x1 x2 x3 x4 x5 x6
  obtain ⟨x0, x1, x2, x3, x4, x5, x6⟩ := st1.c
  go_wp2_with fail
  refine (H1.out _ st1.e).mono ?_
  rintro e w2 ⟨rfl, hb2⟩
  have st2 := st1.on hb2
  clear hb2 st1 x0 x1 x2 x3 x4 x5 x6
  obtain ⟨x0, x1, x2, x3, x4, x5, x6⟩ := st2.c
  go_wp2_with fail
  refine (H2.out _ st2.e).mono ?_
  rintro e w3 ⟨rfl, hb3⟩
  have st3 := st2.on hb3
  clear hb3 st2 x0 x1 x2 x3 x4 x5 x6
  obtain ⟨x0, x1, x2, x3, x4, x5, x6⟩ := st3.c
  go_wp2_with fail
  refine (H3.out _ st3.e).mono ?_
  rintro e w4 ⟨rfl, hb4⟩
  have st4 := st3.on hb4
  clear hb4 st3 x0 x1 x2 x3 x4 x5 x6
  obtain ⟨x0, x1, x2, x3, x4, x5, x6⟩ := st4.c
  go_wp2_with fail
  refine (H4.out _ st4.e).mono ?_
  rintro e w5 ⟨rfl, hb5⟩
  have st5 := st4.on hb5
  clear hb5 st4 x0 x1 x2 x3 x4 x5 x6
  obtain ⟨x0, x1, x2, x3, x4, x5, x6⟩ := st5.c
  go_wp2_with fail
  refine (H5.out _ st5.e).mono ?_
  rintro e w6 ⟨rfl, hb6⟩
  have st6 := st5.on hb6
  clear hb6 st5 x0 x1 x2 x3 x4 x5 x6
  have st7 := st6.al (o := (.cells #[.int .i64 y, .int .i64 m, .int .i64 d, .int .i64 0, .int .i64 0, .int .i64 0, .int .i64 0] 23))
  have k7 : Cells7 w6.heap.size y m d 0 0 0 0 (w6.alloc (.cells #[.int .i64 y, .int .i64 m, .int .i64 d, .int .i64 0, .int .i64 0, .int .i64 0, .int .i64 0] 23)) := cells7_new w6 y m d 0 0 0 0 _
  clear st6
  obtain ⟨x0, x1, x2, x3, x4, x5, x6⟩ := st7.c
  obtain ⟨c0, c1, c2, c3, c4, c5, c6⟩ := k7
  go_wp2_with fail
  go_ret
  exact ⟨rfl, by first | exact st7.q | exact st7.al.q | exact st7.al.al.q | exact st7.q.drew | exact st7.al.q.drew⟩
theorem read_int (y m d h n s z : Int) (hv : validB y m d h n s z = true) : (S (piL y m d h n s z)).size = 26 ∧ ∀ W, Env W → Calls Tryd.prog 20 #[.string (S (piL y m d h n s z))] W fun e w' => e = .returned (.tuple #[mom y m d h n s z, .int .i64 0]) ∧ Below W.heap.size W w' := by
  have hf := valid_day hv
  have hp : piL y m d h n s z = piT y m d h n s z := by unfold piL; rw [hv]; rfl
  obtain ⟨t1, t2, t3, t4, t5, t6, t7, t8⟩ := valid_time y m d h n s z hv
  obtain ⟨Y, M, D, rfl, rfl, rfl, hd⟩ := isDay_parts hf
  obtain ⟨H, rfl⟩ := Int.eq_ofNat_of_zero_le t1
  obtain ⟨N, rfl⟩ := Int.eq_ofNat_of_zero_le t3
  obtain ⟨E, rfl⟩ := Int.eq_ofNat_of_zero_le t5
  have hml := mlen_bounds Y M
  have hd2 := hd.d2
  obtain ⟨r1, r2, r3, r4⟩ := int_read Y M D H N E z (by have := hd.y2; omega) hd.m1 hd.m2 (by omega) (by omega) (by omega) (by omega) t7 t8
  have hsz : (S (piL Y M D H N E z)).size = 26 := by rw [S_size, hp]; exact r1
  refine ⟨hsz, fun W hW => ?_⟩
  have hb := r2
  unfold riB at hb
  simp only [Bool.and_eq_true] at hb
  have := momReadInternal_yes (S (piL Y M D H N E z)) W hW hsz (by rw [L_S, hp]; exact hb.1.1.2) (by rw [L_S, hp]; exact hb.1.2)
  rw [L_S, hp, r3, r4] at this
  rw [hp]
  have e1 : judV true Y M D H N E z = mom Y M D H N E z := by unfold judV; rw [hf]; rfl
  have e2 : judE true Y M D = 0 := by unfold judE; rw [hf]; rfl
  rw [e1, e2] at this
  exact this
theorem read_head (y m d h n s z : Int) (hv : validB y m d h n s z = true) : ∀ W, Env W → Calls Tryd.prog 21 #[.string (S (phL y m d h n s z))] W fun e w' => e = .returned (.tuple #[mom y m d h n s z, .int .i64 0]) ∧ Below W.heap.size W w' := by
  have hf := valid_day hv
  have hp : phL y m d h n s z = phT (wkN y m d h n s z) y.toNat m.toNat d.toNat h.toNat n.toNat s.toNat z := by unfold phL; rw [hv]; rfl
  have wk := (wkN_ok y m d h n s z).1
  obtain ⟨t1, t2, t3, t4, t5, t6, t7, t8⟩ := valid_time y m d h n s z hv
  generalize wkN y m d h n s z = kw at *
  obtain ⟨Y, M, D, rfl, rfl, rfl, hd⟩ := isDay_parts hf
  obtain ⟨H, rfl⟩ := Int.eq_ofNat_of_zero_le t1
  obtain ⟨N, rfl⟩ := Int.eq_ofNat_of_zero_le t3
  obtain ⟨E, rfl⟩ := Int.eq_ofNat_of_zero_le t5
  have hml := mlen_bounds Y M
  have hd2 := hd.d2
  simp only [Int.toNat_natCast] at hp
  obtain ⟨r1, r2, r3, r4⟩ := head_read kw Y M D H N E z 0 wk (by have := hd.y2; omega) hd.m1 hd.m2 (by omega) (by omega) (by omega) (by omega) t7 t8
  intro W hW
  have hsz : (S (phL Y M D H N E z)).size ≤ 140737488355328 := by
    rw [S_size, hp]
    obtain ⟨a, b, c, hw, _⟩ := wd_three kw wk
    have hm := monN_len (M - 1) (by have := hd.m1; have := hd.m2; omega)
    have hdl := dec_len D (by omega)
    unfold phT clockL zoneL pad2 pad4
    rw [hw]
    simp only [List.length_append, List.length_cons, List.length_nil, hm]
    omega
  have := momReadHeader_go (S (phL Y M D H N E z)) 0 W hW hsz (fun hk => by rw [L_S, hp] at hk; exact absurd hk r4)
  rw [L_S, hp, r2, r3] at this
  rw [hp]
  have e1 : judV true Y M D H N E z = mom Y M D H N E z := by unfold judV; rw [hf]; rfl
  have e2 : judE true Y M D = 0 := by unfold judE; rw [hf]; rfl
  rw [e1, e2] at this
  exact this
set_option maxRecDepth 100000 in
set_option maxHeartbeats 4000000 in
theorem MomentPrinted_yes (y m d h n s z : Int) (w : World) (he : Env w) (hv : validB y m d h n s z = true) :
    Calls Tryd.prog 5 #[mom y m d h n s z] w fun e w' => e = .returned (.bool true) ∧ Below w.heap.size w w' := by
  have hf := valid_day hv
  have HK := Lib.hid (fun W hW => known_any W hW)
  have H1 := Lib.hid (fun W hW => momPrintInternal_any y m d h n s z W hW)
  have H2 := Lib.hid (fun W hW => momPrintHeader_any y m d h n s z W hW)
  have H3 := Lib.hid (fun W hW => momPrintDay_any y m d h n s z W hW)
  have H4 := Lib.hid (fun W hW => momValid_any y m d h n s z W hW)
  have H5 := Lib.hid (read_day y m d hf)
  obtain ⟨z26, h6⟩ := read_int y m d h n s z hv
  have H6 := Lib.hid h6
  have H7 := Lib.hid (read_head y m d h n s z hv)
  have e1 : prE y m d h n s z = 0 := prE_ok hv
  have e5 : pdE y m d = 0 := by unfold pdE; rw [hf]; rfl
  rw [e1] at H1 H2
  rw [e5] at H3
  rw [hv] at H4
  generalize S (pdL y m d) = u at *
  generalize S (piL y m d h n s z) = v at *
  generalize S (phL y m d h n s z) = t at *
  have st0 := At7.new w y m d h n s z he
  clear he e1 e5 hf hv h6
  unfold mom at H1 H2 H3 H4 H5 H6 H7 ⊢
  go_enter Tryd.func5, Tryd.ntmps5
  obtain ⟨x0, x1, x2, x3, x4, x5, x6⟩ := st0.c
  go_wp2_with fail
  refine (HK.out _ st0.e).mono ?_
  rintro e w1 ⟨rfl, hb1⟩
  have st1 := st0.on hb1
  clear hb1 st0 x0 x1 x2 x3 x4 x5 x6
  obtain ⟨x0, x1, x2, x3, x4, x5, x6⟩ := st1.c
  go_wp2_with fail
  refine (H1.out _ st1.e).mono ?_
  rintro e w2 ⟨rfl, hb2⟩
  have st2 := st1.on hb2
  clear hb2 st1 x0 x1 x2 x3 x4 x5 x6
  obtain ⟨x0, x1, x2, x3, x4, x5, x6⟩ := st2.c
  go_wp2_with fail
  refine (H2.out _ st2.e).mono ?_
  rintro e w3 ⟨rfl, hb3⟩
  have st3 := st2.on hb3
  clear hb3 st2 x0 x1 x2 x3 x4 x5 x6
  obtain ⟨x0, x1, x2, x3, x4, x5, x6⟩ := st3.c
  go_wp2_with fail
  refine (H3.out _ st3.e).mono ?_
  rintro e w4 ⟨rfl, hb4⟩
  have st4 := st3.on hb4
  clear hb4 st3 x0 x1 x2 x3 x4 x5 x6
  obtain ⟨x0, x1, x2, x3, x4, x5, x6⟩ := st4.c
  go_wp2_with fail
  refine (H4.out _ st4.e).mono ?_
  rintro e w5 ⟨rfl, hb5⟩
  have st5 := st4.on hb5
  clear hb5 st4 x0 x1 x2 x3 x4 x5 x6
  obtain ⟨x0, x1, x2, x3, x4, x5, x6⟩ := st5.c
  go_wp2_with fail
  refine (H5.out _ st5.e).mono ?_
  rintro e w6 ⟨rfl, hb6⟩
  have st6 := st5.on hb6
  clear hb6 st5 x0 x1 x2 x3 x4 x5 x6
  have st7 := st6.al (o := (.cells #[.int .i64 y, .int .i64 m, .int .i64 d, .int .i64 0, .int .i64 0, .int .i64 0, .int .i64 0] 23))
  have k7 : Cells7 w6.heap.size y m d 0 0 0 0 (w6.alloc (.cells #[.int .i64 y, .int .i64 m, .int .i64 d, .int .i64 0, .int .i64 0, .int .i64 0, .int .i64 0] 23)) := cells7_new w6 y m d 0 0 0 0 _
  clear st6
  obtain ⟨x0, x1, x2, x3, x4, x5, x6⟩ := st7.c
  obtain ⟨c0, c1, c2, c3, c4, c5, c6⟩ := k7
  go_wp2_with fail
  refine (H6.out _ st7.e).mono ?_
  rintro e w8 ⟨rfl, hb8⟩
  have st8 := (st7.on hb8).al (o := (.cells #[.int .i64 y, .int .i64 m, .int .i64 d, .int .i64 h, .int .i64 n, .int .i64 s, .int .i64 z] 23))
  have k8 : Cells7 w8.heap.size y m d h n s z (w8.alloc (.cells #[.int .i64 y, .int .i64 m, .int .i64 d, .int .i64 h, .int .i64 n, .int .i64 s, .int .i64 z] 23)) := cells7_new w8 y m d h n s z _
  clear hb8 st7 x0 x1 x2 x3 x4 x5 x6 c0 c1 c2 c3 c4 c5 c6
  go_wp2_with fail
  refine (H7.out _ st8.e).mono ?_
  rintro e w9 ⟨rfl, hb9⟩
  have st9 := (st8.on hb9).al (o := (.cells #[.int .i64 y, .int .i64 m, .int .i64 d, .int .i64 h, .int .i64 n, .int .i64 s, .int .i64 z] 23))
  have k9 := (k8.on hb9).on ((Below.refl _ _).alloc (Nat.le_refl _) (.cells #[.int .i64 y, .int .i64 m, .int .i64 d, .int .i64 h, .int .i64 n, .int .i64 s, .int .i64 z] 23))
  have j9 : Cells7 w9.heap.size y m d h n s z (w9.alloc (.cells #[.int .i64 y, .int .i64 m, .int .i64 d, .int .i64 h, .int .i64 n, .int .i64 s, .int .i64 z] 23)) := cells7_new w9 y m d h n s z _
  clear hb9 st8 k8 HK H1 H2 H3 H4 H5 H6 H7
  obtain ⟨x0, x1, x2, x3, x4, x5, x6⟩ := st9.c
  obtain ⟨c0, c1, c2, c3, c4, c5, c6⟩ := k9
  obtain ⟨d0, d1, d2, d3, d4, d5, d6⟩ := j9
  go_wp2
  go_ret
  exact ⟨rfl, st9.q⟩
theorem MomentPrinted_walk (y m d h n s z : Int) (w : World) (he : Env w) :
    Calls Tryd.prog 5 #[mom y m d h n s z] w fun e w' => e = .returned (.bool true) ∧ Below w.heap.size w w' := by
  cases hf : isDayB y m d with
  | false => exact MomentPrinted_none y m d h n s z w he hf
  | true =>
    cases hv : validB y m d h n s z with
    | false => exact MomentPrinted_day y m d h n s z w he hf hv
    | true => exact MomentPrinted_yes y m d h n s z w he hv
end Go.Proofs.YtngpejoiicpnkaaDoor
