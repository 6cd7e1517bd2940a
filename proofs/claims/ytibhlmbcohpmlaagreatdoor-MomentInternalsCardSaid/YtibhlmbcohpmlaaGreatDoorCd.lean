/- postbagref2: Weekday, Stamp, Order. -/
import Derived.Test.YtibhlmbcohpmlaaGreatDoorCc
namespace Go.Proofs.YtibhlmbcohpmlaaGreatDoor
open Go.RowKit

set_option maxRecDepth 100000 in
set_option maxHeartbeats 1000000 in
theorem refWeekday_any (y m d h n s z : Int) (w : World) :
    Calls Tryz.prog 23 #[mom y m d h n s z] w fun e w' => e = .returned (.int .i64 (wdayV y m d h n s z)) ∧ Below w.heap.size w w' := by
  have hV := Lib.hid (fun W => Valid_any y m d h n s z W)
  have hD := Lib.hid (fun W => refDays_any y m d h n s z W)
  have q0 : ∀ cs t, Below w.heap.size w (w.alloc (.cells cs t)) := fun cs t => (Below.refl _ _).alloc (Nat.le_refl _) _
  unfold mom at hV hD ⊢
  cases hv : validB y m d h n s z with
  | false =>
    rw [hv] at hV
    have HR : Hid (wdayV y m d h n s z = 0) := Lib.hid (by unfold wdayV; rw [hv]; rfl)
    go_enter Tryz.func23, Tryz.ntmps23
    go_wp2_with (go_at_call 21; refine (hV.out _).mono ?_; rintro e w1 ⟨rfl, hb1⟩)
    go_ret
    exact ⟨ret_int HR.out.symm, (q0 _ _).trans (hb1.mono (q0 _ _).size)⟩
  | true =>
    rw [hv] at hV
    have hdv : daysV y m d h n s z = daysI y.toNat m.toNat d.toNat := by unfold daysV; rw [hv]; rfl
    have HR : Hid (wdayV y m d h n s z = wdayI (daysI y.toNat m.toNat d.toNat)) := Lib.hid (by unfold wdayV; rw [hv]; rfl)
    obtain ⟨b1, b2⟩ := days_bounds y m d h n s z hv
    rw [hdv] at hD
    generalize daysI y.toNat m.toNat d.toNat = N at *
    clear hdv hv
    go_enter Tryz.func23, Tryz.ntmps23
    go_wp2_with fail
    refine (hV.out _).mono ?_
    rintro e w1 ⟨rfl, hb1⟩
    have x0 := boxed hb1 0
    have x1 := boxed hb1 1
    have x2 := boxed hb1 2
    have x3 := boxed hb1 3
    have x4 := boxed hb1 4
    have x5 := boxed hb1 5
    have x6 := boxed hb1 6
    simp only [List.getElem?_toArray, List.getElem?_cons_succ, List.getElem?_cons_zero] at x0 x1 x2 x3 x4 x5 x6
    have HB := Lib.hid ((q0 _ _).trans (hb1.mono (q0 _ _).size))
    clear hb1 q0 hV
    go_wp2_with (go_at_call 22; refine (hD.out _).mono ?_; rintro e w2 ⟨rfl, hb2⟩)
    go_ret
    exact ⟨ret_int (by rw [HR.out, tmod7]; rfl), HB.out.trans (hb2.mono HB.out.size)⟩

set_option maxRecDepth 100000 in
set_option maxHeartbeats 1000000 in
theorem refStamp_any (y m d h n s z : Int) (w : World) :
    Calls Tryz.prog 25 #[mom y m d h n s z] w fun e w' => e = .returned (.int .i64 (stampV y m d h n s z)) ∧ Below w.heap.size w w' := by
  have hV := Lib.hid (fun W => Valid_any y m d h n s z W)
  have hD := Lib.hid (fun W => refDays_any y m d h n s z W)
  have q0 : ∀ cs t, Below w.heap.size w (w.alloc (.cells cs t)) := fun cs t => (Below.refl _ _).alloc (Nat.le_refl _) _
  unfold mom at hV hD ⊢
  cases hv : validB y m d h n s z with
  | false =>
    rw [hv] at hV
    have HR : Hid (stampV y m d h n s z = 0) := Lib.hid (by unfold stampV; rw [hv]; rfl)
    go_enter Tryz.func25, Tryz.ntmps25
    go_wp2_with (go_at_call 21; refine (hV.out _).mono ?_; rintro e w1 ⟨rfl, hb1⟩)
    go_ret
    exact ⟨ret_int HR.out.symm, (q0 _ _).trans (hb1.mono (q0 _ _).size)⟩
  | true =>
    rw [hv] at hV
    have hdv : daysV y m d h n s z = daysI y.toNat m.toNat d.toNat := by unfold daysV; rw [hv]; rfl
    have HR : Hid (stampV y m d h n s z = 86400 * daysI y.toNat m.toNat d.toNat + 3600 * h + 60 * n + s - 60 * z) := Lib.hid (by unfold stampV stampI; rw [hv]; rfl)
    obtain ⟨b1, b2⟩ := days_bounds y m d h n s z hv
    obtain ⟨t1, t2, t3, t4, t5, t6, t7, t8⟩ := valid_time y m d h n s z hv
    rw [hdv] at hD
    generalize daysI y.toNat m.toNat d.toNat = N at *
    clear hdv hv
    go_enter Tryz.func25, Tryz.ntmps25
    go_wp2_with fail
    refine (hV.out _).mono ?_
    rintro e w1 ⟨rfl, hb1⟩
    have x0 := boxed hb1 0
    have x1 := boxed hb1 1
    have x2 := boxed hb1 2
    have x3 := boxed hb1 3
    have x4 := boxed hb1 4
    have x5 := boxed hb1 5
    have x6 := boxed hb1 6
    simp only [List.getElem?_toArray, List.getElem?_cons_succ, List.getElem?_cons_zero] at x0 x1 x2 x3 x4 x5 x6
    have HB := Lib.hid ((q0 _ _).trans (hb1.mono (q0 _ _).size))
    have hbs := hb1.size
    have hlt : w.heap.size < w1.heap.size := by simp at hbs; omega
    clear hb1 q0 hV hbs
    go_wp2_with fail
    refine (hD.out _).mono ?_
    rintro e w2 ⟨rfl, hb2⟩
    have z3 := (hb2.cell (p := ⟨w.heap.size, 3, none⟩) hlt).trans x3
    have z4 := (hb2.cell (p := ⟨w.heap.size, 4, none⟩) hlt).trans x4
    have z5 := (hb2.cell (p := ⟨w.heap.size, 5, none⟩) hlt).trans x5
    have z6 := (hb2.cell (p := ⟨w.heap.size, 6, none⟩) hlt).trans x6
    clear x0 x1 x2 x3 x4 x5 x6
    go_wp2
    go_ret
    exact ⟨ret_int (by rw [HR.out]), HB.out.trans (hb2.mono HB.out.size)⟩

set_option maxRecDepth 100000 in
set_option maxHeartbeats 2000000 in
theorem refOrder_any (y m d h n s z y' m' d' h' n' s' z' : Int) (w : World) :
    Calls Tryz.prog 11 #[mom y m d h n s z, mom y' m' d' h' n' s' z'] w fun e w' => e = .returned (.int .i64 (orderV (validB y m d h n s z) (validB y' m' d' h' n' s' z') (stampV y m d h n s z) (stampV y' m' d' h' n' s' z'))) ∧ Below w.heap.size w w' := by
  have hV := Lib.hid (fun W => Valid_any y m d h n s z W)
  have hV' := Lib.hid (fun W => Valid_any y' m' d' h' n' s' z' W)
  have hS := Lib.hid (fun W => refStamp_any y m d h n s z W)
  have hS' := Lib.hid (fun W => refStamp_any y' m' d' h' n' s' z' W)
  unfold mom at hV hV' hS hS' ⊢
  generalize validB y m d h n s z = va at *
  generalize validB y' m' d' h' n' s' z' = vb at *
  generalize stampV y m d h n s z = sa at *
  generalize stampV y' m' d' h' n' s' z' = sb at *
  go_enter Tryz.func11, Tryz.ntmps11
  go_wp2_with fail
  have hA : Below w.heap.size w ((w.alloc (.cells #[.int .i64 y, .int .i64 m, .int .i64 d, .int .i64 h, .int .i64 n, .int .i64 s, .int .i64 z] 23)).alloc (.cells #[.int .i64 y', .int .i64 m', .int .i64 d', .int .i64 h', .int .i64 n', .int .i64 s', .int .i64 z'] 23)) := ((Below.refl _ _).alloc (Nat.le_refl _) _).alloc (by simp) _
  have hxA : Bx w.heap.size y m d h n s z ((w.alloc (.cells #[.int .i64 y, .int .i64 m, .int .i64 d, .int .i64 h, .int .i64 n, .int .i64 s, .int .i64 z] 23)).alloc (.cells #[.int .i64 y', .int .i64 m', .int .i64 d', .int .i64 h', .int .i64 n', .int .i64 s', .int .i64 z'] 23)) := ⟨(heap_alloc_old _ _ (by simp)).trans (heap_alloc_new w _)⟩
  have hxB : Bx (w.heap.size + 1) y' m' d' h' n' s' z' ((w.alloc (.cells #[.int .i64 y, .int .i64 m, .int .i64 d, .int .i64 h, .int .i64 n, .int .i64 s, .int .i64 z] 23)).alloc (.cells #[.int .i64 y', .int .i64 m', .int .i64 d', .int .i64 h', .int .i64 n', .int .i64 s', .int .i64 z'] 23)) := ⟨heap_alloc2_new w _ _⟩
  refine (hV.out _).mono ?_
  rintro e w1 ⟨rfl, hb1⟩
  have q1 := hA.trans (hb1.mono hA.size)
  have hxA1 := hxA.on hb1
  have hxB1 := hxB.on hb1
  clear hA hb1 hxA hxB
  obtain ⟨b0, b1, b2, b3, b4, b5, b6⟩ := hxB1.cells
  go_wp2_with fail
  refine (hV'.out _).mono ?_
  rintro e w2 ⟨rfl, hb2⟩
  clear b0 b1 b2 b3 b4 b5 b6
  have q2 := q1.trans (hb2.mono q1.size)
  have hxA2 := hxA1.on hb2
  have hxB2 := hxB1.on hb2
  clear q1 hb2 hxA1 hxB1
  obtain ⟨a0, a1, a2, a3, a4, a5, a6⟩ := hxA2.cells
  have tail : va = vb → True := fun _ => trivial
  clear tail
  cases va <;> cases vb
  case false.true =>
    go_wp2
    go_ret
    exact ⟨ret_int (order_ft _ _).symm, q2⟩
  case true.false =>
    go_wp2
    go_ret
    exact ⟨ret_int (order_tf _ _).symm, q2⟩
  all_goals (
    go_wp2_with fail
    refine (hS.out _).mono ?_
    rintro e w3 ⟨rfl, hb3⟩
    have q3 := q2.trans (hb3.mono q2.size)
    have hxB3 := hxB2.on hb3
    clear a0 a1 a2 a3 a4 a5 a6
    obtain ⟨c0, c1, c2, c3, c4, c5, c6⟩ := hxB3.cells
    go_wp2_with fail
    refine (hS'.out _).mono ?_
    rintro e w4 ⟨rfl, hb4⟩
    have q4 := q3.trans (hb4.mono q3.size)
    by_cases hlt : sa < sb
    · go_wp2
      go_ret
      exact ⟨ret_int (order_lt _ _ _ (by omega)).symm, q4⟩
    · by_cases hgt : sb < sa
      · go_wp2
        go_ret
        exact ⟨ret_int (order_gt _ _ _ (by omega)).symm, q4⟩
      · go_wp2
        go_ret
        exact ⟨ret_int (order_eq _ _ _ (by omega) (by omega)).symm, q4⟩)
end Go.Proofs.YtibhlmbcohpmlaaGreatDoor
