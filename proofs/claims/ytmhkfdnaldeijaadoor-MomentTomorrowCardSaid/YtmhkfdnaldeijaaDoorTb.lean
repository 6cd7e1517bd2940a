/- The statement MomentTomorrow: a moment that may not be. -/
import Derived.Test.YtmhkfdnaldeijaaDoorTa
namespace Go.Proofs.YtmhkfdnaldeijaaDoor
open Go.RowKit

structure TomF (w : World) (b : Nat) (y m d h n s z da ka ta : Int) : Prop where
  fd : ∀ X, S1 w b y m d h n s z X → Calls Tryd.prog 11 #[.agg #[.int .i64 y, .int .i64 m, .int .i64 d, .int .i64 h, .int .i64 n, .int .i64 s, .int .i64 z]] X fun e w' => e = .returned (.int .i64 da) ∧ S1 w b y m d h n s z w'
  fk : ∀ X, S1 w b y m d h n s z X → Calls Tryd.prog 12 #[.agg #[.int .i64 y, .int .i64 m, .int .i64 d, .int .i64 h, .int .i64 n, .int .i64 s, .int .i64 z]] X fun e w' => e = .returned (.int .i64 ka) ∧ S1 w b y m d h n s z w'
  ft : ∀ X, S1 w b y m d h n s z X → Calls Tryd.prog 13 #[.agg #[.int .i64 y, .int .i64 m, .int .i64 d, .int .i64 h, .int .i64 n, .int .i64 s, .int .i64 z]] X fun e w' => e = .returned (.int .i64 ta) ∧ S1 w b y m d h n s z w'
theorem S1.evT {w : World} {b : Nat} {y m d h n s z : Int} {X : World} (k : S1 w b y m d h n s z X) : Env X := k.2.2.2.2.2.2.2.1
set_option maxRecDepth 100000 in
theorem tomF (w : World) (b : Nat) (y m d h n s z : Int) : TomF w b y m d h n s z (daysV y m d h n s z) (wdayV y m d h n s z) (stampV y m d h n s z) :=
  ⟨fun X hX => (momDays_any y m d h n s z X hX.evT).mono fun _ _ ⟨k1, k2⟩ => ⟨k1, hX.on k2⟩, fun X hX => (momWeekday_any y m d h n s z X hX.evT).mono fun _ _ ⟨k1, k2⟩ => ⟨k1, hX.on k2⟩, fun X hX => (momStamp_any y m d h n s z X hX.evT).mono fun _ _ ⟨k1, k2⟩ => ⟨k1, hX.on k2⟩⟩
set_option maxRecDepth 100000 in
set_option maxHeartbeats 4000000 in
theorem MomentTomorrow_no (y m d h n s z : Int) (w : World) (he : Env w) (hv : validB y m d h n s z = false) :
    Calls Tryd.prog 3 #[mom y m d h n s z] w fun e w' => e = .returned (.bool true) ∧ Below w.heap.size w w' := by
  have HK := Lib.hid (fun W hW => known_any W hW)
  have HV := Lib.hid (fun W hW => momValid_any y m d h n s z W hW)
  have q0 : Below w.heap.size w (w.alloc (.cells #[.int .i64 y, .int .i64 m, .int .i64 d, .int .i64 h, .int .i64 n, .int .i64 s, .int .i64 z] 23)) := (Below.refl _ _).alloc (Nat.le_refl _) _
  have st0 : S1 w w.heap.size y m d h n s z (w.alloc (.cells #[.int .i64 y, .int .i64 m, .int .i64 d, .int .i64 h, .int .i64 n, .int .i64 s, .int .i64 z] 23)) := S1.mk' (cells7_new w y m d h n s z _) (he.on q0) q0
  have hF := tomF w w.heap.size y m d h n s z
  rw [show daysV y m d h n s z = 0 by unfold daysV; rw [hv]; rfl, show wdayV y m d h n s z = 0 by unfold wdayV; rw [hv]; rfl, stampV_no y m d h n s z hv] at hF
  rw [hv] at HV
  clear he q0 hv
  unfold mom at HV ⊢
  go_enter Tryd.func3, Tryd.ntmps3
  go_wp2_with fail
  refine (HK.out _ st0.evT).mono ?_
  rintro e w1 ⟨rfl, hb1⟩
  have st1 := st0.on hb1
  clear hb1 st0
  obtain ⟨x0, x1, x2, x3, x4, x5, x6, xe, xb⟩ := st1
  go_wp2_with fail
  refine (HV.out _ xe).mono ?_
  rintro e w2 ⟨rfl, hb2⟩
  have st2 : S1 w w.heap.size y m d h n s z w2 := S1.on ⟨x0, x1, x2, x3, x4, x5, x6, xe, xb⟩ hb2
  clear hb2 x0 x1 x2 x3 x4 x5 x6 xe xb HK HV
  have st3 := st2.on (Below.refl _ _).drew
  obtain ⟨x0, x1, x2, x3, x4, x5, x6, xe, xb⟩ := st2
  go_wp2_with fail
  refine (hF.fd _ ⟨x0, x1, x2, x3, x4, x5, x6, xe, xb⟩).mono ?_
  rintro e w3 ⟨rfl, y0, y1, y2, y3, y4, y5, y6, ye, yb⟩
  clear x0 x1 x2 x3 x4 x5 x6 xe xb st3
  go_wp2_with fail
  refine (hF.fk _ ⟨y0, y1, y2, y3, y4, y5, y6, ye, yb⟩).mono ?_
  rintro e w4 ⟨rfl, x0, x1, x2, x3, x4, x5, x6, xe, xb⟩
  clear y0 y1 y2 y3 y4 y5 y6 ye yb
  go_wp2_with fail
  refine (hF.ft _ ⟨x0, x1, x2, x3, x4, x5, x6, xe, xb⟩).mono ?_
  rintro e w5 ⟨rfl, y0, y1, y2, y3, y4, y5, y6, ye, yb⟩
  go_wp2
  go_ret
  exact ⟨rfl, yb⟩
end Go.Proofs.YtmhkfdnaldeijaaDoor
