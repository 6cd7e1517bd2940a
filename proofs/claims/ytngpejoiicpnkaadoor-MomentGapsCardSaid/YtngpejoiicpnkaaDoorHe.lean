/- The statement MomentPrinted: what the calls answer, as facts; a day that is none. -/
import Derived.Test.YtngpejoiicpnkaaDoorHd
import Derived.Test.YtngpejoiicpnkaaDoorMa
namespace Go.Proofs.YtngpejoiicpnkaaDoor
open Go.RowKit

/-- m lies at b, the tables stand, nothing below was turned. -/
structure At7 (w : World) (b : Nat) (y m d h n s z : Int) (X : World) : Prop where
  c : Cells7 b y m d h n s z X
  e : Env X
  q : Below w.heap.size w X
theorem At7.on {w : World} {b : Nat} {y m d h n s z : Int} {X Y : World} (k : At7 w b y m d h n s z X) (hb : Below X.heap.size X Y) : At7 w b y m d h n s z Y :=
  ⟨k.c.on hb, k.e.on hb, k.q.trans (hb.mono k.q.size)⟩
theorem At7.al {w : World} {b : Nat} {y m d h n s z : Int} {X : World} {o : Obj} (k : At7 w b y m d h n s z X) : At7 w b y m d h n s z (X.alloc o) := k.on ((Below.refl _ _).alloc (Nat.le_refl _) _)
theorem At7.new (w : World) (y m d h n s z : Int) (he : Env w) : At7 w w.heap.size y m d h n s z (w.alloc (.cells #[.int .i64 y, .int .i64 m, .int .i64 d, .int .i64 h, .int .i64 n, .int .i64 s, .int .i64 z] 23)) :=
  ⟨cells7_new w y m d h n s z _, he.on ((Below.refl _ _).alloc (Nat.le_refl _) _), (Below.refl _ _).alloc (Nat.le_refl _) _⟩
set_option maxRecDepth 100000 in
set_option maxHeartbeats 4000000 in
theorem MomentPrinted_none (y m d h n s z : Int) (w : World) (he : Env w) (hf : isDayB y m d = false) :
    Calls Tryd.prog 5 #[mom y m d h n s z] w fun e w' => e = .returned (.bool true) ∧ Below w.heap.size w w' := by
  have hv : validB y m d h n s z = false := by
    cases hv : validB y m d h n s z with
    | false => rfl
    | true => rw [valid_day hv] at hf; cases hf
  have HK := Lib.hid (fun W hW => known_any W hW)
  have H1 := Lib.hid (fun W hW => momPrintInternal_any y m d h n s z W hW)
  have H2 := Lib.hid (fun W hW => momPrintHeader_any y m d h n s z W hW)
  have H3 := Lib.hid (fun W hW => momPrintDay_any y m d h n s z W hW)
  have H4 := Lib.hid (fun W hW => momValid_any y m d h n s z W hW)
  have e1 : prE y m d h n s z = 21 := by unfold prE; rw [hf]; rfl
  have e2 : S (piL y m d h n s z) = ⟨#[]⟩ := by unfold piL; rw [hv]; rfl
  have e3 : S (phL y m d h n s z) = ⟨#[]⟩ := by unfold phL; rw [hv]; rfl
  have e4 : S (pdL y m d) = ⟨#[]⟩ := by unfold pdL; rw [hf]; rfl
  have e5 : pdE y m d = 21 := by unfold pdE; rw [hf]; rfl
  rw [e1, e2] at H1
  rw [e1, e3] at H2
  rw [e4, e5] at H3
  rw [hv] at H4
  have st0 := At7.new w y m d h n s z he
  clear he e1 e2 e3 e4 e5 hf hv
  unfold mom at H1 H2 H3 H4 ⊢
  go_enter Tryd.func5, Tryd.ntmps5
  go_wp2_with fail
  refine (HK.out _ st0.e).mono ?_
  rintro e w1 ⟨rfl, hb1⟩
  have st1 := st0.on hb1
  clear hb1 st0
  obtain ⟨x0, x1, x2, x3, x4, x5, x6⟩ := st1.c
  go_wp2_with fail
  refine (H1.out _ st1.e).mono ?_
  rintro e w2 ⟨rfl, hb2⟩
  have st2 := st1.on hb2
  clear hb2 st1 x0 x1 x2 x3 x4 x5 x6
  obtain ⟨x0, x1, x2, x3, x4, x5, x6⟩ := st2.c
  go_wp2_with fail
  refine (H2.out _ st2.e).mono ?_
  rintro e w3 ⟨rfl, hb3⟩
  have st3 := st2.on hb3
  clear hb3 st2 x0 x1 x2 x3 x4 x5 x6
  obtain ⟨x0, x1, x2, x3, x4, x5, x6⟩ := st3.c
  go_wp2_with fail
  refine (H3.out _ st3.e).mono ?_
  rintro e w4 ⟨rfl, hb4⟩
  have st4 := st3.on hb4
  clear hb4 st3 x0 x1 x2 x3 x4 x5 x6
  obtain ⟨x0, x1, x2, x3, x4, x5, x6⟩ := st4.c
  go_wp2_with fail
  refine (H4.out _ st4.e).mono ?_
  rintro e w5 ⟨rfl, hb5⟩
  have st5 := st4.on hb5
  clear hb5 st4 x0 x1 x2 x3 x4 x5 x6
  go_wp2
  go_ret
  exact ⟨rfl, st5.q⟩
end Go.Proofs.YtngpejoiicpnkaaDoor
