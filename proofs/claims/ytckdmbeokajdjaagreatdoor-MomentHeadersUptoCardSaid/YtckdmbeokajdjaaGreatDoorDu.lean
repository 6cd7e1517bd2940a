/- moment: what a header's pieces say: day, second, clock. -/
import Derived.Test.YtckdmbeokajdjaaGreatDoorDt
namespace Go.Proofs.YtckdmbeokajdjaaGreatDoor
open Go.RowKit

/-- The day, the month, the year. -/
def dyD (c : Cur) : Int := (c.short 99).1.1
def dyM (c : Cur) : Int := monI ((c.short 99).2.take 1).1.1
def dyY (c : Cur) : Int := fyI (((c.short 99).2.take 1).2.take 2).1.1
def dyB (c : Cur) : Bool := (c.short 99).1.2 && monB ((c.short 99).2.take 1).1.1 && fyB (((c.short 99).2.take 1).2.take 2).1.1
def dyC (c : Cur) : Cur := (((c.short 99).2.take 1).2.take 2).2
set_option maxRecDepth 100000 in
set_option maxHeartbeats 4000000 in
theorem hday_any (b bm : Nat) (s : ByteArray) (c : Cur) (y m d h n se z : Int) (w : World) (he : Env w) (hO : Over b) (hs : s.size ≤ 140737488355328) (hx : Cuc b s c w) (hm : Bx bm y m d h n se z w) (hlt : b < bm) :
    Calls Tryz.prog 27 #[.pointer (some ⟨b, 0, none⟩), .pointer (some ⟨bm, 0, none⟩)] w fun e w' => e = .returned (.bool (dyB c)) ∧ Below b w w' ∧ Cuc b s (dyC c) w' ∧ Bx bm (dyY c) (dyM c) (dyD c) h n se z w' := by
  have HS := Lib.hid (short_any b s c 99 w hs hx)
  have hbl := Nat.le_of_lt hx.lt
  have HB : Hid (dyB c = ((c.short 99).1.2 && monB ((c.short 99).2.take 1).1.1 && fyB (((c.short 99).2.take 1).2.take 2).1.1)) := Lib.hid rfl
  unfold dyD dyM dyY dyC
  generalize (c.short 99).1.1 = dv at *
  generalize (c.short 99).1.2 = db at *
  generalize (c.short 99).2 = c1 at *
  have HT1 := Lib.hid (fun W hW => take_any b s c1 1 W hs hW)
  have HL1 := Lib.hid (fun W (hW : Cuc b s c1 W) => take_len hW 1)
  have HMo := Lib.hid (fun W hW hz => monthOf_any (S (c1.take 1).1.1) W hW hz)
  rw [L_S] at HMo
  generalize monI (c1.take 1).1.1 = mv at *
  generalize monB (c1.take 1).1.1 = mb at *
  generalize (c1.take 1).1.1 = nm at *
  generalize (c1.take 1).1.2 = nb1 at *
  generalize (c1.take 1).2 = c2 at *
  have HT2 := Lib.hid (fun W hW => take_any b s c2 2 W hs hW)
  have HL2 := Lib.hid (fun W (hW : Cuc b s c2 W) => take_len hW 2)
  have HFy := Lib.hid (fun W hz => fullYear_any (S (c2.take 2).1.1) W hz)
  rw [L_S] at HFy
  generalize fyI (c2.take 2).1.1 = yv at *
  generalize fyB (c2.take 2).1.1 = yb at *
  generalize (c2.take 2).1.1 = yr at *
  generalize (c2.take 2).1.2 = nb2 at *
  generalize (c2.take 2).2 = c3 at *
  go_enter Tryz.func27, Tryz.ntmps27
  go_wp2_with fail
  refine HS.out.mono ?_
  rintro e w1 ⟨rfl, hb1, hx1⟩
  have hm1 := hm.only hb1 (by omega)
  have q1 := hb1.below hbl
  have he1 := he.onB q1 hO
  clear hm hb1 hx he HS
  obtain ⟨k0, k1, k2, k3, k4, k5, k6⟩ := hm1.cells
  have g2 := hm1.free 2
  have hm2 : Bx bm y m dv h n se z (w1.setCell ⟨bm, 2, none⟩ (.int .i64 dv)) := hm1.set2
  have qs2 : Below bm w1 (w1.setCell ⟨bm, 2, none⟩ (.int .i64 dv)) := (Below.refl _ _).setCell (p := ⟨bm, 2, none⟩) (Nat.le_refl _) _
  have hx2 := hx1.onB qs2 hlt
  have q2 : Below b w (w1.setCell ⟨bm, 2, none⟩ (.int .i64 dv)) := q1.setCell (p := ⟨bm, 2, none⟩) (Nat.le_of_lt hlt) _
  have he2 : Env (w1.setCell ⟨bm, 2, none⟩ (.int .i64 dv)) := he1.onB qs2 (hO.mono (by omega))
  go_wp2_with fail
  refine (HT1.out _ hx2).mono ?_
  rintro e w3 ⟨rfl, hb3, hx3⟩
  have hl3 := HL1.out _ hx2
  have hm3 := hm2.only hb3 (by omega)
  have q3 := q2.trans (hb3.below (Nat.le_of_lt hx2.lt))
  have he3 := he2.onB (hb3.below (Nat.le_of_lt hx2.lt)) hO
  clear hm1 hm2 hx1 hx2 q1 q2 qs2 hb3 he1 he2 k0 k1 k2 k3 k4 k5 k6 g2 HT1 HL1
  go_wp2_with fail
  refine (HMo.out _ he3 (by rw [S_size]; omega)).mono ?_
  rintro e w4 ⟨rfl, hb4⟩
  have hx4 := hx3.on hb4
  have hm4 := hm3.on hb4
  have q4 := q3.trans (hb4.mono (Nat.le_of_lt hx3.lt))
  have he4 := he3.on hb4
  clear hm3 hx3 q3 hb4 he3 hl3 HMo
  obtain ⟨k0, k1, k2, k3, k4, k5, k6⟩ := hm4.cells
  have g1 := hm4.free 1
  have hm5 : Bx bm y mv dv h n se z (w4.setCell ⟨bm, 1, none⟩ (.int .i64 mv)) := hm4.set1
  have qs5 : Below bm w4 (w4.setCell ⟨bm, 1, none⟩ (.int .i64 mv)) := (Below.refl _ _).setCell (p := ⟨bm, 1, none⟩) (Nat.le_refl _) _
  have hx5 := hx4.onB qs5 hlt
  have q5 : Below b w (w4.setCell ⟨bm, 1, none⟩ (.int .i64 mv)) := q4.setCell (p := ⟨bm, 1, none⟩) (Nat.le_of_lt hlt) _
  go_wp2_with fail
  refine (HT2.out _ hx5).mono ?_
  rintro e w6 ⟨rfl, hb6, hx6⟩
  have hl6 := HL2.out _ hx5
  have hm6 := hm5.only hb6 (by omega)
  have q6 := q5.trans (hb6.below (Nat.le_of_lt hx5.lt))
  clear hm4 hm5 hx4 hx5 q4 q5 qs5 hb6 he4 k0 k1 k2 k3 k4 k5 k6 g1 HT2 HL2
  obtain ⟨k0, k1, k2, k3, k4, k5, k6⟩ := hm6.cells
  have g0 := hm6.free 0
  have HX7 := Lib.hid (hx6.onB ((Below.refl _ _).setCell (p := ⟨bm, 0, none⟩) (Nat.le_refl _) (.int .i64 yv)) hlt)
  have HM7 := Lib.hid (hm6.set0 (v := yv))
  have Q7 := Lib.hid (q6.setCell (p := ⟨bm, 0, none⟩) (Nat.le_of_lt hlt) (.int .i64 yv))
  have HF7 := Lib.hid (fun W => HFy.out W (by rw [S_size]; omega))
  clear hx6 hm6 q6 HFy
  cases db <;> cases mb
  all_goals (
    go_wp2_with (go_at_call 52; refine (HF7.out _).mono ?_; rintro e w' ⟨rfl, hw'⟩; subst w')
    go_ret
    exact ⟨ret_bool (by rw [HB.out]; simp), Q7.out, HX7.out, HM7.out⟩)

/-- The second. -/
def seB (c : Cur) : Bool := if (c.take 5).1.2 then ((c.take 5).2.short 60).1.2 else true
def seS (c : Cur) (se : Int) : Int := if (c.take 5).1.2 then min ((c.take 5).2.short 60).1.1 59 else se
def seC (c : Cur) : Cur := if (c.take 5).1.2 then ((c.take 5).2.short 60).2 else c
set_option maxRecDepth 100000 in
set_option maxHeartbeats 4000000 in
theorem second_any (b bm : Nat) (s : ByteArray) (c : Cur) (y m d h n se z : Int) (w : World) (hs : s.size ≤ 140737488355328) (hx : Cuc b s c w) (hm : Bx bm y m d h n se z w) (hlt : b < bm) :
    Calls Tryz.prog 53 #[.pointer (some ⟨b, 0, none⟩), .pointer (some ⟨bm, 0, none⟩)] w fun e w' => e = .returned (.bool (seB c)) ∧ Below b w w' ∧ Cuc b s (seC c) w' ∧ Bx bm y m d h n (seS c se) z w' := by
  have HT := Lib.hid (take_any b s c 5 w hs hx)
  have hbl := Nat.le_of_lt hx.lt
  cases ht : (c.take 5).1.2 with
  | false =>
    have e1 : seB c = true := by unfold seB; rw [ht]; rfl
    have e2 : seC c = c := by unfold seC; rw [ht]; rfl
    have e3 : seS c se = se := by unfold seS; rw [ht]; rfl
    rw [e1, e2, e3]
    rw [ht, take_same c 5 ht] at HT
    generalize S (c.take 5).1.1 = nm at *
    clear e1 e2 e3 ht hx
    go_enter Tryz.func53, Tryz.ntmps53
    go_wp2_with fail
    refine HT.out.mono ?_
    rintro e w1 ⟨rfl, hb1, hx1⟩
    have HM := Lib.hid (hm.only hb1 (by omega))
    go_wp2
    go_ret
    exact ⟨rfl, hb1.below hbl, hx1, HM.out⟩
  | true =>
    have e1 : seB c = ((c.take 5).2.short 60).1.2 := by unfold seB; rw [ht]; rfl
    have e2 : seC c = ((c.take 5).2.short 60).2 := by unfold seC; rw [ht]; rfl
    have e3 : seS c se = min ((c.take 5).2.short 60).1.1 59 := by unfold seS; rw [ht]; rfl
    rw [e1, e2, e3]
    rw [ht] at HT
    generalize S (c.take 5).1.1 = nm at *
    generalize (c.take 5).2 = c1 at *
    have HS := Lib.hid (fun W hW => short_any b s c1 60 W hs hW)
    generalize (c1.short 60).1.1 = sv at *
    generalize (c1.short 60).1.2 = sb at *
    generalize (c1.short 60).2 = c2 at *
    clear e1 e2 e3 ht hx
    go_enter Tryz.func53, Tryz.ntmps53
    go_wp2_with fail
    refine HT.out.mono ?_
    rintro e w1 ⟨rfl, hb1, hx1⟩
    have hm1 := hm.only hb1 (by omega)
    go_wp2_with fail
    refine (HS.out _ hx1).mono ?_
    rintro e w2 ⟨rfl, hb2, hx2⟩
    have hm2 := hm1.only hb2 (by omega)
    have q2 := (hb1.trans hb2).below hbl
    clear hm1 hx1 hb1 hb2 hm
    obtain ⟨k0, k1, k2, k3, k4, k5, k6⟩ := hm2.cells
    have g5 := hm2.free 5
    have HX := Lib.hid (hx2.onB ((Below.refl _ _).setCell (p := ⟨bm, 5, none⟩) (Nat.le_refl _) (.int .i64 (min sv 59))) hlt)
    have HM := Lib.hid (hm2.set5 (v := min sv 59))
    have Q := Lib.hid (q2.setCell (p := ⟨bm, 5, none⟩) (Nat.le_of_lt hlt) (.int .i64 (min sv 59)))
    clear hx2 hm2 q2
    go_wp2
    · have e : min sv 59 = 59 := by omega
      rw [e] at Q HX HM
      go_ret
      rw [e]
      exact ⟨rfl, Q.out, HX.out, HM.out⟩
    · have e : min sv 59 = sv := by omega
      rw [e] at Q HX HM
      go_ret
      rw [e]
      exact ⟨rfl, Q.out, HX.out, HM.out⟩

/-- The clock. -/
def clH (c : Cur) : Int := (c.short 23).1.1
def clN (c : Cur) : Int := (((c.short 23).2.take 5).2.short 59).1.1
def clF (c : Cur) : Bool := (c.short 23).1.2 && ((c.short 23).2.take 5).1.2 && (((c.short 23).2.take 5).2.short 59).1.2
def clR (c : Cur) : Cur := (((c.short 23).2.take 5).2.short 59).2
def clB (c : Cur) : Bool := clF c && seB (clR c)
def clS (c : Cur) (se : Int) : Int := if clF c then seS (clR c) se else se
def clC (c : Cur) : Cur := if clF c then seC (clR c) else clR c
set_option maxRecDepth 100000 in
set_option maxHeartbeats 4000000 in
theorem hclock_any (b bm : Nat) (s : ByteArray) (c : Cur) (y m d h n se z : Int) (w : World) (hs : s.size ≤ 140737488355328) (hx : Cuc b s c w) (hm : Bx bm y m d h n se z w) (hlt : b < bm) :
    Calls Tryz.prog 28 #[.pointer (some ⟨b, 0, none⟩), .pointer (some ⟨bm, 0, none⟩)] w fun e w' => e = .returned (.bool (clB c)) ∧ Below b w w' ∧ Cuc b s (clC c) w' ∧ Bx bm y m d (clH c) (clN c) (clS c se) z w' := by
  have HS := Lib.hid (short_any b s c 23 w hs hx)
  have hbl := Nat.le_of_lt hx.lt
  have hF : clF c = ((c.short 23).1.2 && ((c.short 23).2.take 5).1.2 && (((c.short 23).2.take 5).2.short 59).1.2) := rfl
  have hB : clB c = (clF c && seB (clR c)) := rfl
  have hC : clC c = if clF c then seC (clR c) else clR c := rfl
  have hSe : clS c se = if clF c then seS (clR c) se else se := rfl
  have hR : clR c = (((c.short 23).2.take 5).2.short 59).2 := rfl
  rw [hR] at hB hC hSe
  rw [hF] at hB hC hSe
  rw [hB, hC, hSe]
  unfold clH clN
  clear hF hB hC hSe hR
  generalize (c.short 23).1.1 = hv at *
  generalize (c.short 23).1.2 = hb at *
  generalize (c.short 23).2 = c1 at *
  have HT1 := Lib.hid (fun W hW => take_any b s c1 5 W hs hW)
  generalize S (c1.take 5).1.1 = nm at *
  generalize (c1.take 5).1.2 = tb at *
  generalize (c1.take 5).2 = c2 at *
  have HS2 := Lib.hid (fun W hW => short_any b s c2 59 W hs hW)
  generalize (c2.short 59).1.1 = nv at *
  generalize (c2.short 59).1.2 = nb at *
  generalize (c2.short 59).2 = c3 at *
  have HSe := Lib.hid (fun W hW hm => second_any b bm s c3 y m d hv nv se z W hs hW hm hlt)
  go_enter Tryz.func28, Tryz.ntmps28
  go_wp2_with fail
  refine HS.out.mono ?_
  rintro e w1 ⟨rfl, hb1, hx1⟩
  have hm1 := hm.only hb1 (by omega)
  have q1 := hb1.below hbl
  clear hm hb1 hx HS
  obtain ⟨k0, k1, k2, k3, k4, k5, k6⟩ := hm1.cells
  have g3 := hm1.free 3
  have hm2 : Bx bm y m d hv n se z (w1.setCell ⟨bm, 3, none⟩ (.int .i64 hv)) := hm1.set3
  have hx2 := hx1.onB ((Below.refl _ _).setCell (p := ⟨bm, 3, none⟩) (Nat.le_refl _) (.int .i64 hv)) hlt
  have q2 : Below b w (w1.setCell ⟨bm, 3, none⟩ (.int .i64 hv)) := q1.setCell (p := ⟨bm, 3, none⟩) (Nat.le_of_lt hlt) _
  go_wp2_with fail
  refine (HT1.out _ hx2).mono ?_
  rintro e w3 ⟨rfl, hb3, hx3⟩
  have hm3 := hm2.only hb3 (by omega)
  have q3 := q2.trans (hb3.below (Nat.le_of_lt hx2.lt))
  clear hm1 hm2 hx1 hx2 q1 q2 hb3 k0 k1 k2 k3 k4 k5 k6 g3 HT1
  go_wp2_with fail
  refine (HS2.out _ hx3).mono ?_
  rintro e w4 ⟨rfl, hb4, hx4⟩
  have hm4 := hm3.only hb4 (by omega)
  have q4 := q3.trans (hb4.below (Nat.le_of_lt hx3.lt))
  clear hm3 hx3 q3 hb4 HS2
  obtain ⟨k0, k1, k2, k3, k4, k5, k6⟩ := hm4.cells
  have g4 := hm4.free 4
  have hm5 : Bx bm y m d hv nv se z (w4.setCell ⟨bm, 4, none⟩ (.int .i64 nv)) := hm4.set4
  have hx5 := hx4.onB ((Below.refl _ _).setCell (p := ⟨bm, 4, none⟩) (Nat.le_refl _) (.int .i64 nv)) hlt
  have q5 : Below b w (w4.setCell ⟨bm, 4, none⟩ (.int .i64 nv)) := q4.setCell (p := ⟨bm, 4, none⟩) (Nat.le_of_lt hlt) _
  have hl5 := hx5.lt
  have HX := Lib.hid hx5
  have HM := Lib.hid hm5
  have Q := Lib.hid q5
  have HL := Lib.hid hl5
  clear hx4 hx5 hm4 hm5 q4 q5 hl5
  cases hb
  · go_wp2
    go_ret
    exact ⟨rfl, Q.out, HX.out, HM.out⟩
  · cases tb
    · go_wp2
      go_ret
      exact ⟨rfl, Q.out, HX.out, HM.out⟩
    · cases nb
      · go_wp2
        go_ret
        exact ⟨rfl, Q.out, HX.out, HM.out⟩
      · go_wp2_with fail
        refine (HSe.out _ HX.out HM.out).mono ?_
        rintro e w6 ⟨rfl, hb6, hx6, hm6⟩
        go_wp2
        go_ret
        exact ⟨rfl, Q.out.trans (hb6.mono (Nat.le_refl _)), hx6, hm6⟩
end Go.Proofs.YtckdmbeokajdjaaGreatDoor
