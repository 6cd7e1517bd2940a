/- moment: what a header's pieces say: weekday, fullYear, day. -/
import Derived.Test.YtckdmbeokajdjaaGreatDoorDs
namespace Go.Proofs.YtckdmbeokajdjaaGreatDoor
open Go.RowKit

theorem Bx.only {b c : Nat} {y m d h n se z : Int} {W W' : World} (k : Bx b y m d h n se z W) (ho : Only c W W') (hne : b ≠ c) : Bx b y m d h n se z W' :=
  ⟨by rw [ho.block b k.lt hne]; exact k.blk⟩
theorem Env.only {w w' : World} {b : Nat} (h : Env w) (ho : Only b w w') (hb : b ≤ w.heap.size) (hO : Over b) : Env w' := h.onB (ho.below hb) hO
/-- The weekday and its comma. -/
def wkB (c : Cur) : Bool := if (c.take 1).1.2 then wdB (c.take 1).1.1 && ((c.take 1).2.take 4).1.2 else true
def wkC (c : Cur) : Cur := if (c.take 1).1.2 then ((c.take 1).2.take 4).2 else c
theorem take_same (c : Cur) (k : Nat) (h : (c.take k).1.2 = false) : (c.take k).2 = c := by
  unfold Cur.take at *
  split
  · rename_i g; rw [if_pos g] at h; cases h
  · rfl
set_option maxRecDepth 100000 in
set_option maxHeartbeats 4000000 in
theorem weekday_any (b : Nat) (s : ByteArray) (c : Cur) (w : World) (he : Env w) (hO : Over b) (hs : s.size ≤ 140737488355328) (hx : Cuc b s c w) :
    Calls Tryz.prog 26 #[.pointer (some ⟨b, 0, none⟩)] w fun e w' => e = .returned (.bool (wkB c)) ∧ Only b w w' ∧ Cuc b s (wkC c) w' := by
  have HT := Lib.hid (take_any b s c 1 w hs hx)
  have hl := take_len hx 1
  have hlt := hx.lt
  cases ht : (c.take 1).1.2 with
  | false =>
    have hB : wkB c = true := by unfold wkB; rw [ht]; rfl
    have hC : wkC c = c := by unfold wkC; rw [ht]; rfl
    rw [hB, hC]
    rw [ht, take_same c 1 ht] at HT
    clear hB hC hl hx ht
    generalize S (c.take 1).1.1 = nm at *
    go_enter Tryz.func26, Tryz.ntmps26
    go_wp2_with fail
    refine HT.out.mono ?_
    rintro e w1 ⟨rfl, hb1, hx1⟩
    go_wp2
    go_ret
    exact ⟨rfl, hb1, hx1⟩
  | true =>
    have hB : wkB c = (wdB (c.take 1).1.1 && ((c.take 1).2.take 4).1.2) := by unfold wkB; rw [ht]; rfl
    have hC : wkC c = ((c.take 1).2.take 4).2 := by unfold wkC; rw [ht]; rfl
    rw [hB, hC]
    rw [ht] at HT
    have HW := Lib.hid (fun W hW => isWeekday_any (S (c.take 1).1.1) W hW (by rw [S_size]; omega))
    rw [L_S] at HW
    have HT4 := Lib.hid (fun W hW => take_any b s (c.take 1).2 4 W hs hW)
    generalize wdB (c.take 1).1.1 = wv at *
    generalize S (c.take 1).1.1 = nm at *
    generalize (c.take 1).2 = c1 at *
    generalize S (c1.take 4).1.1 = nm4 at *
    generalize (c1.take 4).1.2 = b4 at *
    generalize (c1.take 4).2 = c4 at *
    clear hB hC hl hx ht
    go_enter Tryz.func26, Tryz.ntmps26
    go_wp2_with fail
    refine HT.out.mono ?_
    rintro e w1 ⟨rfl, hb1, hx1⟩
    go_wp2_with fail
    refine (HT4.out _ hx1).mono ?_
    rintro e w2 ⟨rfl, hb2, hx2⟩
    have he2 := Lib.hid (he.only (hb1.trans hb2) (Nat.le_of_lt hlt) hO)
    cases wv
    all_goals (
      go_wp2_with (go_at_call 50; refine (HW.out _ he2.out).mono ?_; rintro e w3 ⟨rfl, hb3⟩)
      go_ret
      exact ⟨ret_bool (by simp), (hb1.trans hb2).trans (Below.only hb3), hx2.on hb3⟩)

/-- The year, of two, three or four digits. -/
def fyI (l : List UInt8) : Int := if numB l 2 4 then (if l.length = 4 then numI l 2 4 else if l.length = 2 ∧ numI l 2 4 < 50 then 2000 + numI l 2 4 else 1900 + numI l 2 4) else 0
def fyB (l : List UInt8) : Bool := numB l 2 4
theorem numI_no (l : List UInt8) (a b : Nat) (h : numB l a b = false) : numI l a b = 0 := by unfold numI; rw [h]; rfl
set_option maxRecDepth 100000 in
set_option maxHeartbeats 4000000 in
theorem fullYear_any (s : ByteArray) (w : World) (hs : s.size ≤ 140737488355328) :
    Calls Tryz.prog 52 #[.string s] w fun e w' => e = .returned (.tuple #[.int .i64 (fyI (L s)), .bool (fyB (L s))]) ∧ w' = w := by
  have HN := Lib.hid (fun W => number_any s 2 4 W hs (by omega))
  have HI : Hid (fyI (L s) = if numB (L s) 2 4 then (if (L s).length = 4 then numI (L s) 2 4 else if (L s).length = 2 ∧ numI (L s) 2 4 < 50 then 2000 + numI (L s) 2 4 else 1900 + numI (L s) 2 4) else 0) := Lib.hid rfl
  have HB : Hid (fyB (L s) = numB (L s) 2 4) := Lib.hid rfl
  have hbd := numI_bounds (L s) 2 4
  have hn0 := numI_no (L s) 2 4
  rw [L_length] at HI
  have h4 : (10 : Int) ^ 4 = 10000 := rfl
  rw [h4] at hbd
  obtain ⟨g1, g2⟩ := hbd
  generalize numI (L s) 2 4 = nv at *
  generalize numB (L s) 2 4 = nb at *
  cases nb with
  | false =>
    obtain rfl := hn0 rfl
    go_enter Tryz.func52, Tryz.ntmps52
    go_wp2_with (go_at_call 45; refine (HN.out _).mono ?_; rintro e w' ⟨rfl, hw'⟩; subst w')
    go_ret2
    exact ⟨ret_ib HI.out.symm HB.out.symm, rfl⟩
  | true =>
    clear hn0 h4
    by_cases k4 : s.size = 4
    · have t : ((s.size : Int) == 4) = true := by rw [beq_iff_eq]; omega
      have HI2 : Hid (fyI (L s) = nv) := Lib.hid (by rw [HI.out, if_pos rfl, if_pos k4])
      clear HI
      go_enter Tryz.func52, Tryz.ntmps52
      go_wp2_with (go_at_call 45; refine (HN.out _).mono ?_; rintro e w' ⟨rfl, hw'⟩; subst w')
      go_ret2
      exact ⟨ret_ib HI2.out.symm HB.out.symm, rfl⟩
    · have t : ((s.size : Int) == 4) = false := by rw [beq_eq_false_iff_ne]; omega
      by_cases k2 : s.size = 2
      · have t2 : ((s.size : Int) == 2) = true := by rw [beq_iff_eq]; omega
        by_cases k50 : nv < 50
        · have HI2 : Hid (fyI (L s) = 2000 + nv) := Lib.hid (by rw [HI.out, if_pos rfl, if_neg k4, if_pos ⟨k2, k50⟩])
          clear HI k4 k2
          go_enter Tryz.func52, Tryz.ntmps52
          go_wp2_with (go_at_call 45; refine (HN.out _).mono ?_; rintro e w' ⟨rfl, hw'⟩; subst w')
          go_ret2
          exact ⟨ret_ib HI2.out.symm HB.out.symm, rfl⟩
        · have HI2 : Hid (fyI (L s) = 1900 + nv) := Lib.hid (by rw [HI.out, if_pos rfl, if_neg k4, if_neg (fun q => k50 q.2)])
          clear HI k4 k2
          go_enter Tryz.func52, Tryz.ntmps52
          go_wp2_with (go_at_call 45; refine (HN.out _).mono ?_; rintro e w' ⟨rfl, hw'⟩; subst w')
          go_ret2
          exact ⟨ret_ib HI2.out.symm HB.out.symm, rfl⟩
      · have t2 : ((s.size : Int) == 2) = false := by rw [beq_eq_false_iff_ne]; omega
        have HI2 : Hid (fyI (L s) = 1900 + nv) := Lib.hid (by rw [HI.out, if_pos rfl, if_neg k4, if_neg (fun q => k2 q.1)])
        clear HI k4 k2
        go_enter Tryz.func52, Tryz.ntmps52
        go_wp2_with (go_at_call 45; refine (HN.out _).mono ?_; rintro e w' ⟨rfl, hw'⟩; subst w')
        go_ret2
        exact ⟨ret_ib HI2.out.symm HB.out.symm, rfl⟩
end Go.Proofs.YtckdmbeokajdjaaGreatDoor
