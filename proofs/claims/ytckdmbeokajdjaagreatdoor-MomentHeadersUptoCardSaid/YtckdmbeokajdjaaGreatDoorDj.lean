/- moment: takeZone, judge. -/
import Derived.Test.YtckdmbeokajdjaaGreatDoorDi
namespace Go.Proofs.YtckdmbeokajdjaaGreatDoor
open Go.RowKit

theorem numI_bounds (l : List UInt8) (a b : Nat) : 0 ≤ numI l a b ∧ numI l a b < 10 ^ b := by
  unfold numI
  split
  · rename_i h
    unfold numB at h
    rw [Bool.and_eq_true, Bool.and_eq_true, decide_eq_true_iff, decide_eq_true_iff] at h
    have h1 := valD_lt l h.2
    have h2 : 10 ^ l.length ≤ 10 ^ b := Nat.pow_le_pow_right (by omega) h.1.2
    refine ⟨by omega, ?_⟩
    have : valD l < 10 ^ b := by omega
    exact_mod_cast this
  · refine ⟨by omega, ?_⟩
    have : 0 < 10 ^ b := Nat.pow_pos (by omega)
    exact_mod_cast this
def tzH (l : List UInt8) : Int := numI ((l.drop 1).take 2) 2 2
def tzM (l : List UInt8) : Int := numI (l.drop 3) 2 2
def tzV (l : List UInt8) : Int := if bt l 0 == 45 then -(60 * tzH l + tzM l) else 60 * tzH l + tzM l
def tzB (l : List UInt8) : Bool := decide (l.length = 5) && (numB ((l.drop 1).take 2) 2 2 && numB (l.drop 3) 2 2 && decide (tzH l ≤ 23) && decide (tzM l ≤ 59) && (bt l 0 == 43 || bt l 0 == 45))
set_option maxHeartbeats 1000000 in
theorem takeZone_no (s : ByteArray) (b : Nat) (w : World) (h1 : s.size ≠ 5) :
    Calls Tryz.prog 23 #[.pointer (some ⟨b, 0, none⟩), .string s] w fun e w' => e = .returned (.bool false) ∧ w' = w := by
  have t : ((s.size : Int) != 5) = true := by rw [bne_iff_ne]; omega
  go_enter Tryz.func23, Tryz.ntmps23
  go_wp2
  go_ret
  exact ⟨rfl, rfl⟩
set_option maxRecDepth 100000 in
set_option maxHeartbeats 4000000 in
theorem takeZone_5 (s : ByteArray) (b : Nat) (y m d h n se z : Int) (w : World) (hs : s.size = 5) (hx : Bx b y m d h n se z w) :
    Calls Tryz.prog 23 #[.pointer (some ⟨b, 0, none⟩), .string s] w fun e w' => e = .returned (.bool (tzB (L s))) ∧ Below b w w' ∧ Bx b y m d h n se (tzV (L s)) w' := by
  have hlen : (L s).length = 5 := by rw [L_length]; exact hs
  have e1 : L (s.extract 1 3) = ((L s).drop 1).take 2 := by rw [extract_S, L_S]
  have e3 : L (s.extract 3 5) = (L s).drop 3 := by rw [extract_S, L_S]; exact List.take_of_length_le (by rw [List.length_drop, hlen]; omega)
  have z1 : (s.extract 1 3).size = 2 := by rw [← L_length, e1, List.length_take, List.length_drop, hlen]; rfl
  have z3 : (s.extract 3 5).size = 2 := by rw [← L_length, e3, List.length_drop, hlen]
  have b0 : ∀ hh, (s[0]'hh) = bt (L s) 0 := fun hh => get_bt s 0 hh
  have hH := Lib.hid (fun W => number_any (s.extract 1 3) 2 2 W (by omega) (by omega))
  have hM := Lib.hid (fun W => number_any (s.extract 3 5) 2 2 W (by omega) (by omega))
  rw [e1] at hH
  rw [e3] at hM
  have HT : Hid (tzB (L s) = (numB (((L s).drop 1).take 2) 2 2 && numB ((L s).drop 3) 2 2 && decide (tzH (L s) ≤ 23) && decide (tzM (L s) ≤ 59) && (bt (L s) 0 == 43 || bt (L s) 0 == 45))) := Lib.hid (by unfold tzB; rw [hlen]; rfl)
  have HV : Hid (tzV (L s) = if bt (L s) 0 == 45 then -(60 * tzH (L s) + tzM (L s)) else 60 * tzH (L s) + tzM (L s)) := Lib.hid rfl
  have t2 := byte_test (bt (L s) 0) 45 45 rfl
  have t5 := byte_test (bt (L s) 0) 43 43 rfl
  have g1 := numI_bounds (((L s).drop 1).take 2) 2 2
  have g2 := numI_bounds ((L s).drop 3) 2 2
  unfold tzH tzM at *
  clear e1 e3 z1 z3 hlen
  generalize numI (((L s).drop 1).take 2) 2 2 = hv at *
  generalize numB (((L s).drop 1).take 2) 2 2 = hb at *
  generalize numI ((L s).drop 3) 2 2 = mv at *
  generalize numB ((L s).drop 3) 2 2 = mb at *
  obtain ⟨g1, g3⟩ := g1
  obtain ⟨g2, g4⟩ := g2
  have g3 : hv ≤ 99 := by have : (10 : Int) ^ 2 = 100 := rfl
                          omega
  have g4 : mv ≤ 99 := by have : (10 : Int) ^ 2 = 100 := rfl
                          omega
  generalize (bt (L s) 0 == 45) = p at *
  generalize (bt (L s) 0 == 43) = q at *
  generalize bt (L s) 0 = B0 at *
  obtain ⟨r1, hr1⟩ : ∃ r, decide (hv ≤ 23) = r := ⟨_, rfl⟩
  obtain ⟨r2, hr2⟩ : ∃ r, decide (mv ≤ 59) = r := ⟨_, rfl⟩
  rw [hr1, hr2] at HT
  obtain ⟨c0, c1, c2, c3, c4, c5, c6⟩ := hx.cells
  have f6 := hx.free 6
  cases p
  · have x3 : Bx b y m d h n se (60 * hv + mv) (w.setCell ⟨b, 6, none⟩ (.int .i64 (60 * hv + mv))) := hx.set6
    have q3 : Below b w (w.setCell ⟨b, 6, none⟩ (.int .i64 (60 * hv + mv))) := (Below.refl _ _).setCell (p := ⟨b, 6, none⟩) (Nat.le_refl _) _
    have X3 := Lib.hid x3
    have Q3 := Lib.hid q3
    have HV' : Hid (tzV (L s) = 60 * hv + mv) := Lib.hid HV.out
    clear x3 q3 hx HV
    rcases six hb mb r1 r2 q with rfl | ⟨rfl, rfl⟩ | ⟨rfl, rfl, rfl⟩ | ⟨rfl, rfl, rfl, rfl⟩ | ⟨rfl, rfl, rfl, rfl, rfl⟩ | ⟨rfl, rfl, rfl, rfl, rfl⟩
    all_goals (
      go_enter Tryz.func23, Tryz.ntmps23
      go_wp2_with (first | (go_at_call_of 45 (s.extract 1 3); refine (hH.out _).mono ?_; rintro e w' ⟨rfl, hw'⟩; subst w') | (go_at_call_of 45 (s.extract 3 5); refine (hM.out _).mono ?_; rintro e w' ⟨rfl, hw'⟩; subst w'))
      go_ret
      exact ⟨ret_bool (by rw [HT.out]; simp), Q3.out, by rw [HV'.out]; exact X3.out⟩)
  · have x3 : Bx b y m d h n se (-(60 * hv + mv)) ((w.setCell ⟨b, 6, none⟩ (.int .i64 (60 * hv + mv))).setCell ⟨b, 6, none⟩ (.int .i64 (-(60 * hv + mv)))) := hx.set6.set6
    have q3 : Below b w ((w.setCell ⟨b, 6, none⟩ (.int .i64 (60 * hv + mv))).setCell ⟨b, 6, none⟩ (.int .i64 (-(60 * hv + mv)))) := ((Below.refl _ _).setCell (p := ⟨b, 6, none⟩) (Nat.le_refl _) _).setCell (p := ⟨b, 6, none⟩) (Nat.le_refl _) _
    have X3 := Lib.hid x3
    have Q3 := Lib.hid q3
    have HV' : Hid (tzV (L s) = -(60 * hv + mv)) := Lib.hid HV.out
    clear x3 q3 hx HV
    rcases six hb mb r1 r2 q with rfl | ⟨rfl, rfl⟩ | ⟨rfl, rfl, rfl⟩ | ⟨rfl, rfl, rfl, rfl⟩ | ⟨rfl, rfl, rfl, rfl, rfl⟩ | ⟨rfl, rfl, rfl, rfl, rfl⟩
    all_goals (
      go_enter Tryz.func23, Tryz.ntmps23
      go_wp2_with (first | (go_at_call_of 45 (s.extract 1 3); refine (hH.out _).mono ?_; rintro e w' ⟨rfl, hw'⟩; subst w') | (go_at_call_of 45 (s.extract 3 5); refine (hM.out _).mono ?_; rintro e w' ⟨rfl, hw'⟩; subst w'))
      go_ret
      exact ⟨ret_bool (by rw [HT.out]; simp), Q3.out, by rw [HV'.out]; exact X3.out⟩)
theorem takeZone_any (s : ByteArray) (b : Nat) (y m d h n se z : Int) (w : World) (hx : Bx b y m d h n se z w) :
    Calls Tryz.prog 23 #[.pointer (some ⟨b, 0, none⟩), .string s] w fun e w' => e = .returned (.bool (tzB (L s))) ∧ Below b w w' ∧ ∃ z', Bx b y m d h n se z' w' ∧ (tzB (L s) = true → z' = tzV (L s)) := by
  by_cases h1 : s.size = 5
  · refine (takeZone_5 s b y m d h n se z w h1 hx).mono ?_
    rintro e w' ⟨rfl, hb, hx'⟩
    exact ⟨rfl, hb, _, hx', fun _ => rfl⟩
  · have hf : tzB (L s) = false := by
      unfold tzB
      rw [L_length, decide_eq_false h1]
      rfl
    refine (takeZone_no s b w h1).mono ?_
    rintro e w' ⟨rfl, rfl⟩
    exact ⟨by rw [hf], Below.refl _ _, _, hx, fun h => by rw [hf] at h; cases h⟩

/-- What all that reads answers. -/
def judV (f : Bool) (y m d h n s z : Int) : Value := if f && isDayB y m d then mom y m d h n s z else mom 0 0 0 0 0 0 0
def judE (f : Bool) (y m d : Int) : Int := if f then (if isDayB y m d then 0 else 21) else 20
theorem below2 (w : World) (x y : Obj) : Below w.heap.size w ((w.alloc x).alloc y) := ((Below.refl _ _).alloc (Nat.le_refl _) _).alloc (by simp) _
set_option maxRecDepth 100000 in
set_option maxHeartbeats 4000000 in
theorem judge_any (f : Bool) (y m d h n s z : Int) (w : World) (he : Env w) :
    Calls Tryz.prog 24 #[mom y m d h n s z, .bool f] w fun e w' => e = .returned (.tuple #[judV f y m d h n s z, .int .i64 (judE f y m d)]) ∧ Below w.heap.size w w' := by
  have hD := Lib.hid (fun W hW => isDay_any y m d h n s z W hW)
  have G1 := Lib.hid (heap_alloc2_new w (.cells #[.int .i64 y, .int .i64 m, .int .i64 d, .int .i64 h, .int .i64 n, .int .i64 s, .int .i64 z] 23) (.cells #[.int .i64 0, .int .i64 0, .int .i64 0, .int .i64 0, .int .i64 0, .int .i64 0, .int .i64 0] 23))
  have Q0 := Lib.hid (below2 w (.cells #[.int .i64 y, .int .i64 m, .int .i64 d, .int .i64 h, .int .i64 n, .int .i64 s, .int .i64 z] 23) (.cells #[.int .i64 0, .int .i64 0, .int .i64 0, .int .i64 0, .int .i64 0, .int .i64 0, .int .i64 0] 23))
  have HE := Lib.hid (he.on Q0.out)
  clear he
  cases f with
  | false =>
    have HV : Hid (judV false y m d h n s z = mom 0 0 0 0 0 0 0) := Lib.hid rfl
    have HE2 : Hid (judE false y m d = 20) := Lib.hid rfl
    rw [HV.out, HE2.out]
    unfold mom
    go_enter Tryz.func24, Tryz.ntmps24
    go_wp2
    exact bodyPost_ret (v := .tuple #[mom 0 0 0 0 0 0 0, .int .i64 20]) (res2 Tryz.results24 _ _ (w.heap.size + 1) 23 _ (0, 0) _ rfl G1.out Tryz.underlying23 rfl Tryz.sizeMom) rfl ⟨rfl, Q0.out⟩
  | true =>
    cases hd : isDayB y m d with
    | false =>
      have HV : Hid (judV true y m d h n s z = mom 0 0 0 0 0 0 0) := Lib.hid (by unfold judV; rw [hd]; rfl)
      have HE2 : Hid (judE true y m d = 21) := Lib.hid (by unfold judE; rw [hd]; rfl)
      rw [HV.out, HE2.out]
      rw [hd] at hD
      unfold mom at hD ⊢
      go_enter Tryz.func24, Tryz.ntmps24
      go_wp2_with fail
      refine (hD.out _ HE.out).mono ?_
      rintro e w1 ⟨rfl, hb1⟩
      have hr1 : w1.heap[w.heap.size + 1]? = some (.cells #[.int .i64 0, .int .i64 0, .int .i64 0, .int .i64 0, .int .i64 0, .int .i64 0, .int .i64 0] 23 (0, 0)) := by rw [hb1.block _ (by simp)]; exact G1.out
      have q1 := Q0.out.trans (hb1.mono Q0.out.size)
      have HR := Lib.hid hr1
      have HQ := Lib.hid q1
      clear hr1 q1 hb1 G1 Q0 HE hD HV HE2 hd
      go_wp2_with (refine wpList_store_row rfl 23 _ _ rfl (w.heap.size + 1) #[.int .i64 0, .int .i64 0, .int .i64 0, .int .i64 0, .int .i64 0, .int .i64 0, .int .i64 0] rfl rfl 23 _ HR.out Tryz.sizeMom rfl (mom_one _ _ _ _ _ _ _) ?_)
      exact bodyPost_ret (v := .tuple #[mom 0 0 0 0 0 0 0, .int .i64 21]) (res2 Tryz.results24 _ _ (w.heap.size + 1) 23 #[.int .i64 0, .int .i64 0, .int .i64 0, .int .i64 0, .int .i64 0, .int .i64 0, .int .i64 0] (0, 0) _ rfl (setRow_heap _ _ _ #[.int .i64 0, .int .i64 0, .int .i64 0, .int .i64 0, .int .i64 0, .int .i64 0, .int .i64 0] _ _ HR.out) Tryz.underlying23 rfl Tryz.sizeMom) rfl ⟨rfl, below_setRow HQ.out (by omega) _⟩
    | true =>
      have HV : Hid (judV true y m d h n s z = mom y m d h n s z) := Lib.hid (by unfold judV; rw [hd]; rfl)
      have HE2 : Hid (judE true y m d = 0) := Lib.hid (by unfold judE; rw [hd]; rfl)
      rw [HV.out, HE2.out]
      rw [hd] at hD
      unfold mom at hD ⊢
      go_enter Tryz.func24, Tryz.ntmps24
      go_wp2_with fail
      refine (hD.out _ HE.out).mono ?_
      rintro e w1 ⟨rfl, hb1⟩
      have hr1 : w1.heap[w.heap.size + 1]? = some (.cells #[.int .i64 0, .int .i64 0, .int .i64 0, .int .i64 0, .int .i64 0, .int .i64 0, .int .i64 0] 23 (0, 0)) := by rw [hb1.block _ (by simp)]; exact G1.out
      have hr0 : w1.heap[w.heap.size]? = some (.cells #[.int .i64 y, .int .i64 m, .int .i64 d, .int .i64 h, .int .i64 n, .int .i64 s, .int .i64 z] 23 (0, 0)) := by
        rw [hb1.block _ (by simp; omega)]
        exact (heap_alloc_old (w.alloc (.cells #[.int .i64 y, .int .i64 m, .int .i64 d, .int .i64 h, .int .i64 n, .int .i64 s, .int .i64 z] 23)) (.cells #[.int .i64 0, .int .i64 0, .int .i64 0, .int .i64 0, .int .i64 0, .int .i64 0, .int .i64 0] 23) (by simp)).trans (heap_alloc_new w _)
      have q1 := Q0.out.trans (hb1.mono Q0.out.size)
      have c0 := cell_of_row w1 w.heap.size 0 _ _ _ hr0
      have c1 := cell_of_row w1 w.heap.size 1 _ _ _ hr0
      have c2 := cell_of_row w1 w.heap.size 2 _ _ _ hr0
      have c3 := cell_of_row w1 w.heap.size 3 _ _ _ hr0
      have c4 := cell_of_row w1 w.heap.size 4 _ _ _ hr0
      have c5 := cell_of_row w1 w.heap.size 5 _ _ _ hr0
      have c6 := cell_of_row w1 w.heap.size 6 _ _ _ hr0
      simp only [List.getElem?_toArray, List.getElem?_cons_succ, List.getElem?_cons_zero] at c0 c1 c2 c3 c4 c5 c6
      have HR := Lib.hid hr1
      have HQ := Lib.hid q1
      clear hr1 hr0 q1 hb1 G1 Q0 HE hD HV HE2 hd
      go_wp2_with (refine wpList_store_row rfl 23 _ _ rfl (w.heap.size + 1) #[.int .i64 y, .int .i64 m, .int .i64 d, .int .i64 h, .int .i64 n, .int .i64 s, .int .i64 z] rfl rfl 23 _ HR.out Tryz.sizeMom rfl (mom_one _ _ _ _ _ _ _) ?_)
      exact bodyPost_ret (v := .tuple #[mom y m d h n s z, .int .i64 0]) (res2 Tryz.results24 _ _ (w.heap.size + 1) 23 #[.int .i64 y, .int .i64 m, .int .i64 d, .int .i64 h, .int .i64 n, .int .i64 s, .int .i64 z] (0, 0) _ rfl (setRow_heap _ _ _ #[.int .i64 y, .int .i64 m, .int .i64 d, .int .i64 h, .int .i64 n, .int .i64 s, .int .i64 z] _ _ HR.out) Tryz.underlying23 rfl Tryz.sizeMom) rfl ⟨rfl, below_setRow HQ.out (by omega) _⟩
end Go.Proofs.YtckdmbeokajdjaaGreatDoor
