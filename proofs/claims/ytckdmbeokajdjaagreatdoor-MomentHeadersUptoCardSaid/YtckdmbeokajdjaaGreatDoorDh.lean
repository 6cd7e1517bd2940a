/- moment: takeDay, takeClock, takeZone. -/
import Derived.Test.YtckdmbeokajdjaaGreatDoorDb
import Derived.Test.YtckdmbeokajdjaaGreatDoorDg
namespace Go.Proofs.YtckdmbeokajdjaaGreatDoor
open Go.RowKit

theorem Bx.set0 {b : Nat} {y m d h n se z v : Int} {W : World} (k : Bx b y m d h n se z W) : Bx b v m d h n se z (W.setCell ⟨b, 0, none⟩ (.int .i64 v)) :=
  ⟨by have := heap_setCell_same W b 0 _ _ (.int .i64 v) k.blk; simpa using this⟩
theorem Bx.set1 {b : Nat} {y m d h n se z v : Int} {W : World} (k : Bx b y m d h n se z W) : Bx b y v d h n se z (W.setCell ⟨b, 1, none⟩ (.int .i64 v)) :=
  ⟨by have := heap_setCell_same W b 1 _ _ (.int .i64 v) k.blk; simpa using this⟩
theorem Bx.set2 {b : Nat} {y m d h n se z v : Int} {W : World} (k : Bx b y m d h n se z W) : Bx b y m v h n se z (W.setCell ⟨b, 2, none⟩ (.int .i64 v)) :=
  ⟨by have := heap_setCell_same W b 2 _ _ (.int .i64 v) k.blk; simpa using this⟩
theorem Bx.set3 {b : Nat} {y m d h n se z v : Int} {W : World} (k : Bx b y m d h n se z W) : Bx b y m d v n se z (W.setCell ⟨b, 3, none⟩ (.int .i64 v)) :=
  ⟨by have := heap_setCell_same W b 3 _ _ (.int .i64 v) k.blk; simpa using this⟩
theorem Bx.set4 {b : Nat} {y m d h n se z v : Int} {W : World} (k : Bx b y m d h n se z W) : Bx b y m d h v se z (W.setCell ⟨b, 4, none⟩ (.int .i64 v)) :=
  ⟨by have := heap_setCell_same W b 4 _ _ (.int .i64 v) k.blk; simpa using this⟩
theorem Bx.set5 {b : Nat} {y m d h n se z v : Int} {W : World} (k : Bx b y m d h n se z W) : Bx b y m d h n v z (W.setCell ⟨b, 5, none⟩ (.int .i64 v)) :=
  ⟨by have := heap_setCell_same W b 5 _ _ (.int .i64 v) k.blk; simpa using this⟩
theorem Bx.set6 {b : Nat} {y m d h n se z v : Int} {W : World} (k : Bx b y m d h n se z W) : Bx b y m d h n se v (W.setCell ⟨b, 6, none⟩ (.int .i64 v)) :=
  ⟨by have := heap_setCell_same W b 6 _ _ (.int .i64 v) k.blk; simpa using this⟩
theorem Bx.free {b : Nat} {y m d h n se z : Int} {W : World} (k : Bx b y m d h n se z W) (i : Nat) : W.frozen? ⟨b, i, none⟩ = false := frozen_of_row W b i _ _ k.blk
theorem Bx.lt {b : Nat} {y m d h n se z : Int} {W : World} (k : Bx b y m d h n se z W) : b < W.heap.size := (Array.getElem?_eq_some_iff.1 k.blk).1

/-- What takeDay makes of a text with g digits of the day. -/
def tdOk (l : List UInt8) (g : Nat) : Bool := numB (l.take g) 1 2 && monB ((l.drop (g + 1)).take 3) && numB (l.drop (g + 5)) 4 4 && (bt l g == 45) && (bt l (g + 4) == 45)
theorem five (a b c d : Bool) : a = false ∨ (a = true ∧ b = false) ∨ (a = true ∧ b = true ∧ c = false) ∨ (a = true ∧ b = true ∧ c = true ∧ d = false) ∨ (a = true ∧ b = true ∧ c = true ∧ d = true) := by
  cases a <;> cases b <;> cases c <;> cases d <;> simp
theorem byte_test (c : UInt8) (k : UInt8) (n : Int) (h : (k.toNat : Int) = n) : ((c.toNat : Int) == n) = (c == k) := by
  subst h
  rw [Bool.eq_iff_iff, beq_iff_eq, beq_iff_eq]
  exact ⟨fun e => UInt8.toNat_inj.1 (by omega), fun e => by rw [e]⟩
theorem bt_take_drop (l : List UInt8) (a n i : Nat) (h : i < n) : bt ((l.drop a).take n) i = bt l (a + i) := by
  unfold bt
  rw [List.getElem?_take, if_pos h, List.getElem?_drop]
theorem six (a b c d e : Bool) : a = false ∨ (a = true ∧ b = false) ∨ (a = true ∧ b = true ∧ c = false) ∨ (a = true ∧ b = true ∧ c = true ∧ d = false) ∨ (a = true ∧ b = true ∧ c = true ∧ d = true ∧ e = false) ∨ (a = true ∧ b = true ∧ c = true ∧ d = true ∧ e = true) := by
  cases a <;> cases b <;> cases c <;> cases d <;> cases e <;> simp

set_option maxRecDepth 100000 in
set_option maxHeartbeats 4000000 in
theorem takeDay_1 (s : ByteArray) (b : Nat) (y m d h n se z : Int) (w : World) (he : Env w) (hs : s.size = 10) (hx : Bx b y m d h n se z w) (hO : Over b) :
    Calls Tryz.prog 21 #[.pointer (some ⟨b, 0, none⟩), .string s] w fun e w' => e = .returned (.bool (tdOk (L s) 1)) ∧ Bx b (numI ((L s).drop 6) 4 4) (monI (((L s).drop 2).take 3)) (numI ((L s).take 1) 1 2) h n se z w' ∧ Below b w w' := by
  have W1 := Lib.hid (fun W => within_val 1 1 2 true W (by decide))
  have hlen : (L s).length = 10 := by rw [L_length]; exact hs
  have e1 : L (s.extract 0 1) = (L s).take 1 := by rw [extract_S, L_S, List.drop_zero]
  have e2 : L (s.extract 6 10) = (L s).drop 6 := by rw [extract_S, L_S]; exact List.take_of_length_le (by rw [List.length_drop, hlen]; omega)
  have e3 : L ((s.extract 1 6).extract 1 4) = ((L s).drop 2).take 3 := by
    rw [extract_S (s.extract 1 6), L_S, extract_S, L_S, List.drop_take, List.drop_drop, List.take_take]; rfl
  have z1 : (s.extract 0 1).size = 1 := by rw [← L_length, e1, List.length_take, hlen]; rfl
  have z2 : (s.extract 6 10).size = 4 := by rw [← L_length, e2, List.length_drop, hlen]
  have z3 : ((s.extract 1 6).extract 1 4).size = 3 := by rw [← L_length, e3, List.length_take, List.length_drop, hlen]; rfl
  have z5 : (s.extract 1 6).size = 5 := by rw [← L_length, extract_S, L_S, List.length_take, List.length_drop, hlen]; rfl
  have b0 : ∀ hh, ((s.extract 1 6)[0]'hh) = bt (L s) 1 := fun hh => by rw [get_bt, extract_S, L_S, bt_take_drop _ _ _ _ (by omega)]
  have b4 : ∀ hh, ((s.extract 1 6)[4]'hh) = bt (L s) 5 := fun hh => by rw [get_bt, extract_S, L_S, bt_take_drop _ _ _ _ (by omega)]
  have hD := Lib.hid (fun W => number_any (s.extract 0 1) 1 2 W (by omega) (by omega))
  have hY := Lib.hid (fun W => number_any (s.extract 6 10) 4 4 W (by omega) (by omega))
  have hM := Lib.hid (fun W hW => monthOf_any ((s.extract 1 6).extract 1 4) W hW (by omega))
  rw [e1] at hD
  rw [e2] at hY
  rw [e3] at hM
  have HT : Hid (tdOk (L s) 1 = (numB ((L s).take 1) 1 2 && monB (((L s).drop 2).take 3) && numB ((L s).drop 6) 4 4 && (bt (L s) 1 == 45) && (bt (L s) 5 == 45))) := Lib.hid rfl
  have t0 := byte_test (bt (L s) 1) 45 45 rfl
  have t4 := byte_test (bt (L s) 5) 45 45 rfl
  clear e1 e2 e3 z1 z2 z3 hlen
  generalize numI ((L s).drop 6) 4 4 = yv at *
  generalize numB ((L s).drop 6) 4 4 = yb at *
  generalize monI (((L s).drop 2).take 3) = mv at *
  generalize monB (((L s).drop 2).take 3) = mb at *
  generalize numI ((L s).take 1) 1 2 = dv at *
  generalize numB ((L s).take 1) 1 2 = db at *
  generalize (bt (L s) 1 == 45) = p at *
  generalize (bt (L s) 5 == 45) = q at *
  generalize bt (L s) 1 = B0 at *
  generalize bt (L s) 5 = B4 at *
  obtain ⟨c0, c1, c2, c3, c4, c5, c6⟩ := hx.cells
  have f2 := hx.free 2
  go_enter Tryz.func21, Tryz.ntmps21
  go_wp2_with (go_at_call 32; refine (W1.out _).mono ?_; rintro e w' ⟨rfl, hw'⟩; subst w')
  go_region
  go_wp2_with (go_at_call 45; refine (hD.out _).mono ?_; rintro e w' ⟨rfl, hw'⟩; subst w')
  have x1 : Bx b y m dv h n se z (w.setCell ⟨b, 2, none⟩ (.int .i64 dv)).drew := ⟨hx.set2.blk⟩
  have q1 : Below b w (w.setCell ⟨b, 2, none⟩ (.int .i64 dv)).drew := ((Below.refl _ _).setCell (p := ⟨b, 2, none⟩) (Nat.le_refl _) _).drew
  refine (hM.out _ (he.onB q1 hO)).mono ?_
  rintro e w1 ⟨rfl, hb1⟩
  have x2 := x1.on hb1
  have q2 := q1.trans (hb1.mono (Nat.le_of_lt x1.lt))
  clear x1 q1 hb1 hx c0 c1 c2 c3 c4 c5 c6 f2 he hM W1 hD
  obtain ⟨c0, c1, c2, c3, c4, c5, c6⟩ := x2.cells
  have f0 := x2.free 0
  have f1 := x2.free 1
  have x3 : Bx b yv mv dv h n se z ((w1.setCell ⟨b, 1, none⟩ (.int .i64 mv)).setCell ⟨b, 0, none⟩ (.int .i64 yv)) := (x2.set1).set0
  have q3 : Below b w ((w1.setCell ⟨b, 1, none⟩ (.int .i64 mv)).setCell ⟨b, 0, none⟩ (.int .i64 yv)) := (q2.setCell (p := ⟨b, 1, none⟩) (Nat.le_refl _) _).setCell (p := ⟨b, 0, none⟩) (Nat.le_refl _) _
  have X3 := Lib.hid x3
  have Q3 := Lib.hid q3
  clear x2 x3 q2 q3
  rcases five db mb yb p with rfl | ⟨rfl, rfl⟩ | ⟨rfl, rfl, rfl⟩ | ⟨rfl, rfl, rfl, rfl⟩ | ⟨rfl, rfl, rfl, rfl⟩
  all_goals (
    go_wp2_with (go_at_call 45; refine (hY.out _).mono ?_; rintro e w' ⟨rfl, hw'⟩; subst w')
    go_ret
    exact ⟨ret_bool (by rw [HT.out]; simp), X3.out, Q3.out⟩)

set_option maxRecDepth 100000 in
set_option maxHeartbeats 4000000 in
theorem takeDay_2 (s : ByteArray) (b : Nat) (y m d h n se z : Int) (w : World) (he : Env w) (hs : s.size = 11) (hx : Bx b y m d h n se z w) (hO : Over b) :
    Calls Tryz.prog 21 #[.pointer (some ⟨b, 0, none⟩), .string s] w fun e w' => e = .returned (.bool (tdOk (L s) 2)) ∧ Bx b (numI ((L s).drop 7) 4 4) (monI (((L s).drop 3).take 3)) (numI ((L s).take 2) 1 2) h n se z w' ∧ Below b w w' := by
  have W1 := Lib.hid (fun W => within_val 2 1 2 true W (by decide))
  have hlen : (L s).length = 11 := by rw [L_length]; exact hs
  have e1 : L (s.extract 0 2) = (L s).take 2 := by rw [extract_S, L_S, List.drop_zero]
  have e2 : L (s.extract 7 11) = (L s).drop 7 := by rw [extract_S, L_S]; exact List.take_of_length_le (by rw [List.length_drop, hlen]; omega)
  have e3 : L ((s.extract 2 7).extract 1 4) = ((L s).drop 3).take 3 := by
    rw [extract_S (s.extract 2 7), L_S, extract_S, L_S, List.drop_take, List.drop_drop, List.take_take]; rfl
  have z1 : (s.extract 0 2).size = 2 := by rw [← L_length, e1, List.length_take, hlen]; rfl
  have z2 : (s.extract 7 11).size = 4 := by rw [← L_length, e2, List.length_drop, hlen]
  have z3 : ((s.extract 2 7).extract 1 4).size = 3 := by rw [← L_length, e3, List.length_take, List.length_drop, hlen]; rfl
  have z5 : (s.extract 2 7).size = 5 := by rw [← L_length, extract_S, L_S, List.length_take, List.length_drop, hlen]; rfl
  have b0 : ∀ hh, ((s.extract 2 7)[0]'hh) = bt (L s) 2 := fun hh => by rw [get_bt, extract_S, L_S, bt_take_drop _ _ _ _ (by omega)]
  have b4 : ∀ hh, ((s.extract 2 7)[4]'hh) = bt (L s) 6 := fun hh => by rw [get_bt, extract_S, L_S, bt_take_drop _ _ _ _ (by omega)]
  have hD := Lib.hid (fun W => number_any (s.extract 0 2) 1 2 W (by omega) (by omega))
  have hY := Lib.hid (fun W => number_any (s.extract 7 11) 4 4 W (by omega) (by omega))
  have hM := Lib.hid (fun W hW => monthOf_any ((s.extract 2 7).extract 1 4) W hW (by omega))
  rw [e1] at hD
  rw [e2] at hY
  rw [e3] at hM
  have HT : Hid (tdOk (L s) 2 = (numB ((L s).take 2) 1 2 && monB (((L s).drop 3).take 3) && numB ((L s).drop 7) 4 4 && (bt (L s) 2 == 45) && (bt (L s) 6 == 45))) := Lib.hid rfl
  have t0 := byte_test (bt (L s) 2) 45 45 rfl
  have t4 := byte_test (bt (L s) 6) 45 45 rfl
  clear e1 e2 e3 z1 z2 z3 hlen
  generalize numI ((L s).drop 7) 4 4 = yv at *
  generalize numB ((L s).drop 7) 4 4 = yb at *
  generalize monI (((L s).drop 3).take 3) = mv at *
  generalize monB (((L s).drop 3).take 3) = mb at *
  generalize numI ((L s).take 2) 1 2 = dv at *
  generalize numB ((L s).take 2) 1 2 = db at *
  generalize (bt (L s) 2 == 45) = p at *
  generalize (bt (L s) 6 == 45) = q at *
  generalize bt (L s) 2 = B0 at *
  generalize bt (L s) 6 = B4 at *
  obtain ⟨c0, c1, c2, c3, c4, c5, c6⟩ := hx.cells
  have f2 := hx.free 2
  go_enter Tryz.func21, Tryz.ntmps21
  go_wp2_with (go_at_call 32; refine (W1.out _).mono ?_; rintro e w' ⟨rfl, hw'⟩; subst w')
  go_region
  go_wp2_with (go_at_call 45; refine (hD.out _).mono ?_; rintro e w' ⟨rfl, hw'⟩; subst w')
  have x1 : Bx b y m dv h n se z (w.setCell ⟨b, 2, none⟩ (.int .i64 dv)).drew := ⟨hx.set2.blk⟩
  have q1 : Below b w (w.setCell ⟨b, 2, none⟩ (.int .i64 dv)).drew := ((Below.refl _ _).setCell (p := ⟨b, 2, none⟩) (Nat.le_refl _) _).drew
  refine (hM.out _ (he.onB q1 hO)).mono ?_
  rintro e w1 ⟨rfl, hb1⟩
  have x2 := x1.on hb1
  have q2 := q1.trans (hb1.mono (Nat.le_of_lt x1.lt))
  clear x1 q1 hb1 hx c0 c1 c2 c3 c4 c5 c6 f2 he hM W1 hD
  obtain ⟨c0, c1, c2, c3, c4, c5, c6⟩ := x2.cells
  have f0 := x2.free 0
  have f1 := x2.free 1
  have x3 : Bx b yv mv dv h n se z ((w1.setCell ⟨b, 1, none⟩ (.int .i64 mv)).setCell ⟨b, 0, none⟩ (.int .i64 yv)) := (x2.set1).set0
  have q3 : Below b w ((w1.setCell ⟨b, 1, none⟩ (.int .i64 mv)).setCell ⟨b, 0, none⟩ (.int .i64 yv)) := (q2.setCell (p := ⟨b, 1, none⟩) (Nat.le_refl _) _).setCell (p := ⟨b, 0, none⟩) (Nat.le_refl _) _
  have X3 := Lib.hid x3
  have Q3 := Lib.hid q3
  clear x2 x3 q2 q3
  rcases five db mb yb p with rfl | ⟨rfl, rfl⟩ | ⟨rfl, rfl, rfl⟩ | ⟨rfl, rfl, rfl, rfl⟩ | ⟨rfl, rfl, rfl, rfl⟩
  all_goals (
    go_wp2_with (go_at_call 45; refine (hY.out _).mono ?_; rintro e w' ⟨rfl, hw'⟩; subst w')
    go_ret
    exact ⟨ret_bool (by rw [HT.out]; simp), X3.out, Q3.out⟩)

def tdB (l : List UInt8) : Bool := if l.length = 10 then tdOk l 1 else if l.length = 11 then tdOk l 2 else false
def tdY (l : List UInt8) : Int := numI (l.drop (l.length - 4)) 4 4
def tdM (l : List UInt8) : Int := monI ((l.drop (l.length - 8)).take 3)
def tdD (l : List UInt8) : Int := numI (l.take (l.length - 9)) 1 2
set_option maxHeartbeats 1000000 in
theorem takeDay_no (s : ByteArray) (b : Nat) (w : World) (hs : s.size ≤ 140737488355328) (h1 : s.size ≠ 10) (h2 : s.size ≠ 11) :
    Calls Tryz.prog 21 #[.pointer (some ⟨b, 0, none⟩), .string s] w fun e w' => e = .returned (.bool false) ∧ w' = w := by
  have W1 := Lib.hid (fun W => within_val ((s.size : Int) - 9) 1 2 false W (wi_false (by omega)))
  go_enter Tryz.func21, Tryz.ntmps21
  go_wp2_with (go_at_call 32; refine (W1.out _).mono ?_; rintro e w' ⟨rfl, hw'⟩; subst w')
  go_ret
  exact ⟨rfl, rfl⟩
/-- takeDay, of any text. -/
theorem takeDay_any (s : ByteArray) (b : Nat) (y m d h n se z : Int) (w : World) (he : Env w) (hs : s.size ≤ 140737488355328) (hx : Bx b y m d h n se z w) (hO : Over b) :
    Calls Tryz.prog 21 #[.pointer (some ⟨b, 0, none⟩), .string s] w fun e w' => e = .returned (.bool (tdB (L s))) ∧ Below b w w' ∧ ∃ y' m' d', Bx b y' m' d' h n se z w' ∧ (tdB (L s) = true → y' = tdY (L s) ∧ m' = tdM (L s) ∧ d' = tdD (L s)) := by
  by_cases h1 : s.size = 10
  · have hl : (L s).length = 10 := by rw [L_length]; exact h1
    refine (takeDay_1 s b y m d h n se z w he h1 hx hO).mono ?_
    rintro e w' ⟨rfl, hx', hb⟩
    refine ⟨by unfold tdB; rw [if_pos hl], hb, _, _, _, hx', fun _ => ?_⟩
    unfold tdY tdM tdD
    rw [hl]
    exact ⟨rfl, rfl, rfl⟩
  · by_cases h2 : s.size = 11
    · have hl : (L s).length = 11 := by rw [L_length]; exact h2
      refine (takeDay_2 s b y m d h n se z w he h2 hx hO).mono ?_
      rintro e w' ⟨rfl, hx', hb⟩
      refine ⟨by unfold tdB; rw [if_neg (by omega), if_pos hl], hb, _, _, _, hx', fun _ => ?_⟩
      unfold tdY tdM tdD
      rw [hl]
      exact ⟨rfl, rfl, rfl⟩
    · have hf : tdB (L s) = false := by unfold tdB; rw [if_neg (by rw [L_length]; exact h1), if_neg (by rw [L_length]; exact h2)]
      refine (takeDay_no s b w hs h1 h2).mono ?_
      rintro e w' ⟨rfl, rfl⟩
      exact ⟨by rw [hf], Below.refl _ _, _, _, _, hx, fun h => by rw [hf] at h; cases h⟩

end Go.Proofs.YtckdmbeokajdjaaGreatDoor
