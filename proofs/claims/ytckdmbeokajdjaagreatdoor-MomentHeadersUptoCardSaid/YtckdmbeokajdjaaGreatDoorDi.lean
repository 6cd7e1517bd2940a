/- moment: takeClock. -/
import Derived.Test.YtckdmbeokajdjaaGreatDoorDh
namespace Go.Proofs.YtckdmbeokajdjaaGreatDoor
open Go.RowKit

/-- takeClock, of eight bytes. -/
def tcH (l : List UInt8) : Int := numI (l.take 2) 2 2
def tcN (l : List UInt8) : Int := numI ((l.drop 3).take 2) 2 2
def tcS (l : List UInt8) : Int := numI (l.drop 6) 2 2
def tcB (l : List UInt8) : Bool := numB (l.take 2) 2 2 && numB ((l.drop 3).take 2) 2 2 && numB (l.drop 6) 2 2 && (bt l 2 == 58) && (bt l 5 == 58) && clockB (tcH l) (tcN l) (tcS l)
set_option maxRecDepth 100000 in
set_option maxHeartbeats 4000000 in
theorem takeClock_any (s : ByteArray) (b : Nat) (y m d h n se z : Int) (w : World) (hs : s.size = 8) (hx : Bx b y m d h n se z w) :
    Calls Tryz.prog 22 #[.pointer (some ⟨b, 0, none⟩), .string s] w fun e w' => e = .returned (.bool (tcB (L s))) ∧ Below b w w' ∧ Bx b y m d (tcH (L s)) (tcN (L s)) (tcS (L s)) z w' := by
  have hlen : (L s).length = 8 := by rw [L_length]; exact hs
  have e1 : L (s.extract 0 2) = (L s).take 2 := by rw [extract_S, L_S, List.drop_zero]
  have e2 : L (s.extract 3 5) = ((L s).drop 3).take 2 := by rw [extract_S, L_S]
  have e3 : L (s.extract 6 8) = (L s).drop 6 := by rw [extract_S, L_S]; exact List.take_of_length_le (by rw [List.length_drop, hlen]; omega)
  have z1 : (s.extract 0 2).size = 2 := by rw [← L_length, e1, List.length_take, hlen]; rfl
  have z2 : (s.extract 3 5).size = 2 := by rw [← L_length, e2, List.length_take, List.length_drop, hlen]; rfl
  have z3 : (s.extract 6 8).size = 2 := by rw [← L_length, e3, List.length_drop, hlen]
  have b2 : ∀ hh, (s[2]'hh) = bt (L s) 2 := fun hh => get_bt s 2 hh
  have b5 : ∀ hh, (s[5]'hh) = bt (L s) 5 := fun hh => get_bt s 5 hh
  have hH := Lib.hid (fun W => number_any (s.extract 0 2) 2 2 W (by omega) (by omega))
  have hN := Lib.hid (fun W => number_any (s.extract 3 5) 2 2 W (by omega) (by omega))
  have hS := Lib.hid (fun W => number_any (s.extract 6 8) 2 2 W (by omega) (by omega))
  rw [e1] at hH
  rw [e2] at hN
  rw [e3] at hS
  have HT : Hid (tcB (L s) = (numB ((L s).take 2) 2 2 && numB (((L s).drop 3).take 2) 2 2 && numB ((L s).drop 6) 2 2 && (bt (L s) 2 == 58) && (bt (L s) 5 == 58) && clockB (tcH (L s)) (tcN (L s)) (tcS (L s)))) := Lib.hid rfl
  have t2 := byte_test (bt (L s) 2) 58 58 rfl
  have t5 := byte_test (bt (L s) 5) 58 58 rfl
  have hC := Lib.hid (fun W => isClock_any y m d (tcH (L s)) (tcN (L s)) (tcS (L s)) z W)
  unfold mom at hC
  unfold tcH tcN tcS at *
  clear e1 e2 e3 z1 z2 z3 hlen
  generalize numI ((L s).take 2) 2 2 = hv at *
  generalize numB ((L s).take 2) 2 2 = hb at *
  generalize numI (((L s).drop 3).take 2) 2 2 = nv at *
  generalize numB (((L s).drop 3).take 2) 2 2 = nb at *
  generalize numI ((L s).drop 6) 2 2 = sv at *
  generalize numB ((L s).drop 6) 2 2 = sb at *
  generalize (bt (L s) 2 == 58) = p at *
  generalize (bt (L s) 5 == 58) = q at *
  generalize bt (L s) 2 = B2 at *
  generalize bt (L s) 5 = B5 at *
  generalize clockB hv nv sv = cb at *
  obtain ⟨c0, c1, c2, c3, c4, c5, c6⟩ := hx.cells
  have f3 := hx.free 3
  have f4 := hx.free 4
  have f5 := hx.free 5
  have x3 : Bx b y m d hv nv sv z (((w.setCell ⟨b, 3, none⟩ (.int .i64 hv)).setCell ⟨b, 4, none⟩ (.int .i64 nv)).setCell ⟨b, 5, none⟩ (.int .i64 sv)) := ((hx.set3).set4).set5
  have q3 : Below b w (((w.setCell ⟨b, 3, none⟩ (.int .i64 hv)).setCell ⟨b, 4, none⟩ (.int .i64 nv)).setCell ⟨b, 5, none⟩ (.int .i64 sv)) := (((Below.refl _ _).setCell (p := ⟨b, 3, none⟩) (Nat.le_refl _) _).setCell (p := ⟨b, 4, none⟩) (Nat.le_refl _) _).setCell (p := ⟨b, 5, none⟩) (Nat.le_refl _) _
  have X3 := Lib.hid x3
  have Q3 := Lib.hid q3
  clear x3 q3 hx
  rcases six hb nb sb p q with rfl | ⟨rfl, rfl⟩ | ⟨rfl, rfl, rfl⟩ | ⟨rfl, rfl, rfl, rfl⟩ | ⟨rfl, rfl, rfl, rfl, rfl⟩ | ⟨rfl, rfl, rfl, rfl, rfl⟩
  all_goals (
    go_enter Tryz.func22, Tryz.ntmps22
    go_wp2_with (first | (go_at_call_of 45 (s.extract 0 2); refine (hH.out _).mono ?_; rintro e w' ⟨rfl, hw'⟩; subst w') | (go_at_call_of 45 (s.extract 3 5); refine (hN.out _).mono ?_; rintro e w' ⟨rfl, hw'⟩; subst w') | (go_at_call_of 45 (s.extract 6 8); refine (hS.out _).mono ?_; rintro e w' ⟨rfl, hw'⟩; subst w') | (go_at_call 31; refine (hC.out _).mono ?_; rintro e w9 ⟨rfl, hb9⟩))
    go_ret
    first
      | exact ⟨ret_bool (by rw [HT.out]; simp), Q3.out, X3.out⟩
      | exact ⟨ret_bool (by rw [HT.out]; simp), Q3.out.trans (hb9.mono (Nat.le_of_lt X3.out.lt)), X3.out.on hb9⟩)
end Go.Proofs.YtckdmbeokajdjaaGreatDoor
