/- moment: padded, zoneText. -/
import Derived.Test.YtckdmbeokajdjaaGreatDoorDk
import Derived.Lib.AppendIntMem
namespace Go.Proofs.YtckdmbeokajdjaaGreatDoor
open Go.RowKit

theorem S_app (a b : List UInt8) : S a ++ S b = S (a ++ b) := by
  have h : (S a ++ S b).data = (S (a ++ b)).data := by simp [S]
  calc S a ++ S b = ⟨(S a ++ S b).data⟩ := rfl
    _ = S (a ++ b) := by rw [h]
def dg (k : Nat) : UInt8 := UInt8.ofNat (48 + k)
theorem dec1 (n : Nat) (h : n < 10) : Lib.decDigits n = [dg n] := by rw [Lib.decDigits, dif_pos h]; rfl
theorem dec2 (n : Nat) (h1 : 10 ≤ n) (h : n < 100) : Lib.decDigits n = [dg (n / 10), dg (n % 10)] := by rw [Lib.decDigits, dif_neg (by omega), dec1 _ (by omega)]; rfl
theorem dec3 (n : Nat) (h1 : 100 ≤ n) (h : n < 1000) : Lib.decDigits n = [dg (n / 100), dg (n / 10 % 10), dg (n % 10)] := by rw [Lib.decDigits, dif_neg (by omega), dec2 _ (by omega) (by omega), Nat.div_div_eq_div_mul]; rfl
theorem dec4 (n : Nat) (h1 : 1000 ≤ n) (h : n < 10000) : Lib.decDigits n = [dg (n / 1000), dg (n / 100 % 10), dg (n / 10 % 10), dg (n % 10)] := by rw [Lib.decDigits, dif_neg (by omega), dec3 _ (by omega) (by omega), Nat.div_div_eq_div_mul, Nat.div_div_eq_div_mul]; rfl
def pad2 (n : Nat) : List UInt8 := [dg (n / 10), dg (n % 10)]
def pad4 (n : Nat) : List UInt8 := [dg (n / 1000), dg (n / 100 % 10), dg (n / 10 % 10), dg (n % 10)]
/-- How a number is told by so many digits at least. -/
theorem pad_2 (n : Nat) (h : n < 100) : ∃ c k, Lib.repeatL [48] c ++ Lib.decDigits n = pad2 n ∧ (Lib.decDigits n).length = k ∧ c + k = 2 := by
  rcases Nat.lt_or_ge n 10 with h1 | h1
  · refine ⟨1, 1, ?_, ?_, rfl⟩ <;> rw [dec1 n h1]
    · unfold pad2; rw [show n / 10 = 0 by omega, show n % 10 = n by omega]; rfl
    · rfl
  · refine ⟨0, 2, ?_, ?_, rfl⟩ <;> rw [dec2 n h1 h] <;> rfl
theorem pad_4 (n : Nat) (h : n < 10000) : ∃ c k, Lib.repeatL [48] c ++ Lib.decDigits n = pad4 n ∧ (Lib.decDigits n).length = k ∧ c + k = 4 := by
  unfold pad4
  rcases (by omega : n < 10 ∨ (10 ≤ n ∧ n < 100) ∨ (100 ≤ n ∧ n < 1000) ∨ 1000 ≤ n) with h1 | ⟨h1, h2⟩ | ⟨h1, h2⟩ | h1
  · refine ⟨3, 1, ?_, ?_, rfl⟩ <;> rw [dec1 n h1]
    · rw [show n / 1000 = 0 by omega, show n / 100 % 10 = 0 by omega, show n / 10 % 10 = 0 by omega, show n % 10 = n by omega]; rfl
    · rfl
  · refine ⟨2, 2, ?_, ?_, rfl⟩ <;> rw [dec2 n h1 h2]
    · rw [show n / 1000 = 0 by omega, show n / 100 % 10 = 0 by omega, show n / 10 % 10 = n / 10 by omega]; rfl
    · rfl
  · refine ⟨1, 3, ?_, ?_, rfl⟩ <;> rw [dec3 n h1 h2]
    · rw [show n / 1000 = 0 by omega, show n / 100 % 10 = n / 100 by omega]; rfl
    · rfl
  · refine ⟨0, 4, ?_, ?_, rfl⟩ <;> rw [dec4 n h1 h] <;> rfl
theorem itoa_nat (n : Nat) : Lib.itoa n = Lib.decDigits n := by unfold Lib.itoa; rw [if_neg (by omega), Int.toNat_natCast]
/-- strconv.Itoa, of what is not below nought. -/
theorem Itoa_any (n : Nat) (w : World) (he : Env w) (hn : n ≤ 1000000) :
    Calls Tryz.prog 38 #[.int .i64 n] w fun e w' => e = .returned (.string (S (Lib.decDigits n))) ∧ Below w.heap.size w w' := by
  refine (Tryz.strconv_Itoa n (by omega) (by omega) w he.pow).mono ?_
  rintro e w' ⟨rfl, k, os, rfl⟩
  exact ⟨by rw [itoa_nat]; rfl, Lib.below_grow _ w (Nat.le_refl _) k os⟩
theorem Repeat_any (c : Nat) (w : World) (hc : c ≤ 100) :
    Calls Tryz.prog 67 #[.string ⟨#[48]⟩, .int .i64 c] w fun e w' => e = .returned (.string (S (Lib.repeatL [48] c))) ∧ Below w.heap.size w w' :=
  Tryz.strings_Repeat ⟨#[48]⟩ c w (by omega) (by show 1 * c ≤ _; omega)
set_option maxHeartbeats 1000000 in
theorem padded_go (n k c W : Nat) (r : List UInt8) (w : World) (he : Env w) (hn : n ≤ 1000000) (h1 : Lib.repeatL [48] c ++ Lib.decDigits n = r) (h2 : (Lib.decDigits n).length = k) (h3 : c + k = W) (hW : W ≤ 10) :
    Calls Tryz.prog 39 #[.int .i64 n, .int .i64 W] w fun e w' => e = .returned (.string (S r)) ∧ Below w.heap.size w w' := by
  have hI := Lib.hid (fun W hW => Itoa_any n W hW hn)
  have hR := Lib.hid (fun W => Repeat_any c W (by omega))
  have HA : Hid (S (Lib.repeatL [48] c) ++ S (Lib.decDigits n) = S r) := Lib.hid (by rw [S_app, h1])
  have hz : (S (Lib.decDigits n)).size = k := by rw [S_size]; exact h2
  have hzz : (S (Lib.repeatL [48] c)).size = c := by rw [S_size, Lib.repeatL_length]; simp
  have hm : max 0 ((W : Int) - (k : Int)) = (c : Int) := by omega
  have hk : k ≤ W := by omega
  have hm2 : (W : Int) - (k : Int) = (c : Int) := by omega
  have HE := Lib.hid he
  clear h1 h2 h3 he
  generalize S (Lib.decDigits n) = ds at *
  generalize S (Lib.repeatL [48] c) = zs at *
  go_enter Tryz.func39, Tryz.ntmps39
  go_wp2_with fail
  refine (hI.out _ HE.out).mono ?_
  rintro e w1 ⟨rfl, hb1⟩
  go_wp2_with (go_at_call 67; refine (hR.out _).mono ?_; rintro e w2 ⟨rfl, hb2⟩)
  go_ret
  exact ⟨ret_str HA.out, hb1.trans (hb2.mono hb1.size)⟩
theorem padded2 (n : Nat) (w : World) (he : Env w) (hn : n < 100) :
    Calls Tryz.prog 39 #[.int .i64 n, .int .i64 2] w fun e w' => e = .returned (.string (S (pad2 n))) ∧ Below w.heap.size w w' := by
  obtain ⟨c, k, h1, h2, h3⟩ := pad_2 n hn
  exact padded_go n k c 2 _ w he (by omega) h1 h2 h3 (by omega)
theorem padded4 (n : Nat) (w : World) (he : Env w) (hn : n < 10000) :
    Calls Tryz.prog 39 #[.int .i64 n, .int .i64 4] w fun e w' => e = .returned (.string (S (pad4 n))) ∧ Below w.heap.size w w' := by
  obtain ⟨c, k, h1, h2, h3⟩ := pad_4 n hn
  exact padded_go n k c 4 _ w he (by omega) h1 h2 h3 (by omega)

def zoneL (z : Int) : List UInt8 := (if z < 0 then 45 else 43) :: (pad2 (z.natAbs / 60) ++ pad2 (z.natAbs % 60))
set_option maxHeartbeats 1000000 in
theorem zoneText_any (z : Int) (w : World) (he : Env w) (h1 : -1439 ≤ z) (h2 : z ≤ 1439) :
    Calls Tryz.prog 19 #[.int .i64 z] w fun e w' => e = .returned (.string (S (zoneL z))) ∧ Below w.heap.size w w' := by
  have hA := Lib.hid (fun W hW => padded2 (z.natAbs / 60) W hW (by omega))
  have hB := Lib.hid (fun W hW => padded2 (z.natAbs % 60) W hW (by omega))
  have HE := Lib.hid he
  have za : (S (pad2 (z.natAbs / 60))).size = 2 := rfl
  have zb : (S (pad2 (z.natAbs % 60))).size = 2 := rfl
  clear he
  by_cases hz : z < 0
  · have HZ : Hid ((⟨#[45]⟩ : ByteArray) ++ S (pad2 (z.natAbs / 60)) ++ S (pad2 (z.natAbs % 60)) = S (zoneL z)) := Lib.hid (by
      rw [show (⟨#[45]⟩ : ByteArray) = S [45] from rfl, S_app, S_app]; unfold zoneL; rw [if_pos hz]; rfl)
    obtain ⟨x, rfl⟩ : ∃ x : Nat, z = -(x : Int) := ⟨z.natAbs, by omega⟩
    rw [show (-(x : Int)).natAbs = x by omega] at *
    have n1 : (x : Int) / 60 = ((x / 60 : Nat) : Int) := by omega
    have n2 : (x : Int) % 60 = ((x % 60 : Nat) : Int) := by omega
    generalize hP : S (pad2 (x / 60)) = sa at *
    generalize hQ : S (pad2 (x % 60)) = sb at *
    generalize hU : x / 60 = u at *
    generalize hV : x % 60 = v at *
    clear hP hQ hU hV
    go_enter Tryz.func19, Tryz.ntmps19
    go_wp2_with fail
    refine (hA.out _ HE.out).mono ?_
    rintro e w1 ⟨rfl, hb1⟩
    have he1 := Lib.hid (HE.out.on hb1)
    go_wp2_with (go_at_call_of 39 (v : Int); refine (hB.out _ he1.out).mono ?_; rintro e w2 ⟨rfl, hb2⟩)
    go_ret
    exact ⟨ret_str HZ.out, hb1.trans (hb2.mono hb1.size)⟩
  · have HZ : Hid ((⟨#[43]⟩ : ByteArray) ++ S (pad2 (z.natAbs / 60)) ++ S (pad2 (z.natAbs % 60)) = S (zoneL z)) := Lib.hid (by
      rw [show (⟨#[43]⟩ : ByteArray) = S [43] from rfl, S_app, S_app]; unfold zoneL; rw [if_neg hz]; rfl)
    obtain ⟨x, rfl⟩ : ∃ x : Nat, z = (x : Int) := ⟨z.natAbs, by omega⟩
    rw [show ((x : Int)).natAbs = x by omega] at *
    have n1 : (x : Int) / 60 = ((x / 60 : Nat) : Int) := by omega
    have n2 : (x : Int) % 60 = ((x % 60 : Nat) : Int) := by omega
    generalize hP : S (pad2 (x / 60)) = sa at *
    generalize hQ : S (pad2 (x % 60)) = sb at *
    generalize hU : x / 60 = u at *
    generalize hV : x % 60 = v at *
    clear hP hQ hU hV
    go_enter Tryz.func19, Tryz.ntmps19
    go_wp2_with fail
    refine (hA.out _ HE.out).mono ?_
    rintro e w1 ⟨rfl, hb1⟩
    have he1 := Lib.hid (HE.out.on hb1)
    go_wp2_with (go_at_call_of 39 (v : Int); refine (hB.out _ he1.out).mono ?_; rintro e w2 ⟨rfl, hb2⟩)
    go_ret
    exact ⟨ret_str HZ.out, hb1.trans (hb2.mono hb1.size)⟩
end Go.Proofs.YtckdmbeokajdjaaGreatDoor
