/- limb: Partial, of the program and of the reference; LimbPartials: the walk. -/
import Derived.Test.YtfgfdklifonbmaaRows
import Derived.Test.YtfgfdklifonbmaaPu
namespace Go.Proofs.Ytfgfdklifonbmaa
open Go.RowKit

def part (s : ByteArray) (f n : Int) : ByteArray := if f < 0 ∨ n < 0 ∨ (s.size : Int) < f then ⟨#[]⟩ else s.extract f.toNat (min (f.toNat + n.toNat) s.size)
theorem part_no {s : ByteArray} {f n : Int} (h : f < 0 ∨ n < 0 ∨ (s.size : Int) < f) : part s f n = ⟨#[]⟩ := by unfold part; rw [if_pos h]
theorem part_yes {s : ByteArray} {f n : Nat} (h : f ≤ s.size) : part s f n = s.extract f (min (f + n) s.size) := by
  unfold part; rw [if_neg (by omega)]; rfl
set_option maxHeartbeats 1000000 in
theorem lPartial_any (s : ByteArray) (f n : Int) (w : World) (hs : s.size ≤ 140737488355328) (hf0 : -9223372036854775808 ≤ f) (hf1 : f ≤ 9223372036854775807) (hn0 : -9223372036854775808 ≤ n) (hn1 : n ≤ 9223372036854775807) :
    Calls Try.prog 4 #[.string s, .int .i64 f, .int .i64 n] w fun e w' => e = .returned (.string (part s f n)) ∧ w' = w := by
  by_cases h1 : f < 0
  · have e := part_no (s := s) (n := n) (.inl h1)
    rw [e]
    go_enter Try.func4, Try.ntmps4
    go_wp2_with fail
    go_ret
    exact ⟨rfl, rfl⟩
  by_cases h2 : n < 0
  · have e := part_no (s := s) (f := f) (.inr (.inl h2))
    rw [e]
    go_enter Try.func4, Try.ntmps4
    go_wp2_with fail
    go_ret
    exact ⟨rfl, rfl⟩
  by_cases h3 : (s.size : Int) < f
  · have e := part_no (n := n) (.inr (.inr h3))
    rw [e]
    go_enter Try.func4, Try.ntmps4
    go_wp2_with fail
    go_ret
    exact ⟨rfl, rfl⟩
  obtain ⟨F, rfl⟩ := Int.eq_ofNat_of_zero_le (Int.not_lt.1 h1)
  obtain ⟨N, rfl⟩ := Int.eq_ofNat_of_zero_le (Int.not_lt.1 h2)
  have hF : F ≤ s.size := by omega
  rw [part_yes hF]
  by_cases h4 : N ≤ s.size - F
  · have e : s.extract F (min (F + N) s.size) = (s.extract F s.size).extract 0 N := by rw [ByteArray.extract_extract]; rfl
    rw [e]
    have h5 : (N : Int) ≤ (s.size : Int) - (F : Int) := by omega
    have h6 : min (N : Int) ((s.size : Int) - (F : Int)) = N := by omega
    have hl : (s.extract F s.size).size = s.size - F := by simp
    go_enter Try.func4, Try.ntmps4
    go_wp2_with fail
    go_ret
    exact ⟨rfl, rfl⟩
  · have e : s.extract F (min (F + N) s.size) = (s.extract F s.size).extract 0 (s.size - F) := by rw [ByteArray.extract_extract]; congr 1; omega
    rw [e]
    have h5 : ¬ (N : Int) ≤ (s.size : Int) - (F : Int) := by omega
    have h6 : min (N : Int) ((s.size : Int) - (F : Int)) = ((s.size - F : Nat) : Int) := by omega
    have hl : (s.extract F s.size).size = s.size - F := by simp
    go_enter Try.func4, Try.ntmps4
    go_wp2_with fail
    go_ret
    exact ⟨rfl, rfl⟩
set_option maxHeartbeats 1000000 in
theorem rPartial_any (s : ByteArray) (f n : Int) (w : World) (hs : s.size ≤ 140737488355328) (hf0 : -9223372036854775808 ≤ f) (hf1 : f ≤ 9223372036854775807) (hn0 : -9223372036854775808 ≤ n) (hn1 : n ≤ 9223372036854775807) :
    Calls Try.prog 5 #[.string s, .int .i64 f, .int .i64 n] w fun e w' => e = .returned (.string (part s f n)) ∧ w' = w := by
  by_cases h1 : f < 0
  · have e := part_no (s := s) (n := n) (.inl h1)
    rw [e]
    go_enter Try.func5, Try.ntmps5
    go_wp2_with fail
    go_ret
    exact ⟨rfl, rfl⟩
  by_cases h2 : n < 0
  · have e := part_no (s := s) (f := f) (.inr (.inl h2))
    rw [e]
    go_enter Try.func5, Try.ntmps5
    go_wp2_with fail
    go_ret
    exact ⟨rfl, rfl⟩
  by_cases h3 : (s.size : Int) ≤ f
  · have e : part s f n = ⟨#[]⟩ := by
      by_cases h4 : (s.size : Int) < f
      · exact part_no (.inr (.inr h4))
      · obtain ⟨N, rfl⟩ := Int.eq_ofNat_of_zero_le (Int.not_lt.1 h2)
        obtain rfl : f = (s.size : Int) := by omega
        rw [part_yes (Nat.le_refl _)]
        rw [show min (s.size + N) s.size = s.size by omega]
        apply ByteArray.ext
        simp
    rw [e]
    go_enter Try.func5, Try.ntmps5
    go_wp2_with fail
    go_ret
    exact ⟨rfl, rfl⟩
  obtain ⟨F, rfl⟩ := Int.eq_ofNat_of_zero_le (Int.not_lt.1 h1)
  obtain ⟨N, rfl⟩ := Int.eq_ofNat_of_zero_le (Int.not_lt.1 h2)
  have hF : F ≤ s.size := by omega
  rw [part_yes hF]
  by_cases h4 : (s.size : Int) - (F : Int) < (N : Int)
  · rw [show min (F + N) s.size = s.size by omega]
    go_enter Try.func5, Try.ntmps5
    go_wp2_with fail
    go_ret
    exact ⟨rfl, rfl⟩
  · rw [show min (F + N) s.size = F + N by omega]
    have h6 : F + N ≤ s.size := by omega
    go_enter Try.func5, Try.ntmps5
    go_wp2_with fail
    go_ret
    exact ⟨by first | rfl | (congr 3), rfl⟩
theorem part_hello : part ⟨#[104, 101, 108, 108, 111]⟩ 1 3 = ⟨#[101, 108, 108]⟩ := by
  apply ByteArray.ext
  decide +kernel
set_option maxHeartbeats 1000000 in
theorem LimbPartials_walk (s : ByteArray) (f n : Int) (w : World) (hs : s.size ≤ 140737488355328) (hf0 : -9223372036854775808 ≤ f) (hf1 : f ≤ 9223372036854775807) (hn0 : -9223372036854775808 ≤ n) (hn1 : n ≤ 9223372036854775807) :
    Calls Try.prog 3 #[.string s, .int .i64 f, .int .i64 n] w fun e w' => e = .returned (.bool true) ∧ Below w.heap.size w w' := by
  have HR := Lib.hid (fun W => rPartial_any s f n W hs hf0 hf1 hn0 hn1)
  have HL := Lib.hid (fun W => lPartial_any s f n W hs hf0 hf1 hn0 hn1)
  have HT : Hid (∀ W, Calls Try.prog 4 #[.string ⟨#[104, 101, 108, 108, 111]⟩, .int .i64 1, .int .i64 3] W fun e w' => e = .returned (.string ⟨#[101, 108, 108]⟩) ∧ w' = W) :=
    Lib.hid (fun W => by
      have := lPartial_any ⟨#[104, 101, 108, 108, 111]⟩ 1 3 W (by decide) (by decide) (by decide) (by decide) (by decide)
      rw [part_hello] at this
      exact this)
  generalize part s f n = a at *
  go_enter Try.func3, Try.ntmps3
  go_wp2_with (first | (go_at_call 5; with_reducible refine (HR.out _).mono ?_; rintro e w1 ⟨rfl, rfl⟩) | (go_at_call 4; first | (with_reducible refine (HL.out _).mono ?_; rintro e w1 ⟨rfl, rfl⟩) | (with_reducible refine (HT.out _).mono ?_; rintro e w1 ⟨rfl, rfl⟩)))
  all_goals (
    go_ret
    exact ⟨by simp, by first | exact Below.refl _ _ | exact (Below.refl _ _).drew⟩)
end Go.Proofs.Ytfgfdklifonbmaa
