/- Number, of lex in whole and of the reference. -/
import Derived.Test.YtmpbbkjdfneklaaXc
namespace Go.Proofs.Ytmpbbkjdfneklaa
open Go.RowKit

theorem isEmpty_zero (s : ByteArray) (h : s.size = 0) : s.toList.isEmpty = true := by
  rw [toList_L]
  cases hl : L s with
  | nil => rfl
  | cons a b => exact absurd (by rw [← L_length, hl] at h; exact h) (by simp)
set_option maxHeartbeats 1000000 in
theorem lexNumber_any (s : ByteArray) (most : Int) (w : World) (hs : s.size ≤ 140737488355328) (hm0 : -9223372036854775808 ≤ most) (hm1 : most ≤ 9223372036854775807) :
    Calls Try.prog 8 #[.string s, .int .i64 most] w fun e w' => e = .returned (.tuple #[.int .i64 (numV (L s) most), .int .i64 (errV (L s) most)]) ∧ w' = w := by
  by_cases h0 : s.size = 0
  · have HB : Hid (okN (L s) most = false) := Lib.hid (okN_head (headBad_nil h0))
    have hE := isEmpty_zero s h0
    go_enter Try.func8, Try.ntmps8
    go_wp2
    go_ret2
    exact ⟨ret_ii (numV_no HB.out).symm (errV_no HB.out).symm, rfl⟩
  · have hE := isEmpty_size s h0
    by_cases hneg : most < 0
    · have HB : Hid (okN (L s) most = false) := Lib.hid (okN_neg hneg)
      rcases head_cases s h0 with ⟨h1, _⟩ | ⟨h1, h2, h3, _⟩ | ⟨h1, h2, h3, _⟩
      all_goals (
        go_enter Try.func8, Try.ntmps8
        go_wp2
        go_ret2
        exact ⟨ret_ii (numV_no HB.out).symm (errV_no HB.out).symm, rfl⟩)
    · rcases head_cases s h0 with ⟨h1, h4⟩ | ⟨h1, h2, h3, h4⟩ | ⟨h1, h2, h3, h4⟩
      · exact lexNumber_loop s most w hs (by omega) hm1 h0 (.inl h1) (Lib.hid h4)
      · have HB : Hid (okN (L s) most = false) := Lib.hid (okN_head h4)
        go_enter Try.func8, Try.ntmps8
        go_wp2
        go_ret2
        exact ⟨ret_ii (numV_no HB.out).symm (errV_no HB.out).symm, rfl⟩
      · exact lexNumber_loop s most w hs (by omega) hm1 h0 (.inr ⟨h1, h2, h3⟩) (Lib.hid h4)

set_option maxHeartbeats 1000000 in
theorem refNumber_loop (s : ByteArray) (most : Int) (w : World) (hs : s.size ≤ 140737488355328) (hm0 : -9223372036854775808 ≤ most) (hm1 : most ≤ 9223372036854775807) (h0 : ¬ s.size = 0)
    (hh : (s.size = 1) ∨ (1 < s.size ∧ ∃ h0 : 0 < s.size, (((s[0]'h0).toNat : Int) == 48) = false)) (hb0 : Hid (headBad (L s) = false)) :
    Calls Try.prog 7 #[.string s, .int .i64 most] w fun e w' => e = .returned (.tuple #[.int .i64 (numV (L s) most), .int .i64 (errV (L s) most)]) ∧ w' = w := by
  have hE := isEmpty_size s h0
  rcases hh with hh | ⟨hh1, hh2, hh3⟩
  all_goals (
    go_enter Try.func7, Try.ntmps7
    go_wp2
    go_loop [6, 7] (fun n i => ∃ k : Nat, k ≤ s.size ∧ i = .int .i64 k ∧ n = .int .i64 (valD ((L s).take k) : Nat) ∧ ((L s).take k).all isDig = true ∧ (k = 0 ∨ (valD ((L s).take k) : Int) ≤ most)) (fun _ i => s.size - (intOf i).toNat)
    case atStart => exact ⟨0, Nat.zero_le _, rfl, by simp [valD], by simp, .inl rfl⟩
    case round =>
      obtain ⟨k, hk, rfl, rfl, hall, hle⟩ := hrel
      by_cases hlt : k < s.size
      · have HA := Lib.hid hall
        have ea := get_btx s k hlt
        have hD := Lib.hid (fun W => rdigit_any (bt (L s) k) W)
        have HS := Lib.hid (all_snocP isDig (L s) k hlt hall)
        have HV : Hid (valD ((L s).take (k + 1)) = 10 * valD ((L s).take k) + ((bt (L s) k).toNat - 48)) := Lib.hid (by rw [take_snoc (L s) k hlt, valD_snoc])
        have HM := Lib.hid (fun h => okN_much (l := L s) (most := most) k hlt h)
        have c0 : (bt (L s) k).toNat < 256 := bt_lt _ _
        have hle2 : (valD ((L s).take k) : Int) ≤ 9223372036854775807 := by
          rcases hle with rfl | h
          · simp [valD]
          · omega
        have HL := Lib.hid hle
        clear hall hle
        cases hd : isDig (bt (L s) k) with
        | false =>
          rw [hd] at hD
          have HB : Hid (okN (L s) most = false) := Lib.hid (okN_dig k hlt hd)
          go_wp2_with (go_at_call 16; refine (hD.out _).mono ?_; rintro e w' ⟨rfl, rfl⟩)
          go_ret2
          exact ⟨ret_ii (numV_no HB.out).symm (errV_no HB.out).symm, rfl⟩
        | true =>
          rw [hd] at hD
          have hd2 := (isDig_iff _).1 hd
          have HS2 := Lib.hid (HS.out hd)
          clear HS
          generalize hV : valD ((L s).take k) = V at *
          generalize hc : (bt (L s) k).toNat = c at *
          by_cases hA : most < (c : Int) - 48
          · have HB : Hid (okN (L s) most = false) := Lib.hid (HM.out (by omega))
            go_wp2_with (go_at_call 16; refine (hD.out _).mono ?_; rintro e w' ⟨rfl, rfl⟩)
            go_ret2
            exact ⟨ret_ii (numV_no HB.out).symm (errV_no HB.out).symm, rfl⟩
          · obtain ⟨q, hq, hq1, hq2, hq0⟩ : ∃ q : Int, Int.tdiv (most - ((c : Int) - 48)) 10 = q ∧ 10 * q ≤ most - ((c : Int) - 48) ∧ most - ((c : Int) - 48) < 10 * q + 10 ∧ 0 ≤ q := by
              refine ⟨_, rfl, ?_, ?_, ?_⟩
              all_goals rw [Int.tdiv_eq_ediv_of_nonneg (by omega)]; omega
            have hq9 : q ≤ 922337203685477580 := by omega
            have H1 := Lib.hid hq1
            have H2 := Lib.hid hq2
            clear hq1 hq2
            by_cases hB : q < (V : Int)
            · have HB : Hid (okN (L s) most = false) := Lib.hid (HM.out (by have := H2.out; omega))
              go_wp2_with (go_at_call 16; refine (hD.out _).mono ?_; rintro e w' ⟨rfl, rfl⟩)
              go_ret2
              exact ⟨ret_ii (numV_no HB.out).symm (errV_no HB.out).symm, rfl⟩
            · have hsum : 10 * (V : Int) + ((c : Int) - 48) ≤ most := by have := H1.out; omega
              have HN := Lib.hid hsum
              go_wp2_with (go_at_call 16; refine (hD.out _).mono ?_; rintro e w' ⟨rfl, rfl⟩)
              go_round
              case rel => exact ⟨k + 1, by omega, by go_num, by rw [HV.out]; congr 1; omega, HS2.out, .inr (by rw [HV.out]; have := HN.out; omega)⟩
              case measure => simp [intOf]; omega
      · have htk : (L s).take k = L s := List.take_of_length_le (by rw [L_length]; omega)
        rw [htk] at hall hle
        have HB : Hid (okN (L s) most = true) := Lib.hid (okN_yes hb0.out hall (by rcases hle with h | h <;> omega))
        have HV : Hid (valD ((L s).take k) = valD (L s)) := Lib.hid (by rw [htk])
        clear htk hall hle
        go_wp2
        go_ret2
        exact ⟨ret_ii (by rw [HV.out]; exact (numV_yes HB.out).symm) (errV_yes HB.out).symm, rfl⟩)

set_option maxHeartbeats 1000000 in
theorem refNumber_any (s : ByteArray) (most : Int) (w : World) (hs : s.size ≤ 140737488355328) (hm0 : -9223372036854775808 ≤ most) (hm1 : most ≤ 9223372036854775807) :
    Calls Try.prog 7 #[.string s, .int .i64 most] w fun e w' => e = .returned (.tuple #[.int .i64 (numV (L s) most), .int .i64 (errV (L s) most)]) ∧ w' = w := by
  by_cases h0 : s.size = 0
  · have HB : Hid (okN (L s) most = false) := Lib.hid (okN_head (headBad_nil h0))
    have hE := isEmpty_zero s h0
    go_enter Try.func7, Try.ntmps7
    go_wp2
    go_ret2
    exact ⟨ret_ii (numV_no HB.out).symm (errV_no HB.out).symm, rfl⟩
  · rcases head_cases s h0 with ⟨h1, h4⟩ | ⟨h1, h2, h3, h4⟩ | ⟨h1, h2, h3, h4⟩
    · exact refNumber_loop s most w hs hm0 hm1 h0 (.inl h1) (Lib.hid h4)
    · have HB : Hid (okN (L s) most = false) := Lib.hid (okN_head h4)
      have hE := isEmpty_size s h0
      go_enter Try.func7, Try.ntmps7
      go_wp2
      go_ret2
      exact ⟨ret_ii (numV_no HB.out).symm (errV_no HB.out).symm, rfl⟩
    · exact refNumber_loop s most w hs hm0 hm1 h0 (.inr ⟨h1, h2, h3⟩) (Lib.hid h4)
end Go.Proofs.Ytmpbbkjdfneklaa
