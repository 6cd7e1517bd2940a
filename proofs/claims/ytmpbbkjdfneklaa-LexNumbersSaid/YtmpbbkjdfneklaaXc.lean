/- Number, of lex and of the reference. -/
import Derived.Test.YtmpbbkjdfneklaaXb
namespace Go.Proofs.Ytmpbbkjdfneklaa
open Go.RowKit

theorem headBad_nil {l : List UInt8} (h : l.length = 0) : headBad l = true := by
  cases l with
  | nil => rfl
  | cons a b => simp at h
theorem headBad_one {l : List UInt8} (h : l.length = 1) : headBad l = false := by
  unfold headBad
  rw [Bool.or_eq_false_iff, Bool.and_eq_false_iff, decide_eq_false_iff_not]
  refine ⟨?_, .inl (by omega)⟩
  cases l with
  | nil => simp at h
  | cons a b => rfl
theorem headBad_more {l : List UInt8} (h : 1 < l.length) : headBad l = (bt l 0 == 48) := by
  unfold headBad
  rw [decide_eq_true h, Bool.true_and]
  cases l with
  | nil => simp at h
  | cons a b => rfl
theorem isEmpty_size (s : ByteArray) (h : ¬ s.size = 0) : s.toList.isEmpty = false := by
  rw [toList_L]
  cases hl : L s with
  | nil => exact absurd (by rw [← L_length, hl]; rfl) h
  | cons a b => rfl
/-- What is asked at the beginning. -/
theorem head_cases (s : ByteArray) (h : ¬ s.size = 0) : (s.size = 1 ∧ headBad (L s) = false) ∨ (1 < s.size ∧ ∃ h0 : 0 < s.size, (((s[0]'h0).toNat : Int) == 48) = true ∧ headBad (L s) = true) ∨ (1 < s.size ∧ ∃ h0 : 0 < s.size, (((s[0]'h0).toNat : Int) == 48) = false ∧ headBad (L s) = false) := by
  by_cases h1 : s.size = 1
  · exact .inl ⟨h1, headBad_one h1⟩
  · have h2 : 1 < s.size := by omega
    have h3 := headBad_more (l := L s) h2
    have e := get_btx s 0 (by omega)
    by_cases h4 : (bt (L s) 0).toNat = 48
    · refine .inr (.inl ⟨h2, by omega, by rw [e, h4]; rfl, ?_⟩)
      rw [h3, beq_iff_eq]
      exact UInt8.toNat_inj.1 h4
    · refine .inr (.inr ⟨h2, by omega, by rw [e, beq_eq_false_iff_ne]; omega, ?_⟩)
      rw [h3, beq_eq_false_iff_ne]
      intro hh
      rw [hh] at h4
      exact h4 rfl
set_option maxHeartbeats 1000000 in
theorem lexNumber_loop (s : ByteArray) (most : Int) (w : World) (hs : s.size ≤ 140737488355328) (hneg : 0 ≤ most) (hm1 : most ≤ 9223372036854775807) (h0 : ¬ s.size = 0)
    (hh : (s.size = 1) ∨ (1 < s.size ∧ ∃ h0 : 0 < s.size, (((s[0]'h0).toNat : Int) == 48) = false)) (hb0 : Hid (headBad (L s) = false)) :
    Calls Try.prog 8 #[.string s, .int .i64 most] w fun e w' => e = .returned (.tuple #[.int .i64 (numV (L s) most), .int .i64 (errV (L s) most)]) ∧ w' = w := by
  have hE := isEmpty_size s h0
  obtain ⟨q, r, hq, hr, hqr, hr0, hr9, hq0, hq9⟩ : ∃ q r : Int, Int.tdiv most 10 = q ∧ Int.tmod most 10 = r ∧ most = 10 * q + r ∧ 0 ≤ r ∧ r ≤ 9 ∧ 0 ≤ q ∧ q ≤ 922337203685477580 := by
    refine ⟨_, _, rfl, rfl, ?_, ?_, ?_, ?_, ?_⟩
    · have := Int.mul_tdiv_add_tmod most 10; omega
    · rw [Int.tmod_eq_emod_of_nonneg hneg]; omega
    · rw [Int.tmod_eq_emod_of_nonneg hneg]; omega
    · rw [Int.tdiv_eq_ediv_of_nonneg hneg]; omega
    · rw [Int.tdiv_eq_ediv_of_nonneg hneg]; omega
  have HQ := Lib.hid hqr
  clear hqr
  rcases hh with hh | ⟨hh1, hh2, hh3⟩
  all_goals (
    go_enter Try.func8, Try.ntmps8
    go_wp2
    go_loop [6, 27] (fun n i => ∃ k : Nat, k ≤ s.size ∧ i = .int .i64 k ∧ n = .int .i64 (valD ((L s).take k) : Nat) ∧ ((L s).take k).all isDig = true ∧ (valD ((L s).take k) : Int) ≤ most) (fun _ i => s.size - (intOf i).toNat)
    case atStart => exact ⟨0, Nat.zero_le _, rfl, by simp [valD], by simp, by simpa [valD] using hneg⟩
    case round =>
      obtain ⟨k, hk, rfl, rfl, hall, hle⟩ := hrel
      by_cases hlt : k < s.size
      · have HA := Lib.hid hall
        have ea := get_btx s k hlt
        have hD := Lib.hid (fun W => isDigit_any (bt (L s) k) W)
        have HS := Lib.hid (all_snocP isDig (L s) k hlt hall)
        have HV : Hid (valD ((L s).take (k + 1)) = 10 * valD ((L s).take k) + ((bt (L s) k).toNat - 48)) := Lib.hid (by rw [take_snoc (L s) k hlt, valD_snoc])
        have HM := Lib.hid (fun h => okN_much (l := L s) (most := most) k hlt h)
        have c0 : (bt (L s) k).toNat < 256 := bt_lt _ _
        clear hall
        cases hd : isDig (bt (L s) k) with
        | false =>
          rw [hd] at hD
          have HB : Hid (okN (L s) most = false) := Lib.hid (okN_dig k hlt hd)
          go_wp2_with (go_at_call 17; refine (hD.out _).mono ?_; rintro e w' ⟨rfl, rfl⟩)
          go_ret2
          exact ⟨ret_ii (numV_no HB.out).symm (errV_no HB.out).symm, rfl⟩
        | true =>
          rw [hd] at hD
          have hd2 := (isDig_iff _).1 hd
          have HS2 := Lib.hid (HS.out hd)
          clear HS
          generalize hV : valD ((L s).take k) = V at *
          generalize hc : (bt (L s) k).toNat = c at *
          by_cases hA : q < (V : Int)
          · have HB : Hid (okN (L s) most = false) := Lib.hid (HM.out (by have := HQ.out; omega))
            go_wp2_with (go_at_call 17; refine (hD.out _).mono ?_; rintro e w' ⟨rfl, rfl⟩)
            go_ret2
            exact ⟨ret_ii (numV_no HB.out).symm (errV_no HB.out).symm, rfl⟩
          · by_cases hB : (V : Int) = q
            · by_cases hC : r < (c : Int) - 48
              · have HB : Hid (okN (L s) most = false) := Lib.hid (HM.out (by have := HQ.out; omega))
                go_wp2_with (go_at_call 17; refine (hD.out _).mono ?_; rintro e w' ⟨rfl, rfl⟩)
                go_ret2
                exact ⟨ret_ii (numV_no HB.out).symm (errV_no HB.out).symm, rfl⟩
              · have HN : Hid (10 * (V : Int) + ((c - 48 : Nat) : Int) ≤ most) := Lib.hid (by have := HQ.out; omega)
                have hsum : 10 * (V : Int) + ((c : Int) - 48) ≤ most := by have := HN.out; omega
                go_wp2_with (go_at_call 17; refine (hD.out _).mono ?_; rintro e w' ⟨rfl, rfl⟩)
                go_round
                case rel => exact ⟨k + 1, by omega, by go_num, by rw [HV.out]; congr 1; omega, HS2.out, by rw [HV.out]; have := HN.out; omega⟩
                case measure => simp [intOf]; omega
            · have HN : Hid (10 * (V : Int) + ((c - 48 : Nat) : Int) ≤ most) := Lib.hid (by have := HQ.out; omega)
              have hB2 : ((V : Int) == q) = false := by rw [beq_eq_false_iff_ne]; exact hB
              have hsum : 10 * (V : Int) + ((c : Int) - 48) ≤ most := by have := HN.out; omega
              go_wp2_with (go_at_call 17; refine (hD.out _).mono ?_; rintro e w' ⟨rfl, rfl⟩)
              go_round
              case rel => exact ⟨k + 1, by omega, by go_num, by rw [HV.out]; congr 1; omega, HS2.out, by rw [HV.out]; have := HN.out; omega⟩
              case measure => simp [intOf]; omega
      · have htk : (L s).take k = L s := List.take_of_length_le (by rw [L_length]; omega)
        rw [htk] at hall hle
        have HB : Hid (okN (L s) most = true) := Lib.hid (okN_yes hb0.out hall hle)
        have HV : Hid (valD ((L s).take k) = valD (L s)) := Lib.hid (by rw [htk])
        clear htk hall
        go_wp2
        go_ret2
        exact ⟨ret_ii (by rw [HV.out]; exact (numV_yes HB.out).symm) (errV_yes HB.out).symm, rfl⟩)
end Go.Proofs.Ytmpbbkjdfneklaa
