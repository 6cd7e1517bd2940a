/- frame: the reference's Encode. -/
import Derived.Test.YtkdmicpfinjpgaaE10c
namespace Go.Proofs.Ytkdmicpfinjpgaa
open Go.RowKit

set_option maxHeartbeats 1000000 in
theorem refEncode_any (k n : Int) (s : ByteArray) (w : World) :
    Calls Try.prog 7 #[.int .i64 k, .int .i64 n, .string s] w fun e w' => e = .returned (.tuple #[.string (encS k n (L s)), .int .i64 (encE k n (L s))]) ∧ Below w.heap.size w w' := by
  by_cases h0 : encE k n (L s) = 0
  · obtain ⟨h1, h2, h3⟩ := encE_ok.1 h0
    obtain ⟨K, rfl⟩ := Int.eq_ofNat_of_zero_le h1
    obtain ⟨N, rfl⟩ := Int.eq_ofNat_of_zero_le h2
    unfold encS
    rw [h0, if_pos rfl]
    simp only [Int.toNat_natCast] at h3 ⊢
    obtain ⟨hk, hn1, hn2, hb⟩ := h3
    rw [L_length] at hb
    have HLd := Lib.hid (fun W => Laid_any K N s W (by omega) (by omega) hb)
    clear h0 h1 h2
    rcases hk with rfl | rfl
    · go_enter Try.func7, Try.ntmps7
      go_wp2_with (go_at_call 17; refine (HLd.out _).mono ?_; rintro e w2 ⟨rfl, hb2⟩)
      go_ret2
      exact ⟨rfl, hb2⟩
    · go_enter Try.func7, Try.ntmps7
      go_wp2_with (go_at_call 17; refine (HLd.out _).mono ?_; rintro e w2 ⟨rfl, hb2⟩)
      go_ret2
      exact ⟨rfl, hb2⟩
  · have hE : encS k n (L s) = ⟨#[]⟩ := by unfold encS; rw [if_neg h0]
    rw [hE]
    by_cases h1 : s.size > 2097152
    · have e : encE k n (L s) = 2 := by unfold encE; rw [if_pos (by rw [L_length]; exact h1)]
      rw [e]
      clear e hE h0
      go_enter Try.func7, Try.ntmps7
      go_wp2
      go_ret2
      exact ⟨rfl, Below.refl _ _⟩
    by_cases h2 : (k = 1 ∨ k = 2)
    · have h3 : ¬ (1 ≤ n ∧ n < 4294967295) := by
        intro h3; apply h0; unfold encE; rw [if_neg (by rw [L_length]; exact h1), if_neg (fun q => q h2), if_neg (fun q => q h3)]
      have e : encE k n (L s) = 3 := by unfold encE; rw [if_neg (by rw [L_length]; exact h1), if_neg (fun q => q h2), if_pos h3]
      rw [e]
      clear e hE h0
      by_cases h4 : n < 1
      · clear h3
        rcases h2 with rfl | rfl
        · go_enter Try.func7, Try.ntmps7
          go_wp2
          go_ret2
          exact ⟨rfl, Below.refl _ _⟩
        · go_enter Try.func7, Try.ntmps7
          go_wp2
          go_ret2
          exact ⟨rfl, Below.refl _ _⟩
      · have h5 : n > 4294967294 := by omega
        clear h3
        rcases h2 with rfl | rfl
        · go_enter Try.func7, Try.ntmps7
          go_wp2
          go_ret2
          exact ⟨rfl, Below.refl _ _⟩
        · go_enter Try.func7, Try.ntmps7
          go_wp2
          go_ret2
          exact ⟨rfl, Below.refl _ _⟩
    · have e : encE k n (L s) = 1 := by unfold encE; rw [if_neg (by rw [L_length]; exact h1), if_pos h2]
      rw [e]
      clear e hE h0
      have h6 : (k != 1) = true := bne_iff_ne.2 (fun q => h2 (.inl q))
      have h7 : (k != 2) = true := bne_iff_ne.2 (fun q => h2 (.inr q))
      clear h2
      go_enter Try.func7, Try.ntmps7
      go_wp2
      go_ret2
      exact ⟨rfl, Below.refl _ _⟩
end Go.Proofs.Ytkdmicpfinjpgaa
