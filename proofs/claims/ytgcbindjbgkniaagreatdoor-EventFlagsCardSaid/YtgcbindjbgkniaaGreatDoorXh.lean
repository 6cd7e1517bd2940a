/- lex: isAll; the reference's atomByte, plain, null. -/
import Derived.Test.YtgcbindjbgkniaaGreatDoorXd
namespace Go.Proofs.YtgcbindjbgkniaaGreatDoor
open Go.RowKit

set_option maxHeartbeats 4000000 in
theorem isAll_at (bit : Nat) (b : Int) (s : ByteArray) (w : World) (hbit : (bit = 1 ∧ b = 1) ∨ (bit = 2 ∧ b = 2) ∨ (bit = 4 ∧ b = 4) ∨ (bit = 16 ∧ b = 16)) (hs : s.size ≤ 140737488355328) :
    Calls Tryz.prog 37 #[.int .i64 b, .string s] w fun e w' => e = .returned (.bool (allB bit (L s))) ∧ w' = w := by
  go_enter Tryz.func37, Tryz.ntmps37
  go_wp2
  go_loop [8] (fun i => ∃ k : Nat, k ≤ s.size ∧ i = .int .i64 k ∧ ((L s).take k).all (bitB bit) = true) (fun i => s.size - (intOf i).toNat)
  case atStart => exact ⟨0, Nat.zero_le _, rfl, by simp⟩
  case round =>
    obtain ⟨k, hk, rfl, hall⟩ := hrel
    by_cases hlt : k < s.size
    · have ea := get_btx s k hlt
      have hD := Lib.hid (fun W => bitsOf_any (bt (L s) k) W)
      have HS := Lib.hid (all_snocP (bitB bit) (L s) k hlt hall)
      have HN := Lib.hid (all_noP (bitB bit) (L s) k hlt)
      have c0 : (bt (L s) k).toNat < 256 := bt_lt _ _
      have h6 := bits_six (bt (L s) k)
      clear hall
      cases hb : bitB bit (bt (L s) k) with
      | false =>
        have HF : Hid (allB bit (L s) = false) := Lib.hid (HN.out hb)
        unfold bitB at hb
        clear HN HS
        generalize hB : bitsN (bt (L s) k) = B at *
        clear hB
        rcases hbit with ⟨rfl, rfl⟩ | ⟨rfl, rfl⟩ | ⟨rfl, rfl⟩ | ⟨rfl, rfl⟩
        all_goals rcases h6 with rfl | rfl | rfl | rfl | rfl | rfl
        all_goals first
          | (exfalso; revert hb; decide)
          | (clear hb
             go_wp2_with (go_at_call 52; refine (hD.out _).mono ?_; rintro e w' ⟨rfl, rfl⟩)
             go_ret
             exact ⟨ret_bool HF.out.symm, rfl⟩)
      | true =>
        have HS2 := Lib.hid (HS.out hb)
        unfold bitB at hb
        clear HN HS
        generalize hB : bitsN (bt (L s) k) = B at *
        clear hB
        rcases hbit with ⟨rfl, rfl⟩ | ⟨rfl, rfl⟩ | ⟨rfl, rfl⟩ | ⟨rfl, rfl⟩
        all_goals rcases h6 with rfl | rfl | rfl | rfl | rfl | rfl
        all_goals first
          | (exfalso; revert hb; decide)
          | (clear hb
             go_wp2_with (go_at_call 52; refine (hD.out _).mono ?_; rintro e w' ⟨rfl, rfl⟩)
             go_round
             case rel => exact ⟨k + 1, by omega, by go_num, HS2.out⟩
             case measure => simp [intOf]; omega)
    · have HT : Hid (allB bit (L s) = true) := Lib.hid (by
        rw [List.take_of_length_le (by rw [L_length]; omega)] at hall
        exact hall)
      clear hall
      go_wp2
      go_ret
      exact ⟨ret_bool HT.out.symm, rfl⟩
theorem word_class (c : UInt8) : (c.toNat < 33 ∧ wordC c = false) ∨ (126 < c.toNat ∧ wordC c = false) ∨ (c.toNat = 40 ∧ wordC c = false) ∨ (c.toNat = 41 ∧ wordC c = false) ∨ (c.toNat = 91 ∧ wordC c = false) ∨ (c.toNat = 93 ∧ wordC c = false)
    ∨ (c.toNat = 123 ∧ wordC c = false) ∨ (c.toNat = 125 ∧ wordC c = false) ∨ (c.toNat = 34 ∧ wordC c = false)
    ∨ ((33 ≤ c.toNat ∧ c.toNat ≤ 126 ∧ c.toNat ≠ 40 ∧ c.toNat ≠ 41 ∧ c.toNat ≠ 91 ∧ c.toNat ≠ 93 ∧ c.toNat ≠ 123 ∧ c.toNat ≠ 125 ∧ c.toNat ≠ 34) ∧ wordC c = true) :=
  all_bytes (p := fun c => (c.toNat < 33 ∧ wordC c = false) ∨ (126 < c.toNat ∧ wordC c = false) ∨ (c.toNat = 40 ∧ wordC c = false) ∨ (c.toNat = 41 ∧ wordC c = false) ∨ (c.toNat = 91 ∧ wordC c = false) ∨ (c.toNat = 93 ∧ wordC c = false)
    ∨ (c.toNat = 123 ∧ wordC c = false) ∨ (c.toNat = 125 ∧ wordC c = false) ∨ (c.toNat = 34 ∧ wordC c = false)
    ∨ ((33 ≤ c.toNat ∧ c.toNat ≤ 126 ∧ c.toNat ≠ 40 ∧ c.toNat ≠ 41 ∧ c.toNat ≠ 91 ∧ c.toNat ≠ 93 ∧ c.toNat ≠ 123 ∧ c.toNat ≠ 125 ∧ c.toNat ≠ 34) ∧ wordC c = true)) (by decide +kernel) c
theorem bneI_no {n k : Int} (h : n ≠ k) : (n != k) = true := by rw [bne_iff_ne]; exact h
set_option maxHeartbeats 1000000 in
theorem atomByte_any (c : UInt8) (w : World) :
    Calls Tryz.prog 57 #[.int .u8 (c.toNat : Int)] w fun e w' => e = .returned (.bool (wordC c)) ∧ w' = w := by
  have h256 : c.toNat < 256 := c.toNat_lt
  rcases word_class c with ⟨h, e⟩ | ⟨h, e⟩ | ⟨h, e⟩ | ⟨h, e⟩ | ⟨h, e⟩ | ⟨h, e⟩ | ⟨h, e⟩ | ⟨h, e⟩ | ⟨h, e⟩ | ⟨⟨h1, h2, h3, h4, h5, h6, h7, h8, h9⟩, e⟩
  all_goals rw [e]
  all_goals clear e
  all_goals generalize c.toNat = n at *
  all_goals try subst h
  all_goals try have a0 := bneI_no (n := (n : Int)) (k := 40) (by omega)
  all_goals try have a1 := bneI_no (n := (n : Int)) (k := 41) (by omega)
  all_goals try have a2 := bneI_no (n := (n : Int)) (k := 91) (by omega)
  all_goals try have a3 := bneI_no (n := (n : Int)) (k := 93) (by omega)
  all_goals try have a4 := bneI_no (n := (n : Int)) (k := 123) (by omega)
  all_goals try have a5 := bneI_no (n := (n : Int)) (k := 125) (by omega)
  all_goals try have a6 := bneI_no (n := (n : Int)) (k := 34) (by omega)
  all_goals (
    go_enter Tryz.func57, Tryz.ntmps57
    go_wp2
    go_ret
    exact ⟨ret_bool (by first | rfl | simp_all | (simp; omega)), rfl⟩)
theorem atom_class (c : UInt8) : (wordC c = false ∧ atomC c = false) ∨ (c.toNat = 37 ∧ wordC c = true ∧ atomC c = false) ∨ (c.toNat = 42 ∧ wordC c = true ∧ atomC c = false) ∨ (c.toNat = 92 ∧ wordC c = true ∧ atomC c = false)
    ∨ ((c.toNat ≠ 37 ∧ c.toNat ≠ 42 ∧ c.toNat ≠ 92) ∧ wordC c = true ∧ atomC c = true) :=
  all_bytes (p := fun c => (wordC c = false ∧ atomC c = false) ∨ (c.toNat = 37 ∧ wordC c = true ∧ atomC c = false) ∨ (c.toNat = 42 ∧ wordC c = true ∧ atomC c = false) ∨ (c.toNat = 92 ∧ wordC c = true ∧ atomC c = false)
    ∨ ((c.toNat ≠ 37 ∧ c.toNat ≠ 42 ∧ c.toNat ≠ 92) ∧ wordC c = true ∧ atomC c = true)) (by decide +kernel) c
set_option maxHeartbeats 1000000 in
theorem plain_any (c : UInt8) (w : World) :
    Calls Tryz.prog 45 #[.int .u8 (c.toNat : Int)] w fun e w' => e = .returned (.bool (atomC c)) ∧ w' = w := by
  have h256 : c.toNat < 256 := c.toNat_lt
  have hA := Lib.hid (fun W => atomByte_any c W)
  rcases atom_class c with ⟨hw, e⟩ | ⟨h, hw, e⟩ | ⟨h, hw, e⟩ | ⟨h, hw, e⟩ | ⟨⟨h1, h2, h3⟩, hw, e⟩
  all_goals rw [e]
  all_goals rw [hw] at hA
  all_goals clear e hw
  all_goals generalize c.toNat = n at *
  all_goals try subst h
  all_goals try have a0 := bneI_no (n := (n : Int)) (k := 37) (by omega)
  all_goals try have a1 := bneI_no (n := (n : Int)) (k := 42) (by omega)
  all_goals try have a2 := bneI_no (n := (n : Int)) (k := 92) (by omega)
  all_goals (
    go_enter Tryz.func45, Tryz.ntmps45
    go_wp2_with (go_at_call 57; refine (hA.out _).mono ?_; rintro e w' ⟨rfl, rfl⟩)
    go_ret
    exact ⟨ret_bool (by first | rfl | simp_all | (simp; omega)), rfl⟩)
end Go.Proofs.YtgcbindjbgkniaaGreatDoor
