/- The reference's base64: Base64, worth, Loose64, FromBase64. -/
import Derived.Test.YtclegocofiigiabDoorBd
import Derived.Test.YtclegocofiigiabDoorNu
namespace Go.Proofs.YtclegocofiigiabDoor
open Go.RowKit Go.Shelf

set_option maxHeartbeats 400000 in
theorem refBase64_any (s : ByteArray) (w : World) (hs : s.size ≤ 1000000) :
    Calls Tryd.prog 24 #[.string s] w fun e w' => e = .returned (.string (S (base64 (L s)))) ∧ Below w.heap.size w w' := by
  have hpl := pk_len_le (L s) mailL
  rw [L_length] at hpl
  have hP := Lib.hid (fun W => plain_any s W hs)
  have HB : Hid (base64 (L s) = pack (L s) mailL ++ List.replicate (padN (pack (L s) mailL).length) 61) := Lib.hid rfl
  generalize pack (L s) mailL = p at *
  go_enter Tryd.func24, Tryd.ntmps24
  go_wp2_with (go_at_call 46; refine (hP.out _).mono ?_; rintro e w1 ⟨rfl, hb1⟩)
  go_loop [3] (fun v => ∃ l : List UInt8, v = .string (S l) ∧ l ++ List.replicate (padN l.length) 61 = p ++ List.replicate (padN p.length) 61 ∧ l.length + padN l.length ≤ 2000010) (fun v => match v with | .string t => padN t.size | _ => 0)
  case atStart => exact ⟨p, rfl, rfl, by unfold padN; omega⟩
  case round =>
    obtain ⟨l, rfl, hl, hll⟩ := hrel
    have hsz := S_size l
    by_cases h4 : l.length % 4 = 0
    · have h4i : (((S l).size : Int) % 4 != 0) = false := by rw [hsz]; simp; omega
      have hz : padN l.length = 0 := by unfold padN; omega
      rw [hz, List.replicate_zero, List.append_nil] at hl
      have HL := Lib.hid hl
      clear hl hz
      go_wp2
      go_ret
      exact ⟨ret_str (by rw [HL.out, HB.out]), hb1⟩
    · have h4i : (((S l).size : Int) % 4 != 0) = true := by rw [hsz]; simp; omega
      have hp1 : padN l.length = padN (l.length + 1) + 1 := by unfold padN; omega
      have HL := Lib.hid hl
      have HP := Lib.hid hp1
      have hc : ¬ 9223372036854775807 < (S l).size + 1 := by omega
      have e3 : S l ++ ⟨#[61]⟩ = S (l ++ [61]) := S_append _ _
      clear hl hp1
      have e1 : (l ++ [61]).length = l.length + 1 := by simp
      have e2 : (l ++ [61]) ++ List.replicate (padN (l ++ [61]).length) 61 = p ++ List.replicate (padN p.length) 61 := by
        rw [e1, ← HL.out, HP.out, List.replicate_succ, List.append_assoc]; rfl
      have E1 := Lib.hid e1
      have E2 := Lib.hid e2
      clear e1 e2
      go_wp2
      go_round
      case rel => exact ⟨l ++ [61], rfl, E2.out, by rw [E1.out]; have := HP.out; omega⟩
      case measure => have := HP.out; show padN (S (l ++ [61])).size < padN (S l).size; rw [S_size, S_size, E1.out]; omega

set_option maxHeartbeats 400000 in
theorem worth_any (c : UInt8) (w : World) :
    Calls Tryd.prog 48 #[.int .u8 c.toNat] w fun e w' => e = .returned (.int .i64 (worthOf mailL c.toNat)) ∧ w' = w := by
  have c0 := c.toNat_lt
  go_enter Tryd.func48, Tryd.ntmps48
  go_wp2
  go_loop [3] (fun i => ∃ k : Nat, k ≤ 64 ∧ i = .int .i64 k ∧ ∀ j, j < k → (bt mailL j).toNat ≠ c.toNat) (fun i => 64 - (intOf i).toNat)
  case atStart => exact ⟨0, Nat.zero_le _, rfl, fun j hj => by omega⟩
  case round =>
    obtain ⟨k, hk, rfl, hno⟩ := hrel
    have HN := Lib.hid hno
    clear hno
    by_cases hlt : k < 64
    · have hidx : mailB[k]'(by rw [mailB_size]; exact hlt) = bt mailL k := get_bt mailB k (by rw [mailB_size]; exact hlt)
      have c1 := bt_lt mailL k
      by_cases he : (bt mailL k).toNat = c.toNat
      · have HW : Hid (worthOf mailL c.toNat = (k : Int)) := Lib.hid (by rw [← he]; exact mail_ok k hlt)
        have hq : (((mailB[k]'(by rw [mailB_size]; exact hlt)).toNat : Int) == (c.toNat : Int)) = true := by rw [hidx, he]; simp
        clear he hidx
        unfold mailB at hq
        go_wp2
        go_ret
        exact ⟨ret_int HW.out.symm, rfl⟩
      · have hq : (((mailB[k]'(by rw [mailB_size]; exact hlt)).toNat : Int) == (c.toNat : Int)) = false := by rw [hidx, beq_eq_false_iff_ne]; omega
        have HE := Lib.hid he
        clear he hidx
        unfold mailB at hq
        go_wp2
        go_round
        case rel => exact ⟨k + 1, by omega, by go_num, fun j hj => by
          rcases Nat.lt_or_ge j k with h | h
          · exact HN.out j h
          · obtain rfl : j = k := by omega
            exact HE.out⟩
        case measure => simp [intOf]; omega
    · have HW : Hid (worthOf mailL c.toNat = -1) := Lib.hid (worth_none _ (fun j hj => HN.out j (by omega)))
      go_wp2
      go_ret
      exact ⟨ret_int HW.out.symm, rfl⟩
end Go.Proofs.YtclegocofiigiabDoor
