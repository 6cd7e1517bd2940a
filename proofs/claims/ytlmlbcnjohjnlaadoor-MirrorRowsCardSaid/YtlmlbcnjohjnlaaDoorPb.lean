/- octet: Same. -/
import Derived.Test.YtlmlbcnjohjnlaaDoorPa
import Derived.Deep.QuietTactic
import Derived.BigQuiet
namespace Go.Proofs.YtlmlbcnjohjnlaaDoor
open Go.RowKit

theorem get_bt (s : ByteArray) (k : Nat) (h : k < s.size) : (s[k]'h) = bt (L s) k := by
  rw [bt_getElem (L s) k h]; rfl

set_option maxHeartbeats 400000 in
theorem Same_any (a b : ByteArray) (w : World) (ha : a.size ≤ maxLen) :
    Calls Tryd.prog 71 #[.string a, .string b] w fun e w' => e = .returned (.bool (same (L a) (L b))) ∧ Below w.heap.size w w' := by
  unfold maxLen at ha
  by_cases hl : (a.size : Int) = (b.size : Int)
  · have hlb : ((a.size : Int) != (b.size : Int)) = false := by simp [hl]
    go_enter Tryd.func71, Tryd.ntmps71
    go_wp2
    go_loopw [13] (fun i wr => ∃ k : Nat, k ≤ a.size ∧ i = .int .i64 k ∧ samePre (L a) (L b) k ∧ Below w.heap.size w wr) (fun i _ => a.size - (intOf i).toNat)
    case atStart => exact ⟨0, Nat.zero_le _, rfl, samePre_zero _ _, Below.refl _ _⟩
    case round =>
      obtain ⟨k, hk, rfl, hp, hbe⟩ := hrel
      by_cases hlt : k < a.size
      · have hltb : k < b.size := by omega
        have ea := get_bt a k hlt
        have eb := get_bt b k hltb
        have c0 : (bt (L a) k).toNat < 256 := bt_lt _ _
        have c1 : (bt (L b) k).toNat < 256 := bt_lt _ _
        go_wp2
        go_quiet ((go_at_call 78; exact Calls.quiet_of_same (small_any _ _ (by omega) (by omega))))
        go_wp2
        · have hne : (smI ((bt (L a) k).toNat : Int) != smI ((bt (L b) k).toNat : Int)) = true := by assumption
          go_ret
          exact ⟨ret_bool (same_no (L a) (L b) k hlt hltb (by simpa using hne)).symm, below_drewN hbe _⟩
        · have heq : (smI ((bt (L a) k).toNat : Int) != smI ((bt (L b) k).toNat : Int)) = false := by assumption
          go_roundw
          case rel => exact ⟨k + 1, by omega, by go_num, samePre_succ (L a) (L b) k hlt hltb hp (by simpa using heq), below_drewN hbe _⟩
          case measure => simp [intOf]; omega
      · go_wp2
        go_ret
        exact ⟨ret_bool (samePre_all (L a) (L b) k (by rw [L_length]; omega) (by rw [L_length]; omega) hp).symm, hbe⟩
  · have hlb : ((a.size : Int) != (b.size : Int)) = true := by simp; omega
    go_enter Tryd.func71, Tryd.ntmps71
    go_wp2
    go_ret
    exact ⟨ret_bool (same_len (L a) (L b) (by rw [L_length, L_length]; omega)).symm, Below.refl _ _⟩

end Go.Proofs.YtlmlbcnjohjnlaaDoor
