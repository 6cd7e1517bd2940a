/- The statement FrameSums: the walk. -/
import Derived.Test.YtllpejkfbgpobaaF10k
namespace Go.Proofs.Ytllpejkfbgpobaa
open Go.RowKit

set_option maxHeartbeats 1000000 in
theorem FrameSums_walk (v : Value) (ss : List ByteArray) (w : World) (h : Strs w v ss) (hz : ∀ i, i < ss.length → (ss.getD i ByteArray.empty).size ≤ 140737488355328) :
    Calls Try.prog 5 #[v] w fun e w' => e = .returned (.bool true) ∧ Below w.heap.size w w' := by
  have HStr := Lib.hid (fun w' (hb : Below w.heap.size w w') => h.on hb)
  rcases h with ⟨rfl, ao, cap, rfl⟩ | ⟨b, off, cap, rfl, hl, h1, h2⟩
  · go_enter Try.func5, Try.ntmps5
    go_wp2
    refine wp_loop_rounds 1 ?_
    rw [rounds_succ]
    go_wp2
    refine wp_loop_rounds 1 ?_
    rw [rounds_succ]
    go_wp2_with fail
    refine (known_any _).mono ?_
    rintro e w2 ⟨rfl, hb2⟩
    go_wp2_with fail
    go_ret
    exact ⟨rfl, hb2⟩
  · have HC := Lib.hid h2
    have HZ := Lib.hid hz
    clear h2 hz HStr
    go_enter Try.func5, Try.ntmps5
    go_wp2
    go_loopw [3, 4] (fun n i wr => ∃ k : Nat, k ≤ ss.length ∧ k ≤ 40 ∧ i = .int .i64 k ∧ sumTo ss k ≤ 4195304 ∧ n = .int .i64 (sumTo ss k : Nat) ∧ w = wr) (fun _ i _ => ss.length - (intOf i).toNat)
    case atStart => exact ⟨0, Nat.zero_le _, by omega, rfl, by simp [sumTo], rfl, rfl⟩
    case round =>
      obtain ⟨k, hk, hk40, rfl, hs, rfl, rfl⟩ := hrel
      by_cases hlt : k < ss.length
      · have hc := HC.out k hlt
        have hzk := HZ.out k hlt
        have hsu := sumTo_succ ss k hlt
        generalize ss.getD k ByteArray.empty = s at *
        by_cases hbig : 4195304 < sumTo ss (k + 1)
        · have hb2 : (4195304 : Int) < (sumTo ss k : Int) + (s.size : Int) := by omega
          clear hsu hbig
          generalize sumTo ss k = m at *
          go_wp2
          go_ret
          exact ⟨rfl, Below.refl _ _⟩
        · have hb2 : ¬ (4195304 : Int) < (sumTo ss k : Int) + (s.size : Int) := by omega
          have HS : Hid ((sumTo ss (k + 1) : Int) = (sumTo ss k : Int) + (s.size : Int)) := Lib.hid (by omega)
          have HB := Lib.hid hbig
          clear hsu hbig
          generalize sumTo ss k = m at *
          by_cases h40 : k < 40
          · have h40' : ¬ (40 : Int) ≤ (k : Int) := by omega
            go_wp2
            go_roundw
            case rel => exact ⟨k + 1, by omega, by omega, by go_num, by have := HB.out; omega, by rw [HS.out], trivial⟩
            case measure => simp [intOf]; omega
          · have h40' : (40 : Int) ≤ (k : Int) := by omega
            go_wp2
            go_ret
            exact ⟨rfl, Below.refl _ _⟩
      · obtain rfl : k = ss.length := by omega
        have hsm : ∀ i, i < ss.length → (ss.getD i ByteArray.empty).size ≤ 4195304 := fun i hi => by
          have := size_le ss i hi
          rw [← sumTo_all ss ss.length (Nat.le_refl _)] at this
          omega
        have HM := Lib.hid hsm
        clear hs hsm HZ
        generalize sumTo ss ss.length = m at *
        go_wp2
        go_loopw [5] (fun i wr => ∃ k : Nat, k ≤ 2 * ss.length ∧ i = .int .i64 k ∧ Below w.heap.size w wr) (fun i _ => 2 * ss.length - (intOf i).toNat)
        case atStart => exact ⟨0, Nat.zero_le _, rfl, Below.refl _ _⟩
        case round =>
          obtain ⟨j, hj, rfl, hb⟩ := hrel
          by_cases hd : j < 2 * ss.length
          · have ht := turnN_lt j ss.length hd
            have hc := HC.out _ ht
            have hzs := HM.out _ ht
            rw [← hb.cell (p := ⟨b, off + turnN j ss.length, none⟩) h1] at hc
            have hdi : (j : Int) < 2 * (ss.length : Int) := by omega
            generalize ss.getD (turnN j ss.length) ByteArray.empty = s at *
            have HT := Lib.hid (fun w => turn_any j ss.length w hd (by omega))
            generalize turnN j ss.length = t at *
            have HB := Lib.hid hb
            clear hb
            go_wp2_with (go_at_call 14; with_reducible refine (HT.out _).mono ?_; rintro e w3 ⟨rfl, rfl⟩)
            refine (Sum_any s _ (by omega)).mono ?_
            rintro e w4 ⟨rfl, hb4⟩
            have HB4 := Lib.hid (HB.out.trans (hb4.mono HB.out.size))
            clear hb4
            go_wp2_with fail
            refine (refSum_any s _ (by omega)).mono ?_
            rintro e w5 ⟨rfl, rfl⟩
            go_wp2_with fail
            go_roundw
            case rel => exact ⟨j + 1, by omega, by go_num, HB4.out⟩
            case measure => simp [intOf]; omega
          · have hdi : ¬ (j : Int) < 2 * (ss.length : Int) := by omega
            have HB := Lib.hid hb
            clear hb
            go_wp2_with fail
            refine (known_any _).mono ?_
            rintro e w2 ⟨rfl, hb2⟩
            go_wp2_with fail
            go_ret
            exact ⟨rfl, HB.out.trans (hb2.mono HB.out.size)⟩
end Go.Proofs.Ytllpejkfbgpobaa
