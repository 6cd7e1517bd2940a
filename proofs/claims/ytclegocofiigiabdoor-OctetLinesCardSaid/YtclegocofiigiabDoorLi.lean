/- A list of texts that came in; long, turn. -/
import Derived.Test.YtclegocofiigiabDoorPt
namespace Go.Proofs.YtclegocofiigiabDoor
open Go.RowKit Go.Shelf

/-- v is a list of texts, ss, in memory that was there. -/
def Strs (w : World) (v : Value) (ss : List ByteArray) : Prop :=
  (ss = [] ∧ ∃ ao cap, v = .slice ao 0 cap) ∨ ∃ b off cap, v = .slice (some ⟨b, off, none⟩) ss.length cap ∧ ss.length ≤ 140737488355328 ∧ b < w.heap.size ∧ ∀ i, i < ss.length → w.cell? ⟨b, off + i, none⟩ = some (.string (ss.getD i ByteArray.empty))
theorem Strs.on {w w' : World} {v : Value} {ss : List ByteArray} (h : Strs w v ss) (hb : Below w.heap.size w w') : Strs w' v ss := by
  rcases h with h | ⟨b, off, cap, rfl, h0, h1, h2⟩
  · exact .inl h
  · refine .inr ⟨b, off, cap, rfl, h0, Nat.lt_of_lt_of_le h1 hb.size, fun i hi => ?_⟩
    rw [hb.cell (p := ⟨b, off + i, none⟩) h1]
    exact h2 i hi
def sumTo (ss : List ByteArray) (k : Nat) : Nat := ((ss.take k).map ByteArray.size).sum
theorem sumTo_succ (ss : List ByteArray) (k : Nat) (hk : k < ss.length) : sumTo ss (k + 1) = sumTo ss k + (ss.getD k ByteArray.empty).size := by
  unfold sumTo
  rw [List.take_succ_eq_append_getElem hk, List.map_append, List.sum_append]
  simp [hk]
theorem sumTo_le (ss : List ByteArray) (k : Nat) : sumTo ss k ≤ (ss.map ByteArray.size).sum := by
  unfold sumTo
  have : ss.map ByteArray.size = (ss.take k).map ByteArray.size ++ (ss.drop k).map ByteArray.size := by rw [← List.map_append, List.take_append_drop]
  rw [this, List.sum_append]
  omega
theorem sumTo_all (ss : List ByteArray) (k : Nat) (h : ss.length ≤ k) : sumTo ss k = (ss.map ByteArray.size).sum := by
  unfold sumTo; rw [List.take_of_length_le h]
def longB (ss : List ByteArray) : Bool := decide (20000 < (ss.map ByteArray.size).sum) || decide (40 < ss.length)
theorem size_le (ss : List ByteArray) (k : Nat) (hk : k < ss.length) : (ss.getD k ByteArray.empty).size ≤ (ss.map ByteArray.size).sum := by
  have h1 := sumTo_succ ss k hk
  have h2 := sumTo_le ss (k + 1)
  omega

set_option maxHeartbeats 400000 in
theorem long_any (v : Value) (ss : List ByteArray) (w : World) (h : Strs w v ss) (hz : ∀ i, i < ss.length → (ss.getD i ByteArray.empty).size ≤ 140737488355328) :
    Calls Tryd.prog 7 #[v] w fun e w' => e = .returned (.bool (longB ss)) ∧ w' = w := by
  rcases h with ⟨rfl, ao, cap, rfl⟩ | ⟨b, off, cap, rfl, hl, h1, h2⟩
  · go_enter Tryd.func7, Tryd.ntmps7
    go_wp2
    refine wp_loop_rounds 1 ?_
    rw [rounds_succ]
    go_wp2
    go_ret
    exact ⟨rfl, rfl⟩
  · go_enter Tryd.func7, Tryd.ntmps7
    go_wp2
    go_loop [3, 4] (fun n i => ∃ k : Nat, k ≤ ss.length ∧ i = .int .i64 k ∧ sumTo ss k ≤ 20000 ∧ n = .int .i64 (sumTo ss k : Nat)) (fun _ i => ss.length - (intOf i).toNat)
    case atStart => exact ⟨0, Nat.zero_le _, rfl, by simp [sumTo], rfl⟩
    case round =>
      obtain ⟨k, hk, rfl, hs, rfl⟩ := hrel
      by_cases hlt : k < ss.length
      · have hc := h2 k hlt
        have hzk := hz k hlt
        have hsu := sumTo_succ ss k hlt
        have hsl := sumTo_le ss (k + 1)
        have H2 := Lib.hid h2
        clear h2 hz
        generalize ss.getD k ByteArray.empty = s at *
        by_cases hbig : 20000 < sumTo ss (k + 1)
        · have HL : Hid (longB ss = true) := Lib.hid (by unfold longB; rw [Bool.or_eq_true]; left; simp; omega)
          have hb2 : (20000 : Int) < (sumTo ss k : Int) + (s.size : Int) := by omega
          clear hsu hsl hbig
          generalize sumTo ss k = m at *
          go_wp2
          go_ret
          exact ⟨ret_bool HL.out.symm, rfl⟩
        · have hb2 : ¬ (20000 : Int) < (sumTo ss k : Int) + (s.size : Int) := by omega
          have HS : Hid ((sumTo ss (k + 1) : Int) = (sumTo ss k : Int) + (s.size : Int)) := Lib.hid (by omega)
          have HB := Lib.hid hbig
          clear hsu hsl hbig
          generalize sumTo ss k = m at *
          go_wp2
          go_round
          case rel => exact ⟨k + 1, by omega, by go_num, by have := HB.out; omega, by rw [HS.out]⟩
          case measure => simp [intOf]; omega
      · have HL : Hid (longB ss = decide (40 < ss.length)) := Lib.hid (by unfold longB; rw [← sumTo_all ss k (by omega), decide_eq_false (by omega), Bool.false_or])
        clear hs h2 hz
        generalize sumTo ss k = m at *
        go_wp2
        go_ret
        exact ⟨ret_bool (by rw [HL.out, decide_eq_decide]; omega), rfl⟩

def turnN (k n : Nat) : Nat := if k < n then k else 2 * n - 1 - k
theorem turnN_lt (k n : Nat) (h : k < 2 * n) : turnN k n < n := by unfold turnN; split <;> omega

set_option maxHeartbeats 400000 in
theorem turn_any (k n : Nat) (w : World) (hk : k < 2 * n) (hn : n ≤ 1000) :
    Calls Tryd.prog 9 #[.int .i64 k, .int .i64 n] w fun e w' => e = .returned (.int .i64 (turnN k n : Nat)) ∧ w' = w := by
  by_cases h : k < n
  · have e : turnN k n = k := by unfold turnN; rw [if_pos h]
    rw [e]; clear e
    go_enter Tryd.func9, Tryd.ntmps9
    go_wp2
    go_ret
    exact ⟨rfl, rfl⟩
  · have e : (turnN k n : Int) = 2 * (n : Int) - 1 - (k : Int) := by unfold turnN; rw [if_neg h]; omega
    rw [e]; clear e
    go_enter Tryd.func9, Tryd.ntmps9
    go_wp2
    go_ret
    exact ⟨rfl, rfl⟩
theorem turn_int (x y : Int) (k n : Nat) (w : World) (hx : x = (k : Int)) (hy : y = (n : Int)) (hk : k < 2 * n) (hn : n ≤ 1000) :
    Calls Tryd.prog 9 #[.int .i64 x, .int .i64 y] w fun e w' => e = .returned (.int .i64 (turnN k n : Nat)) ∧ w' = w := by
  subst hx; subst hy; exact turn_any k n w hk hn
end Go.Proofs.YtclegocofiigiabDoor
