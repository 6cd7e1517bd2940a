/- frame: the reference's Sum; lists of texts; turn. -/
import Derived.Test.YtkdmicpfinjpgaaF10j
namespace Go.Proofs.Ytkdmicpfinjpgaa
open Go.RowKit

/-- v is a list of texts, ss, in memory that was there. -/
def Strs (w : World) (v : Value) (ss : List ByteArray) : Prop :=
  (ss = [] ∧ ∃ ao cap, v = .slice ao 0 cap) ∨ ∃ b off cap, v = .slice (some ⟨b, off, none⟩) ss.length cap ∧ ss.length ≤ 140737488355328 ∧ b < w.heap.size ∧ ∀ i, i < ss.length → w.cell? ⟨b, off + i, none⟩ = some (.string (ss.getD i ByteArray.empty))
theorem Strs.on {w w' : World} {v : Value} {ss : List ByteArray} (h : Strs w v ss) (hb : Below w.heap.size w w') : Strs w' v ss := by
  rcases h with h | ⟨b, off, cap, rfl, h0, h1, h2⟩
  · exact .inl h
  · refine .inr ⟨b, off, cap, rfl, h0, Nat.lt_of_lt_of_le h1 hb.size, fun i hi => ?_⟩
    rw [hb.cell (p := ⟨b, off + i, none⟩) h1]
    exact h2 i hi
def sumTo (ss : List ByteArray) (k : Nat) : Nat := ((ss.take k).map ByteArray.size).sum
theorem sumTo_succ (ss : List ByteArray) (k : Nat) (hk : k < ss.length) : sumTo ss (k + 1) = sumTo ss k + (ss.getD k ByteArray.empty).size := by
  unfold sumTo
  rw [List.take_succ_eq_append_getElem hk, List.map_append, List.sum_append]
  simp [hk]
theorem sumTo_le (ss : List ByteArray) (k : Nat) : sumTo ss k ≤ (ss.map ByteArray.size).sum := by
  unfold sumTo
  have : ss.map ByteArray.size = (ss.take k).map ByteArray.size ++ (ss.drop k).map ByteArray.size := by rw [← List.map_append, List.take_append_drop]
  rw [this, List.sum_append]
  omega
theorem sumTo_all (ss : List ByteArray) (k : Nat) (h : ss.length ≤ k) : sumTo ss k = (ss.map ByteArray.size).sum := by
  unfold sumTo; rw [List.take_of_length_le h]
theorem size_le (ss : List ByteArray) (k : Nat) (hk : k < ss.length) : (ss.getD k ByteArray.empty).size ≤ (ss.map ByteArray.size).sum := by
  have h1 := sumTo_succ ss k hk
  have h2 := sumTo_le ss (k + 1)
  omega

def turnN (k n : Nat) : Nat := if k < n then k else 2 * n - 1 - k
theorem turnN_lt (k n : Nat) (h : k < 2 * n) : turnN k n < n := by unfold turnN; split <;> omega

set_option maxHeartbeats 400000 in
theorem turn_any (k n : Nat) (w : World) (hk : k < 2 * n) (hn : n ≤ 1000) :
    Calls Try.prog 6 #[.int .i64 k, .int .i64 n] w fun e w' => e = .returned (.int .i64 (turnN k n : Nat)) ∧ w = w' := by
  by_cases h : k < n
  · have e : turnN k n = k := by unfold turnN; rw [if_pos h]
    rw [e]; clear e
    go_enter Try.func6, Try.ntmps6
    go_wp2
    go_ret
    exact ⟨rfl, rfl⟩
  · have e : (turnN k n : Int) = 2 * (n : Int) - 1 - (k : Int) := by unfold turnN; rw [if_neg h]; omega
    rw [e]; clear e
    go_enter Try.func6, Try.ntmps6
    go_wp2
    go_ret
    exact ⟨rfl, rfl⟩
set_option maxHeartbeats 400000 in
theorem turned_any (v : Nat) (w : World) (hv : v < 4294967296) :
    Calls Try.prog 36 #[.int .i64 (v : Int)] w fun e w' => e = .returned (.int .i64 (cst v : Nat)) ∧ w = w' := by
  have ht : (v : Int).tmod 2 = ((v % 2 : Nat) : Int) := by rw [Int.tmod_eq_emod_of_nonneg (by omega)]; omega
  have hd : (v : Int).tdiv 2 = ((v / 2 : Nat) : Int) := by rw [Int.tdiv_eq_ediv_of_nonneg (by omega)]; omega
  rcases Nat.mod_two_eq_zero_or_one v with hm | hm
  · have e : cst v = v / 2 := by unfold cst; rw [if_neg (by omega)]
    rw [e]
    clear e
    rw [hm] at ht
    go_enter Try.func36, Try.ntmps36
    go_wp2
    go_ret
    exact ⟨rfl, rfl⟩
  · have e : ((cst v : Nat) : Int) = bits .xor .i64 ((v / 2 : Nat) : Int) 3988292384 := by
      have := i64_xor (v / 2) 3988292384 (by omega) (by decide)
      unfold cst; rw [if_pos hm, ← this]; rfl
    rw [e]
    clear e
    rw [hm] at ht
    go_enter Try.func36, Try.ntmps36
    go_wp2
    go_ret
    exact ⟨rfl, rfl⟩
set_option maxHeartbeats 1000000 in
theorem refSum_any (s : ByteArray) (w : World) (hs : s.size ≤ 140737488355328) :
    Calls Try.prog 30 #[.string s] w fun e w' => e = .returned (.int .i64 (crc (L s) : Nat)) ∧ w = w' := by
  go_enter Try.func30, Try.ntmps30
  go_wp2
  go_loopw [3, 4] (fun r i wr => ∃ (k : Nat), r = .int .i64 (crcR 4294967295 ((L s).take k) : Nat) ∧ i = .int .i64 (k : Int) ∧ k ≤ s.size ∧ w = wr) (fun _ i _ => match i with | .int _ k => ((s.size : Int) - k).toNat | _ => 0)
  case atStart => exact ⟨0, rfl, rfl, by omega, rfl⟩
  case round =>
    obtain ⟨k, rfl, rfl, hk, rfl⟩ := hrel
    by_cases hd : k < s.size
    · have hlt := crcR_lt ((L s).take k) (v := 4294967295) (by decide)
      have hstep : crcR 4294967295 ((L s).take (k + 1)) = crcB (crcR 4294967295 ((L s).take k)) (bt (L s) k) := by
        rw [take_snoc (L s) k hd, crcR_append]; rfl
      have hbk : bt (L s) k = s[k] := (bt_getElem (L s) k hd).trans rfl
      rw [hbk] at hstep
      unfold crcB at hstep
      have HS := Lib.hid hstep
      clear hstep hbk
      generalize crcR 4294967295 ((L s).take k) = v at *
      have hbt := s[k].toNat_lt
      have hx : bits .xor .i64 (v : Int) (s[k].toNat : Int) = ((v ^^^ s[k].toNat : Nat) : Int) := i64_xor v s[k].toNat hlt (by omega)
      have hy : v ^^^ s[k].toNat < 4294967296 := Nat.xor_lt_two_pow (n := 32) hlt (by omega)
      generalize v ^^^ s[k].toNat = u at *
      go_wp2
      go_loopw [3, 5] (fun r i wr => ∃ (x j : Nat), r = .int .i64 (x : Int) ∧ i = .int .i64 (j : Int) ∧ j ≤ 8 ∧ x < 4294967296 ∧ csn (8 - j) x = csn 8 u ∧ w = wr) (fun _ i _ => match i with | .int _ k => (8 - k).toNat | _ => 0)
      case atStart => exact ⟨u, 0, rfl, rfl, by omega, hy, rfl, rfl⟩
      case round =>
        obtain ⟨x, j, rfl, rfl, hj, hxl, hc, rfl⟩ := hrel
        by_cases hd2 : j < 8
        · have hc' : csn (8 - (j + 1)) (cst x) = csn 8 u := by
            rw [← hc, show 8 - j = (8 - (j + 1)) + 1 by omega]; rfl
          have hlt2 := cst_lt hxl
          have HC := Lib.hid hc'
          clear hc hc'
          go_wp2_with (go_at_call 36; with_reducible refine (turned_any x _ hxl).mono ?_; rintro e w3 ⟨rfl, rfl⟩)
          go_roundw
          case rel => exact ⟨cst x, j + 1, rfl, by go_num, by omega, hlt2, HC.out, trivial⟩
          case measure => simp only []; omega
        · obtain rfl : j = 8 := by omega
          have hc2 : x = csn 8 u := hc
          rw [← hc2] at HS
          clear hc hc2
          go_wp2
          go_roundw
          case rel => exact ⟨k + 1, by rw [HS.out], by go_num, by omega, trivial⟩
          case measure => simp only []; omega
    · obtain rfl : k = s.size := by omega
      have e : (L s).take s.size = L s := List.take_of_length_le (Nat.le_refl _)
      rw [e]
      have hlt := crcR_lt (L s) (v := 4294967295) (by decide)
      have hx : bits .xor .i64 (crcR 4294967295 (L s) : Nat) 4294967295 = (crc (L s) : Nat) := i64_xor _ _ hlt (by decide)
      go_wp2
      go_ret
      exact ⟨rfl, rfl⟩
end Go.Proofs.Ytkdmicpfinjpgaa
