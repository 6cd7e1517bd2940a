/- The statement FrameTells: the walk. -/
import Derived.Test.YtllpejkfbgpobaaF10j
namespace Go.Proofs.Ytllpejkfbgpobaa
open Go.RowKit

/-- The bytes with the first so many of the four turned. -/
def turnTo (l : List UInt8) (i t : Nat) : Nat → List UInt8
  | 0 => l
  | k + 1 => (turnTo l i t k).set (i + k) (bt l (i + k) ^^^ u8 (t / 2 ^ (8 * k)))
theorem turnTo_length (l : List UInt8) (i t k : Nat) : (turnTo l i t k).length = l.length := by
  induction k with
  | zero => rfl
  | succ k ih => simp [turnTo, ih]
theorem turnTo_at (l : List UInt8) (i t k j : Nat) (h : i + k ≤ j) : bt (turnTo l i t k) j = bt l j := by
  induction k with
  | zero => rfl
  | succ k ih =>
    simp only [turnTo]
    by_cases hl : i + k < l.length
    · rw [bt_set _ _ _ _ (by rw [turnTo_length]; exact hl), if_neg (by omega), ih (by omega)]
    · rw [List.set_eq_of_length_le (by rw [turnTo_length]; omega), ih (by omega)]
theorem split4 (l : List UInt8) (i : Nat) (h : i + 4 ≤ l.length) : l = l.take i ++ [bt l i, bt l (i + 1), bt l (i + 2), bt l (i + 3)] ++ l.drop (i + 4) := by
  have e : (l.drop i).take 4 = [bt l i, bt l (i + 1), bt l (i + 2), bt l (i + 3)] := by
    apply List.ext_getElem
    · simp; omega
    · intro j h1 h2
      simp at h1
      have hj : j = 0 ∨ j = 1 ∨ j = 2 ∨ j = 3 := by omega
      have hg := bt_getElem l (i + j) (by omega)
      rw [List.getElem_take, List.getElem_drop, ← hg]
      rcases hj with rfl | rfl | rfl | rfl <;> rfl
  rw [← e, ← List.drop_drop, List.append_assoc, List.take_append_drop, List.take_append_drop]
theorem turn4 (l : List UInt8) (i t : Nat) (h : i + 4 ≤ l.length) : turnTo l i t 4 = l.take i ++ [bt l i ^^^ u8 (t / 2 ^ (8 * 0)), bt l (i + 1) ^^^ u8 (t / 2 ^ (8 * 1)), bt l (i + 2) ^^^ u8 (t / 2 ^ (8 * 2)), bt l (i + 3) ^^^ u8 (t / 2 ^ (8 * 3))] ++ l.drop (i + 4) := by
  simp only [turnTo, Nat.add_zero]
  generalize bt l i ^^^ u8 (t / 2 ^ (8 * 0)) = x0
  generalize bt l (i + 1) ^^^ u8 (t / 2 ^ (8 * 1)) = x1
  generalize bt l (i + 2) ^^^ u8 (t / 2 ^ (8 * 2)) = x2
  generalize bt l (i + 3) ^^^ u8 (t / 2 ^ (8 * 3)) = x3
  have hs := split4 l i h
  have ht : (l.take i).length = i := by simp; omega
  generalize l.drop (i + 4) = d at *
  generalize bt l i = y0 at *
  generalize bt l (i + 1) = y1 at *
  generalize bt l (i + 2) = y2 at *
  generalize bt l (i + 3) = y3 at *
  generalize l.take i = p at *
  subst hs ht
  simp
theorem tells (l : List UInt8) (i t : Nat) (h : i + 4 ≤ l.length) (h1 : 0 < t) (h2 : t < 4294967296) : crc l ≠ crc (turnTo l i t 4) := by
  have hs := split4 l i h
  rw [turn4 l i t h]
  conv => lhs; rw [hs]
  exact crc_burst _ _ _ _ _ _ h1 h2 (by rw [u8_toNat]; simp) (by rw [u8_toNat]) (by rw [u8_toNat]) (by rw [u8_toNat])
theorem cell_lt {w : World} {a : Addr} {v : Value} (h : w.cell? a = some v) : a.block < w.heap.size := by
  rcases Nat.lt_or_ge a.block w.heap.size with h1 | h1
  · exact h1
  · unfold World.cell? at h
    rw [Array.getElem?_eq_none h1] at h
    simp at h
theorem xor_u8 (b : UInt8) (m : Nat) (M : Int) (hM : M = ((m % 256 : Nat) : Int)) : bits .xor .u8 (b.toNat : Int) M = ((b ^^^ u8 m).toNat : Int) := by
  subst hM
  have := b.toNat_lt
  rw [u8_xor_nat _ _ (by omega) (by omega), UInt8.toNat_xor, u8_toNat]
set_option maxHeartbeats 2000000 in
theorem FrameTells_walk (s : ByteArray) (x t : Int) (w : World) (hs : s.size ≤ 140737488355328) (hx0 : -9223372036854775808 ≤ x) (hx1 : x ≤ 9223372036854775807) (ht0 : -9223372036854775808 ≤ t) (ht1 : t ≤ 9223372036854775807) :
    Calls Try.prog 3 #[.string s, .int .i64 x, .int .i64 t] w fun e w' => e = .returned (.bool true) ∧ Below w.heap.size w w' := by
  by_cases g1 : (4195304 : Int) < s.size
  · go_enter Try.func3, Try.ntmps3
    go_wp2
    go_ret
    exact ⟨rfl, Below.refl _ _⟩
  by_cases g2 : x < 0
  · go_enter Try.func3, Try.ntmps3
    go_wp2
    go_ret
    exact ⟨rfl, Below.refl _ _⟩
  by_cases g3 : (s.size : Int) - 4 < x
  · go_enter Try.func3, Try.ntmps3
    go_wp2
    go_ret
    exact ⟨rfl, Below.refl _ _⟩
  by_cases g4 : t < 1
  · go_enter Try.func3, Try.ntmps3
    go_wp2
    go_ret
    exact ⟨rfl, Below.refl _ _⟩
  by_cases g5 : (4294967295 : Int) < t
  · go_enter Try.func3, Try.ntmps3
    go_wp2
    go_ret
    exact ⟨rfl, Below.refl _ _⟩
  obtain ⟨i, rfl⟩ := Int.eq_ofNat_of_zero_le (Int.not_lt.1 g2)
  obtain ⟨n, rfl⟩ := Int.eq_ofNat_of_zero_le (show 0 ≤ t by omega)
  have hi : i + 4 ≤ s.size := by omega
  have hn1 : 0 < n := by omega
  have hn2 : n < 4294967296 := by omega
  have HTell := Lib.hid (tells (L s) i n hi hn1 hn2)
  have hconv := run_bytes_of_string (P := Try.prog) w 9 22 5 s Try.underlying9 Try.underlying22 Try.underlying5
  generalize grownCap w s.size 0 5 = cap at hconv
  have hr0 := rowIs_new w s cap ((bytesRow s cap).size, (bytesRow s cap).size + 1) 5
  have hf0 := rowFree_new w s cap 5
  have hb0 : Below w.heap.size w (w.alloc (.cells (bytesRow s cap) 5 ((bytesRow s cap).size, (bytesRow s cap).size + 1))) := (Below.refl _ _).alloc (Nat.le_refl _) _
  go_enter Try.func3, Try.ntmps3
  go_wp2
  go_loopw [8] (fun v wr => ∃ k : Nat, k ≤ 4 ∧ v = .int .i64 k ∧ rowIs wr w.heap.size (turnTo (L s) i n k) ∧ rowFree wr w.heap.size s.size ∧ Below w.heap.size w wr) (fun v _ => 4 - (intOf v).toNat)
  case atStart => exact ⟨0, Nat.zero_le _, rfl, hr0, hf0, hb0.drew⟩
  case round =>
    clear hconv hr0 hf0 hb0
    obtain ⟨k, hk, rfl, hr, hf, hb⟩ := hrel
    by_cases hlt : k < 4
    · have hin : i + k < s.size := by omega
      have hc := hr (i + k) (by rw [turnTo_length, L_length]; exact hin)
      rw [turnTo_at _ _ _ _ _ (Nat.le_refl _)] at hc
      have hfz := hf (i + k) hin
      have R := rowIs_set hr (i + k) (by rw [turnTo_length, L_length]; exact hin) (bt (L s) (i + k) ^^^ u8 (n / 2 ^ (8 * k)))
      have c0 := bt_lt (L s) (i + k)
      have HF := Lib.hid hf
      have HB := Lib.hid hb
      have HR := Lib.hid R
      clear R hr hf hb
      have hc' : wr.drew.cell? ⟨w.heap.size, i + k, none⟩ = some (.int .u8 ((bt (L s) (i + k)).toNat : Int)) := hc
      have hfz' : wr.drew.frozen? ⟨w.heap.size, i + k, none⟩ = false := hfz
      have hk4 : k = 0 ∨ k = 1 ∨ k = 2 ∨ k = 3 := by omega
      rcases hk4 with rfl | rfl | rfl | rfl
      · simp only [Nat.add_zero] at hc hfz hc' hfz'
        go_wp2
        go_region
        go_wp2
        go_roundw
        case rel => exact ⟨1, by omega, rfl, HR.out _ (xor_u8 _ _ _ (by omega)), fun j hj => by rw [World.frozen?_drew, World.frozen?_setCell]; exact HF.out j hj, (HB.out.setCell (Nat.le_refl _) _).drew⟩
        case measure => simp [intOf]
      · go_wp2
        go_region
        go_wp2
        go_roundw
        case rel => exact ⟨2, by omega, rfl, HR.out _ (xor_u8 _ _ _ (by omega)), fun j hj => by rw [World.frozen?_drew, World.frozen?_setCell]; exact HF.out j hj, (HB.out.setCell (Nat.le_refl _) _).drew⟩
        case measure => simp [intOf]
      · go_wp2
        go_region
        go_wp2
        go_roundw
        case rel => exact ⟨3, by omega, rfl, HR.out _ (xor_u8 _ _ _ (by omega)), fun j hj => by rw [World.frozen?_drew, World.frozen?_setCell]; exact HF.out j hj, (HB.out.setCell (Nat.le_refl _) _).drew⟩
        case measure => simp [intOf]
      · go_wp2
        go_region
        go_wp2
        go_roundw
        case rel => exact ⟨4, by omega, rfl, HR.out _ (xor_u8 _ _ _ (by omega)), fun j hj => by rw [World.frozen?_drew, World.frozen?_setCell]; exact HF.out j hj, (HB.out.setCell (Nat.le_refl _) _).drew⟩
        case measure => simp [intOf]
    · obtain rfl : k = 4 := by omega
      have hcv := back_row (P := Try.prog) wr 22 9 5 w.heap.size s.size cap (turnTo (L s) i n 4) (by rw [turnTo_length, L_length]) Try.underlying22 Try.underlying5 Try.underlying9 hr
      have hzz : (S (turnTo (L s) i n 4)).size = s.size := by rw [S_size, turnTo_length, L_length]
      have HR := Lib.hid hr
      have HB := Lib.hid hb
      clear hr hf hb
      go_wp2_with fail
      refine (Sum_any s _ hs).mono ?_
      rintro e w2 ⟨rfl, hb2⟩
      have hcv2 := back_row (P := Try.prog) w2 22 9 5 w.heap.size s.size cap (turnTo (L s) i n 4) (by rw [turnTo_length, L_length]) Try.underlying22 Try.underlying5 Try.underlying9 (fun j hj => by
        have q := HR.out j hj
        rw [hb2.cell (cell_lt q)]
        exact q)
      have HB2 := Lib.hid (HB.out.trans (hb2.mono HB.out.size))
      clear hcv hb2
      go_wp2_with fail
      refine (Sum_any (S (turnTo (L s) i n 4)) _ (by rw [hzz]; exact hs)).mono ?_
      rintro e w3 ⟨rfl, hb3⟩
      rw [L_S]
      have HB3 := Lib.hid (HB2.out.trans (hb3.mono HB2.out.size))
      have c1 := crc_lt (L s)
      have c2 := crc_lt (turnTo (L s) i n 4)
      have HNE : Hid (¬ ((crc (L s) : Nat) : Int) = ((crc (turnTo (L s) i n 4) : Nat) : Int)) := Lib.hid (fun h => HTell.out (by omega))
      clear hcv2 hb3
      generalize crc (L s) = a at *
      generalize crc (turnTo (L s) i n 4) = b at *
      go_wp2_with fail
      refine (known_any _).mono ?_
      rintro e w4 ⟨rfl, hb4⟩
      go_wp2_with fail
      go_ret
      exact ⟨ret_bool (by simpa using HNE.out), HB3.out.trans (hb4.mono HB3.out.size)⟩
end Go.Proofs.Ytllpejkfbgpobaa
