/- The reference of chapter 2: count, text, zone. -/
import Derived.Test.YtlcjpkbcnoibeabGreatDoorGa
import Derived.Test.YtlcjpkbcnoibeabGreatDoorDl
namespace Go.Proofs.YtlcjpkbcnoibeabGreatDoor
open Go.RowKit

theorem heap_new1 (w : World) (o : Obj) : (w.alloc o).heap[w.heap.size]? = some o := heap_alloc_new w o
theorem Own.lit1 (w : World) (b : UInt8) (c : Int) (hc : c = (b.toNat : Int)) : Own w.heap.size (.slice (some ⟨w.heap.size, 0, none⟩) 1 1) [b] w (w.alloc (.cells #[.int .u8 c] 5)) := by
  subst hc
  refine ⟨⟨rfl, .inr ⟨w.heap.size, 1, #[.int .u8 (b.toNat : Int)], rfl, Nat.le_refl _, heap_new1 w _, Nat.le_refl _, by unfold maxLen; omega, rfl, rfl⟩⟩, (Below.refl _ _).alloc (Nat.le_refl _) _, by simp⟩
def digs : Nat → Nat → List UInt8
  | 0, _ => []
  | j + 1, n => dg (n / 10 ^ j % 10) :: digs j n
theorem digs_len (j n : Nat) : (digs j n).length = j := by
  induction j with
  | zero => rfl
  | succ j ih => show (digs j n).length + 1 = j + 1; rw [ih]
theorem dg_nat (a : Nat) (h : a < 10) : ((dg a).toNat : Int) = 48 + (a : Int) := by
  have : (dg a).toNat = 48 + a := by unfold dg; simp; omega
  rw [this]; omega
def szOf : Value → Nat
  | .string b => b.size
  | _ => 0
set_option maxHeartbeats 2000000 in
theorem text_any (n least J : Nat) (w : World) (hn : n ≤ 1000000) (hJ : J ≤ 10) (h1 : n / 10 ^ J = 0) (h2 : least ≤ J) (h3 : ∀ j, j < J → 0 < n / 10 ^ j ∨ j < least) :
    Calls Tryz.prog 62 #[.int .i64 n, .int .i64 least] w fun e w' => e = .returned (.string (S (digs J n))) ∧ Below w.heap.size w w' := by
  go_enter Tryz.func62, Tryz.ntmps62
  go_wp2
  go_loopw [0, 5] (fun nv sv wr => ∃ j : Nat, j ≤ J ∧ nv = .int .i64 ((n / 10 ^ j : Nat) : Int) ∧ sv = .string (S (digs j n)) ∧ Below w.heap.size w wr) (fun _ sv _ => J - szOf sv)
  case atStart => exact ⟨0, Nat.zero_le _, by simp, rfl, Below.refl _ _⟩
  case round =>
    obtain ⟨j, hj, rfl, rfl, hb⟩ := hrel
    have hz : (S (digs j n)).size = j := digs_len j n
    by_cases hlt : j < J
    · have hc := h3 j hlt
      have HN : Hid (n / 10 ^ (j + 1) = n / 10 ^ j / 10) := Lib.hid (by rw [Nat.div_div_eq_div_mul, Nat.pow_succ])
      have HD : Hid (S (digs (j + 1) n) = S [dg (n / 10 ^ j % 10)] ++ S (digs j n)) := Lib.hid (by rw [S_app]; rfl)
      have hcc : 0 < n / 10 ^ j ∨ (n / 10 ^ j = 0 ∧ j < least) := by
        rcases Nat.eq_zero_or_pos (n / 10 ^ j) with h | h
        · refine .inr ⟨h, ?_⟩
          rcases hc with k | k
          · exact absurd k (by rw [h]; exact Nat.lt_irrefl 0)
          · exact k
        · exact .inl h
      rcases hcc with hc1 | ⟨hc1, hc2⟩
      · have ha : n / 10 ^ j ≤ 1000000 := Nat.le_trans (Nat.div_le_self _ _) hn
        generalize n / 10 ^ j = a at *
        have hcv := (Own.lit1 wr (dg (a % 10)) (48 + ((a % 10 : Nat) : Int)) (dg_nat (a % 10) (by omega)).symm).back
        have q1 : Int.tdiv (a : Int) 10 = ((a / 10 : Nat) : Int) := by rw [Int.tdiv_eq_ediv_of_nonneg (by omega)]; omega
        have q2 : Int.tmod (a : Int) 10 = ((a % 10 : Nat) : Int) := by rw [Int.tmod_eq_emod_of_nonneg (by omega)]; omega
        have b1 : a / 10 ≤ 1000000 := by omega
        have b2 : a % 10 ≤ 9 := by omega
        have z1 : (S [dg (a % 10)]).size = 1 := rfl
        have HB : Hid (Below w.heap.size w (wr.alloc (.cells #[.int .u8 (48 + ((a % 10 : Nat) : Int))] 5))) := Lib.hid (hb.alloc hb.size _)
        generalize S [dg (a % 10)] = bs at *
        generalize S (digs j n) = t at *
        generalize a / 10 = x at *
        generalize a % 10 = y at *
        clear h1 h3 hc
        go_wp2
        go_roundw
        case rel => exact ⟨j + 1, by omega, by rw [HN.out], by rw [HD.out], HB.out⟩
        case measure => simp [szOf]; omega
      · rw [hc1] at HN HD
        rw [show ((n / 10 ^ j : Nat) : Int) = 0 by rw [hc1]; rfl]
        have hcv := (Own.lit1 wr (dg 0) 48 rfl).back
        have z1 : (S [dg 0]).size = 1 := rfl
        have HB : Hid (Below w.heap.size w (wr.alloc (.cells #[.int .u8 48] 5))) := Lib.hid (hb.alloc hb.size _)
        change Hid (S (digs (j + 1) n) = S [dg 0] ++ S (digs j n)) at HD
        change Hid (n / 10 ^ (j + 1) = 0) at HN
        generalize S [dg 0] = bs at *
        generalize S (digs j n) = t at *
        clear h1 h3 hc hc1
        go_wp2
        go_roundw
        case rel => exact ⟨j + 1, by omega, by rw [HN.out]; rfl, by rw [HD.out], HB.out⟩
        case measure => simp [szOf]; omega
    · obtain rfl : j = J := by omega
      rw [h1]
      go_wp2
      go_ret
      exact ⟨rfl, hb⟩
end Go.Proofs.YtlcjpkbcnoibeabGreatDoor
