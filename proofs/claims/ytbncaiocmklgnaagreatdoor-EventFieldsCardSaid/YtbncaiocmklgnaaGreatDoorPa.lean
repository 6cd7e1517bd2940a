/- octet: small, Lower. -/
import Derived.Test.YtbncaiocmklgnaaGreatDoorRows
import Derived.Test.YtbncaiocmklgnaaGreatDoorPu
namespace Go.Proofs.YtbncaiocmklgnaaGreatDoor
open Go.RowKit

set_option maxHeartbeats 400000 in
theorem small_any (c : Int) (w : World) (h0 : 0 ≤ c) (h1 : c ≤ 255) :
    Calls Tryz.prog 43 #[.int .u8 c] w fun e w' => e = .returned (.int .u8 (smI c)) ∧ w' = w := by
  by_cases h : 65 ≤ c
  · by_cases h' : c ≤ 90
    · have e : smI c = c + 32 := by unfold smI; rw [if_pos ⟨h, h'⟩]
      rw [e]; clear e
      go_enter Tryz.func43, Tryz.ntmps43
      go_wp2
      go_ret
      exact ⟨rfl, rfl⟩
    · have e : smI c = c := by unfold smI; rw [if_neg (by omega)]
      rw [e]; clear e
      go_enter Tryz.func43, Tryz.ntmps43
      go_wp2
      go_ret
      exact ⟨rfl, rfl⟩
  · have e : smI c = c := by unfold smI; rw [if_neg (by omega)]
    rw [e]; clear e
    go_enter Tryz.func43, Tryz.ntmps43
    go_wp2
    go_ret
    exact ⟨rfl, rfl⟩

set_option maxHeartbeats 400000 in
theorem Lower_any (s : ByteArray) (w : World) (hs : s.size ≤ maxLen) :
    Calls Tryz.prog 23 #[.string s] w fun e w' => e = .returned (.string (S (lower (L s)))) ∧ Below w.heap.size w w' := by
  unfold maxLen at hs
  have hconv := run_bytes_of_string (P := Tryz.prog) w 9 58 5 s Tryz.underlying9 Tryz.underlying58 Tryz.underlying5
  generalize grownCap w s.size 0 5 = cap at hconv
  have hr0 := rowIs_new w s cap ((bytesRow s cap).size, (bytesRow s cap).size + 1) 5
  have hf0 := rowFree_new w s cap 5
  have hb0 : Below w.heap.size w (w.alloc (.cells (bytesRow s cap) 5 ((bytesRow s cap).size, (bytesRow s cap).size + 1))) := (Below.refl _ _).alloc (Nat.le_refl _) _
  go_enter Tryz.func23, Tryz.ntmps23
  go_wp2
  go_loopw [10] (fun i wr => ∃ k : Nat, k ≤ s.size ∧ i = .int .i64 k ∧ rowIs wr w.heap.size (lowTo (L s) k) ∧ rowFree wr w.heap.size s.size ∧ Below w.heap.size w wr) (fun i _ => s.size - (intOf i).toNat)
  case atStart => exact ⟨0, Nat.zero_le _, rfl, hr0, hf0, hb0.drew⟩
  case round =>
    clear hconv hr0 hf0 hb0
    obtain ⟨k, hk, rfl, hr, hf, hb⟩ := hrel
    by_cases hlt : k < s.size
    · have hc := hr k (by rw [lowTo_length]; exact hlt)
      rw [lowTo_at (L s) k hlt] at hc
      have hfz := hf k hlt
      have c0 : (bt (L s) k).toNat < 256 := bt_lt _ _
      have R := rowIs_set hr k (by rw [lowTo_length]; exact hlt) (sm (bt (L s) k)) _ (sm_toNat _).symm
      rw [← lowTo_succ (L s) k hlt] at R
      have HR := Lib.hid R
      have HF := Lib.hid hf
      clear R hr hf
      go_wp2_with (go_at_call 43; refine (small_any _ _ (by omega) (by omega)).mono ?_; rintro e w' ⟨rfl, rfl⟩)
      go_roundw
      case rel => exact ⟨k + 1, by omega, by go_num, HR.out, fun j hj => by rw [World.frozen?_setCell]; exact HF.out j hj, hb.setCell (Nat.le_refl _) _⟩
      case measure => simp [intOf]; omega
    · rw [lowTo_all (L s) k (by rw [L_length]; omega)] at hr
      have hcv := back_row (P := Tryz.prog) wr 58 9 5 w.heap.size s.size cap (lower (L s)) (by simp [lower, L_length]) Tryz.underlying58 Tryz.underlying5 Tryz.underlying9 hr
      go_wp2
      go_ret
      exact ⟨rfl, hb⟩

end Go.Proofs.YtbncaiocmklgnaaGreatDoor
