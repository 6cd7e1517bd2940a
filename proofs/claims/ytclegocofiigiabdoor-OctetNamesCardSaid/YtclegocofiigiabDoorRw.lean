/- postbagref1: run. -/
import Derived.Test.YtclegocofiigiabDoorRu
namespace Go.Proofs.YtclegocofiigiabDoor
open Go.RowKit Go.Shelf

theorem take_snocN (l : List Nat) (k : Nat) (h : k < l.length) : l.take (k + 1) = l.take k ++ [l[k]?.getD 0] := by
  rw [List.take_add_one, List.getElem?_eq_getElem h]; rfl
theorem pairs_len2 (rs : List Nat) : (rs.flatMap pairOf).length ≤ 4 * rs.length := by
  induction rs with
  | nil => simp
  | cons r rs ih =>
    rw [List.flatMap_cons, List.length_append, List.length_cons]
    have := pairOf_len r
    omega

set_option maxHeartbeats 1000000 in
theorem run_any (g off cap : Nat) (rs : List Nat) (w : World) (hsc : ∀ r ∈ rs, sc r) (hn : rs.length ≤ 1000) (h0 : rs ≠ []) (hg : g < w.heap.size)
    (hc : ∀ j, j < rs.length → w.cell? ⟨g, off + j, none⟩ = some (.int .i64 ((rs[j]?.getD 0 : Nat) : Int))) :
    Calls Tryd.prog 67 #[.slice (some ⟨g, off, none⟩) rs.length cap] w fun e w' => e = .returned (.string (S (runS rs))) ∧ Below w.heap.size w w' := by
  have HR : Hid (runS rs = 38 :: ((pack (rs.flatMap pairOf) mailL).map slc ++ [45])) := Lib.hid (by unfold runS; rw [if_neg h0, pack_slc])
  have hpl := pk_len_le (rs.flatMap pairOf) mailL
  have hpr := pairs_len2 rs
  have HC := Lib.hid hc
  have HS := Lib.hid hsc
  have kb := fun (W : World) (x : ByteArray) => run_bytes_of_string (P := Tryd.prog) W 9 44 5 x Tryd.underlying9 Tryd.underlying44 Tryd.underlying5
  clear hc hsc h0
  go_enter Tryd.func67, Tryd.ntmps67
  go_wp2
  go_loopw [3, 4] (fun v i wr => ∃ k : Nat, k ≤ rs.length ∧ i = .int .i64 k ∧ Own w.heap.size v ((rs.take k).flatMap pairOf) w wr) (fun _ i _ => rs.length - (intOf i).toNat)
  case atStart => exact ⟨0, Nat.zero_le _, rfl, Own.nil (Below.refl _ _) (Nat.le_refl _)⟩
  case round =>
    obtain ⟨k, hk, rfl, hown⟩ := hrel
    by_cases hlt : k < rs.length
    · have hcw := (hown.below.cell (p := ⟨g, off + k, none⟩) hg).trans (HC.out k hlt)
      have hr : rs[k]?.getD 0 ≤ 1114111 := by
        rw [List.getElem?_eq_getElem hlt]
        exact sc_lt _ (HS.out _ (List.getElem_mem hlt))
      have HE : Hid ((rs.take (k + 1)).flatMap pairOf = (rs.take k).flatMap pairOf ++ pairOf (rs[k]?.getD 0)) := Lib.hid (by rw [take_snocN rs k hlt]; simp)
      have hol := pairs_len2 (rs.take k)
      rw [List.length_take] at hol
      generalize rs[k]?.getD 0 = r at *
      have hU := Lib.hid (fun W => units_any (r : Int) r W rfl hr)
      have hp4 := pairOf_len r
      have hlen : ((rs.take k).flatMap pairOf).length + (pairOf r).length ≤ 140737488355328 := by omega
      clear hpl hpr hol hp4 hr kb
      generalize (rs.take k).flatMap pairOf = o at *
      go_wp2_with (first | (go_at_call 77; refine (hU.out _).mono ?_; rintro e w2 ⟨v2, rfl, ho2⟩) | (at_builtin; go_loud (refine appR rfl _ _ rfl (hown.on ho2.below) ho2 rfl rfl hlen ?_; intro v3 w3 hown3)))
      go_roundw
      case rel => exact ⟨k + 1, by omega, by go_num, by rw [HE.out]; exact hown3⟩
      case measure => simp [intOf]; omega
    · rw [List.take_of_length_le (by omega)] at hown
      clear HC HS
      generalize rs.flatMap pairOf = x at *
      have hcv := hown.back
      have hP := Lib.hid (fun W => plain_any (S x) W (by rw [S_size]; omega))
      rw [L_S] at hP
      generalize pack x mailL = p at *
      go_wp2_with (go_at_call 46; refine (hP.out _).mono ?_; rintro e w1 ⟨rfl, hb1⟩)
      clear hcv hP kb
      have hb2 := hown.below.trans (hb1.mono hown.base)
      have hbase : w.heap.size ≤ w1.heap.size := Nat.le_trans hown.base hb1.size
      have hps : (S p).size = p.length := S_size p
      have HS0 := Lib.hid (RowB.startD w1 p (grownCap w1 (S p).size 0 5))
      generalize grownCap w1 (S p).size 0 5 = cp at *
      obtain ⟨w4, hw4⟩ : ∃ w4, w4 = (w1.alloc (.cells (bytesRow (S p) cp) 5 ((bytesRow (S p) cp).size, (bytesRow (S p) cp).size + 1))).drew := ⟨_, rfl⟩
      have hb4 : Below w.heap.size w w4 := by rw [hw4]; exact (hb2.alloc hbase _).drew
      rw [← hw4] at HS0 ⊢
      clear hw4
      go_loopw [6] (fun i wr => ∃ k : Nat, k ≤ p.length ∧ i = .int .i64 k ∧ RowB w1.heap.size (mid slc p k) wr ∧ Below w.heap.size w wr) (fun i _ => p.length - (intOf i).toNat)
      case atStart => exact ⟨0, Nat.zero_le _, rfl, HS0.out, hb4⟩
      case round =>
        clear hown hb4 HS0
        obtain ⟨k, hk, rfl, hrow, hbw⟩ := hrel
        by_cases hlt : k < p.length
        · have hcell := hrow.cell k (by rw [mid_len]; exact hlt)
          rw [mid_bt slc p k hlt] at hcell
          have c0 := bt_lt p k
          by_cases h47 : bt p k = 47
          · have hq : ((bt p k).toNat : Int) = 47 := by rw [h47]; rfl
            have hfz := hrow.frozen k (by rw [mid_len]; exact hlt)
            have HN : Hid (RowB w1.heap.size (mid slc p (k + 1)) (wr.setCell ⟨w1.heap.size, k, none⟩ (.int .u8 44))) := Lib.hid (by
              rw [← mid_set slc p k hlt, h47]
              exact hrow.set k 44 (by rw [mid_len]; exact hlt) 44 rfl)
            clear h47
            go_wp2
            go_roundw
            case rel => exact ⟨k + 1, by omega, by go_num, HN.out, hbw.setCell hbase _⟩
            case measure => simp [intOf]; omega
          · have hq : (((bt p k).toNat : Int) == 47) = false := by
              rw [beq_eq_false_iff_ne]; intro e; apply h47
              apply UInt8.toNat_inj.1
              have : (47 : UInt8).toNat = 47 := rfl
              omega
            have HN : Hid (RowB w1.heap.size (mid slc p (k + 1)) wr) := Lib.hid (by
              rw [mid_same slc p k hlt (by unfold slc; rw [if_neg h47])]
              exact hrow)
            clear h47
            go_wp2
            go_roundw
            case rel => exact ⟨k + 1, by omega, by go_num, HN.out, hbw⟩
            case measure => simp [intOf]; omega
        · have hcv := hrow.back cp
          rw [mid_len, mid_end slc p k (by omega)] at hcv
          have hml : (p.map slc).length = p.length := List.length_map _
          generalize p.map slc = m at *
          have hms : (S m).size = m.length := S_size m
          have hk1 : ⟨#[38]⟩ ++ S m = S (38 :: m) := S_append [38] m
          have hk2 : S (38 :: m) ++ ⟨#[45]⟩ = S ((38 :: m) ++ [45]) := S_append _ _
          have hs2 : (S (38 :: m)).size = m.length + 1 := S_size _
          have hc1 : ¬ 9223372036854775807 < 1 + (S m).size := by omega
          have hc2 : ¬ 9223372036854775807 < (S (38 :: m)).size + 1 := by omega
          go_wp2
          go_ret
          exact ⟨ret_str (by rw [HR.out]), hbw⟩
end Go.Proofs.YtclegocofiigiabDoor
