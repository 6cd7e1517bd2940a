/- frame: divided, newTable, the sum. -/
import Derived.Test.YtkdmicpfinjpgaaRows
import Derived.Test.YtkdmicpfinjpgaaF10b
import Derived.Laws.AppendOwn
import Derived.Laws.BitsAllLaws
import Derived.Deep.LoopGhost
import Derived.Deep.RegionHeld3
import Derived.Deep.RegionWith
import Derived.Deep.WholeRow
import Derived.Below
namespace Go.Proofs.Ytkdmicpfinjpgaa
open Go.RowKit

theorem i64_xor (a b : Nat) (ha : a < 4294967296) (hb : b < 4294967296) : bits .xor .i64 (a : Int) (b : Int) = ((a ^^^ b : Nat) : Int) := by
  have hx : a ^^^ b < 2 ^ 32 := Nat.xor_lt_two_pow (by omega) (by omega)
  have h1 : (BitVec.ofInt 64 (a : Int)).toNat = a := by
    rw [BitVec.ofInt_natCast, BitVec.toNat_ofNat]; exact Nat.mod_eq_of_lt (by omega)
  have h2 : (BitVec.ofInt 64 (b : Int)).toNat = b := by
    rw [BitVec.ofInt_natCast, BitVec.toNat_ofNat]; exact Nat.mod_eq_of_lt (by omega)
  show IntKind.i64.wrap ((BitVec.ofInt 64 (a : Int) ^^^ BitVec.ofInt 64 (b : Int)).toNat : Int) = _
  rw [BitVec.toNat_xor, h1, h2, IntKind.wrap_i64]
  omega
theorem i64_or (a b : Nat) (ha : a < 4294967296) (hb : b < 4294967296) : bits .or .i64 (a : Int) (b : Int) = ((a ||| b : Nat) : Int) := by
  have hx : a ||| b < 2 ^ 32 := Nat.or_lt_two_pow (by omega) (by omega)
  have h1 : (BitVec.ofInt 64 (a : Int)).toNat = a := by
    rw [BitVec.ofInt_natCast, BitVec.toNat_ofNat]; exact Nat.mod_eq_of_lt (by omega)
  have h2 : (BitVec.ofInt 64 (b : Int)).toNat = b := by
    rw [BitVec.ofInt_natCast, BitVec.toNat_ofNat]; exact Nat.mod_eq_of_lt (by omega)
  show IntKind.i64.wrap ((BitVec.ofInt 64 (a : Int) ||| BitVec.ofInt 64 (b : Int)).toNat : Int) = _
  rw [BitVec.toNat_or, h1, h2, IntKind.wrap_i64]
  omega
theorem u32_low (u : Nat) (hu : u < 4294967296) : bits .and .u32 (u : Int) 1 = ((u % 2 : Nat) : Int) := by
  have := u32_and_nat u 1 hu (by decide)
  rw [show ((1 : Nat) : Int) = 1 from rfl] at this
  rw [this, Nat.and_one_is_mod]

set_option maxHeartbeats 400000 in
theorem divided_any (v : Nat) (w : World) (hv : v < 4294967296) :
    Calls Try.prog 31 #[.int .u32 (v : Int)] w fun e w' => e = .returned (.int .u32 (csn 8 v : Nat)) ∧ w' = w := by
  go_enter Try.func31, Try.ntmps31
  go_wp2
  go_loopw [0, 3] (fun r i wr => ∃ (u k : Nat), r = .int .u32 (u : Int) ∧ i = .int .i64 (k : Int) ∧ k ≤ 8 ∧ u < 4294967296 ∧ csn (8 - k) u = csn 8 v ∧ wr = w) (fun _ i _ => match i with | .int _ k => (8 - k).toNat | _ => 0)
  case atStart => exact ⟨v, 0, rfl, rfl, by omega, hv, rfl, rfl⟩
  case round =>
    obtain ⟨u, k, rfl, rfl, hk, hu, hc, rfl⟩ := hrel
    by_cases hd : k < 8
    · have hc' : csn (8 - (k + 1)) (cst u) = csn 8 v := by
        rw [← hc, show 8 - k = (8 - (k + 1)) + 1 by omega]; rfl
      have hl := u32_low u hu
      have hlt := cst_lt hu
      have HC := Lib.hid hc'
      have HL := Lib.hid hlt
      clear hc hc' hlt
      rcases Nat.mod_two_eq_zero_or_one u with hm | hm
      · have hb : (bits .and .u32 (u : Int) 1 == 1) = false := by rw [hl, hm]; rfl
        have he : cst u = u / 2 := by unfold cst; rw [if_neg (by omega)]
        have HE := Lib.hid he
        clear hl he
        go_wp2
        go_roundw
        case rel => exact ⟨cst u, k + 1, by rw [HE.out]; rfl, rfl, by omega, HL.out, HC.out, trivial⟩
        case measure => simp only []; omega
      · have hb : (bits .and .u32 (u : Int) 1 == 1) = true := by rw [hl, hm]; rfl
        have he : ((cst u : Nat) : Int) = bits .xor .u32 ((u : Int) / 2) 3988292384 := by
          have := u32_xor_nat (u / 2) 3988292384 (by omega) (by decide)
          unfold cst; rw [if_pos hm, ← this]; rfl
        have HE := Lib.hid he
        clear hl he
        go_wp2
        go_roundw
        case rel => exact ⟨cst u, k + 1, by rw [HE.out], rfl, by omega, HL.out, HC.out, trivial⟩
        case measure => simp only []; omega
    · obtain rfl : k = 8 := by omega
      go_wp2
      go_ret
      exact ⟨by rw [← hc]; rfl, rfl⟩
/-- The table's cells: the first so many made, the others zero. -/
def tabC (k : Nat) : Array Value := (Array.range 256).map fun i => if i < k then .int .u32 (csn 8 i : Nat) else .int .u32 0
theorem tabC_size (k : Nat) : (tabC k).size = 256 := by simp [tabC]
theorem tabC_at {k i : Nat} (h : i < 256) : (tabC k)[i]? = some (if i < k then .int .u32 (csn 8 i : Nat) else .int .u32 0) := by simp [tabC, h]
theorem tabC_set {k : Nat} (h : k < 256) : (tabC k).setIfInBounds k (.int .u32 (csn 8 k : Nat)) = tabC (k + 1) := by
  apply Array.ext_getElem?
  intro i
  by_cases hi : i < 256
  · rw [tabC_at hi, Array.getElem?_setIfInBounds, tabC_size]
    by_cases e : k = i
    · subst e; simp [h]
    · rw [if_neg e, tabC_at hi]
      by_cases h1 : i < k
      · rw [if_pos h1, if_pos (by omega)]
      · rw [if_neg h1, if_neg (by omega)]
  · rw [Array.getElem?_eq_none (by simp [tabC_size]; omega), Array.getElem?_eq_none (by rw [tabC_size]; omega)]
theorem tab_info : (Try.prog.info? 54).map (fun i => (i.zero, i.size)) = some (some (.agg (tabC 0)), 256) := by kernel_rfl
theorem tab_under : Try.prog.underlying 54 = some (.array 256 52) := by kernel_rfl
theorem tab_one (k : Nat) : (tabC k).all (·.oneCell') = true := by
  rw [Array.all_eq_true]
  intro i hi
  simp only [tabC, Array.getElem_map, Array.getElem_range]
  split <;> rfl
theorem setRow_alloc_old (w : World) (c c' d : Array Value) (t u : TypeId) : ((w.alloc (.cells c t)).alloc (.cells d u)).setRow w.heap.size c' = (w.alloc (.cells c' t)).alloc (.cells d u) := by
  simp only [World.setRow, World.alloc]
  congr 1
  apply Array.ext_getElem?
  intro i
  rw [Array.getElem?_modify]
  by_cases h : w.heap.size = i
  · subst h
    simp [Array.getElem?_push]
  · have h' : ¬ i = w.heap.size := fun e => h e.symm
    simp [h, h', Array.getElem?_push]
theorem heap_alloc_two (w : World) (o p : Obj) : ((w.alloc o).alloc p).heap[w.heap.size]? = some o := by
  show ((w.heap.push o).push p)[w.heap.size]? = some o
  simp [Array.getElem?_push]
set_option maxHeartbeats 1000000 in
set_option maxRecDepth 100000 in
theorem newTable_any (w : World) :
    Calls Try.prog 20 #[] w fun e w' => e = .returned (.agg (tabC 256)) ∧ w' = (w.alloc (.cells (tabC 256) 54)).alloc (.cells (tabC 256) 54) := by
  obtain ⟨hz, hi⟩ := zero_of_info (P := Try.prog) tab_info
  go_enter Try.func20, Try.ntmps20
  go_wp2
  clear hz
  have HI := Lib.hid hi
  clear hi
  obtain ⟨w1, hw1⟩ : ∃ w1, w1 = w.alloc (.cells (tabC 0) 54) := ⟨_, rfl⟩
  have hb1 : w.heap.size + 1 = w1.heap.size := by rw [hw1]; simp
  rw [hb1, ← hw1]
  have HW1 := Lib.hid hw1
  clear hb1 hw1
  go_loopw [3] (fun i wr => ∃ (k : Nat), i = .int .i64 (k : Int) ∧ k ≤ 256 ∧ wr = w1.alloc (.cells (tabC k) 54)) (fun i _ => match i with | .int _ k => (256 - k).toNat | _ => 0)
  case atStart => exact ⟨0, rfl, by omega, rfl⟩
  case round =>
    obtain ⟨k, rfl, hk, rfl⟩ := hrel
    by_cases hd : k < 256
    · have hcv : IntKind.u32.wrap (k : Int) = k := by rw [IntKind.wrap_u32']; omega
      have hs := tabC_set hd
      have hg := tabC_size k
      go_wp2_with fail
      refine (divided_any k _ (by omega)).mono ?_
      rintro e w2 ⟨rfl, rfl⟩
      go_wp2_with fail
      go_roundw
      case rel => exact ⟨k + 1, rfl, by omega, rfl⟩
      case measure => simp only []; omega
    · obtain rfl : k = 256 := by omega
      have hT1 := tabC_size 256
      have hT2 := tab_one 256
      have HT1 := Lib.hid hT1
      have HT2 := Lib.hid hT2
      clear hT1 hT2
      generalize hT : tabC 256 = T at *
      have HT := Lib.hid hT
      clear hT
      go_wp2
      rename_i K0 hK0
      have hTi : (Try.prog.info? 54).map (·.size) = some T.size := by rw [HI.out, HT1.out]
      refine wp_load_row 54 (.tmp 1) rfl w1.heap.size rfl 54 T (0, 0) _ (heap_alloc_last w1 _) tab_under rfl hTi (hK0 _ _ ?_)
      have HTi := Lib.hid hTi
      clear hTi
      have hw1 := HW1.out
      subst hw1
      refine wpList_plain rfl fun K2 hK2 => ?_
      refine wp_store_row 54 (.tmp 0) (.tmp 12) rfl w.heap.size T rfl rfl 54 (tabC 0) (heap_alloc_two w _ _) HTi.out (by rw [tabC_size, HT1.out]) HT2.out (hK2 _ _ ?_)
      rw [setRow_alloc_old]
      go_wp2
      refine bodyPost_ret (results_cell_row rfl _ _ w.heap.size 54 T (0, 0) _ rfl (heap_alloc_two w _ _) tab_under rfl HTi.out) rfl ?_
      rw [HT.out]
      exact ⟨rfl, rfl⟩
end Go.Proofs.Ytkdmicpfinjpgaa
