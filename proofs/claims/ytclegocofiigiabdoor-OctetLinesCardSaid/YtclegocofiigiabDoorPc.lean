/- octet: worths. -/
import Derived.Test.YtclegocofiigiabDoorPb
import Derived.Great.BuildSlice
import Derived.Laws.CopyOwn
namespace Go.Proofs.YtclegocofiigiabDoor
open Go.RowKit

/-- The last place at which a letter stands, or -1. -/
def worthTo (l : List UInt8) : Nat → Nat → Int
  | 0, _ => -1
  | k + 1, c => if (bt l k).toNat = c then (k : Int) else worthTo l k c
def worthOf (l : List UInt8) (c : Nat) : Int := worthTo l l.length c

def tabHas (cs : Array Value) (f : Nat → Int) : Prop := cs.size = 256 ∧ ∀ j, j < 256 → cs[j]? = some (.int .i8 (f j))
theorem tabHas_set {cs : Array Value} {f : Nat → Int} (h : tabHas cs f) (k : Nat) (x : Int) : tabHas (cs.setIfInBounds k (.int .i8 x)) (fun j => if k = j then x else f j) := by
  refine ⟨by simp [h.1], fun j hj => ?_⟩
  rw [Array.getElem?_setIfInBounds]
  by_cases e : k = j
  · subst e; simp [h.1, hj]
  · simp [e, h.2 j hj]
theorem tabHas_congr {cs : Array Value} {f g : Nat → Int} (h : tabHas cs f) (e : ∀ j, j < 256 → f j = g j) : tabHas cs g := ⟨h.1, fun j hj => by rw [← e j hj]; exact h.2 j hj⟩
theorem tabHas_one {cs : Array Value} {f : Nat → Int} (h : tabHas cs f) : cs.all (·.oneCell') = true := by
  rw [Array.all_eq_true]
  intro i hi
  have := h.2 i (by have := h.1; omega)
  rw [Array.getElem?_eq_getElem hi] at this
  rw [Option.some.inj this]
  rfl
theorem tabHas_zeros : tabHas Tryd.zeroCells66 (fun _ => 0) := by
  have h : Tryd.zeroCells66 = Array.replicate 256 (.int .i8 0) := by kernel_rfl
  rw [h]
  exact ⟨by simp, fun j hj => by simp [hj]⟩
theorem Tryd.sizeTab : (Tryd.prog.info? 66).map (·.size) = some 256 := by kernel_rfl

set_option maxHeartbeats 400000 in
set_option maxRecDepth 100000 in
theorem worths_any (s : ByteArray) (w : World) (hs : s.size ≤ 128) :
    Calls Tryd.prog 66 #[.string s] w fun e w' => ∃ cs, tabHas cs (worthOf (L s)) ∧ e = .returned (.agg cs) ∧ Below w.heap.size w w' := by
  have g0 := heap_alloc2_old w (.cells Tryd.zeroCells66 66) (.cells Tryd.zeroCells66 66)
  have g1 := heap_alloc2_new w (.cells Tryd.zeroCells66 66) (.cells Tryd.zeroCells66 66)
  have G0 := Lib.hid g0
  have G1 := Lib.hid g1
  clear g0 g1
  go_enter Tryd.func66, Tryd.ntmps66
  go_wp2
  go_loopw [6] (fun i wr => ∃ k : Nat, k ≤ 256 ∧ i = .int .i64 k ∧ wr.heap[w.heap.size]? = some (.cells Tryd.zeroCells66 66 (0, 0)) ∧ (∃ cs, wr.heap[w.heap.size + 1]? = some (.cells cs 66 (0, 0)) ∧ tabHas cs (fun j => if j < k then -1 else 0)) ∧ Below w.heap.size w wr) (fun i _ => 256 - (intOf i).toNat)
  case atStart => exact ⟨0, Nat.zero_le _, rfl, G0.out, ⟨_, G1.out, tabHas_congr tabHas_zeros (fun j _ => by simp)⟩, ((Below.refl _ _).alloc (Nat.le_refl _) _).alloc (by simp) _⟩
  case round =>
    clear G0 G1
    obtain ⟨k, hk, rfl, hz, ⟨cs, hcs, ht⟩, hb⟩ := hrel
    by_cases hlt : k < 256
    · have hc : wr.cell? ⟨w.heap.size + 1, k, none⟩ = some (.int .i8 (if k < k then -1 else 0)) := by rw [cell_of_row wr _ k cs _ _ hcs]; exact ht.2 k hlt
      have hfz := frozen_of_row wr _ k cs _ hcs
      have R1 := Lib.hid (heap_setCell_same wr (w.heap.size + 1) k cs 66 (.int .i8 (-1)) hcs)
      have R0 := Lib.hid ((heap_setCell_other wr ⟨w.heap.size + 1, k, none⟩ w.heap.size (.int .i8 (-1)) (by simp)).trans hz)
      have T1 := tabHas_congr (tabHas_set ht k (-1)) (g := fun j => if j < k + 1 then -1 else 0) (fun j _ => by
        by_cases e : k = j
        · subst e; simp
        · have : (j < k + 1) ↔ j < k := by omega
          simp only [if_neg e, this])
      have HT := Lib.hid T1
      clear T1 hz hcs ht
      go_wp2
      go_roundw
      case rel => exact ⟨k + 1, by omega, by go_num, R0.out, ⟨_, R1.out, HT.out⟩, hb.setCell (by simp) _⟩
      case measure => simp [intOf]; omega
    · have T0 := tabHas_congr ht (g := worthTo (L s) 0) (fun j hj => by have : j < k := by omega
                                                                        simp [this, worthTo])
      clear ht
      have HZ := Lib.hid hz
      have HC := Lib.hid hcs
      clear hz hcs
      go_wp2
      go_loopw [14] (fun i wr => ∃ k : Nat, k ≤ s.size ∧ i = .int .i64 k ∧ wr.heap[w.heap.size]? = some (.cells Tryd.zeroCells66 66 (0, 0)) ∧ (∃ cs, wr.heap[w.heap.size + 1]? = some (.cells cs 66 (0, 0)) ∧ tabHas cs (worthTo (L s) k)) ∧ Below w.heap.size w wr) (fun i _ => s.size - (intOf i).toNat)
      case atStart => exact ⟨0, Nat.zero_le _, rfl, HZ.out, ⟨_, HC.out, T0⟩, hb⟩
      case round =>
        clear HZ HC T0 hb
        obtain ⟨k, hk, rfl, hz, ⟨cs, hcs, ht⟩, hb⟩ := hrel
        by_cases hlt : k < s.size
        · have ea := get_bt s k hlt
          have c0 : (bt (L s) k).toNat < 256 := bt_lt _ _
          have hc : wr.cell? ⟨w.heap.size + 1, (bt (L s) k).toNat, none⟩ = some (.int .i8 (worthTo (L s) k (bt (L s) k).toNat)) := by rw [cell_of_row wr _ _ cs _ _ hcs]; exact ht.2 _ c0
          have hfz := frozen_of_row wr _ (bt (L s) k).toNat cs _ hcs
          have R1 := Lib.hid (heap_setCell_same wr (w.heap.size + 1) (bt (L s) k).toNat cs 66 (.int .i8 k) hcs)
          have R0 := Lib.hid ((heap_setCell_other wr ⟨w.heap.size + 1, (bt (L s) k).toNat, none⟩ w.heap.size (.int .i8 k) (by simp)).trans hz)
          have T1 := tabHas_set ht (bt (L s) k).toNat (k : Int)
          have HT := Lib.hid T1
          clear T1 hz hcs ht
          go_wp2
          go_roundw
          case rel => exact ⟨k + 1, by omega, by go_num, R0.out, ⟨_, R1.out, HT.out⟩, hb.setCell (by simp) _⟩
          case measure => simp [intOf]; omega
        · have hall : k = (L s).length := by rw [L_length]; omega
          have T1 := Lib.hid (tabHas_congr ht (g := worthOf (L s)) (fun j _ => by rw [hall]; rfl))
          have hi : (Tryd.prog.info? 66).map (·.size) = some cs.size := by rw [ht.1]; exact Tryd.sizeTab
          have ho : Tryd.zeroCells66.size = cs.size := by rw [ht.1]; exact tabHas_zeros.1
          have h1 := tabHas_one ht
          have HI := Lib.hid hi
          have HO := Lib.hid ho
          have H1 := Lib.hid h1
          have HC := Lib.hid hcs
          have HZ := Lib.hid hz
          clear hi ho h1 hcs hz ht hall
          go_wp2_with (first | (refine wpList_load_row rfl 66 _ rfl (w.heap.size + 1) rfl 66 cs (0, 0) _ HC.out Tryd.underlying66 rfl HI.out ?_) | (refine wpList_store_row rfl 66 _ _ rfl w.heap.size cs rfl rfl 66 _ HZ.out HI.out HO.out H1.out ?_))
          exact bodyPost_ret (v := .agg cs) (results_cell_row Tryd.results66 _ _ w.heap.size 66 cs (0, 0) _ rfl (setRow_heap _ _ _ _ _ _ HZ.out) Tryd.underlying66 rfl HI.out) rfl ⟨cs, T1.out, rfl, below_setRow hb (Nat.le_refl _) _⟩
end Go.Proofs.YtclegocofiigiabDoor
