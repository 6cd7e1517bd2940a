/- event: the order of keywords; a stable sort. -/
import Derived.Test.YtbncaiocmklgnaaGreatDoorV11b
import Derived.Test.YtbncaiocmklgnaaGreatDoorSi
namespace Go.Proofs.YtbncaiocmklgnaaGreatDoor
open Go.RowKit Go.Sort

set_option maxHeartbeats 400000 in
theorem Lower_d (s : ByteArray) (w : World) (hs : s.size ≤ maxLen) :
    Calls Tryz.prog 23 #[.string s] w fun e w' => e = .returned (.string (S (lower (L s)))) ∧ Below w.heap.size w w' ∧ w.drawn ≤ w'.drawn := by
  unfold maxLen at hs
  have hconv := run_bytes_of_string (P := Tryz.prog) w 9 58 5 s Tryz.underlying9 Tryz.underlying58 Tryz.underlying5
  generalize grownCap w s.size 0 5 = cap at hconv
  have hr0 := rowIs_new w s cap ((bytesRow s cap).size, (bytesRow s cap).size + 1) 5
  have hf0 := rowFree_new w s cap 5
  have hb0 : Below w.heap.size w (w.alloc (.cells (bytesRow s cap) 5 ((bytesRow s cap).size, (bytesRow s cap).size + 1))) := (Below.refl _ _).alloc (Nat.le_refl _) _
  go_enter Tryz.func23, Tryz.ntmps23
  go_wp2
  go_loopw [10] (fun i wr => ∃ k : Nat, k ≤ s.size ∧ i = .int .i64 k ∧ rowIs wr w.heap.size (lowTo (L s) k) ∧ rowFree wr w.heap.size s.size ∧ Below w.heap.size w wr ∧ w.drawn ≤ wr.drawn) (fun i _ => s.size - (intOf i).toNat)
  case atStart => exact ⟨0, Nat.zero_le _, rfl, hr0, hf0, hb0.drew, Nat.le_succ _⟩
  case round =>
    clear hconv hr0 hf0 hb0
    obtain ⟨k, hk, rfl, hr, hf, hb, hdr⟩ := hrel
    by_cases hlt : k < s.size
    · have hc := hr k (by rw [lowTo_length]; exact hlt)
      rw [lowTo_at (L s) k hlt] at hc
      have hfz := hf k hlt
      have c0 : (bt (L s) k).toNat < 256 := bt_lt _ _
      have R := rowIs_set hr k (by rw [lowTo_length]; exact hlt) (sm (bt (L s) k)) _ (sm_toNat _).symm
      rw [← lowTo_succ (L s) k hlt] at R
      have HR := Lib.hid R
      have HF := Lib.hid hf
      clear R hr hf
      go_wp2_with (go_at_call 43; refine (small_any _ _ (by omega) (by omega)).mono ?_; rintro e w' ⟨rfl, rfl⟩)
      go_roundw
      case rel => exact ⟨k + 1, by omega, by go_num, HR.out, fun j hj => by rw [World.frozen?_setCell]; exact HF.out j hj, hb.setCell (Nat.le_refl _) _, hdr⟩
      case measure => simp [intOf]; omega
    · rw [lowTo_all (L s) k (by rw [L_length]; omega)] at hr
      have hcv := back_row (P := Tryz.prog) wr 58 9 5 w.heap.size s.size cap (lower (L s)) (by simp [lower, L_length]) Tryz.underlying58 Tryz.underlying5 Tryz.underlying9 hr
      go_wp2
      go_ret
      exact ⟨rfl, hb, hdr⟩

/-- A text that is no longer than may be. -/
def Tx : Type := { s : ByteArray // s.size ≤ 1000000 }
instance : Inhabited Tx := ⟨⟨ByteArray.empty, by decide⟩⟩
def encT (x : Tx) : Value := .string x.1
theorem encT_one : OneCell encT := fun _ => rfl
def cmpT (x y : Tx) : Int := Lib.compareBytes (lower (L x.1)) (lower (L y.1))
theorem grown_of {w w' : World} (hb : Below w.heap.size w w') (hd : w.drawn ≤ w'.drawn) : ∃ q os, w' = grow (w.drewN q) os := by
  refine ⟨w'.drawn - w.drawn, (w'.heap.toList.drop w.heap.size).toArray, ?_⟩
  have hh : w'.heap = w.heap ++ (w'.heap.toList.drop w.heap.size).toArray := by
    apply Array.toList_inj.1
    rw [Array.toList_append]
    have : w.heap.toList = w'.heap.toList.take w.heap.size := by
      apply List.ext_getElem?
      intro k
      by_cases hk : k < w.heap.size
      · rw [List.getElem?_take, if_pos hk]
        have := hb.block k hk
        rw [← Array.getElem?_toList, ← Array.getElem?_toList] at this
        exact this.symm
      · rw [List.getElem?_eq_none (by simpa using hk), List.getElem?_eq_none (by rw [List.length_take]; omega)]
    rw [this]
    simp
  unfold grow World.drewN
  have e1 := hb.os
  have e2 := hb.tape
  have e3 := hb.output
  cases w'
  cases w
  simp only at *
  subst e1 e2 e3
  congr 1
  omega
set_option maxHeartbeats 1000000 in
theorem cmp_any (x y : Tx) (w : World) :
    Calls Tryz.prog 21 #[encT x, encT y] w fun e w' => e = .returned (.int .i64 (cmpT x y)) ∧ ∃ q os, w' = grow (w.drewN q) os := by
  have HX := Lib.hid (fun W => Lower_d x.1 W (by have := x.2; unfold maxLen; omega))
  have HY := Lib.hid (fun W => Lower_d y.1 W (by have := y.2; unfold maxLen; omega))
  have HG : Hid (∀ w', Below w.heap.size w w' → w.drawn ≤ w'.drawn → ∃ q os, w' = grow (w.drewN q) os) := Lib.hid (fun w' => grown_of)
  unfold encT cmpT
  obtain ⟨a, ha⟩ : ∃ a, a = S (lower (L x.1)) := ⟨_, rfl⟩
  obtain ⟨b, hb⟩ : ∃ b, b = S (lower (L y.1)) := ⟨_, rfl⟩
  have e : Lib.compareBytes (lower (L x.1)) (lower (L y.1)) = Lib.compareBytes a.data.toList b.data.toList := by rw [ha, hb]; rfl
  rw [← ha] at HX
  rw [← hb] at HY
  rw [e]
  clear ha hb e
  generalize x.1 = s at *
  generalize y.1 = t at *
  go_enter Tryz.func21, Tryz.ntmps21
  go_wp2_with fail
  refine (HX.out _).mono ?_
  rintro e w1 ⟨rfl, hb1, hd1⟩
  have HB1 := Lib.hid hb1
  have HD1 := Lib.hid hd1
  clear hb1 hd1
  go_wp2_with fail
  refine (HY.out _).mono ?_
  rintro e w2 ⟨rfl, hb2, hd2⟩
  have HB2 := Lib.hid (HB1.out.trans (hb2.mono HB1.out.size))
  have HD2 := Lib.hid (Nat.le_trans HD1.out hd2)
  clear hb2 hd2 HB1 HD1
  go_wp2_with fail
  refine (Tryz.strings_Compare a b _).mono ?_
  rintro e w3 ⟨rfl, rfl⟩
  go_wp2_with fail
  go_ret
  exact ⟨rfl, HG.out _ HB2.out HD2.out⟩
theorem cmp_lays (blk off n : Nat) (w : World) : CmpLays1 Tryz.prog 21 #[] encT cmpT blk off n w := fun m os dk _ x y => by
  have := cmp_any x y (sortWorld encT w blk off m dk os)
  exact this
end Go.Proofs.YtbncaiocmklgnaaGreatDoor
