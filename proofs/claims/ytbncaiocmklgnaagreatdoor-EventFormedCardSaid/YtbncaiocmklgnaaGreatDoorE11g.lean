/- postbaglaw11: lower. -/
import Derived.Test.YtbncaiocmklgnaaGreatDoorR11h
import Derived.Test.YtbncaiocmklgnaaGreatDoorE11a
namespace Go.Proofs.YtbncaiocmklgnaaGreatDoor
open Go.RowKit Go.Lib

theorem lowTo_stay (l : List UInt8) (k : Nat) (h : k < l.length) (e : sm (bt l k) = bt l k) : lowTo l (k + 1) = lowTo l k := by
  rw [lowTo_succ l k h, e, ← lowTo_at l k h]
  apply List.ext_getElem?
  intro i
  rw [List.getElem?_set]
  split
  · rename_i hi
    subst hi
    have hk : k < (lowTo l k).length := by rw [lowTo_length]; exact h
    rw [if_pos hk]
    unfold bt
    rw [List.getElem?_eq_getElem hk]
    rfl
  · rfl
set_option maxHeartbeats 400000 in
theorem lawlower_any (s : ByteArray) (w : World) (hs : s.size ≤ 140737488355328) :
    Calls Tryz.prog 9 #[.string s] w fun e w' => e = .returned (.string (lowB s)) ∧ Below w.heap.size w w' := by
  have hconv := run_bytes_of_string (P := Tryz.prog) w 9 58 5 s Tryz.underlying9 Tryz.underlying58 Tryz.underlying5
  generalize grownCap w s.size 0 5 = cap at hconv
  have hr0 := rowIs_new w s cap ((bytesRow s cap).size, (bytesRow s cap).size + 1) 5
  have hf0 := rowFree_new w s cap 5
  have hb0 : Below w.heap.size w (w.alloc (.cells (bytesRow s cap) 5 ((bytesRow s cap).size, (bytesRow s cap).size + 1))) := (Below.refl _ _).alloc (Nat.le_refl _) _
  go_enter Tryz.func9, Tryz.ntmps9
  go_wp2
  go_loopw [4] (fun i wr => ∃ k : Nat, k ≤ s.size ∧ i = .int .i64 k ∧ rowIs wr w.heap.size (lowTo (L s) k) ∧ rowFree wr w.heap.size s.size ∧ Below w.heap.size w wr) (fun i _ => s.size - (intOf i).toNat)
  case atStart => exact ⟨0, Nat.zero_le _, rfl, hr0, hf0, hb0.drew⟩
  case round =>
    clear hconv hr0 hf0 hb0
    obtain ⟨k, hk, rfl, hr, hf, hb⟩ := hrel
    by_cases hlt : k < s.size
    · have hc := hr k (by rw [lowTo_length]; exact hlt)
      rw [lowTo_at (L s) k hlt] at hc
      have hfz := hf k hlt
      have c0 : (bt (L s) k).toNat < 256 := bt_lt _ _
      have hsm := sm_toNat (bt (L s) k)
      unfold smI at hsm
      have HF := Lib.hid hf
      have HR0 := Lib.hid hr
      by_cases hcap : (65 : Int) ≤ ((bt (L s) k).toNat : Int) ∧ ((bt (L s) k).toNat : Int) ≤ 90
      · rw [if_pos hcap] at hsm
        have R := rowIs_set hr k (by rw [lowTo_length]; exact hlt) (sm (bt (L s) k)) _ hsm.symm
        rw [← lowTo_succ (L s) k hlt] at R
        have HR := Lib.hid R
        obtain ⟨h1, h2⟩ := hcap
        clear R hr hf hsm HR0
        go_wp2
        go_roundw
        case rel => exact ⟨k + 1, by omega, by go_num, HR.out, fun j hj => by rw [World.frozen?_setCell]; exact HF.out j hj, hb.setCell (Nat.le_refl _) _⟩
        case measure => simp [intOf]; omega
      · rw [if_neg hcap] at hsm
        have e : sm (bt (L s) k) = bt (L s) k := by
          apply UInt8.toNat.inj
          omega
        have HR : Hid (rowIs wr w.heap.size (lowTo (L s) (k + 1))) := Lib.hid (by rw [lowTo_stay (L s) k hlt e]; exact hr)
        clear hr hf hsm e HR0
        by_cases h1 : (65 : Int) ≤ ((bt (L s) k).toNat : Int)
        · have h2 : ¬ ((bt (L s) k).toNat : Int) ≤ 90 := fun h => hcap ⟨h1, h⟩
          clear hcap
          go_wp2
          go_roundw
          case rel => exact ⟨k + 1, by omega, by go_num, HR.out, HF.out, hb⟩
          case measure => simp [intOf]; omega
        · clear hcap
          go_wp2
          go_roundw
          case rel => exact ⟨k + 1, by omega, by go_num, HR.out, HF.out, hb⟩
          case measure => simp [intOf]; omega
    · rw [lowTo_all (L s) k (by rw [L_length]; omega)] at hr
      have hcv := back_row (P := Tryz.prog) wr 58 9 5 w.heap.size s.size cap (lower (L s)) (by simp [lower, L_length]) Tryz.underlying58 Tryz.underlying5 Tryz.underlying9 hr
      go_wp2
      go_ret
      exact ⟨rfl, hb⟩
end Go.Proofs.YtbncaiocmklgnaaGreatDoor

/- The statement EventFormed: its walk, first part (what the walk wants). -/
namespace Go.Proofs.YtbncaiocmklgnaaGreatDoor
open Go.RowKit Go.Lib

/-- One text out of a list that came in. -/
theorem one_strs {W : World} {b off cap i : Nat} {t : ByteArray} (hb : b < W.heap.size) (h : W.cell? ⟨b, off + i, none⟩ = some (.string t)) : Strs W (.slice (some ⟨b, off + i, none⟩) 1 cap) [t] :=
  .inr ⟨b, off + i, cap, rfl, by simp, hb, fun j hj => by
    have hj : j = 0 := by simpa using hj
    subst hj
    exact h⟩
theorem E_one (f : ByteArray) : flagsE [f] = 0 ∨ flagsE [f] = 127 := by
  unfold flagsE
  rw [if_neg (by simp)]
  split
  · exact .inl rfl
  · exact .inr rfl
def anyBad (l : List ByteArray) : Bool := l.any (fun f => flagsE [f] == 127)
theorem anyBad_snoc (l : List ByteArray) (f : ByteArray) : anyBad (l ++ [f]) = (anyBad l || (flagsE [f] == 127)) := by
  unfold anyBad
  rw [List.any_append, List.any_cons, List.any_nil, Bool.or_false]
theorem take_snocD (l : List ByteArray) (k : Nat) (h : k < l.length) : l.take (k + 1) = l.take k ++ [l.getD k ByteArray.empty] := by
  rw [List.take_add_one, List.getElem?_eq_getElem h, List.getD_eq_getElem?_getD, List.getElem?_eq_getElem h]
  rfl
theorem getD_mem (l : List ByteArray) (k : Nat) (h : k < l.length) : l.getD k ByteArray.empty ∈ l := by
  rw [List.getD_eq_getElem?_getD, List.getElem?_eq_getElem h]
  exact List.getElem_mem h
end Go.Proofs.YtbncaiocmklgnaaGreatDoor

/- The statement EventFormed: its walk where a flag is none. -/
namespace Go.Proofs.YtbncaiocmklgnaaGreatDoor
open Go.RowKit Go.Lib

set_option maxHeartbeats 8000000 in
set_option maxRecDepth 20000 in
theorem formed_bad (v1 : Value) (ss : List ByteArray) (sw : Int) (w : World) (he : Env2 w) (h1 : Strs w v1 ss) (hcap : ∀ a n c, v1 = .slice a n c → n ≤ c) (z1 : ∀ f, f ∈ ss → f.size ≤ 140737488355328) (hl8 : ss.length ≤ 8) (hE : ¬ flagsE ss = 0) :
    Calls Tryz.prog 3 #[v1, .int .i64 sw] w fun e w' => e = .returned (.bool true) ∧ Below w.heap.size w w' := by
  obtain ⟨eE, eL, hex⟩ := mark_one ss hl8 hE
  have HBad : Hid (anyBad ss = true) := Lib.hid (by
    obtain ⟨f, hf, h⟩ := hex
    unfold anyBad
    rw [List.any_eq_true]
    exact ⟨f, hf, by rw [h]; rfl⟩)
  obtain ⟨ao, cap, rfl, hk⟩ := h1.cells
  have hcap2 := hcap _ _ _ rfl
  have HE := Lib.hid he
  have HZ := Lib.hid z1
  have HC := Lib.hid hk
  have HFl : Hid (∀ W, Below w.heap.size w W → Calls Tryz.prog 7 #[.slice ao ss.length cap] W fun e w' => ∃ a c, e = .returned (.tuple #[.slice a 0 c, .int .i64 127]) ∧ Below W.heap.size W w') := Lib.hid (fun W hW => by
    refine (Flags_any _ ss W (he.go hW).f (h1.on hW) (fun i hi => z1 _ (getD_mem ss i hi))).mono ?_
    rintro e w' ⟨vo, rfl, ho⟩
    rw [eL] at ho
    rw [eE]
    obtain ⟨a, c, rfl⟩ := ho.shape
    exact ⟨a, c, rfl, ho.below⟩)
  clear hex eE eL hE hcap h1 hk he z1
  obtain ⟨n, hn⟩ : ∃ n, ss.length = n := ⟨_, rfl⟩
  have HN := Lib.hid hn
  rw [hn] at HC HFl hcap2 hl8 ⊢
  clear hn
  have h8 : ¬ (8 : Int) < (n : Int) := by omega
  go_enter Tryz.func3, Tryz.ntmps3
  go_wp2_with (first | (go_at_call 6; refine (known_any _ HE.out).mono ?_; rintro e w1 ⟨rfl, hb1⟩; have HB1 := Lib.hid hb1; clear hb1) | (go_at_call 7; refine (HFl.out _ HB1.out).mono ?_; rintro e w2 ⟨a2, c2, rfl, hb2⟩; have HB2 := Lib.hid (HB1.out.trans (hb2.mono HB1.out.size)); clear hb2))
  go_loopw [7, 8] (fun vb vi wr => ∃ (k : Nat) (X : World), X = wr ∧ k ≤ n ∧ vi = .int .i64 k ∧ vb = .bool (anyBad (ss.take k)) ∧ Below w.heap.size w X) (fun _ i _ => n - (intOf i).toNat)
  case atStart => exact ⟨0, _, rfl, Nat.zero_le _, rfl, rfl, HB2.out⟩
  case round =>
    obtain ⟨k, X, hX, hkn, rfl, rfl, hb⟩ := hrel
    subst hX
    have HX := Lib.hid hb
    by_cases hlt : k < n
    · obtain ⟨b, off, hao, hbl, hcl⟩ := HC.out k hlt
      subst hao
      have hki : (k : Int) < (n : Int) := by omega
      have hk0 : (0 : Int) ≤ (k : Int) := by omega
      have hk1 : (k : Int) + 1 ≤ (cap : Int) := by omega
      have hk2 : (k : Int) ≤ (k : Int) + 1 := by omega
      have hk10 : (0 : Int) ≤ (k : Int) + 1 := by omega
      have hkc : (k : Int) ≤ (cap : Int) := by omega
      have HT : Hid (ss.take (k + 1) = ss.take k ++ [ss.getD k ByteArray.empty]) := Lib.hid (take_snocD ss k (by rw [HN.out]; exact hlt))
      have hzt := HZ.out _ (getD_mem ss k (by rw [HN.out]; exact hlt))
      have HF1 : Hid (∀ c, Calls Tryz.prog 7 #[.slice (some ⟨b, off + k, none⟩) 1 c] X fun e w' => ∃ a m c', e = .returned (.tuple #[.slice a m c', .int .i64 (flagsE [ss.getD k ByteArray.empty])]) ∧ Below X.heap.size X w') := Lib.hid (fun c => by
        refine (Flags_any _ [ss.getD k ByteArray.empty] X (HE.out.go hb).f (one_strs (Nat.lt_of_lt_of_le hbl hb.size) (by rw [hb.cell (p := ⟨b, off + k, none⟩) hbl]; exact hcl)) (fun i hi => by
          have : i = 0 := by simpa using hi
          subst this
          exact hzt)).mono ?_
        rintro e w' ⟨vo, rfl, ho⟩
        obtain ⟨a, c', hv⟩ := ho.shape
        subst hv
        exact ⟨a, _, c', rfl, ho.below⟩)
      obtain ⟨ab, hab⟩ : ∃ ab, anyBad (ss.take k) = ab := ⟨_, rfl⟩
      have HAb := Lib.hid hab
      rw [hab]
      have HOne := Lib.hid (E_one (ss.getD k ByteArray.empty))
      clear hab hb hcl hbl hzt
      generalize ss.getD k ByteArray.empty = t at *
      rcases HOne.out with h0 | h0
      · rw [h0] at HF1
        have HNx : Hid (anyBad (ss.take (k + 1)) = ab) := Lib.hid (by rw [HT.out, anyBad_snoc, h0, HAb.out]; simp)
        clear h0
        cases ab with
        | true =>
          go_wp2_with (go_at_call 7; refine (HF1.out _).mono ?_; rintro e w3 ⟨a3, m3, c3, rfl, hb3⟩; have HX3 := Lib.hid (HX.out.trans (hb3.mono HX.out.size)); clear hb3)
          go_roundw
          case rel => exact ⟨k + 1, _, rfl, hlt, by go_num, by rw [HNx.out], HX3.out⟩
          case measure => simp [intOf]; omega
        | false =>
          go_wp2_with (go_at_call 7; refine (HF1.out _).mono ?_; rintro e w3 ⟨a3, m3, c3, rfl, hb3⟩; have HX3 := Lib.hid (HX.out.trans (hb3.mono HX.out.size)); clear hb3)
          go_roundw
          case rel => exact ⟨k + 1, _, rfl, hlt, by go_num, by rw [HNx.out], HX3.out⟩
          case measure => simp [intOf]; omega
      · rw [h0] at HF1
        have HNx : Hid (anyBad (ss.take (k + 1)) = true) := Lib.hid (by rw [HT.out, anyBad_snoc, h0]; simp)
        clear h0
        cases ab with
        | true =>
          go_wp2_with (go_at_call 7; refine (HF1.out _).mono ?_; rintro e w3 ⟨a3, m3, c3, rfl, hb3⟩; have HX3 := Lib.hid (HX.out.trans (hb3.mono HX.out.size)); clear hb3)
          go_roundw
          case rel => exact ⟨k + 1, _, rfl, hlt, by go_num, by rw [HNx.out], HX3.out⟩
          case measure => simp [intOf]; omega
        | false =>
          go_wp2_with (go_at_call 7; refine (HF1.out _).mono ?_; rintro e w3 ⟨a3, m3, c3, rfl, hb3⟩; have HX3 := Lib.hid (HX.out.trans (hb3.mono HX.out.size)); clear hb3)
          go_roundw
          case rel => exact ⟨k + 1, _, rfl, hlt, by go_num, by rw [HNx.out], HX3.out⟩
          case measure => simp [intOf]; omega
    · have hki : ¬ (k : Int) < (n : Int) := by omega
      have hkn2 : ss.take k = ss := List.take_of_length_le (by rw [HN.out]; omega)
      rw [hkn2, HBad.out]
      clear hb hkn2
      go_wp2_with fail
      go_ret
      exact ⟨rfl, HX.out⟩
end Go.Proofs.YtbncaiocmklgnaaGreatDoor
