/- The statement OctetCases: the reference, the walk. -/
import Derived.Test.YtclegocofiigiaaDoorLi
namespace Go.Proofs.YtclegocofiigiaaDoor
open Go.RowKit Go.Shelf

set_option maxHeartbeats 400000 in
theorem refLower_any (s : ByteArray) (w : World) (hs : s.size ≤ 1000000) :
    Calls Tryd.prog 27 #[.string s] w fun e w' => e = .returned (.string (S (lower (L s)))) ∧ Below w.heap.size w w' := by
  go_enter Tryd.func27, Tryd.ntmps27
  go_wp2
  go_loopw [3, 4] (fun v i wr => ∃ k : Nat, k ≤ s.size ∧ i = .int .i64 k ∧ Own w.heap.size v (lower ((L s).take k)) w wr) (fun _ i _ => s.size - (intOf i).toNat)
  case atStart => exact ⟨0, Nat.zero_le _, rfl, Own.nil (Below.refl _ _) (Nat.le_refl _)⟩
  case round =>
    obtain ⟨k, hk, rfl, hown⟩ := hrel
    by_cases hlt : k < s.size
    · have ea := get_bt s k hlt
      have c0 : (bt (L s) k).toNat < 256 := bt_lt _ _
      have e1 : lower ((L s).take (k + 1)) = lower ((L s).take k) ++ [sm (bt (L s) k)] := by
        rw [take_snoc (L s) k hlt]; simp [lower]
      have hl : (lower ((L s).take k)).length + 1 ≤ 140737488355328 := by
        have : (lower ((L s).take k)).length ≤ k := by simp [lower]; omega
        omega
      have hsm := sm_toNat (bt (L s) k)
      have HE := Lib.hid e1
      have HL := Lib.hid hl
      clear e1 hl
      unfold smI at hsm
      by_cases h1 : (65 : Int) ≤ ((bt (L s) k).toNat : Int)
      · by_cases h2 : ((bt (L s) k).toNat : Int) ≤ 90
        · rw [if_pos ⟨h1, h2⟩] at hsm
          have HS := Lib.hid hsm.symm
          clear hsm
          generalize lower ((L s).take k) = o at *
          go_wp2_with (at_builtin; refine app1 rfl _ _ rfl _ (sm (bt (L s) k)) hown HS.out rfl rfl HL.out ?_; intro v2 w2 hown2)
          go_roundw
          case rel => exact ⟨k + 1, by omega, by go_num, by rw [HE.out]; exact hown2⟩
          case measure => simp [intOf]; omega
        · rw [if_neg (by omega)] at hsm
          have HS := Lib.hid hsm.symm
          clear hsm
          generalize lower ((L s).take k) = o at *
          go_wp2_with (at_builtin; refine app1 rfl _ _ rfl _ (sm (bt (L s) k)) hown HS.out rfl rfl HL.out ?_; intro v2 w2 hown2)
          go_roundw
          case rel => exact ⟨k + 1, by omega, by go_num, by rw [HE.out]; exact hown2⟩
          case measure => simp [intOf]; omega
      · rw [if_neg (by omega)] at hsm
        have HS := Lib.hid hsm.symm
        clear hsm
        generalize lower ((L s).take k) = o at *
        go_wp2_with (at_builtin; refine app1 rfl _ _ rfl _ (sm (bt (L s) k)) hown HS.out rfl rfl HL.out ?_; intro v2 w2 hown2)
        go_roundw
        case rel => exact ⟨k + 1, by omega, by go_num, by rw [HE.out]; exact hown2⟩
        case measure => simp [intOf]; omega
    · rw [List.take_of_length_le (by rw [L_length]; omega)] at hown
      have hcv := hown.back
      go_wp2
      go_ret
      exact ⟨rfl, hown.below⟩

set_option maxHeartbeats 400000 in
theorem refSame_any (a b : ByteArray) (w : World) (ha : a.size ≤ 1000000) (hb : b.size ≤ 1000000) :
    Calls Tryd.prog 28 #[.string a, .string b] w fun e w' => e = .returned (.bool (same (L a) (L b))) ∧ Below w.heap.size w w' := by
  go_enter Tryd.func28, Tryd.ntmps28
  go_wp2_with fail
  refine (refLower_any a _ ha).mono ?_
  rintro e w1 ⟨rfl, hb1⟩
  go_wp2_with fail
  refine (refLower_any b _ hb).mono ?_
  rintro e w2 ⟨rfl, hb2⟩
  go_wp2
  go_ret
  exact ⟨ret_bool (by rw [toList_L, toList_L, L_S, L_S]; rfl), hb1.trans (hb2.mono hb1.size)⟩
theorem sm_sm (c : UInt8) : sm (sm c) = sm c := by
  have : ∀ c : Fin 256, sm (sm (UInt8.ofNat c.val)) = sm (UInt8.ofNat c.val) := by decide +kernel
  have h := this ⟨c.toNat, c.toNat_lt⟩
  simpa using h
theorem lower_lower (l : List UInt8) : lower (lower l) = lower l := by
  simp only [lower, List.map_map]
  apply List.map_congr_left
  intro c _
  exact sm_sm c
theorem same_lower (l : List UInt8) : same l (lower l) = true := by simp [same, lower_lower]
theorem same_comm (a b : List UInt8) : same b a = same a b := by
  unfold same
  rw [Bool.eq_iff_iff]
  simp
  exact eq_comm

set_option maxHeartbeats 1000000 in
theorem OctetCases_walk (v : Value) (ss : List ByteArray) (w : World) (he : Env w) (h : Strs w v ss) (hz : ∀ i, i < ss.length → (ss.getD i ByteArray.empty).size ≤ 140737488355328) :
    Calls Tryd.prog 8 #[v] w fun e w' => e = .returned (.bool true) ∧ Below w.heap.size w w' := by
  have hLg := Lib.hid (fun W hW => long_any v ss W hW hz)
  cases hlong : longB ss with
  | true =>
    rw [hlong] at hLg
    go_enter Tryd.func8, Tryd.ntmps8
    go_wp2_with (go_at_call 24; refine (hLg.out _ h).mono ?_; rintro e w' ⟨rfl, rfl⟩)
    go_ret
    exact ⟨rfl, Below.refl _ _⟩
  | false =>
    rw [hlong] at hLg
    have hlim : (ss.map ByteArray.size).sum ≤ 20000 ∧ ss.length ≤ 40 := by
      unfold longB at hlong
      rw [Bool.or_eq_false_iff] at hlong
      simp at hlong
      exact hlong
    obtain ⟨hsum, hn⟩ := hlim
    clear hlong hz
    have hsz := Lib.hid (fun k hk => Nat.le_trans (size_le ss k hk) hsum)
    have HL := Lib.hid h
    rcases h with ⟨rfl, ao, cap, rfl⟩ | ⟨b0, off, cap, rfl, h0, h1, h2⟩
    · go_enter Tryd.func8, Tryd.ntmps8
      go_wp2_with (go_at_call 24; refine (hLg.out _ HL.out).mono ?_; rintro e w' ⟨rfl, rfl⟩)
      refine wp_loop_rounds 1 ?_
      rw [rounds_succ]
      go_wp2_with (go_at_call 13; refine (known_any _ he).mono ?_; rintro e w2 ⟨rfl, hb2⟩)
      go_ret
      exact ⟨rfl, hb2⟩
    · have H1 := Lib.hid h1
      have H2 := Lib.hid h2
      clear h1 h2
      go_enter Tryd.func8, Tryd.ntmps8
      go_wp2_with (go_at_call 24; refine (hLg.out _ HL.out).mono ?_; rintro e w' ⟨rfl, rfl⟩)
      go_loopw [3] (fun i wr => ∃ k : Nat, k ≤ 2 * ss.length ∧ i = .int .i64 k ∧ Below w'.heap.size w' wr) (fun i _ => 2 * ss.length - (intOf i).toNat)
      case atStart => exact ⟨0, Nat.zero_le _, rfl, Below.refl _ _⟩
      case round =>
        obtain ⟨k, hk, rfl, hbw⟩ := hrel
        by_cases hlt : k < 2 * ss.length
        · have ht1 := turnN_lt k ss.length hlt
          have hmod : (k + 1) % (2 * ss.length) < 2 * ss.length := Nat.mod_lt _ (by omega)
          have ht2 := turnN_lt _ ss.length hmod
          have hbb := H1.out
          have hc1 := (hbw.cell (p := ⟨b0, off + turnN k ss.length, none⟩) hbb).trans (H2.out _ ht1)
          have hc2 := (hbw.cell (p := ⟨b0, off + turnN ((k + 1) % (2 * ss.length)) ss.length, none⟩) hbb).trans (H2.out _ ht2)
          have hs1 := hsz.out _ ht1
          have hs2 := hsz.out _ ht2
          generalize ss.getD (turnN k ss.length) ByteArray.empty = a at *
          generalize ss.getD (turnN ((k + 1) % (2 * ss.length)) ss.length) ByteArray.empty = b at *
          have hT1 := Lib.hid (fun W => turn_int (k : Int) (ss.length : Int) k ss.length W rfl rfl hlt (by omega))
          have hT2 := Lib.hid (fun W x (hx : x = (((k + 1) % (2 * ss.length) : Nat) : Int)) => turn_int x (ss.length : Int) _ ss.length W hx rfl hmod (by omega))
          generalize turnN k ss.length = t1 at *
          generalize turnN ((k + 1) % (2 * ss.length)) ss.length = t2 at *
          go_wp2_with fail
          refine (hT1.out _).mono ?_
          rintro e w1 ⟨rfl, rfl⟩
          go_wp2_with fail
          refine (hT2.out _ _ (by simp)).mono ?_
          rintro e w2 ⟨rfl, rfl⟩
          have hcm := same_comm (L a) (L b)
          have hsl := same_lower (L a)
          go_wp2_with fail
          refine (Lower_any a _ (by unfold maxLen; omega)).mono ?_
          rintro e w3 ⟨rfl, hb3⟩
          go_wp2_with fail
          refine (refLower_any a _ (by omega)).mono ?_
          rintro e w4 ⟨rfl, hb4⟩
          go_wp2_with fail
          refine (Same_any a b _ (by unfold maxLen; omega)).mono ?_
          rintro e w5 ⟨rfl, hb5⟩
          go_wp2_with fail
          refine (refSame_any a b _ (by omega) (by omega)).mono ?_
          rintro e w6 ⟨rfl, hb6⟩
          go_wp2_with fail
          refine (Same_any b a _ (by unfold maxLen; omega)).mono ?_
          rintro e w7 ⟨rfl, hb7⟩
          go_wp2_with fail
          refine (refSame_any a b _ (by omega) (by omega)).mono ?_
          rintro e w8 ⟨rfl, hb8⟩
          go_wp2_with fail
          refine (Lower_any a _ (by unfold maxLen; omega)).mono ?_
          rintro e w9 ⟨rfl, hb9⟩
          go_wp2_with fail
          refine (Same_any a (S (lower (L a))) _ (by unfold maxLen; omega)).mono ?_
          rintro e w10 ⟨rfl, hb10⟩
          rw [L_S, hsl]
          have q3 := hbw.trans (hb3.mono hbw.size)
          have q4 := q3.trans (hb4.mono q3.size)
          have q5 := q4.trans (hb5.mono q4.size)
          have q6 := q5.trans (hb6.mono q5.size)
          have q7 := q6.trans (hb7.mono q6.size)
          have q8 := q7.trans (hb8.mono q7.size)
          have q9 := q8.trans (hb9.mono q8.size)
          have q10 := q9.trans (hb10.mono q9.size)
          go_wp2
          go_roundw
          case rel => exact ⟨k + 1, by omega, by go_num, q10⟩
          case measure => simp [intOf]; omega
        · go_wp2_with (go_at_call 13; refine (known_any _ (he.on hbw)).mono ?_; rintro e w2 ⟨rfl, hb2⟩)
          go_ret
          exact ⟨rfl, hbw.trans (hb2.mono hbw.size)⟩
end Go.Proofs.YtclegocofiigiaaDoor
