/- The statement OctetWires: the walk. -/
import Derived.Test.YtclegocofiigiaaDoorNw
import Derived.Test.YtclegocofiigiaaDoorLi
import Derived.Deep.RegionHeld3
import Derived.Deep.RegionWith
namespace Go.Proofs.YtclegocofiigiaaDoor
open Go.RowKit Go.Shelf

theorem eq_of_toList {a b : ByteArray} (h : (a.toList == b.toList) = true) : a = b := by
  rw [toList_L, toList_L] at h
  have : L a = L b := by simpa using h
  have := congrArg S this
  simpa [S_L] using this

set_option maxHeartbeats 10000000 in
theorem OctetWires_walk (s t : ByteArray) (w : World) (he : Env w) (ht : t.size ≤ 140737488355328) :
    Calls Tryd.prog 5 #[.string s, .string t] w fun e w' => e = .returned (.bool true) ∧ Below w.heap.size w w' := by
  have hmax : t.size ≤ maxLen := by unfold maxLen; omega
  have hT : (∃ f : Int, (f != 0) = true ∧ Hid (∀ W, Env W → Calls Tryd.prog 17 #[.string t] W fun e w' => e = .returned (.tuple #[.string ⟨#[]⟩, .int .i64 f]) ∧ Below W.heap.size W w')) ∨
      (∃ (n v : List UInt8), Hid (∀ W, Env W → Calls Tryd.prog 17 #[.string t] W fun e w' => e = .returned (.tuple #[.string (S n), .int .i64 0]) ∧ Below W.heap.size W w') ∧
        Hid (∀ W, Env W → Calls Tryd.prog 16 #[.string (S n)] W fun e w' => e = .returned (.tuple #[.string (S v), .int .i64 0]) ∧ Below W.heap.size W w') ∧
        Hid (∀ W, Calls Tryd.prog 18 #[.string (S v), .string t] W fun e w' => e = .returned (.bool true) ∧ Below W.heap.size W w') ∧
        (((S v).toList == t.toList) = true ∨ (((S v).toList == t.toList) = false ∧ 5 ≤ t.size ∧ 5 ≤ (S v).size ∧ (S v).extract 0 5 = ⟨#[73, 78, 66, 79, 88]⟩ ∧ (S v).extract 5 (S v).size = t.extract 5 t.size))) := by
    by_cases h : (fromWire (L t)).2 = 0
    · right
      obtain ⟨v, h1, h2, h3⟩ := wires_read (L t) h
      refine ⟨(fromWire (L t)).1, v, Lib.hid fun W hE => ?_, Lib.hid fun W hE => ?_, Lib.hid fun W => ?_, ?_⟩
      · have := FromWire_any t W hE
        rw [h] at this
        exact this
      · have := Wire_any (S (fromWire (L t)).1) W hE
        rw [L_S, h1] at this
        exact this
      · have hvl := wire_len (fromWire (L t)).1
        rw [h1] at hvl
        have := Same_any (S v) t W (by unfold maxLen; rw [S_size]; simp at hvl; omega)
        rw [L_S, h2] at this
        exact this
      · rw [toList_L, toList_L, L_S]
        by_cases hv : v = L t
        · left; rw [hv]; simp
        · right
          rcases h3 with h3 | ⟨k1, k2, k3, k4⟩
          · exact absurd h3 hv
          · refine ⟨by simpa using hv, by rw [← L_length]; exact k1, by rw [S_size]; exact k2, ?_, ?_⟩
            · rw [extract_S, L_S, List.drop_zero]
              show S (v.take 5) = _
              rw [k3]; rfl
            · rw [extract_S, extract_S, L_S, k4, S_size]
              have e1 : (L t).drop 5 = v.drop 5 := k4.symm
              rw [List.take_of_length_le (by rw [e1, List.length_drop]; omega), List.take_of_length_le (by rw [List.length_drop, L_length]; omega)]
    · left
      refine ⟨(fromWire (L t)).2, by simpa using h, Lib.hid fun W hE => ?_⟩
      have := FromWire_any t W hE
      rw [from_bad (L t) h] at this
      exact this
  have hA := Lib.hid (fun W hE => Wire_any s W hE)
  have hlen := wire_len (L s)
  have hbad := wire_bad (L s)
  have hback := wires_back (L s)
  generalize wire (L s) = X at *
  obtain ⟨x, e⟩ := X
  simp only at hA hlen hbad hback
  cases he0 : (e == 0) with
  | false =>
    have hx : x = [] := hbad (by simpa using he0)
    subst hx
    have hne : (e != 0) = true := by simpa using he0
    have hem : (S ([] : List UInt8)).toList.isEmpty = true := by rw [toList_L]; rfl
    clear hbad hback hlen
    go_enter Tryd.func5, Tryd.ntmps5
    go_wp2_with fail
    refine (hA.out _ he).mono ?_
    rintro e w1 ⟨rfl, hb1⟩
    have heT := he.on hb1
    have hbT := hb1
    rcases hT with ⟨f, hfn, HF⟩ | ⟨n, v, HF, HV, hsame, hor⟩
    · go_wp2_with fail
      refine (HF.out _ heT).mono ?_
      rintro e w5 ⟨rfl, hb5⟩
      have he5 := heT.on hb5
      have q5 := hbT.trans (hb5.mono hbT.size)
      go_wp2_with fail
      refine (known_any _ he5).mono ?_
      rintro e w6 ⟨rfl, hb6⟩
      go_wp2_with fail
      go_ret
      exact ⟨rfl, q5.trans (hb6.mono q5.size)⟩
    · go_wp2_with fail
      refine (HF.out _ heT).mono ?_
      rintro e w5 ⟨rfl, hb5⟩
      have he5 := heT.on hb5
      have q5 := hbT.trans (hb5.mono hbT.size)
      go_wp2_with fail
      refine (HV.out _ he5).mono ?_
      rintro e w6 ⟨rfl, hb6⟩
      have he6 := he5.on hb6
      have q6 := q5.trans (hb6.mono q5.size)
      rcases hor with hvw | ⟨hvw, hl5, hl6, hx1, hx2⟩
      · obtain rfl : S v = t := eq_of_toList hvw
        clear hvw
        have hud : undef = Value.tuple #[] := rfl
        go_wp2_with fail
        first | (go_region_with (first | (go_at_call 18; refine (hsame.out _).mono ?_; rintro e w7 ⟨rfl, hb7⟩) | (go_at_call 13; refine (known_any _ ?_).mono ?_; (first | exact (he6.on (Below.refl _ _).drew).on hb7 | exact ((he6.on (Below.refl _ _).drew).on hb7).on (Below.refl _ _).drew | exact he6.on hb7); rintro e w8 ⟨rfl, hb8⟩))) | fail
        all_goals (go_wp2_with fail; go_ret; exact ⟨rfl, (q6.drew.trans (hb7.mono q6.drew.size)).trans (hb8.mono (q6.drew.trans (hb7.mono q6.drew.size)).size)⟩)
      · have hl5i : (5 : Int) ≤ (t.size : Int) := by omega
        have hl6i : (5 : Int) ≤ ((S v).size : Int) := by omega
        go_wp2_with fail
        first | (go_region_held3 (fun _ => True) (trivial) (first | (go_at_call 18; refine (hsame.out _).mono ?_; rintro e w7 ⟨rfl, hb7⟩) | (go_at_call 13; refine (known_any _ ?_).mono ?_; (first | exact (he6.on (Below.refl _ _).drew).on hb7 | exact ((he6.on (Below.refl _ _).drew).on hb7).on (Below.refl _ _).drew | exact he6.on hb7); rintro e w8 ⟨rfl, hb8⟩))) | fail
        all_goals (go_wp2_with fail; go_ret; exact ⟨rfl, (q6.drew.trans (hb7.mono q6.drew.size)).trans (hb8.mono (q6.drew.trans (hb7.mono q6.drew.size)).size)⟩)
  | true =>
    have hez : e = 0 := by simpa using he0
    subst hez
    obtain ⟨hf, hpr⟩ := hback rfl
    have hB := Lib.hid (fun W hE => FromWire_any (S x) W hE)
    rw [L_S, hf] at hB
    have hq1 : (!((S (L s)).toList == s.toList)) = false := by rw [toList_L, toList_L, L_S]; simp
    have HP := Lib.hid hpr
    have hxs : (S x).size ≤ 3000 := by rw [S_size]; exact hlen
    clear hbad hback hf hpr hlen
    go_enter Tryd.func5, Tryd.ntmps5
    go_wp2_with fail
    refine (hA.out _ he).mono ?_
    rintro e w1 ⟨rfl, hb1⟩
    have he1 := he.on hb1
    go_wp2_with fail
    refine (hB.out _ he1).mono ?_
    rintro e w2 ⟨rfl, hb2⟩
    have heT := he1.on hb2
    have hbT := hb1.trans (hb2.mono hb1.size)
    go_wp2_with fail
    go_loop [9] (fun i => ∃ k : Nat, k ≤ (S x).size ∧ i = .int .i64 k) (fun i => (S x).size - (intOf i).toNat)
    case atStart => exact ⟨0, Nat.zero_le _, rfl⟩
    case round =>
      obtain ⟨k, hk, rfl⟩ := hrel
      by_cases hlt : k < (S x).size
      · have ea := get_bt (S x) k hlt
        rw [L_S] at ea
        have c0 : (bt x k).toNat < 256 := bt_lt _ _
        have hp := HP.out (bt x k) (by rw [bt_getElem x k hlt]; exact List.getElem_mem _)
        obtain ⟨p1, p2⟩ := hp
        have p1' : ¬ (((bt x k).toNat : Int) < 32) := by omega
        have p2' : ¬ (126 < ((bt x k).toNat : Int)) := by omega
        clear p1 p2
        go_wp2
        go_round
        case rel => exact ⟨k + 1, by omega, by go_num⟩
        case measure => simp [intOf]; omega
      · have hnl : ¬ ((k : Int) < ((S x).size : Int)) := by omega
        rcases hT with ⟨f, hfn, HF⟩ | ⟨n, v, HF, HV, hsame, hor⟩
        · go_wp2_with fail
          refine (HF.out _ heT).mono ?_
          rintro e w5 ⟨rfl, hb5⟩
          have he5 := heT.on hb5
          have q5 := hbT.trans (hb5.mono hbT.size)
          go_wp2_with fail
          refine (known_any _ he5).mono ?_
          rintro e w6 ⟨rfl, hb6⟩
          go_wp2_with fail
          go_ret
          exact ⟨rfl, q5.trans (hb6.mono q5.size)⟩
        · go_wp2_with fail
          refine (HF.out _ heT).mono ?_
          rintro e w5 ⟨rfl, hb5⟩
          have he5 := heT.on hb5
          have q5 := hbT.trans (hb5.mono hbT.size)
          go_wp2_with fail
          refine (HV.out _ he5).mono ?_
          rintro e w6 ⟨rfl, hb6⟩
          have he6 := he5.on hb6
          have q6 := q5.trans (hb6.mono q5.size)
          rcases hor with hvw | ⟨hvw, hl5, hl6, hx1, hx2⟩
          · obtain rfl : S v = t := eq_of_toList hvw
            clear hvw
            have hud : undef = Value.tuple #[] := rfl
            go_wp2_with fail
            first | (go_region_with (first | (go_at_call 18; refine (hsame.out _).mono ?_; rintro e w7 ⟨rfl, hb7⟩) | (go_at_call 13; refine (known_any _ ?_).mono ?_; (first | exact (he6.on (Below.refl _ _).drew).on hb7 | exact ((he6.on (Below.refl _ _).drew).on hb7).on (Below.refl _ _).drew | exact he6.on hb7); rintro e w8 ⟨rfl, hb8⟩))) | fail
            all_goals (go_wp2_with fail; go_ret; exact ⟨rfl, (q6.drew.trans (hb7.mono q6.drew.size)).trans (hb8.mono (q6.drew.trans (hb7.mono q6.drew.size)).size)⟩)
          · have hl5i : (5 : Int) ≤ (t.size : Int) := by omega
            have hl6i : (5 : Int) ≤ ((S v).size : Int) := by omega
            go_wp2_with fail
            first | (go_region_held3 (fun _ => True) (trivial) (first | (go_at_call 18; refine (hsame.out _).mono ?_; rintro e w7 ⟨rfl, hb7⟩) | (go_at_call 13; refine (known_any _ ?_).mono ?_; (first | exact (he6.on (Below.refl _ _).drew).on hb7 | exact ((he6.on (Below.refl _ _).drew).on hb7).on (Below.refl _ _).drew | exact he6.on hb7); rintro e w8 ⟨rfl, hb8⟩))) | fail
            all_goals (go_wp2_with fail; go_ret; exact ⟨rfl, (q6.drew.trans (hb7.mono q6.drew.size)).trans (hb8.mono (q6.drew.trans (hb7.mono q6.drew.size)).size)⟩)
end Go.Proofs.YtclegocofiigiaaDoor
