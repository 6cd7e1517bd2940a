/- The statement OctetBack: the walk. -/
import Derived.Test.YtclegocofiigiaaDoorPt
import Derived.Test.YtclegocofiigiaaDoorBk
import Derived.Deep.RegionHeld3
namespace Go.Proofs.YtclegocofiigiaaDoor
open Go.RowKit Go.Shelf

theorem Env.drewN {w : World} (h : Env w) (n : Nat) : Env (w.drewN n) := h.on (below_drewN (Below.refl _ _) n)
theorem Env.drew {w : World} (h : Env w) : Env w.drew := h.on (Below.refl _ _).drew
theorem from_cases (l : List UInt8) : (fromBase64 l = ([], 10)) ∨ (∃ v, fromBase64 l = (v, 0) ∧ base64 v = l ∧ v.length ≤ l.length) := by
  rcases from_either l with h | ⟨h1, h2⟩
  · exact .inl h
  · refine .inr ⟨(fromBase64 l).1, by rw [← h1], h2, ?_⟩
    have := base_len (fromBase64 l).1
    rw [h2] at this
    omega

set_option maxHeartbeats 400000 in
set_option maxRecDepth 100000 in
theorem OctetBack_no (s t : ByteArray) (a : Int) (w : World) (he : Env w) (hs : s.size ≤ 20000) (ht : t.size ≤ 20000) (hfr : fromBase64 (L t) = ([], 10)) :
    Calls Tryd.prog 3 #[.string s, .string t, .int .i64 a] w fun e w' => e = .returned (.bool true) ∧ Below w.heap.size w w' := by
  have hfb := from_base (L s)
  have hlb := loose_base (L s)
  have hbl := base_len (L s)
  have hgap := fun x y (h : x ++ y = base64 (L s)) => (loose_gap x y).trans (by rw [h, hlb])
  rw [L_length] at hbl
  have hB := Lib.hid (fun W => Base64_any s W (by omega))
  generalize base64 (L s) = b at *
  have hbs : (S b).size ≤ 30000 := by rw [S_size, hbl]; omega
  have hF := Lib.hid (fun W hE => FromBase64_any (S b) W (by omega) hE)
  rw [L_S, hfb] at hF
  have hLo := Lib.hid (fun W hE => Loose64_any (S b) W (by omega) hE)
  rw [L_S, hlb] at hLo
  have hss : (S (L s)).toList = s.toList := rfl
  have hq1 : (!((S (L s)).toList == s.toList)) = false := by rw [hss]; simp
  have hq2 : (((S b).size : Int) != ((s.size : Int) + 2) / 3 * 4) = false := by
    rw [S_size, hbl]; simp
  have HBL := Lib.hid hbl
  have HG := Lib.hid hgap
  clear hbl hgap hfb hlb
  have hT := Lib.hid (fun W hE => FromBase64_any t W (by omega) hE)
  rw [hfr] at hT
  have hSt : ∀ l : List UInt8, (S l).toList = l := fun l => toList_L (S l)
  clear hfr
  go_enter Tryd.func3, Tryd.ntmps3
  go_wp2_with fail
  refine (hB.out _).mono ?_
  rintro e w1 ⟨rfl, hb1⟩
  have he1 := he.on hb1
  go_wp2_with fail
  refine (hF.out _ he1).mono ?_
  rintro e w2 ⟨rfl, hb2⟩
  have he2 := he1.on hb2
  have hbA := hb1.trans (hb2.mono hb1.size)
  clear hb1 hb2 he1 he
  go_wp2_with (go_at_call 11; refine (num_any _ _).mono ?_; rintro e w' ⟨rfl, rfl⟩)
  refine (hLo.out _ he2).mono ?_
  rintro e w3 ⟨rfl, hb3⟩
  have he3 := he2.on hb3
  have hbB := hbA.trans (hb3.mono hbA.size)
  clear hbA hb3 he2
  by_cases ha : 0 ≤ a
  · by_cases ha2 : a ≤ ((S b).size : Int)
    · obtain ⟨n, rfl⟩ := Int.eq_ofNat_of_zero_le ha
      have hn : n ≤ (S b).size := by omega
      have hd2 : decide ((n : Int) ≤ ((S b).size : Int)) = true := by simpa using hn
      have hnb : n ≤ b.length := hn
      have hgl := HG.out (b.take n) (b.drop n) (List.take_append_drop n b)
      have e1 : (S b).extract 0 n = S (b.take n) := by rw [extract_S]; simp [L_S]
      have e2 : (S b).extract n (S b).size = S (b.drop n) := by rw [extract_S, S_size, L_S, List.take_of_length_le (by simp)]
      have e3 : S (b.take n) ++ ⟨#[13, 10, 32]⟩ = S (b.take n ++ [13, 10, 32]) := S_append _ _
      have e4 : S (b.take n ++ [13, 10, 32]) ++ S (b.drop n) = S (b.take n ++ [13, 10, 32] ++ b.drop n) := S_append _ _
      have hsz1 : (S (b.take n)).size ≤ 30000 := by rw [S_size, List.length_take]; omega
      have hsz2 : (S (b.take n ++ [13, 10, 32])).size ≤ 30003 := by rw [S_size, List.length_append, List.length_take]; simp; omega
      have hsz3 : (S (b.drop n)).size ≤ 30000 := by rw [S_size, List.length_drop]; have := S_size b; omega
      have hsz4 : (S (b.take n ++ [13, 10, 32] ++ b.drop n)).size ≤ 1000000 := by rw [S_size, List.length_append, List.length_append, List.length_take, List.length_drop]; simp; have := S_size b; omega
      have hLX := Lib.hid (fun W hE => Loose64_any (S (b.take n ++ [13, 10, 32] ++ b.drop n)) W hsz4 hE)
      rw [L_S, hgl] at hLX
      clear hgl
      generalize b.take n ++ [13, 10, 32] ++ b.drop n = X at *
      generalize b.take n ++ [13, 10, 32] = Y at *
      generalize b.take n = Y1 at *
      generalize b.drop n = Y2 at *
      have hc1 : ¬ 9223372036854775807 < (S Y1).size + 3 := by omega
      have hc2 : ¬ 9223372036854775807 < (S Y).size + (S Y2).size := by omega
      go_wp2_with fail
      go_region_held3 (fun _ => True) (trivial) (first | (go_at_call 12; refine (hLX.out _ ?_).mono ?_; (first | exact he3 | exact he3.drew | exact he3.drew.drew); rintro e w4 ⟨rfl, hb4⟩))
      go_wp2_with fail
      have heT := (he3.drew.on hb4)
      have hbT := ((hbB.drew).trans (hb4.mono hbB.size))
      refine (hT.out _ heT).mono ?_
      rintro e w5 ⟨rfl, hb5⟩
      have he5 := heT.on hb5
      have hbU := hbT.trans (hb5.mono hbT.size)
      go_wp2_with fail
      refine (known_any _ he5).mono ?_
      rintro e w6 ⟨rfl, hb6⟩
      have hbV := hbU.trans (hb6.mono hbU.size)
      go_wp2_with (go_at_call 11; refine (num_any _ _).mono ?_; rintro e w' ⟨rfl, rfl⟩)
      go_ret
      exact ⟨rfl, hbV⟩
    · have hd1 : decide (0 ≤ a) = true := by simpa using ha
      have hd2 : decide (a ≤ ((S b).size : Int)) = false := by simpa using ha2
      go_wp2_with fail
      go_quiet (fail)
      go_wp2_with fail
      refine (hT.out _ (he3.drewN _)).mono ?_
      rintro e w5 ⟨rfl, hb5⟩
      have he5 := (he3.drewN _).on hb5
      have hbU : Below w.heap.size w w5 := Below.trans (below_drewN hbB _) (hb5.mono hbB.size)
      go_wp2_with fail
      refine (known_any _ he5).mono ?_
      rintro e w6 ⟨rfl, hb6⟩
      have hbV := hbU.trans (hb6.mono hbU.size)
      go_wp2_with (go_at_call 11; refine (num_any _ _).mono ?_; rintro e w' ⟨rfl, rfl⟩)
      go_ret
      exact ⟨rfl, hbV⟩
  · have hd1 : decide (0 ≤ a) = false := by simpa using ha
    go_wp2_with fail
    go_quiet (fail)
    go_wp2_with fail
    refine (hT.out _ (he3.drewN _)).mono ?_
    rintro e w5 ⟨rfl, hb5⟩
    have he5 := (he3.drewN _).on hb5
    have hbU : Below w.heap.size w w5 := Below.trans (below_drewN hbB _) (hb5.mono hbB.size)
    go_wp2_with fail
    refine (known_any _ he5).mono ?_
    rintro e w6 ⟨rfl, hb6⟩
    have hbV := hbU.trans (hb6.mono hbU.size)
    go_wp2_with (go_at_call 11; refine (num_any _ _).mono ?_; rintro e w' ⟨rfl, rfl⟩)
    go_ret
    exact ⟨rfl, hbV⟩

set_option maxHeartbeats 400000 in
set_option maxRecDepth 100000 in
theorem OctetBack_yes (s t : ByteArray) (a : Int) (w : World) (he : Env w) (hs : s.size ≤ 20000) (ht : t.size ≤ 20000) (v : List UInt8) (hfr : fromBase64 (L t) = (v, 0)) (hbv : base64 v = L t) (hvl : v.length ≤ (L t).length) :
    Calls Tryd.prog 3 #[.string s, .string t, .int .i64 a] w fun e w' => e = .returned (.bool true) ∧ Below w.heap.size w w' := by
  have hfb := from_base (L s)
  have hlb := loose_base (L s)
  have hbl := base_len (L s)
  have hgap := fun x y (h : x ++ y = base64 (L s)) => (loose_gap x y).trans (by rw [h, hlb])
  rw [L_length] at hbl
  have hB := Lib.hid (fun W => Base64_any s W (by omega))
  generalize base64 (L s) = b at *
  have hbs : (S b).size ≤ 30000 := by rw [S_size, hbl]; omega
  have hF := Lib.hid (fun W hE => FromBase64_any (S b) W (by omega) hE)
  rw [L_S, hfb] at hF
  have hLo := Lib.hid (fun W hE => Loose64_any (S b) W (by omega) hE)
  rw [L_S, hlb] at hLo
  have hss : (S (L s)).toList = s.toList := rfl
  have hq1 : (!((S (L s)).toList == s.toList)) = false := by rw [hss]; simp
  have hq2 : (((S b).size : Int) != ((s.size : Int) + 2) / 3 * 4) = false := by
    rw [S_size, hbl]; simp
  have HBL := Lib.hid hbl
  have HG := Lib.hid hgap
  clear hbl hgap hfb hlb
  have hT := Lib.hid (fun W hE => FromBase64_any t W (by omega) hE)
  rw [hfr] at hT
  rw [L_length] at hvl
  have hBV := Lib.hid (fun W => Base64_any (S v) W (by rw [S_size]; omega))
  rw [L_S, hbv, S_L] at hBV
  have hqt : (t.toList == t.toList) = true := by simp
  clear hfr hbv
  go_enter Tryd.func3, Tryd.ntmps3
  go_wp2_with fail
  refine (hB.out _).mono ?_
  rintro e w1 ⟨rfl, hb1⟩
  have he1 := he.on hb1
  go_wp2_with fail
  refine (hF.out _ he1).mono ?_
  rintro e w2 ⟨rfl, hb2⟩
  have he2 := he1.on hb2
  have hbA := hb1.trans (hb2.mono hb1.size)
  clear hb1 hb2 he1 he
  go_wp2_with (go_at_call 11; refine (num_any _ _).mono ?_; rintro e w' ⟨rfl, rfl⟩)
  refine (hLo.out _ he2).mono ?_
  rintro e w3 ⟨rfl, hb3⟩
  have he3 := he2.on hb3
  have hbB := hbA.trans (hb3.mono hbA.size)
  clear hbA hb3 he2
  by_cases ha : 0 ≤ a
  · by_cases ha2 : a ≤ ((S b).size : Int)
    · obtain ⟨n, rfl⟩ := Int.eq_ofNat_of_zero_le ha
      have hn : n ≤ (S b).size := by omega
      have hd2 : decide ((n : Int) ≤ ((S b).size : Int)) = true := by simpa using hn
      have hnb : n ≤ b.length := hn
      have hgl := HG.out (b.take n) (b.drop n) (List.take_append_drop n b)
      have e1 : (S b).extract 0 n = S (b.take n) := by rw [extract_S]; simp [L_S]
      have e2 : (S b).extract n (S b).size = S (b.drop n) := by rw [extract_S, S_size, L_S, List.take_of_length_le (by simp)]
      have e3 : S (b.take n) ++ ⟨#[13, 10, 32]⟩ = S (b.take n ++ [13, 10, 32]) := S_append _ _
      have e4 : S (b.take n ++ [13, 10, 32]) ++ S (b.drop n) = S (b.take n ++ [13, 10, 32] ++ b.drop n) := S_append _ _
      have hsz1 : (S (b.take n)).size ≤ 30000 := by rw [S_size, List.length_take]; omega
      have hsz2 : (S (b.take n ++ [13, 10, 32])).size ≤ 30003 := by rw [S_size, List.length_append, List.length_take]; simp; omega
      have hsz3 : (S (b.drop n)).size ≤ 30000 := by rw [S_size, List.length_drop]; have := S_size b; omega
      have hsz4 : (S (b.take n ++ [13, 10, 32] ++ b.drop n)).size ≤ 1000000 := by rw [S_size, List.length_append, List.length_append, List.length_take, List.length_drop]; simp; have := S_size b; omega
      have hLX := Lib.hid (fun W hE => Loose64_any (S (b.take n ++ [13, 10, 32] ++ b.drop n)) W hsz4 hE)
      rw [L_S, hgl] at hLX
      clear hgl
      generalize b.take n ++ [13, 10, 32] ++ b.drop n = X at *
      generalize b.take n ++ [13, 10, 32] = Y at *
      generalize b.take n = Y1 at *
      generalize b.drop n = Y2 at *
      have hc1 : ¬ 9223372036854775807 < (S Y1).size + 3 := by omega
      have hc2 : ¬ 9223372036854775807 < (S Y).size + (S Y2).size := by omega
      go_wp2_with fail
      go_region_held3 (fun _ => True) (trivial) (first | (go_at_call 12; refine (hLX.out _ ?_).mono ?_; (first | exact he3 | exact he3.drew | exact he3.drew.drew); rintro e w4 ⟨rfl, hb4⟩))
      go_wp2_with fail
      have heT := (he3.drew.on hb4)
      have hbT := ((hbB.drew).trans (hb4.mono hbB.size))
      refine (hT.out _ heT).mono ?_
      rintro e w5 ⟨rfl, hb5⟩
      have he5 := heT.on hb5
      have hbU := hbT.trans (hb5.mono hbT.size)
      go_wp2_with fail
      refine (known_any _ he5).mono ?_
      rintro e w6 ⟨rfl, hb6⟩
      have hbV := hbU.trans (hb6.mono hbU.size)
      go_wp2_with (first | (go_at_call 11; refine (num_any _ _).mono ?_; rintro e w' ⟨rfl, rfl⟩) | (go_at_call 9; refine (hBV.out _).mono ?_; rintro e w7 ⟨rfl, hb7⟩))
      go_ret
      exact ⟨rfl, hbV.trans (hb7.mono hbV.size)⟩
    · have hd1 : decide (0 ≤ a) = true := by simpa using ha
      have hd2 : decide (a ≤ ((S b).size : Int)) = false := by simpa using ha2
      go_wp2_with fail
      go_quiet (fail)
      go_wp2_with fail
      refine (hT.out _ (he3.drewN _)).mono ?_
      rintro e w5 ⟨rfl, hb5⟩
      have he5 := (he3.drewN _).on hb5
      have hbU : Below w.heap.size w w5 := Below.trans (below_drewN hbB _) (hb5.mono hbB.size)
      go_wp2_with fail
      refine (known_any _ he5).mono ?_
      rintro e w6 ⟨rfl, hb6⟩
      have hbV := hbU.trans (hb6.mono hbU.size)
      go_wp2_with (first | (go_at_call 11; refine (num_any _ _).mono ?_; rintro e w' ⟨rfl, rfl⟩) | (go_at_call 9; refine (hBV.out _).mono ?_; rintro e w7 ⟨rfl, hb7⟩))
      go_ret
      exact ⟨rfl, hbV.trans (hb7.mono hbV.size)⟩
  · have hd1 : decide (0 ≤ a) = false := by simpa using ha
    go_wp2_with fail
    go_quiet (fail)
    go_wp2_with fail
    refine (hT.out _ (he3.drewN _)).mono ?_
    rintro e w5 ⟨rfl, hb5⟩
    have he5 := (he3.drewN _).on hb5
    have hbU : Below w.heap.size w w5 := Below.trans (below_drewN hbB _) (hb5.mono hbB.size)
    go_wp2_with fail
    refine (known_any _ he5).mono ?_
    rintro e w6 ⟨rfl, hb6⟩
    have hbV := hbU.trans (hb6.mono hbU.size)
    go_wp2_with (first | (go_at_call 11; refine (num_any _ _).mono ?_; rintro e w' ⟨rfl, rfl⟩) | (go_at_call 9; refine (hBV.out _).mono ?_; rintro e w7 ⟨rfl, hb7⟩))
    go_ret
    exact ⟨rfl, hbV.trans (hb7.mono hbV.size)⟩

theorem OctetBack_walk (s t : ByteArray) (a : Int) (w : World) (he : Env w) :
    Calls Tryd.prog 3 #[.string s, .string t, .int .i64 a] w fun e w' => e = .returned (.bool true) ∧ Below w.heap.size w w' := by
  by_cases hs : s.size ≤ 20000
  · by_cases ht : t.size ≤ 20000
    · rcases from_cases (L t) with h | ⟨v, h1, h2, h3⟩
      · exact OctetBack_no s t a w he hs ht h
      · exact OctetBack_yes s t a w he hs ht v h1 h2 h3
    · go_enter Tryd.func3, Tryd.ntmps3
      go_wp2
      go_ret
      exact ⟨rfl, Below.refl _ _⟩
  · go_enter Tryd.func3, Tryd.ntmps3
    go_wp2
    go_ret
    exact ⟨rfl, Below.refl _ _⟩
end Go.Proofs.YtclegocofiigiaaDoor
