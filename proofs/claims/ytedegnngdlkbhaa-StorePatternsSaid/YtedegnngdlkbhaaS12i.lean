/- The statement StorePatterns: the walk. -/
import Derived.Test.YtedegnngdlkbhaaS12h
namespace Go.Proofs.Ytedegnngdlkbhaa
open Go.RowKit

set_option maxHeartbeats 400000 in
theorem spot_any (x : Int) (n : Nat) (w : World) (h0 : -9223372036854775808 ≤ x) (h1 : x ≤ 9223372036854775807) (hn : 1 ≤ n) (hn' : n ≤ 1000000) :
    Calls Try.prog 5 #[.int .i64 x, .int .i64 (n : Int)] w fun e w' => ∃ r : Nat, e = .returned (.int .i64 (r : Int)) ∧ r < n ∧ w' = w := by
  by_cases hx : x < 0
  · obtain ⟨y, hy⟩ : ∃ y : Nat, -(x + 1) = (y : Int) := ⟨(-(x + 1)).toNat, by omega⟩
    have e1 : ((y : Int)).tmod (n : Int) = ((y % n : Nat) : Int) := by rw [Int.tmod_eq_emod_of_nonneg (by omega)]; rfl
    have hlt : y % n < n := Nat.mod_lt _ (by omega)
    go_enter Try.func5, Try.ntmps5
    go_wp2
    go_ret
    exact ⟨y % n, by first | rfl | (simp [e1]), hlt, rfl⟩
  · obtain ⟨y, rfl⟩ : ∃ y : Nat, x = (y : Int) := ⟨x.toNat, by omega⟩
    have e1 : ((y : Int)).tmod (n : Int) = ((y % n : Nat) : Int) := by rw [Int.tmod_eq_emod_of_nonneg (by omega)]; rfl
    have hlt : y % n < n := Nat.mod_lt _ (by omega)
    go_enter Try.func5, Try.ntmps5
    go_wp2
    go_ret
    exact ⟨y % n, by first | rfl | (simp [e1]), hlt, rfl⟩

theorem bare_snoc (l : List UInt8) (c : UInt8) : bare (l ++ [c]) = (bare l && !isW c) := by unfold bare; rw [List.all_append]; simp
def slashB (l : List UInt8) : Bool := l.any (fun c => c == 47)
theorem slash_snoc (l : List UInt8) (c : UInt8) : slashB (l ++ [c]) = (slashB l || c == 47) := by unfold slashB; rw [List.any_append]; simp
theorem byte_tests (c : UInt8) : ∃ a b d : Bool, (((c.toNat : Nat) : Int) != 42) = a ∧ (((c.toNat : Nat) : Int) != 37) = b ∧ (((c.toNat : Nat) : Int) == 47) = d ∧ isW c = (!a || !b) ∧ (c == 47) = d := by
  refine ⟨_, _, _, rfl, rfl, rfl, ?_, ?_⟩
  · have h1 : (((c.toNat : Nat) : Int) != 42) = !(c == 42) := by
      by_cases e : c = 42
      · subst e; rfl
      · have h2 : (c == 42) = false := by simpa using e
        have h3 : (((c.toNat : Nat) : Int) != 42) = true := by
          rw [bne_iff_ne]; intro e'; exact e (UInt8.toNat_inj.1 (by show c.toNat = 42; omega))
        rw [h2, h3]; rfl
    have h2 : (((c.toNat : Nat) : Int) != 37) = !(c == 37) := by
      by_cases e : c = 37
      · subst e; rfl
      · have h2 : (c == 37) = false := by simpa using e
        have h3 : (((c.toNat : Nat) : Int) != 37) = true := by
          rw [bne_iff_ne]; intro e'; exact e (UInt8.toNat_inj.1 (by show c.toNat = 37; omega))
        rw [h2, h3]; rfl
    rw [h1, h2]; unfold isW; simp
  · by_cases e : c = 47
    · subst e; rfl
    · have h2 : (c == 47) = false := by simpa using e
      have h3 : (((c.toNat : Nat) : Int) == 47) = false := by
        rw [beq_eq_false_iff_ne]; intro e'; exact e (UInt8.toNat_inj.1 (by show c.toNat = 47; omega))
      rw [h2, h3]
def inS (l : List UInt8) (i j : Nat) : Bool := slashB ((l.take j).drop i)
theorem inS_succ (l : List UInt8) (i j : Nat) (hi : i ≤ j) (hj : j < l.length) : inS l i (j + 1) = (inS l i j || bt l j == 47) := by
  unfold inS; rw [take_snoc l j hj, List.drop_append_of_le_length (by rw [List.length_take]; omega), slash_snoc]
theorem inS_no (l : List UInt8) (i k : Nat) (hk : k ≤ l.length) (h : inS l i k = false) : ∀ x, i ≤ x → x < k → (37 : UInt8) = 42 ∨ bt l x ≠ 47 := by
  intro x h1 h2
  right
  intro e
  unfold inS slashB at h
  rw [List.any_eq_false] at h
  refine h 47 ?_ rfl
  rw [← e, bt_getElem l x (by omega)]
  have : (List.drop i (List.take k l))[x - i]'(by rw [List.length_drop, List.length_take]; omega) = l[x] := by
    rw [List.getElem_drop, List.getElem_take]; congr 1; omega
  rw [← this]; exact List.getElem_mem _
theorem inb_take (l : List UInt8) : Lib.hasPrefix l (INB ++ [47]) = (l.take 6 == [73, 78, 66, 79, 88, 47]) := by
  unfold Lib.hasPrefix
  rw [Bool.eq_iff_iff, List.isPrefixOf_iff_prefix, beq_iff_eq, List.prefix_iff_eq_take]
  exact eq_comm
theorem cut_text (s : ByteArray) (i k : Nat) (c : UInt8) : L (s.extract 0 i ++ ⟨#[c]⟩ ++ s.extract k s.size) = (L s).take i ++ [c] ++ (L s).drop k := by
  have h1 := Lib.extract_data s 0 i
  have h2 := Lib.extract_data s k s.size
  have h3 : List.take (s.size - k) (List.drop k s.data.toList) = List.drop k s.data.toList := List.take_of_length_le (by rw [List.length_drop]; exact Nat.le_refl _)
  rw [h3] at h2
  rw [List.drop_zero, Nat.sub_zero] at h1
  unfold L
  rw [ByteArray.data_append, ByteArray.data_append, Array.toList_append, Array.toList_append, h1, h2]

set_option maxHeartbeats 1000000 in
set_option maxRecDepth 100000 in
theorem StorePatterns_walk (s o : ByteArray) (x y : Int) (w : World) (hx0 : -9223372036854775808 ≤ x) (hx1 : x ≤ 9223372036854775807) (hy0 : -9223372036854775808 ≤ y) (hy1 : y ≤ 9223372036854775807) :
    Calls Try.prog 3 #[.string s, .string o, .int .i64 x, .int .i64 y] w fun e w' => e = .returned (.bool true) ∧ Below w.heap.size w w' := by
  by_cases hs : s.size ≤ 300
  · have hs' : ¬ (s.size : Int) > 300 := by omega
    have hs'' : ¬ 300 < (s.size : Int) := by omega
    by_cases ho : o.size ≤ 300
    · have ho' : ¬ (o.size : Int) > 300 := by omega
      have ho'' : ¬ 300 < (o.size : Int) := by omega
      have HSp := Lib.hid (fun (z : Int) (n : Nat) X (h0 : -9223372036854775808 ≤ z) (h1 : z ≤ 9223372036854775807) (hn : 1 ≤ n) (hn' : n ≤ 1000000) => spot_any z n X h0 h1 hn hn')
      have HMt := Lib.hid (fun (p : ByteArray) (v : Bool) X (hp : p.size ≤ 1099511627776) (hv : fm (L p) 0 (prs (L s)) = v) (hX : Below w.heap.size w X) => (Match_any p s X hp (by omega)).mono (fun e w' ⟨h1, h2⟩ => (⟨by rw [h1, hv], hX.trans (h2.mono hX.size)⟩ : e = Ending.returned (.bool v) ∧ Below w.heap.size w w')))
      obtain ⟨sv, hsv⟩ : ∃ v, v = slashB (L s) := ⟨_, rfl⟩
      obtain ⟨bv, hbv⟩ : ∃ v, v = bare (L s) := ⟨_, rfl⟩
      have HSV := Lib.hid hsv
      have HBV := Lib.hid hbv
      clear hsv hbv
      have M1 := Lib.hid (fun X hX => HMt.out ⟨#[42]⟩ true X (by decide) (fm_star _) hX)
      have M2 := Lib.hid (fun X hX => HMt.out ⟨#[37]⟩ (!sv) X (by decide) (by
        rw [HSV.out, show L ⟨#[37]⟩ = [37] from rfl, fm_pct, prs_all (L s) (fun c => !(c == 47))]
        unfold slashB; rw [List.not_any_eq_all_not]) hX)
      have M3 := Lib.hid (fun X hX => HMt.out ⟨#[]⟩ (s.toList == []) X (by decide) (by
        rw [show L ⟨#[]⟩ = [] from rfl, fm_nil, prs_empty, toList_L]
        cases L s <;> rfl) hX)
      go_enter Try.func3, Try.ntmps3
      go_wp2_with fail
      go_loopw [9, 10, 11] (fun b9 b10 iv wr => ∃ k : Nat, k ≤ s.size ∧ b9 = .bool (bare ((L s).take k)) ∧ b10 = .bool (slashB ((L s).take k)) ∧ iv = .int .i64 (k : Int) ∧ wr = w) (fun _ _ iv _ => s.size - (intOf iv).toNat)
      case atStart => exact ⟨0, Nat.zero_le _, rfl, rfl, rfl, rfl⟩
      case round =>
        obtain ⟨k, hk, rfl, rfl, rfl, hwr⟩ := hrel
        obtain rfl : w = wr := hwr.symm
        by_cases hlt : k < s.size
        · have ea := get_bt s k hlt
          have hc8 := bt_lt (L s) k
          have e1 := bare_snoc ((L s).take k) (bt (L s) k)
          have e2 := slash_snoc ((L s).take k) (bt (L s) k)
          rw [← take_bt (L s) k hlt] at e1 e2
          obtain ⟨a, b, d, ha, hb, hd, hW, h47⟩ := byte_tests (bt (L s) k)
          rw [hW] at e1
          rw [h47] at e2
          clear hW h47
          generalize bt (L s) k = c at *
          obtain ⟨b1, h1⟩ : ∃ v, v = bare ((L s).take k) := ⟨_, rfl⟩
          obtain ⟨b2, h2⟩ : ∃ v, v = slashB ((L s).take k) := ⟨_, rfl⟩
          rw [← h1] at e1 ⊢
          rw [← h2] at e2 ⊢
          have E1 := Lib.hid e1
          have E2 := Lib.hid e2
          clear e1 e2 h1 h2
          cases b1 with
          | false =>
            cases b2
            all_goals
              go_wp2
              go_roundw
              case rel => exact ⟨k + 1, by omega, by rw [E1.out]; simp, by rw [E2.out]; simp, by push_cast; rfl, by first | rfl | trivial⟩
              case measure => simp [intOf]; omega
          | true =>
            cases b2 <;> cases a
            all_goals
              go_wp2
              go_roundw
              case rel => exact ⟨k + 1, by omega, by rw [E1.out]; simp, by rw [E2.out]; simp, by push_cast; rfl, by first | rfl | trivial⟩
              case measure => simp [intOf]; omega
        · have hall : (L s).take k = L s := List.take_of_length_le (by rw [L_length]; omega)
          rw [hall, ← HSV.out, ← HBV.out]
          clear hall
          obtain ⟨n1, hn1⟩ : ∃ n1 : Nat, n1 = s.size + 1 := ⟨_, rfl⟩
          have hsz1 : (s.size : Int) + 1 = (n1 : Int) := by omega
          have HN1 := Lib.hid hn1
          clear hn1
          go_wp2_with fail
          refine (HSp.out _ n1 _ hx0 hx1 (by have := HN1.out; omega) (by have := HN1.out; omega)).mono ?_
          rintro e w1 ⟨r1, rfl, hr1, hw1⟩
          rw [hw1]; clear hw1 w1
          obtain ⟨n2, hn2⟩ : ∃ n2 : Nat, n2 = n1 - r1 := ⟨_, rfl⟩
          have hsz2 : (n1 : Int) - (r1 : Int) = (n2 : Int) := by omega
          have HN2 := Lib.hid hn2
          have hn2' : 1 ≤ n2 := by omega
          have hn1' : n1 ≤ 301 := by have := HN1.out; omega
          clear hn2
          go_wp2_with fail
          refine (HSp.out _ n2 _ hy0 hy1 hn2' (by have := HN2.out; omega)).mono ?_
          rintro e w1 ⟨r2, rfl, hr2, hw1⟩
          rw [hw1]; clear hw1 w1
          obtain ⟨q, hq⟩ : ∃ q : Nat, q = r1 + r2 := ⟨_, rfl⟩
          have hq' : (r1 : Int) + (r2 : Int) = (q : Int) := by omega
          have hqs : q ≤ s.size := by have := HN1.out; have := HN2.out; omega
          have hrq : r1 ≤ q := by omega
          clear hq
          go_wp2_with fail
          go_loopw [12, 13] (fun b12 iv wr => ∃ j : Nat, r1 ≤ j ∧ j ≤ q ∧ b12 = .bool (inS (L s) r1 j) ∧ iv = .int .i64 (j : Int) ∧ wr = w) (fun _ iv _ => q - (intOf iv).toNat)
          case atStart =>
            refine ⟨r1, Nat.le_refl _, hrq, ?_, rfl, rfl⟩
            have : inS (L s) r1 r1 = false := by unfold inS; rw [List.drop_eq_nil_of_le (by rw [List.length_take]; omega)]; rfl
            rw [this]
          case round =>
            obtain ⟨j, hj1, hj2, rfl, rfl, hwr⟩ := hrel
            obtain rfl : w = wr := hwr.symm
            by_cases hlt2 : j < q
            · have hjs : j < s.size := by omega
              have ea := get_bt s j hjs
              have hc8 := bt_lt (L s) j
              have e2 := inS_succ (L s) r1 j hj1 hjs
              obtain ⟨a, b, d, ha, hb, hd, hW, h47⟩ := byte_tests (bt (L s) j)
              rw [h47] at e2
              clear hW h47 ha hb
              generalize bt (L s) j = c at *
              obtain ⟨b2, h2⟩ : ∃ v, v = inS (L s) r1 j := ⟨_, rfl⟩
              rw [← h2] at e2 ⊢
              have E2 := Lib.hid e2
              clear e2 h2
              cases b2
              all_goals
                go_wp2
                go_roundw
                case rel => exact ⟨j + 1, by omega, by omega, by rw [E2.out]; simp, by push_cast; rfl, by first | rfl | trivial⟩
                case measure => simp [intOf]; omega
            · obtain rfl : j = q := by omega
              obtain ⟨nb, hnb⟩ : ∃ v, v = inS (L s) r1 j := ⟨_, rfl⟩
              rw [← hnb]
              have HNB := Lib.hid hnb
              clear hnb hlt2 hj2
              have hB0 : Below w.heap.size w w := Below.refl _ _
              go_wp2_with fail
              refine (M1.out _ hB0).mono ?_
              rintro e w1 ⟨rfl, hB1⟩
              go_wp2_with fail
              refine (M2.out _ hB1).mono ?_
              rintro e w2 ⟨rfl, hB2⟩
              go_wp2_with fail
              refine (M3.out _ hB2).mono ?_
              rintro e w3 ⟨rfl, hB3⟩
              clear hB0 hB1 hB2 M1 M2 M3
              have HB3 := Lib.hid hB3
              clear hB3
              cases bv with
              | false =>
                go_wp2
                go_ret
                exact ⟨rfl, HB3.out⟩
              | true =>
                go_upto_region 21 with fail
                go_cut [14] (fun s14 wx => ∃ lb : Bool, s14 = .bool lb ∧ (lb = false → o.toList = s.toList ∨ foldN (L s) = 0) ∧ wx = w3)
                case first =>
                  by_cases he : o.toList = s.toList
                  · have e1 : (!(o.toList == s.toList)) = false := by rw [he]; simp
                    have HE := Lib.hid he
                    clear he
                    go_wp2
                    go_meet
                    exact ⟨false, rfl, fun _ => .inl HE.out, rfl⟩
                  · have e1 : (!(o.toList == s.toList)) = true := by simpa using he
                    clear he
                    cases hI : (s.toList == [73, 78, 66, 79, 88]) with
                    | true =>
                      go_wp2
                      go_meet
                      exact ⟨true, rfl, fun h => (by cases h), rfl⟩
                    | false =>
                      have HI : Hid ((L s == INB) = false) := Lib.hid (by rw [← toList_L]; exact hI)
                      by_cases h5 : 5 < (s.size : Int)
                      · have h5' : (s.size : Int) > 5 := h5
                        have h6 : (6 : Int) ≤ (s.size : Int) := by omega
                        have HX : Hid (((s.extract 0 6).toList == [73, 78, 66, 79, 88, 47]) = Lib.hasPrefix (L s) (INB ++ [47])) := Lib.hid (by
                          rw [inb_take, toList_L]
                          have h1 := Lib.extract_data s 0 6
                          unfold L; rw [h1]; rfl)
                        go_wp2
                        go_meet
                        refine ⟨_, rfl, fun h => .inr ?_, rfl⟩
                        rw [HX.out] at h
                        unfold foldN isInb; rw [HI.out, h]; rfl
                      · have h5' : ¬ (s.size : Int) > 5 := h5
                        have HX : Hid (Lib.hasPrefix (L s) (INB ++ [47]) = false) := Lib.hid (by
                          rw [inb_take, beq_eq_false_iff_ne]
                          intro e
                          have := congrArg List.length e
                          rw [List.length_take, L_length] at this
                          simp at this; omega)
                        go_wp2
                        go_meet
                        refine ⟨false, rfl, fun _ => .inr ?_, rfl⟩
                        unfold foldN isInb; rw [HI.out, HX.out]; rfl
                case rest =>
                  obtain ⟨lb, rfl, hlb, hwc⟩ := hcut
                  obtain rfl : w3 = wc := hwc.symm
                  have HLB := Lib.hid hlb
                  clear hlb
                  obtain ⟨av, hav⟩ : ∃ v, v = fm (L o) 0 (prs (L s)) := ⟨_, rfl⟩
                  have M7 := Lib.hid (fun X hX => HMt.out o av X (by omega) hav.symm hX)
                  have HAV := Lib.hid hav
                  clear hav
                  obtain ⟨tB, htB⟩ : ∃ t, t = s.extract 0 r1 ++ ⟨#[42]⟩ ++ s.extract j s.size := ⟨_, rfl⟩
                  obtain ⟨tP, htP⟩ : ∃ t, t = s.extract 0 r1 ++ ⟨#[37]⟩ ++ s.extract j s.size := ⟨_, rfl⟩
                  have zs : (s.extract 0 r1).size = r1 := by rw [ByteArray.size_extract]; omega
                  have zt : (s.extract j s.size).size = s.size - j := by rw [ByteArray.size_extract]; omega
                  have zB : tB.size ≤ 1099511627776 := by rw [htB, ByteArray.size_append, ByteArray.size_append, zs, zt]; show r1 + 1 + (s.size - j) ≤ _; omega
                  have zP : tP.size ≤ 1099511627776 := by rw [htP, ByteArray.size_append, ByteArray.size_append, zs, zt]; show r1 + 1 + (s.size - j) ≤ _; omega
                  have M5 := Lib.hid (fun X hX => HMt.out tB true X zB (by
                    rw [htB, cut_text]
                    exact match_cut (L s) r1 j hrq hqs HBV.out.symm 42 rfl (fun _ _ _ => .inl rfl)) hX)
                  obtain ⟨cv, hcv⟩ : ∃ v, v = fm (L tP) 0 (prs (L s)) := ⟨_, rfl⟩
                  have M6 := Lib.hid (fun X hX => HMt.out tP cv X zP hcv.symm hX)
                  have HCN : Hid (nb = false → cv = true) := Lib.hid (fun hnb => by
                    rw [hcv, htP, cut_text]
                    exact match_cut (L s) r1 j hrq hqs HBV.out.symm 37 rfl (inS_no (L s) r1 j hqs (by rw [← HNB.out]; exact hnb)))
                  have M4 := Lib.hid (fun X hX => HMt.out s true X (by omega) (match_self _ HBV.out.symm) hX)
                  have HTB := Lib.hid htB
                  have HTP := Lib.hid htP
                  clear zB zP hcv HMt htP htB
                  go_wp2_with fail
                  refine (M7.out _ HB3.out).mono ?_
                  rintro e w4 ⟨rfl, hB4⟩
                  have HB4 := Lib.hid hB4
                  clear hB4
                  have b1 : (r1 : Int) ≤ (s.size : Int) := by omega
                  have b2 : (j : Int) ≤ (s.size : Int) := by omega
                  go_upto_region 23 with fail
                  rw [HTB.out] at M5
                  rw [HTP.out] at M6
                  go_cut [16] (fun s16 wx => s16 = .bool true ∧ Below w.heap.size w wx)
                  case first =>
                    go_region_with (go_at_call 6; refine (M5.out _ ?_).mono ?_; exact HB4.out.drew; rintro e w5 ⟨rfl, hB5⟩)
                    all_goals (go_wp2_with fail; go_meet; exact ⟨rfl, hB5⟩)
                  case rest =>
                    obtain ⟨rfl, hB5⟩ := hcut
                    have HB5 := Lib.hid hB5
                    clear hB5 HB4 M5
                    go_upto_region 24 with fail
                    go_cut [17] (fun s17 wx => s17 = .bool cv ∧ Below w.heap.size w wx)
                    case first =>
                      go_region_with (go_at_call 6; refine (M6.out _ ?_).mono ?_; exact HB5.out.drew; rintro e w5 ⟨rfl, hB6⟩)
                      all_goals (go_wp2_with fail; go_meet; exact ⟨rfl, hB6⟩)
                    case rest =>
                      obtain ⟨rfl, hB6⟩ := hcut
                      have HB6 := Lib.hid hB6
                      rename_i wc5
                      clear hB6 HB5 M6 M7
                      go_wp2_with fail
                      go_loopw [18] (fun iv wr => ∃ z : Nat, z ≤ o.size ∧ iv = .int .i64 (z : Int) ∧ bare ((L o).take z) = true ∧ wr = wc) (fun iv _ => o.size - (intOf iv).toNat)
                      case atStart => exact ⟨0, Nat.zero_le _, rfl, rfl, rfl⟩
                      case round =>
                        obtain ⟨z, hz, rfl, hbz, hwr⟩ := hrel
                        obtain rfl : wc = wr := hwr.symm
                        have HBZ := Lib.hid hbz
                        clear hbz
                        by_cases hlt3 : z < o.size
                        · have ea := get_bt o z hlt3
                          have hc8 := bt_lt (L o) z
                          have e1 := bare_snoc ((L o).take z) (bt (L o) z)
                          rw [← take_bt (L o) z hlt3, HBZ.out] at e1
                          obtain ⟨a, b, d, ha, hb, hd, hW, h47⟩ := byte_tests (bt (L o) z)
                          rw [hW] at e1
                          clear hW h47 hd
                          have ha' : (((bt (L o) z).toNat : Int) == 42) = !a := by rw [← ha]; simp [bne]
                          have hb' : (((bt (L o) z).toNat : Int) == 37) = !b := by rw [← hb]; simp [bne]
                          clear ha hb
                          generalize bt (L o) z = c at *
                          have E1 := Lib.hid e1
                          clear e1
                          cases a with
                          | false =>
                            cases cv with
                            | true =>
                              go_wp2_with (go_at_call 6; refine (M4.out _ HB6.out).mono ?_; rintro e w6 ⟨rfl, hB7⟩)
                              go_ret
                              exact ⟨rfl, hB7⟩
                            | false =>
                              obtain rfl : nb = true := by cases nb with | true => rfl | false => have := HCN.out rfl; cases this
                              go_wp2_with (go_at_call 6; refine (M4.out _ HB6.out).mono ?_; rintro e w6 ⟨rfl, hB7⟩)
                              go_ret
                              exact ⟨rfl, hB7⟩
                          | true =>
                            cases b with
                            | false =>
                              cases cv with
                              | true =>
                                go_wp2_with (go_at_call 6; refine (M4.out _ HB6.out).mono ?_; rintro e w6 ⟨rfl, hB7⟩)
                                go_ret
                                exact ⟨rfl, hB7⟩
                              | false =>
                                obtain rfl : nb = true := by cases nb with | true => rfl | false => have := HCN.out rfl; cases this
                                go_wp2_with (go_at_call 6; refine (M4.out _ HB6.out).mono ?_; rintro e w6 ⟨rfl, hB7⟩)
                                go_ret
                                exact ⟨rfl, hB7⟩
                            | true =>
                              go_wp2
                              go_roundw
                              case rel => exact ⟨z + 1, by omega, by push_cast; rfl, by rw [E1.out]; rfl, by first | rfl | trivial⟩
                              case measure => simp [intOf]; omega
                        · have hall : bare (L o) = true := by
                            have := HBZ.out
                            rw [List.take_of_length_le (by rw [L_length]; omega)] at this; exact this
                          have hA : lb = false → (av != (o.toList == s.toList)) = false := fun hl => by
                            rw [toList_L, toList_L] at *
                            rcases HLB.out hl with e | e
                            · have e' : L o = L s := e
                              rw [HAV.out, e', match_self _ HBV.out.symm]; simp
                            · rw [HAV.out, match_bare _ _ hall e]; simp
                          clear hall
                          cases lb with
                          | true =>
                            clear hA
                            cases cv with
                            | true =>
                              go_wp2_with (go_at_call 6; refine (M4.out _ HB6.out).mono ?_; rintro e w6 ⟨rfl, hB7⟩)
                              go_ret
                              exact ⟨rfl, hB7⟩
                            | false =>
                              obtain rfl : nb = true := by cases nb with | true => rfl | false => have := HCN.out rfl; cases this
                              go_wp2_with (go_at_call 6; refine (M4.out _ HB6.out).mono ?_; rintro e w6 ⟨rfl, hB7⟩)
                              go_ret
                              exact ⟨rfl, hB7⟩
                          | false =>
                            have hA' := hA rfl
                            clear hA
                            obtain ⟨ev, hev⟩ : ∃ v, (o.toList == s.toList) = v := ⟨_, rfl⟩
                            rw [hev] at hA'
                            obtain rfl : av = ev := by simpa using hA'
                            clear hA'
                            cases cv with
                            | true =>
                              go_wp2_with (go_at_call 6; refine (M4.out _ HB6.out).mono ?_; rintro e w6 ⟨rfl, hB7⟩)
                              go_ret
                              exact ⟨rfl, hB7⟩
                            | false =>
                              obtain rfl : nb = true := by cases nb with | true => rfl | false => have := HCN.out rfl; cases this
                              go_wp2_with (go_at_call 6; refine (M4.out _ HB6.out).mono ?_; rintro e w6 ⟨rfl, hB7⟩)
                              go_ret
                              exact ⟨rfl, hB7⟩
    · have ho' : (o.size : Int) > 300 := by omega
      have ho'' : 300 < (o.size : Int) := by omega
      go_enter Try.func3, Try.ntmps3
      go_wp2
      go_ret
      exact ⟨rfl, Below.refl _ _⟩
  · have hs' : (s.size : Int) > 300 := by omega
    have hs'' : 300 < (s.size : Int) := by omega
    go_enter Try.func3, Try.ntmps3
    go_wp2
    go_ret
    exact ⟨rfl, Below.refl _ _⟩

end Go.Proofs.Ytedegnngdlkbhaa
