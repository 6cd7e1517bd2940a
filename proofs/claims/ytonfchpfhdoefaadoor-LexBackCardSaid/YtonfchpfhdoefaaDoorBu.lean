/- The statement LexBack: the walk. -/
import Derived.Test.YtonfchpfhdoefaaDoorBt
namespace Go.Proofs.YtonfchpfhdoefaaDoor
open Go.RowKit

/-- What Join answers is read back. -/
theorem join_back {l : List Wd} (h : joinE l = 0) : scanE (joinS l) (joinT l) = 0 ∧ scanW (joinS l) (joinT l) = l ∧ joinS l = (jF l).line ∧ joinT l = (jF l).lits := by
  have hS : joinS l = (jF l).line := by unfold joinS; rw [h]; rfl
  have hT : joinT l = (jF l).lits := by unfold joinT; rw [h]; rfl
  have hB : joinB l = true := by
    unfold joinE at h
    split at h
    · simp at h
    · split at h
      · assumption
      · simp at h
  unfold joinB at hB
  rw [Bool.and_eq_true, decide_eq_true_eq] at hB
  rw [hS, hT]
  exact ⟨hB.1, eqL_eq _ _ hB.2, rfl, rfl⟩
theorem join_no {l : List Wd} (h : joinE l ≠ 0) : joinS l = [] ∧ joinT l = [] := by
  unfold joinS joinT
  rw [if_neg h, if_neg h]
  exact ⟨rfl, rfl⟩
theorem joinT_small (l : List Wd) : (∀ x ∈ joinT l, x.size ≤ 16384) ∧ (joinS l).length ≤ 20480000 := by
  have := jF_small l
  unfold joinT joinS
  split
  · exact ⟨this.2.2, this.1⟩
  · exact ⟨fun x hx => (by cases hx), by simp⟩
theorem S_inj {a b : List UInt8} (h : S a = S b) : a = b := by rw [← L_S a, h, L_S]
set_option maxRecDepth 100000 in
set_option maxHeartbeats 4000000 in
theorem LexBack_walk (l1 l2 : List Wd) (a1 a2 : Option Addr) (n1 c1 n2 c2 : Nat) (D1 D2 : Nat → Prop) (w : World) (he : Env w) (h1 : Lies w D1 a1 n1 c1 l1) (h2 : Lies w D2 a2 n2 c2 l2) :
    Calls Tryd.prog 5 #[.slice a1 n1 c1, .slice a2 n2 c2] w fun e w' => e = .returned (.bool true) ∧ Below w.heap.size w w' := by
  have HK := Lib.hid (known_any w he)
  have HN := Lib.hid num_any
  have HE := Lib.hid he
  have H1 := Lib.hid h1
  have H2 := Lib.hid h2
  clear he h1 h2
  go_enter Tryd.func5, Tryd.ntmps5
  go_upto_region 4 with (go_at_call 14; refine HK.out.mono ?_; rintro e w1 ⟨rfl, hb1⟩)
  have HJ1 := Lib.hid (Join_any l1 a1 n1 c1 D1 w1 (H1.out.on hb1) (HE.out.on hb1))
  have HB1 := Lib.hid hb1
  clear hb1 HK
  go_upto_region 5 with (go_at_call 15; refine HJ1.out.mono ?_; rintro e w2 ⟨v1, rfl, hs2, hb2⟩)
  have HB2 := Lib.hid (HB1.out.trans (hb2.mono HB1.out.size))
  have HS2 := Lib.hid hs2
  have HJ2 := Lib.hid (Join_any l2 a2 n2 c2 D2 w2 (H2.out.on HB2.out) (HE.out.on HB2.out))
  clear hb2 hs2 HJ1 HB1
  go_upto_region 6 with (go_at_call 15; refine HJ2.out.mono ?_; rintro e w3 ⟨v2, rfl, hs3, hb3⟩)
  have HB3 := Lib.hid (HB2.out.trans (hb3.mono HB2.out.size))
  have HS3 := Lib.hid hs3
  have HT3 := Lib.hid (HS2.out.on hb3)
  clear hb3 hs3 HJ2 HB2 HS2
  by_cases h1 : joinE l1 = 0
  · have hjb := join_back h1
    have hne : (joinE l1 != 0) = false := by rw [h1]; rfl
    have HSC := Lib.hid (Scan_any (S (joinS l1)) v1 (joinT l1) w3 HT3.out (by have := (joinT_small l1).2; rw [← L_length, L_S]; omega) (getD_small (joinT_small l1).1))
    rw [L_S, hjb.1, hjb.2.1] at HSC
    have HJ := Lib.hid hjb
    clear hjb
    go_upto_region 9 with (first | (go_at_call 16; refine (HN.out _ _).mono ?_; rintro e w' ⟨rfl, hw'⟩; rw [hw']; clear hw' w') | (go_at_call 17; refine HSC.out.mono ?_; rintro e w4 ⟨a4, n4, c4, D4, rfl, hl4, hd4, hb4⟩))
    have HB4 := Lib.hid (HB3.out.trans (hb4.mono HB3.out.size))
    have HA := Lib.hid (alike_any (Nat.succ (SizeOf.sizeOf l1)) l1 (Nat.lt_succ_self _) w4 D4 D1 a4 a1 n4 c4 n1 c1 hl4 (H1.out.on HB4.out) w4 (Below.refl _ _))
    have HS4 := Lib.hid (HS3.out.on hb4)
    have HT4 := Lib.hid (HT3.out.on hb4)
    clear hb4 hl4 hd4 HSC HB3 HS3 HT3
    go_upto_region 11 with (first | (go_at_call 16; refine (HN.out _ _).mono ?_; rintro e w' ⟨rfl, hw'⟩; rw [hw']; clear hw' w') | (go_at_call 18; refine HA.out.mono ?_; rintro e w5 ⟨rfl, hb5⟩))
    have HB5 := Lib.hid (HB4.out.trans (hb5.mono HB4.out.size))
    have HTX := Lib.hid (texts_any v1 v2 _ _ w5 (HT4.out.on hb5) (HS4.out.on hb5))
    clear hb5 HA HB4 HS4 HT4
    by_cases h2 : joinE l2 = 0
    · have hn2 : (joinE l2 != 0) = false := by rw [h2]; rfl
      have HJ2 := Lib.hid (join_back h2)
      have hx := txt_eq (a := S (joinS l1)) (b := S (joinS l2))
      by_cases h3 : S (joinS l1) = S (joinS l2)
      · rw [decide_eq_true h3] at hx
        have H3 := Lib.hid (S_inj h3)
        clear h3
        by_cases h4 : joinT l1 = joinT l2
        · rw [decide_eq_true h4] at HTX
          have hll : l1 = l2 := by rw [← HJ.out.2.1, ← HJ2.out.2.1, H3.out, h4]
          have HAL := Lib.hid (fun W hW => alike_any (Nat.succ (SizeOf.sizeOf l1)) l1 (Nat.lt_succ_self _) w D1 D2 a1 a2 n1 c1 n2 c2 H1.out (by rw [hll]; exact H2.out) W hW)
          clear hll h4 H3 HJ HJ2 H1 H2
          generalize S (joinS l1) = s1 at *
          generalize S (joinS l2) = s2 at *
          generalize joinE l1 = e1 at *
          generalize joinE l2 = e2 at *
          go_wp2_with (first | (go_at_call 16; refine (HN.out _ _).mono ?_; rintro e w' ⟨rfl, hw'⟩; rw [hw']; clear hw' w') | (go_at_call 19; refine HTX.out.mono ?_; rintro e w6 ⟨rfl, hb6⟩) | (go_at_call 18; refine (HAL.out _ (HB5.out.trans (hb6.mono HB5.out.size))).mono ?_; rintro e w7 ⟨rfl, hb7⟩))
          go_ret
          have hb7' := HB5.out.trans (hb6.mono HB5.out.size)
          exact ⟨rfl, hb7'.trans (hb7.mono hb7'.size)⟩
        · rw [decide_eq_false h4] at HTX
          clear h4 H3 HJ HJ2 H1 H2
          generalize S (joinS l1) = s1 at *
          generalize S (joinS l2) = s2 at *
          generalize joinE l1 = e1 at *
          generalize joinE l2 = e2 at *
          go_wp2_with (first | (go_at_call 16; refine (HN.out _ _).mono ?_; rintro e w' ⟨rfl, hw'⟩; rw [hw']; clear hw' w') | (go_at_call 19; refine HTX.out.mono ?_; rintro e w6 ⟨rfl, hb6⟩))
          go_ret
          exact ⟨rfl, HB5.out.trans (hb6.mono HB5.out.size)⟩
      · rw [decide_eq_false h3] at hx
        clear h3 HJ HJ2 H1 H2 HTX
        generalize S (joinS l1) = s1 at *
        generalize S (joinS l2) = s2 at *
        generalize joinE l1 = e1 at *
        generalize joinE l2 = e2 at *
        go_wp2_with (go_at_call 16; refine (HN.out _ _).mono ?_; rintro e w' ⟨rfl, hw'⟩; rw [hw']; clear hw' w')
        go_ret
        exact ⟨rfl, HB5.out⟩
    · have hn2 : (joinE l2 != 0) = true := by simpa using h2
      clear h2 HJ H1 H2 HTX
      generalize joinE l2 = e2 at *
      go_wp2_with (go_at_call 16; refine (HN.out _ _).mono ?_; rintro e w' ⟨rfl, hw'⟩; rw [hw']; clear hw' w')
      go_ret
      exact ⟨rfl, HB5.out⟩
  · have hne : (joinE l1 != 0) = true := by simpa using h1
    have hjn := join_no h1
    have hv := HT3.out
    rw [hjn.2] at hv
    obtain ⟨ao, cap, rfl, _, _⟩ := hv.shape
    rw [hjn.1, show S [] = (⟨#[]⟩ : ByteArray) from rfl]
    clear hjn hv HT3 HS3 h1 H1 H2
    generalize joinE l1 = e1 at *
    go_wp2_with (go_at_call 16; refine (HN.out _ _).mono ?_; rintro e w' ⟨rfl, hw'⟩; rw [hw']; clear hw' w')
    go_ret
    exact ⟨rfl, HB3.out⟩
end Go.Proofs.YtonfchpfhdoefaaDoor
