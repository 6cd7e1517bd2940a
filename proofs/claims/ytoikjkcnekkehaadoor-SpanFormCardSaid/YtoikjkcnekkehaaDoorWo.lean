/- SpanForm: the walk (written by formgen.py). -/
import Derived.Test.YtoikjkcnekkehaaDoorWn
import Derived.Test.YtoikjkcnekkehaaDoorWd
import Derived.Deep.DeepCutAuto
namespace Go.Proofs.YtoikjkcnekkehaaDoor
open Go.RowKit

set_option maxRecDepth 100000 in
set_option maxHeartbeats 8000000 in
theorem SpanForm_walk (v0 v1 : Value) (la : List Int) (ll : List (List Rg)) (cut : Int) (w : World) (he : Env w) (h0 : Ints w v0 la) (h1 : Sets w v1 ll) :
    Calls Tryd.prog 6 #[v0, v1, .int .i64 cut] w fun e w' => e = .returned (.bool true) ∧ Below w.heap.size w w' := by
  obtain ⟨ao, cap, hv0, hl0, hc0⟩ := h1.shape
  obtain ⟨ao1, cap1, hv1, hl1, _⟩ := h0.shape
  subst hv0
  subst hv1
  have HC0 := Lib.hid hc0
  have H0 := Lib.hid h0
  have H1 := Lib.hid h1
  have HE := Lib.hid he
  clear h0 h1 he hc0
  go_enter Tryd.func6, Tryd.ntmps6
  go_wp2_with fail
  go_loopg [7, 8] ll.length (fun gg s7 s8 wr => ∃ (i m : Nat), w = wr ∧ i ≤ ll.length ∧ ll.length - i ≤ gg ∧ s8 = .int .i64 i ∧ s7 = .int .i64 m ∧ m ≤ 100000000000000 ∧ Hid (m = la.length + ll.length + (ll.take i).flatten.length))
  case atStart => exact ⟨0, la.length + ll.length, rfl, Nat.zero_le _, by omega, rfl, rfl, by omega, Lib.hid (by simp)⟩
  case round =>
    obtain ⟨i, m, hw, hi, hgg, rfl, rfl, hm, HM⟩ := hrel
    subst hw
    by_cases h60 : m ≤ 400
    · have h60z : (m : Int) ≤ 400 := by omega
      have h60y : ¬ (400 : Int) < (m : Int) := by omega
      by_cases hlt : i < ll.length
      · have hltz : (i : Int) < (ll.length : Int) := by omega
        obtain ⟨b, off, f, hao, hb, hc⟩ := HC0.out (by omega)
        subst hao
        obtain ⟨c1, c2⟩ := hc i hlt
        obtain ⟨ao3, cap3, hs3, _⟩ := c2.shape
        have hl3 := c2.len
        have HF := Lib.hid (flat_succ ll i hlt)
        rw [hs3] at c1
        clear hc c2 hs3
        generalize ll.getD i [] = l at *
        go_wp2_with fail
        go_roundg (ll.length - (i + 1))
        case measure => omega
        case rel => exact ⟨i + 1, m + l.length, rfl, by omega, by omega, by go_num, by go_num, by omega, Lib.hid (by rw [HF.out, HM.out]; omega)⟩
      · have hltz : ¬ (i : Int) < (ll.length : Int) := by omega
        have : i = ll.length := by omega
        subst this
        have HT : Hid (ll.flatten.length ≤ 400 ∧ ll.length ≤ 400 ∧ la.length ≤ 400) := Lib.hid (by have := HM.out; rw [List.take_of_length_le (Nat.le_refl _)] at this; omega)
        clear HM
        have hsmall := HT.out
        obtain ⟨hs1, hs2, hs3⟩ := hsmall
        have HL := Lib.hid (least_any _ la w H0.out (by omega))
        have hll : (leastL la).length ≤ 400 := by (have h1 := tog_length (l := ones la); have h2 := ones_length la; unfold leastL; omega)
        have hjl : (joinL ll).length ≤ 402 := by (have := joinL_len ll; omega)
        go_wp2_with fail
        refine HL.out.mono ?_
        rintro e wL ⟨vl, rfl, hol⟩
        have HOL := Lib.hid hol
        obtain ⟨aol, capl, hvl, _⟩ := (hol.rgs (by omega)).shape
        subst hvl
        clear hol
        go_wp2_with fail
        refine (join_any _ ll wL (H1.out.on HOL.out.below) (by omega)).mono ?_
        rintro e wJ ⟨vj, rfl, hoj⟩
        have HRL := Lib.hid ((HOL.out.rgs (by omega)).on hoj.below)
        have HBJ := Lib.hid (bthen HOL.out.below hoj.below)
        have HJF := Lib.hid (joinL_form ll)
        have HLF := Lib.hid (leastL_form la)
        have HRJ := Lib.hid (hoj.rgs (by omega))
        generalize joinL ll = jl at *
        generalize leastL la = LL at *
        have hlies := hoj.lies
        clear hoj HOL HL HC0 H0 H1
        rcases hlies with ⟨hvj, hj0⟩ | ⟨g, cj, hvj, hcj, hcm, hg, hcells⟩
        · subst hvj
          subst hj0
          by_cases hA : cut < 0
          · skip
            have F1 : Hid True := Lib.hid trivial
            go_wp2_with (first | (go_at_call 17; clear F1; refine (rises_any _ LL wJ HRL.out (by omega) HLF.out).mono ?_; rintro e w5 ⟨rfl, hb5⟩; have HB5 := Lib.hid hb5; clear hb5) | (go_at_call 17; refine (rises_any _ [] w5 (Rgs.nil _) (by omega) okC_nil).mono ?_; rintro e w6 ⟨rfl, hb6⟩; have HB6 := Lib.hid (bthen HB5.out hb6); clear hb6))
            have hS0 : Below wJ.heap.size wJ w6.drew := HB6.out.drew
            have F2 : Hid True := Lib.hid trivial
            have F3 : Hid True := Lib.hid trivial
            have F4 : Hid True := Lib.hid trivial
            have F5 : Hid True := Lib.hid trivial
            go_region_held3 (fun X => Below wJ.heap.size wJ X) (first | assumption | exact hS0.alloc hS0.size _ | exact hS8.alloc hS8.size _ | exact hS10.alloc hS10.size _) (first
              | (go_at_call 11; clear F2; refine (join_is (litS1 _ _ _ [] _ (HRJ.out.on hS0) (by simp)) (by first | omega | (simp; done) | (simp; omega)) (join_one HJF.out)).mono ?_; rintro e w7 ⟨v7, rfl, ho7⟩; have HO7 := Lib.hid ho7; have hS7 : Below wJ.heap.size wJ w7 := bthen (hS0.alloc hS0.size _) ho7.below; clear ho7)
              | (go_at_call 15; clear F3; refine (same_yes (HO7.out.rgs (by first | omega | (simp; done) | (simp; omega))) (HRJ.out.on hS7) (by first | omega | (simp; done) | (simp; omega))).mono ?_; rintro e w8 ⟨rfl, hb8⟩; have hS8 : Below wJ.heap.size wJ w8 := bthen hS7 hb8; clear hb8)
              | (go_at_call 11; (fail_if_success (clear F2)); clear F4; refine (join_is (litS3 _ _ _ _ _ (List.drop 0 []) [] (List.take 0 []) _ (Rgs.nil _) (Rgs.nil _) (Rgs.nil _) (by simp)) (by first | omega | (simp; done) | (simp; omega)) (join_parts HJF.out _)).mono ?_; rintro e w9 ⟨v9, rfl, ho9⟩; have HO9 := Lib.hid ho9; have hS9 : Below wJ.heap.size wJ w9 := bthen (hS8.alloc hS8.size _) ho9.below; clear ho9)
              | (go_at_call 15; (fail_if_success (clear F3)); clear F5; refine (same_yes (HO9.out.rgs (by first | omega | (simp; done) | (simp; omega))) (HRJ.out.on hS9) (by first | omega | (simp; done) | (simp; omega))).mono ?_; rintro e w10 ⟨rfl, hb10⟩; have hS10 : Below wJ.heap.size wJ w10 := bthen hS9 hb10; clear hb10)
              | (go_at_call 11; (fail_if_success (clear F4)); refine (join_is (litS1 _ _ _ LL _ (HRL.out.on hS10) (by simp)) (by first | omega | (simp; done) | (simp; omega)) (join_one (JForm.plain _ HLF.out))).mono ?_; rintro e w11 ⟨v11, rfl, ho11⟩; have HO11 := Lib.hid ho11; have hS11 : Below wJ.heap.size wJ w11 := bthen (hS10.alloc hS10.size _) ho11.below; clear ho11)
              | (go_at_call 15; (fail_if_success (clear F5)); refine (same_yes (HO11.out.rgs (by omega)) (HRL.out.on hS11) (by omega)).mono ?_; rintro e w12 ⟨rfl, hb12⟩; have hS12 : Below wJ.heap.size wJ w12 := bthen hS11 hb12; clear hb12)
              | (go_at_call 10; refine (known_any _ (HE.out.on (bthen HBJ.out hS12))).mono ?_; rintro e w13 ⟨rfl, hb13⟩; have hS13 : Below wJ.heap.size wJ w13 := bthen hS12 hb13; clear hb13))
            go_wp2_with fail
            go_ret
            exact ⟨rfl, bthen HBJ.out hS13⟩
          · skip
            by_cases hB : 0 < cut
            · skip
              have F1 : Hid True := Lib.hid trivial
              go_wp2_with (first | (go_at_call 17; clear F1; refine (rises_any _ LL wJ HRL.out (by omega) HLF.out).mono ?_; rintro e w5 ⟨rfl, hb5⟩; have HB5 := Lib.hid hb5; clear hb5) | (go_at_call 17; refine (rises_any _ [] w5 (Rgs.nil _) (by omega) okC_nil).mono ?_; rintro e w6 ⟨rfl, hb6⟩; have HB6 := Lib.hid (bthen HB5.out hb6); clear hb6))
              have hS0 : Below wJ.heap.size wJ w6.drew := HB6.out.drew
              have F2 : Hid True := Lib.hid trivial
              have F3 : Hid True := Lib.hid trivial
              have F4 : Hid True := Lib.hid trivial
              have F5 : Hid True := Lib.hid trivial
              go_region_held3 (fun X => Below wJ.heap.size wJ X) (first | assumption | exact hS0.alloc hS0.size _ | exact hS8.alloc hS8.size _ | exact hS10.alloc hS10.size _) (first
                | (go_at_call 11; clear F2; refine (join_is (litS1 _ _ _ [] _ (HRJ.out.on hS0) (by simp)) (by first | omega | (simp; done) | (simp; omega)) (join_one HJF.out)).mono ?_; rintro e w7 ⟨v7, rfl, ho7⟩; have HO7 := Lib.hid ho7; have hS7 : Below wJ.heap.size wJ w7 := bthen (hS0.alloc hS0.size _) ho7.below; clear ho7)
                | (go_at_call 15; clear F3; refine (same_yes (HO7.out.rgs (by first | omega | (simp; done) | (simp; omega))) (HRJ.out.on hS7) (by first | omega | (simp; done) | (simp; omega))).mono ?_; rintro e w8 ⟨rfl, hb8⟩; have hS8 : Below wJ.heap.size wJ w8 := bthen hS7 hb8; clear hb8)
                | (go_at_call 11; (fail_if_success (clear F2)); clear F4; refine (join_is (litS3 _ _ _ _ _ (List.drop 0 []) [] (List.take 0 []) _ (Rgs.nil _) (Rgs.nil _) (Rgs.nil _) (by simp)) (by first | omega | (simp; done) | (simp; omega)) (join_parts HJF.out _)).mono ?_; rintro e w9 ⟨v9, rfl, ho9⟩; have HO9 := Lib.hid ho9; have hS9 : Below wJ.heap.size wJ w9 := bthen (hS8.alloc hS8.size _) ho9.below; clear ho9)
                | (go_at_call 15; (fail_if_success (clear F3)); clear F5; refine (same_yes (HO9.out.rgs (by first | omega | (simp; done) | (simp; omega))) (HRJ.out.on hS9) (by first | omega | (simp; done) | (simp; omega))).mono ?_; rintro e w10 ⟨rfl, hb10⟩; have hS10 : Below wJ.heap.size wJ w10 := bthen hS9 hb10; clear hb10)
                | (go_at_call 11; (fail_if_success (clear F4)); refine (join_is (litS1 _ _ _ LL _ (HRL.out.on hS10) (by simp)) (by first | omega | (simp; done) | (simp; omega)) (join_one (JForm.plain _ HLF.out))).mono ?_; rintro e w11 ⟨v11, rfl, ho11⟩; have HO11 := Lib.hid ho11; have hS11 : Below wJ.heap.size wJ w11 := bthen (hS10.alloc hS10.size _) ho11.below; clear ho11)
                | (go_at_call 15; (fail_if_success (clear F5)); refine (same_yes (HO11.out.rgs (by omega)) (HRL.out.on hS11) (by omega)).mono ?_; rintro e w12 ⟨rfl, hb12⟩; have hS12 : Below wJ.heap.size wJ w12 := bthen hS11 hb12; clear hb12)
                | (go_at_call 10; refine (known_any _ (HE.out.on (bthen HBJ.out hS12))).mono ?_; rintro e w13 ⟨rfl, hb13⟩; have hS13 : Below wJ.heap.size wJ w13 := bthen hS12 hb13; clear hb13))
              go_wp2_with fail
              go_ret
              exact ⟨rfl, bthen HBJ.out hS13⟩
            · skip
              have hC : cut = 0 := by omega
              subst hC
              clear hA hB
              have F1 : Hid True := Lib.hid trivial
              go_wp2_with (first | (go_at_call 17; clear F1; refine (rises_any _ LL wJ HRL.out (by omega) HLF.out).mono ?_; rintro e w5 ⟨rfl, hb5⟩; have HB5 := Lib.hid hb5; clear hb5) | (go_at_call 17; refine (rises_any _ [] w5 (Rgs.nil _) (by omega) okC_nil).mono ?_; rintro e w6 ⟨rfl, hb6⟩; have HB6 := Lib.hid (bthen HB5.out hb6); clear hb6))
              have hS0 : Below wJ.heap.size wJ w6.drew := HB6.out.drew
              have F2 : Hid True := Lib.hid trivial
              have F3 : Hid True := Lib.hid trivial
              have F4 : Hid True := Lib.hid trivial
              have F5 : Hid True := Lib.hid trivial
              go_region_held3 (fun X => Below wJ.heap.size wJ X) (first | assumption | exact hS0.alloc hS0.size _ | exact hS8.alloc hS8.size _ | exact hS10.alloc hS10.size _) (first
                | (go_at_call 11; clear F2; refine (join_is (litS1 _ _ _ [] _ (HRJ.out.on hS0) (by simp)) (by first | omega | (simp; done) | (simp; omega)) (join_one HJF.out)).mono ?_; rintro e w7 ⟨v7, rfl, ho7⟩; have HO7 := Lib.hid ho7; have hS7 : Below wJ.heap.size wJ w7 := bthen (hS0.alloc hS0.size _) ho7.below; clear ho7)
                | (go_at_call 15; clear F3; refine (same_yes (HO7.out.rgs (by first | omega | (simp; done) | (simp; omega))) (HRJ.out.on hS7) (by first | omega | (simp; done) | (simp; omega))).mono ?_; rintro e w8 ⟨rfl, hb8⟩; have hS8 : Below wJ.heap.size wJ w8 := bthen hS7 hb8; clear hb8)
                | (go_at_call 11; (fail_if_success (clear F2)); clear F4; refine (join_is (litS3 _ _ _ _ _ (List.drop 0 []) [] (List.take 0 []) _ (Rgs.nil _) (Rgs.nil _) (Rgs.nil _) (by simp)) (by first | omega | (simp; done) | (simp; omega)) (join_parts HJF.out _)).mono ?_; rintro e w9 ⟨v9, rfl, ho9⟩; have HO9 := Lib.hid ho9; have hS9 : Below wJ.heap.size wJ w9 := bthen (hS8.alloc hS8.size _) ho9.below; clear ho9)
                | (go_at_call 15; (fail_if_success (clear F3)); clear F5; refine (same_yes (HO9.out.rgs (by first | omega | (simp; done) | (simp; omega))) (HRJ.out.on hS9) (by first | omega | (simp; done) | (simp; omega))).mono ?_; rintro e w10 ⟨rfl, hb10⟩; have hS10 : Below wJ.heap.size wJ w10 := bthen hS9 hb10; clear hb10)
                | (go_at_call 11; (fail_if_success (clear F4)); refine (join_is (litS1 _ _ _ LL _ (HRL.out.on hS10) (by simp)) (by first | omega | (simp; done) | (simp; omega)) (join_one (JForm.plain _ HLF.out))).mono ?_; rintro e w11 ⟨v11, rfl, ho11⟩; have HO11 := Lib.hid ho11; have hS11 : Below wJ.heap.size wJ w11 := bthen (hS10.alloc hS10.size _) ho11.below; clear ho11)
                | (go_at_call 15; (fail_if_success (clear F5)); refine (same_yes (HO11.out.rgs (by omega)) (HRL.out.on hS11) (by omega)).mono ?_; rintro e w12 ⟨rfl, hb12⟩; have hS12 : Below wJ.heap.size wJ w12 := bthen hS11 hb12; clear hb12)
                | (go_at_call 10; refine (known_any _ (HE.out.on (bthen HBJ.out hS12))).mono ?_; rintro e w13 ⟨rfl, hb13⟩; have hS13 : Below wJ.heap.size wJ w13 := bthen hS12 hb13; clear hb13))
              go_wp2_with fail
              go_ret
              exact ⟨rfl, bthen HBJ.out hS13⟩
        · subst hvj
          have HCE := Lib.hid hcells
          have hg8 := Lib.hid (fun X (h : Below wJ.heap.size wJ X) => Nat.lt_of_lt_of_le hg h.size)
          have HG := Lib.hid hg
          have ce8 := Lib.hid (fun X (h : Below wJ.heap.size wJ X) i (hi : i < jl.length) => (⟨cthenB (hcells i hi).1 h, cthenB (hcells i hi).2 h⟩ : X.cell? ⟨g, i * 2, none⟩ = some (.int .i64 (jl.getD i (0, 0)).1) ∧ X.cell? ⟨g, i * 2 + 1, none⟩ = some (.int .i64 (jl.getD i (0, 0)).2)))
          clear hcells hcm
          have hcjz : (jl.length : Int) ≤ (cj : Int) := by omega
          go_upto_region 11 with fail
          go_cut [52] (fun s wx => ∃ bb : Bool, s = .bool bb ∧ wx = wJ ∧ Hid (if bb = true then ∃ m, jl.length = m + 1 ∧ 0 ≤ (jl.getD m (0, 0)).1 ∧ okC (jl.take m) else okC jl))
          case first =>
            by_cases hn : 0 < jl.length
            · obtain ⟨m, hm⟩ : ∃ m, jl.length = m + 1 := ⟨jl.length - 1, by omega⟩
              have hm1 : (jl.length : Int) - 1 = (m : Int) := by omega
              have hnz : (0 : Int) < (jl.length : Int) := by omega
              have hmz : (m : Int) < (jl.length : Int) := by omega
              obtain ⟨d1, d2⟩ := HCE.out m (by omega)
              have HM := Lib.hid hm
              rcases HJF.out.last with hok | ⟨m2, hm2, hy, hx, hok⟩
              · have hne := hok.last m (by omega)
                have HOK := Lib.hid hok
                clear hm hok d1
                generalize (jl.getD m (0, 0)).2 = y at *
                have hyb : (y == 0) = false := by simpa using hne
                go_wp2_with fail
                go_meet
                exact ⟨false, rfl, rfl, Lib.hid (by simpa using HOK.out)⟩
              · have : m2 = m := by omega
                subst this
                rw [hy] at d2
                have HOK := Lib.hid (And.intro hx hok)
                clear hm hm2 hok d1 hx hy
                go_wp2_with fail
                go_meet
                exact ⟨true, rfl, rfl, Lib.hid (by simpa using ⟨_, HM.out, HOK.out.1, HOK.out.2⟩)⟩
            · have hnz : ¬ (0 : Int) < (jl.length : Int) := by omega
              have : jl = [] := List.eq_nil_of_length_eq_zero (by omega)
              have HOK := Lib.hid (this ▸ okC_nil : okC jl)
              clear this
              go_wp2_with fail
              go_meet
              exact ⟨false, rfl, rfl, Lib.hid (by simpa using HOK.out)⟩
          case rest =>
          obtain ⟨bb, rfl, hwc, HBB⟩ := hcut
          subst wc
          go_upto_if 52 with fail
          go_cut [11] (fun s wx => ∃ k : Nat, s = .int .i64 k ∧ wx = wJ ∧ k ≤ jl.length ∧ Hid (okC (jl.take k)) ∧ Hid (k < jl.length → 0 ≤ (jl.getD k (0, 0)).1))
          case first =>
            cases bb with
            | true =>
              have hbb := HBB.out
              rw [if_pos rfl] at hbb
              obtain ⟨m, hm, hx, hok⟩ := hbb
              have hm1 : (jl.length : Int) - 1 = (m : Int) := by omega
              have hml : m ≤ jl.length := by omega
              have HOK := Lib.hid (And.intro hx hok)
              clear hm hx hok HBB
              go_wp2_with fail
              go_meet
              exact ⟨m, by go_num, rfl, hml, Lib.hid HOK.out.2, Lib.hid fun _ => HOK.out.1⟩
            | false =>
              go_wp2_with fail
              go_meet
              exact ⟨jl.length, rfl, rfl, Nat.le_refl _, Lib.hid (by rw [List.take_of_length_le (Nat.le_refl _)]; simpa using HBB.out), Lib.hid fun h => absurd h (Nat.lt_irrefl _)⟩
          case rest =>
          obtain ⟨k, rfl, hwc, hkl, HOK, HX⟩ := hcut
          subst wc
          clear HBB
          have hkz : (k : Int) ≤ (jl.length : Int) := by omega
          have hk0 : (0 : Int) ≤ (k : Int) := by omega
          have hkc : (k : Int) ≤ (cj : Int) := by omega
          have hkm : min k jl.length ≤ 1000000 := by omega
          go_upto_region 13 with fail
          go_cut [78] (fun s wx => s = .bool false ∧ Below wJ.heap.size wJ wx)
          case first =>
            by_cases hlt2 : k < jl.length
            · have hz2 : (k : Int) < (jl.length : Int) := by omega
              have ce9 := Lib.hid (fun X (h : Below wJ.heap.size wJ X) => (ce8.out X h k hlt2).1)
              have hx := HX.out hlt2
              generalize (jl.getD k (0, 0)).1 = x at *
              have hxb : ¬ x < 0 := by omega
              have F1 : Hid True := Lib.hid trivial
              go_wp2_with (first | (go_at_call 17; clear F1; refine (rises_any _ LL wJ HRL.out (by omega) HLF.out).mono ?_; rintro e w5 ⟨rfl, hb5⟩; have HB5 := Lib.hid hb5; clear hb5) | (go_at_call 17; (fail_if_success (clear F1)); refine (rises_any _ (jl.take k) w5 (Rgs.hi (hg8.out _ HB5.out) hkl (by omega) (ce8.out _ HB5.out)) (by rw [List.length_take]; omega) HOK.out).mono ?_; rintro e w6 ⟨rfl, hb6⟩; have HB6 := Lib.hid (bthen HB5.out hb6); clear hb6; have d9 := ce9.out _ HB6.out))
              go_meet
              exact ⟨by rw [decide_eq_false (show ¬ x < 0 by omega)], HB6.out⟩
            · have hz2 : ¬ (k : Int) < (jl.length : Int) := by omega
              have F1 : Hid True := Lib.hid trivial
              go_wp2_with (first | (go_at_call 17; clear F1; refine (rises_any _ LL wJ HRL.out (by omega) HLF.out).mono ?_; rintro e w5 ⟨rfl, hb5⟩; have HB5 := Lib.hid hb5; clear hb5) | (go_at_call 17; (fail_if_success (clear F1)); refine (rises_any _ (jl.take k) w5 (Rgs.hi (hg8.out _ HB5.out) hkl (by omega) (ce8.out _ HB5.out)) (by rw [List.length_take]; omega) HOK.out).mono ?_; rintro e w6 ⟨rfl, hb6⟩; have HB6 := Lib.hid (bthen HB5.out hb6); clear hb6))
              go_meet
              exact ⟨rfl, HB6.out⟩
          case rest =>
          obtain ⟨rfl, hb6⟩ := hcut
          obtain ⟨w6, hw6⟩ : ∃ w6, w6 = wc := ⟨_, rfl⟩
          subst hw6
          have HB6 := Lib.hid hb6
          clear hb6 HOK HX hkm
          go_upto_region 15 with fail
          go_cut [86] (fun s wx => ∃ cb : Bool, s = .bool cb ∧ wx = w6 ∧ Hid (cb = decide (cut < 0 ∨ (jl.length : Int) < cut)))
          case first =>
            by_cases hA : cut < 0
            · go_wp2_with fail
              go_meet
              exact ⟨true, rfl, rfl, Lib.hid (by simp [hA])⟩
            · by_cases hB : (jl.length : Int) < cut
              · go_wp2_with fail
                go_meet
                exact ⟨true, rfl, rfl, Lib.hid (by simp [hB])⟩
              · go_wp2_with fail
                go_meet
                exact ⟨false, rfl, rfl, Lib.hid (by simp [hA, hB])⟩
          case rest =>
          obtain ⟨cb, rfl, hwc, HCB⟩ := hcut
          subst wc
          cases cb with
          | true =>
            have hcz : (jl.length : Int) ≤ (cj : Int) := by omega
            have hc0 : (0 : Int) ≤ (jl.length : Int) := by omega
            clear HCB
            by_cases hcap : cj = jl.length
            · skip
              subst hcap
              go_wp2_with fail
              have hS0 : Below wJ.heap.size wJ w6.drew := HB6.out.drew
              have F2 : Hid True := Lib.hid trivial
              have F3 : Hid True := Lib.hid trivial
              have F4 : Hid True := Lib.hid trivial
              have F5 : Hid True := Lib.hid trivial
              go_region_held3 (fun X => Below wJ.heap.size wJ X) (first | assumption | exact hS0.alloc hS0.size _ | exact hS8.alloc hS8.size _ | exact hS10.alloc hS10.size _) (first
                | (go_at_call 11; clear F2; refine (join_is (litS1 _ _ _ jl _ (HRJ.out.on hS0) (by simp)) (by first | omega | (simp; done) | (simp; omega)) (join_one HJF.out)).mono ?_; rintro e w7 ⟨v7, rfl, ho7⟩; have HO7 := Lib.hid ho7; have hS7 : Below wJ.heap.size wJ w7 := bthen (hS0.alloc hS0.size _) ho7.below; clear ho7)
                | (go_at_call 15; clear F3; refine (same_yes (HO7.out.rgs (by first | omega | (simp; done) | (simp; omega))) (HRJ.out.on hS7) (by first | omega | (simp; done) | (simp; omega))).mono ?_; rintro e w8 ⟨rfl, hb8⟩; have hS8 : Below wJ.heap.size wJ w8 := bthen hS7 hb8; clear hb8)
                | (go_at_call 11; (fail_if_success (clear F2)); clear F4; refine (join_is (litS3 _ _ _ _ _ (List.drop jl.length jl) [] (List.take jl.length jl) _ (Rgs.zero (by simp)) (Rgs.nil _) (Rgs.hi (hg8.out _ hS8) (by omega) (by omega) (ce8.out _ hS8)) (by simp)) (by first | omega | (simp; done) | (simp; omega)) (join_parts HJF.out _)).mono ?_; rintro e w9 ⟨v9, rfl, ho9⟩; have HO9 := Lib.hid ho9; have hS9 : Below wJ.heap.size wJ w9 := bthen (hS8.alloc hS8.size _) ho9.below; clear ho9)
                | (go_at_call 15; (fail_if_success (clear F3)); clear F5; refine (same_yes (HO9.out.rgs (by first | omega | (simp; done) | (simp; omega))) (HRJ.out.on hS9) (by first | omega | (simp; done) | (simp; omega))).mono ?_; rintro e w10 ⟨rfl, hb10⟩; have hS10 : Below wJ.heap.size wJ w10 := bthen hS9 hb10; clear hb10)
                | (go_at_call 11; (fail_if_success (clear F4)); refine (join_is (litS1 _ _ _ LL _ (HRL.out.on hS10) (by simp)) (by first | omega | (simp; done) | (simp; omega)) (join_one (JForm.plain _ HLF.out))).mono ?_; rintro e w11 ⟨v11, rfl, ho11⟩; have HO11 := Lib.hid ho11; have hS11 : Below wJ.heap.size wJ w11 := bthen (hS10.alloc hS10.size _) ho11.below; clear ho11)
                | (go_at_call 15; (fail_if_success (clear F5)); refine (same_yes (HO11.out.rgs (by omega)) (HRL.out.on hS11) (by omega)).mono ?_; rintro e w12 ⟨rfl, hb12⟩; have hS12 : Below wJ.heap.size wJ w12 := bthen hS11 hb12; clear hb12)
                | (go_at_call 10; refine (known_any _ (HE.out.on (bthen HBJ.out hS12))).mono ?_; rintro e w13 ⟨rfl, hb13⟩; have hS13 : Below wJ.heap.size wJ w13 := bthen hS12 hb13; clear hb13))
              go_wp2_with fail
              go_ret
              exact ⟨rfl, bthen HBJ.out hS13⟩
            · skip
              go_wp2_with fail
              have hS0 : Below wJ.heap.size wJ w6.drew := HB6.out.drew
              have F2 : Hid True := Lib.hid trivial
              have F3 : Hid True := Lib.hid trivial
              have F4 : Hid True := Lib.hid trivial
              have F5 : Hid True := Lib.hid trivial
              go_region_held3 (fun X => Below wJ.heap.size wJ X) (first | assumption | exact hS0.alloc hS0.size _ | exact hS8.alloc hS8.size _ | exact hS10.alloc hS10.size _) (first
                | (go_at_call 11; clear F2; refine (join_is (litS1 _ _ _ jl _ (HRJ.out.on hS0) (by simp)) (by first | omega | (simp; done) | (simp; omega)) (join_one HJF.out)).mono ?_; rintro e w7 ⟨v7, rfl, ho7⟩; have HO7 := Lib.hid ho7; have hS7 : Below wJ.heap.size wJ w7 := bthen (hS0.alloc hS0.size _) ho7.below; clear ho7)
                | (go_at_call 15; clear F3; refine (same_yes (HO7.out.rgs (by first | omega | (simp; done) | (simp; omega))) (HRJ.out.on hS7) (by first | omega | (simp; done) | (simp; omega))).mono ?_; rintro e w8 ⟨rfl, hb8⟩; have hS8 : Below wJ.heap.size wJ w8 := bthen hS7 hb8; clear hb8)
                | (go_at_call 11; (fail_if_success (clear F2)); clear F4; refine (join_is (litS3 _ _ _ _ _ (List.drop jl.length jl) [] (List.take jl.length jl) _ (Rgs.lo (hg8.out _ hS8) (by omega) (by omega) (ce8.out _ hS8) (by first | rfl | omega)) (Rgs.nil _) (Rgs.hi (hg8.out _ hS8) (by omega) (by omega) (ce8.out _ hS8)) (by simp)) (by first | omega | (simp; done) | (simp; omega)) (join_parts HJF.out _)).mono ?_; rintro e w9 ⟨v9, rfl, ho9⟩; have HO9 := Lib.hid ho9; have hS9 : Below wJ.heap.size wJ w9 := bthen (hS8.alloc hS8.size _) ho9.below; clear ho9)
                | (go_at_call 15; (fail_if_success (clear F3)); clear F5; refine (same_yes (HO9.out.rgs (by first | omega | (simp; done) | (simp; omega))) (HRJ.out.on hS9) (by first | omega | (simp; done) | (simp; omega))).mono ?_; rintro e w10 ⟨rfl, hb10⟩; have hS10 : Below wJ.heap.size wJ w10 := bthen hS9 hb10; clear hb10)
                | (go_at_call 11; (fail_if_success (clear F4)); refine (join_is (litS1 _ _ _ LL _ (HRL.out.on hS10) (by simp)) (by first | omega | (simp; done) | (simp; omega)) (join_one (JForm.plain _ HLF.out))).mono ?_; rintro e w11 ⟨v11, rfl, ho11⟩; have HO11 := Lib.hid ho11; have hS11 : Below wJ.heap.size wJ w11 := bthen (hS10.alloc hS10.size _) ho11.below; clear ho11)
                | (go_at_call 15; (fail_if_success (clear F5)); refine (same_yes (HO11.out.rgs (by omega)) (HRL.out.on hS11) (by omega)).mono ?_; rintro e w12 ⟨rfl, hb12⟩; have hS12 : Below wJ.heap.size wJ w12 := bthen hS11 hb12; clear hb12)
                | (go_at_call 10; refine (known_any _ (HE.out.on (bthen HBJ.out hS12))).mono ?_; rintro e w13 ⟨rfl, hb13⟩; have hS13 : Below wJ.heap.size wJ w13 := bthen hS12 hb13; clear hb13))
              go_wp2_with fail
              go_ret
              exact ⟨rfl, bthen HBJ.out hS13⟩
          | false =>
            have hcb := of_decide_eq_false HCB.out.symm
            obtain ⟨c, hcc⟩ : ∃ c : Nat, cut = (c : Int) := ⟨cut.toNat, by omega⟩
            subst hcc
            have hcl : (c : Int) ≤ (jl.length : Int) := by omega
            have hcz : (c : Int) ≤ (cj : Int) := by omega
            have hc0 : (0 : Int) ≤ (c : Int) := by omega
            clear HCB hcb
            by_cases hcap : cj = c
            · skip
              have hcl2 : c = jl.length := by omega
              subst hcl2
              subst hcap
              go_wp2_with fail
              have hS0 : Below wJ.heap.size wJ w6.drew := HB6.out.drew
              have F2 : Hid True := Lib.hid trivial
              have F3 : Hid True := Lib.hid trivial
              have F4 : Hid True := Lib.hid trivial
              have F5 : Hid True := Lib.hid trivial
              go_region_held3 (fun X => Below wJ.heap.size wJ X) (first | assumption | exact hS0.alloc hS0.size _ | exact hS8.alloc hS8.size _ | exact hS10.alloc hS10.size _) (first
                | (go_at_call 11; clear F2; refine (join_is (litS1 _ _ _ jl _ (HRJ.out.on hS0) (by simp)) (by first | omega | (simp; done) | (simp; omega)) (join_one HJF.out)).mono ?_; rintro e w7 ⟨v7, rfl, ho7⟩; have HO7 := Lib.hid ho7; have hS7 : Below wJ.heap.size wJ w7 := bthen (hS0.alloc hS0.size _) ho7.below; clear ho7)
                | (go_at_call 15; clear F3; refine (same_yes (HO7.out.rgs (by first | omega | (simp; done) | (simp; omega))) (HRJ.out.on hS7) (by first | omega | (simp; done) | (simp; omega))).mono ?_; rintro e w8 ⟨rfl, hb8⟩; have hS8 : Below wJ.heap.size wJ w8 := bthen hS7 hb8; clear hb8)
                | (go_at_call 11; (fail_if_success (clear F2)); clear F4; refine (join_is (litS3 _ _ _ _ _ (List.drop jl.length jl) [] (List.take jl.length jl) _ (Rgs.zero (by simp)) (Rgs.nil _) (Rgs.hi (hg8.out _ hS8) (by omega) (by omega) (ce8.out _ hS8)) (by simp)) (by first | omega | (simp; done) | (simp; omega)) (join_parts HJF.out _)).mono ?_; rintro e w9 ⟨v9, rfl, ho9⟩; have HO9 := Lib.hid ho9; have hS9 : Below wJ.heap.size wJ w9 := bthen (hS8.alloc hS8.size _) ho9.below; clear ho9)
                | (go_at_call 15; (fail_if_success (clear F3)); clear F5; refine (same_yes (HO9.out.rgs (by first | omega | (simp; done) | (simp; omega))) (HRJ.out.on hS9) (by first | omega | (simp; done) | (simp; omega))).mono ?_; rintro e w10 ⟨rfl, hb10⟩; have hS10 : Below wJ.heap.size wJ w10 := bthen hS9 hb10; clear hb10)
                | (go_at_call 11; (fail_if_success (clear F4)); refine (join_is (litS1 _ _ _ LL _ (HRL.out.on hS10) (by simp)) (by first | omega | (simp; done) | (simp; omega)) (join_one (JForm.plain _ HLF.out))).mono ?_; rintro e w11 ⟨v11, rfl, ho11⟩; have HO11 := Lib.hid ho11; have hS11 : Below wJ.heap.size wJ w11 := bthen (hS10.alloc hS10.size _) ho11.below; clear ho11)
                | (go_at_call 15; (fail_if_success (clear F5)); refine (same_yes (HO11.out.rgs (by omega)) (HRL.out.on hS11) (by omega)).mono ?_; rintro e w12 ⟨rfl, hb12⟩; have hS12 : Below wJ.heap.size wJ w12 := bthen hS11 hb12; clear hb12)
                | (go_at_call 10; refine (known_any _ (HE.out.on (bthen HBJ.out hS12))).mono ?_; rintro e w13 ⟨rfl, hb13⟩; have hS13 : Below wJ.heap.size wJ w13 := bthen hS12 hb13; clear hb13))
              go_wp2_with fail
              go_ret
              exact ⟨rfl, bthen HBJ.out hS13⟩
            · skip
              go_wp2_with fail
              have hS0 : Below wJ.heap.size wJ w6.drew := HB6.out.drew
              have F2 : Hid True := Lib.hid trivial
              have F3 : Hid True := Lib.hid trivial
              have F4 : Hid True := Lib.hid trivial
              have F5 : Hid True := Lib.hid trivial
              go_region_held3 (fun X => Below wJ.heap.size wJ X) (first | assumption | exact hS0.alloc hS0.size _ | exact hS8.alloc hS8.size _ | exact hS10.alloc hS10.size _) (first
                | (go_at_call 11; clear F2; refine (join_is (litS1 _ _ _ jl _ (HRJ.out.on hS0) (by simp)) (by first | omega | (simp; done) | (simp; omega)) (join_one HJF.out)).mono ?_; rintro e w7 ⟨v7, rfl, ho7⟩; have HO7 := Lib.hid ho7; have hS7 : Below wJ.heap.size wJ w7 := bthen (hS0.alloc hS0.size _) ho7.below; clear ho7)
                | (go_at_call 15; clear F3; refine (same_yes (HO7.out.rgs (by first | omega | (simp; done) | (simp; omega))) (HRJ.out.on hS7) (by first | omega | (simp; done) | (simp; omega))).mono ?_; rintro e w8 ⟨rfl, hb8⟩; have hS8 : Below wJ.heap.size wJ w8 := bthen hS7 hb8; clear hb8)
                | (go_at_call 11; (fail_if_success (clear F2)); clear F4; refine (join_is (litS3 _ _ _ _ _ (List.drop c jl) [] (List.take c jl) _ (Rgs.lo (hg8.out _ hS8) (by omega) (by omega) (ce8.out _ hS8) (by first | rfl | omega)) (Rgs.nil _) (Rgs.hi (hg8.out _ hS8) (by omega) (by omega) (ce8.out _ hS8)) (by simp)) (by first | omega | (simp; done) | (simp; omega)) (join_parts HJF.out _)).mono ?_; rintro e w9 ⟨v9, rfl, ho9⟩; have HO9 := Lib.hid ho9; have hS9 : Below wJ.heap.size wJ w9 := bthen (hS8.alloc hS8.size _) ho9.below; clear ho9)
                | (go_at_call 15; (fail_if_success (clear F3)); clear F5; refine (same_yes (HO9.out.rgs (by first | omega | (simp; done) | (simp; omega))) (HRJ.out.on hS9) (by first | omega | (simp; done) | (simp; omega))).mono ?_; rintro e w10 ⟨rfl, hb10⟩; have hS10 : Below wJ.heap.size wJ w10 := bthen hS9 hb10; clear hb10)
                | (go_at_call 11; (fail_if_success (clear F4)); refine (join_is (litS1 _ _ _ LL _ (HRL.out.on hS10) (by simp)) (by first | omega | (simp; done) | (simp; omega)) (join_one (JForm.plain _ HLF.out))).mono ?_; rintro e w11 ⟨v11, rfl, ho11⟩; have HO11 := Lib.hid ho11; have hS11 : Below wJ.heap.size wJ w11 := bthen (hS10.alloc hS10.size _) ho11.below; clear ho11)
                | (go_at_call 15; (fail_if_success (clear F5)); refine (same_yes (HO11.out.rgs (by omega)) (HRL.out.on hS11) (by omega)).mono ?_; rintro e w12 ⟨rfl, hb12⟩; have hS12 : Below wJ.heap.size wJ w12 := bthen hS11 hb12; clear hb12)
                | (go_at_call 10; refine (known_any _ (HE.out.on (bthen HBJ.out hS12))).mono ?_; rintro e w13 ⟨rfl, hb13⟩; have hS13 : Below wJ.heap.size wJ w13 := bthen hS12 hb13; clear hb13))
              go_wp2_with fail
              go_ret
              exact ⟨rfl, bthen HBJ.out hS13⟩
    · have h60z : ¬ (m : Int) ≤ 400 := by omega
      have h60y : (400 : Int) < (m : Int) := by omega
      by_cases hlt : i < ll.length
      · have hltz : (i : Int) < (ll.length : Int) := by omega
        go_wp2_with fail
        go_ret
        exact ⟨rfl, Below.refl _ _⟩
      · have hltz : ¬ (i : Int) < (ll.length : Int) := by omega
        go_wp2_with fail
        go_ret
        exact ⟨rfl, Below.refl _ _⟩
end Go.Proofs.YtoikjkcnekkehaaDoor
