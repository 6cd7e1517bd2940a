/- DiskBounds: the walk. -/
import Derived.Test.YtgadmfbilmlnkaaDoorD9xl
import Derived.Deep.QuietTactic
import Derived.BigQuiet
import Derived.Deep.CutBlock
namespace Go.Proofs.YtgadmfbilmlnkaaDoor
open Go.RowKit Go.Lib

set_option maxHeartbeats 8000000 in
set_option maxRecDepth 20000 in
theorem bnd_walk {A : Whys} {B : Nat} {w : World} (he : Env A B w) (q : Nat) (hq1 : 1 ≤ q) (hq2 : q ≤ 1048576) (a : Option Addr) (len c : Nat) (hs : ActsSt w a len) :
    Calls Tryd.prog 5 #[.int .i64 (q : Int), .slice a len c] w fun e w' => e = .returned (.bool true) ∧ Below w.heap.size w w' := by
  have HK := Lib.hid (known_any he)
  have HN := Lib.hid (fun W (hb : Below w.heap.size w W) => NewD (A := A) (w0 := w) (w := W) hb ((he.up he.hi (Nat.le_refl _)).below hb) q hq1 hq2)
  have HA := Lib.hid hs
  have HQ := Lib.hid (And.intro hq1 hq2)
  have hqi : (q : Int) ≤ 1048576 := by omega
  have hlen : (len : Int) ≤ 4611686018427387904 := by have := hs.1; omega
  clear he hs hq1 hq2
  go_enter Tryd.func5, Tryd.ntmps5
  go_wp2_with (first | (go_at_call 8; refine HK.out.mono ?_; rintro e w1 ⟨rfl, hb1⟩; have HB1 := Lib.hid hb1; clear hb1) | (go_at_call 9; refine (HN.out _ HB1.out).mono ?_; rintro e w2 ⟨d, rfl, h2⟩; have K2 := Lib.hid h2; clear h2))
  clear HN HK HB1
  go_loopw [8] (fun vi wr => ∃ (k : Nat) (T : DS) (P : List PF) (K : List (Nat × Obj)) (X : World), X = wr ∧ vi = .int .i64 k ∧ k ≤ 150 ∧ T.quota = q ∧ T.ok ∧ T.steps ≤ k ∧ P.length ≤ k ∧ Dk A w d T P K X) (fun i _ => 150 - (Go.RowKit.intOf i).toNat)
  case atStart => exact ⟨0, _, _, _, _, rfl, rfl, by omega, rfl, fun s hs => (by cases hs), Nat.le_refl _, Nat.le_refl _, K2.out⟩
  case round =>
    clear K2
    obtain ⟨k, T, P, K, X, hX, rfl, hk, hTq, hTo, hTs, hPl, hD⟩ := hrel
    subst hX
    have hk2 : (k : Int) ≤ 150 := by omega
    have hb := hD.below
    by_cases hlt : k < len
    · by_cases h150 : k < 150
      · obtain ⟨b, o, ha, hbw, hall⟩ := HA.out.2 (by omega)
        obtain ⟨ac, ll, hac0⟩ := hall k hlt
        have hac := hac0.on hbw hb
        obtain ⟨kind, on, name, dest, data, nn, sa, sn, sc⟩ := ac
        obtain ⟨⟨c0, c1, c2, c3, c4, c5, c6, hns, hts⟩, hst, hin, hsn⟩ := hac
        simp only at c0 c1 c2 c3 c4 c5 c6 hns hts hst hsn
        subst ha
        have hli : (k : Int) < (len : Int) := by omega
        have h15 : (k : Int) < 150 := by omega
        obtain ⟨Y, hY⟩ : ∃ Y, X.alloc (.cells #[.int .i64 kind, .int .i64 on, .string name, .string dest, .string data, .int .i64 nn, .slice sa sn sc] 42) = Y := ⟨_, rfl⟩
        have hoY := heap_alloc_new X (.cells #[.int .i64 kind, .int .i64 on, .string name, .string dest, .string data, .int .i64 nn, .slice sa sn sc] 42)
        have hbY : Below X.heap.size X (X.alloc (.cells #[.int .i64 kind, .int .i64 on, .string name, .string dest, .string data, .int .i64 nn, .slice sa sn sc] 42)) := (Below.refl _ _).alloc (Nat.le_refl _) _
        rw [hY] at hoY hbY
        have HY := Lib.hid hY
        have HN1 := Lib.hid (NamesK (hD.up hbY) (by omega))
        have HF := Lib.hid (And.intro hk (And.intro hTq (And.intro hTo (And.intro hTs (And.intro hPl (And.intro hns (And.intro hts (And.intro hin hsn))))))))
        have HO := Lib.hid (And.intro hoY (hst.on hbY))
        clear hk hTq hTo hTs hPl hns hts hst hin hsn h150 hlt
        clear hD hb hac0 hall hbw hoY hbY hY
        go_upto_region 11 with fail
        rw [HY.out]
        clear c0 c1 c2 c3 c4 c5 c6
        go_upto_region 12 with (go_at_call 23; refine HN1.out.mono ?_; rintro e w3 ⟨v3, Ts, K3, rfl, hp3, hs3, hD3, hR3, hb3, _⟩; have H3 := Lib.hid (And.intro hp3 (And.intro hs3 (And.intro hD3 (And.intro hR3 hb3)))); clear hp3 hs3 hD3 hR3 hb3)
        have HU3 := Lib.hid (UsedD H3.out.2.2.1)
        have hoZ : w3.heap[X.heap.size]? = some (.cells #[.int .i64 kind, .int .i64 on, .string name, .string dest, .string data, .int .i64 nn, .slice sa sn sc] 42 (0, 0)) := by rw [H3.out.2.2.2.2.block _ (lt_of_heap HO.out.1)]; exact HO.out.1
        have y0 := cell_of hoZ 0
        have y1 := cell_of hoZ 1
        have y2 := cell_of hoZ 2
        have y3 := cell_of hoZ 3
        have y4 := cell_of hoZ 4
        have y5 := cell_of hoZ 5
        have y6 := cell_of hoZ 6
        simp only [List.getElem?_toArray, List.getElem?_cons_zero, List.getElem?_cons_succ] at y0 y1 y2 y3 y4 y5 y6
        have HZ := Lib.hid hoZ
        clear hoZ
        obtain ⟨U, hU⟩ : ∃ U, usedP P = U := ⟨_, rfl⟩
        rw [hU] at HU3
        have HUU := Lib.hid hU
        clear hU
        go_upto_block 2 with (go_at_call 24; refine HU3.out.mono ?_; rintro e w4 ⟨rfl, hw4⟩; subst w4)
        go_cut [12] (fun s12 wx => ∃ T2 P2 K2 X2, X2 = wx ∧ Left A w d q k P K3 s12 T2 P2 K2 X2)
        case first =>
          by_cases hkd : 1 ≤ kind ∧ kind ≤ 6
          · have h1 : ¬ kind < 1 := by omega
            have h6 : ¬ 6 < kind := by omega
            clear hkd
            have HDo := Lib.hid (doesP_any H3.out.2.2.1 HF.out.2.2.1 (Nat.lt_of_le_of_lt HF.out.2.2.2.1 (by omega)) ⟨kind, on, name, dest, data, nn, sa, sn, sc⟩ HF.out.2.2.2.2.2.1 HF.out.2.2.2.2.2.2.1)
            simp only [ActR.cells] at HDo
            go_wp2_with (go_at_call 21; refine HDo.out.mono ?_; rintro e w4 ⟨tx4, r4, rfl, hD4⟩; have H4 := Lib.hid hD4; clear hD4)
            go_meet
            obtain ⟨T2, P2, K2, hL⟩ := left_does H4.out HF.out.2.1 HF.out.2.2.1 HF.out.2.2.2.1 HF.out.2.2.2.2.1
            exact ⟨T2, P2, K2, _, rfl, hL⟩
          · by_cases h7 : kind = 7
            · subst h7
              clear hkd
              have HT := Lib.hid (fun W (hb : Below w3.heap.size w3 W) => twin_any (((HO.out.2.on H3.out.2.2.2.2)).on hb) HF.out.2.2.2.2.2.2.2.2)
              have HPl : Hid (∀ W g cp, Below w3.heap.size w3 W → w3.heap.size ≤ g → StopsIn W g 0 sn ll → Calls Tryd.prog 12 #[.pointer (some ⟨d, 0, none⟩), .slice (some ⟨g, 0, none⟩) sn cp] W fun e w' => e = .returned (.tuple #[]) ∧ Dk A w d { T with stops := planP ll } P K3 w') := Lib.hid (fun W g cp hb hg hi => by
                have hl : ll.length = sn := HO.out.2.1
                have h1 := HF.out.2.2.2.2.2.2.2.2
                have := PlanG H3.out.2.2.1 (by rw [HF.out.2.1]; exact HQ.out.1) hb ll g cp hg (by omega) (by rw [hl]; exact hi)
                rw [hl] at this
                exact this)
              have hsni : (sn : Int) ≤ 5864062014634 := by have := HF.out.2.2.2.2.2.2.2.2; omega
              have HZ6 : Hid (∀ W, Below w3.heap.size w3 W → W.cell? ⟨X.heap.size, 6, none⟩ = some (.slice sa sn sc)) := Lib.hid (fun W hb => by rw [hb.cell (World.block_lt_of_cell? _ _ y6)]; exact y6)
              have HCP : Hid (∀ cp : Nat, sn + 1 ≤ cp → (sn : Int) ≤ (cp : Int)) := Lib.hid (fun cp h => by omega)
              go_upto_region 17 with fail
              go_region_with (first | (go_at_call 25; refine (HT.out _ ?_).mono ?_; (first | exact Below.refl _ _ | exact (Below.refl _ _).drew | exact (Below.refl _ _).drew.drew | exact (Below.refl _ _).drew.drew.drew | exact drewB (Below.refl _ _) _); rintro e w5 ⟨g, cp, rfl, hcp, hg, hsi, hb5⟩; have hb5' : Below w3.heap.size w3 w5 := (Below.refl _ _).drew.trans hb5; have y5' := HZ6.out _ hb5'; have hcpi : (sn : Int) ≤ (cp : Int) := HCP.out _ hcp; have hcpn : sn ≤ cp := Nat.le_of_succ_le hcp) | (go_at_call 12; refine (HPl.out _ _ _ hb5' hg hsi).mono ?_; rintro e w6 ⟨rfl, hD6⟩))
              all_goals (go_wp2_with fail; go_meet; exact ⟨_, _, _, _, rfl, left_none hD6 HF.out.2.1 (plan_in HF.out.2.2.2.2.2.2.2.1) HF.out.2.2.2.1 HF.out.2.2.2.2.1⟩)
            · by_cases h8 : kind = 8
              · subst h8
                clear hkd h7
                have HSt := Lib.hid (StartD H3.out.2.2.1 (by rw [HF.out.2.1]; exact HQ.out.1))
                go_wp2_with (go_at_call 17; refine HSt.out.mono ?_; rintro e w4 ⟨rfl, hD4⟩; have H4 := Lib.hid hD4; clear hD4)
                go_meet
                exact ⟨_, _, _, _, rfl, left_none H4.out HF.out.2.1 HF.out.2.2.1 HF.out.2.2.2.1 HF.out.2.2.2.2.1⟩
              · have b7 := beqI_no h7
                have b8 := beqI_no h8
                clear h7 h8
                by_cases h1 : kind < 1
                · clear hkd
                  go_wp2_with fail
                  go_meet
                  exact ⟨_, _, _, _, rfl, left_none H3.out.2.2.1 HF.out.2.1 HF.out.2.2.1 HF.out.2.2.2.1 HF.out.2.2.2.2.1⟩
                · have h6 : 6 < kind := by omega
                  clear hkd
                  go_wp2_with fail
                  go_meet
                  exact ⟨_, _, _, _, rfl, left_none H3.out.2.2.1 HF.out.2.1 HF.out.2.2.1 HF.out.2.2.2.1 HF.out.2.2.2.2.1⟩
        case rest =>
        obtain ⟨T2, P2, K2, X2, hX2, hL⟩ := hcut
        subst hX2
        have HL := Lib.hid hL
        have HN4 := Lib.hid (NamesK hL.dk (by have h1 := hL.len; have h2 := HF.out.1; omega))
        clear hL y0 y1 y2 y3 y4 y5 y6 HZ HU3 HY HO
        go_upto_region 22 with (go_at_call 23; refine HN4.out.mono ?_; rintro e w5 ⟨v5, Us, K5, rfl, hp5, hs5, hD5, hR5, hb5, hm5⟩; have H5 := Lib.hid (And.intro hp5 (And.intro hs5 (And.intro hD5 (And.intro hR5 hm5)))); clear hp5 hs5 hD5 hR5 hb5 hm5)
        clear HN4
        obtain ⟨a5, c5, hv5, hcells⟩ := H5.out.2.2.2.1.here H5.out.2.2.1
        subst hv5
        have HC5 := Lib.hid hcells
        have hUl : Us.length ≤ 151 := by
          have h1 := HL.out.len
          have h2 := HF.out.1
          have h3 := H5.out.1.length_eq
          rw [List.length_map] at h3
          omega
        have hUi : (Us.length : Int) ≤ 151 := by omega
        clear hcells
        go_wp2_with fail
        go_loopw [13, 15] (fun vn vm wr => ∃ (m N : Nat) (Z : World), Z = wr ∧ m ≤ Us.length ∧ vm = .int .i64 m ∧ vn = .int .i64 N ∧ sumI ((Us.take m).map fun t => sizeP (S t) P2) = (N : Int) ∧ Below w5.heap.size w5 Z) (fun _ i _ => Us.length - (Go.RowKit.intOf i).toNat)
        case atStart => exact ⟨0, 0, _, rfl, Nat.zero_le _, rfl, rfl, rfl, Below.refl _ _⟩
        case round =>
          obtain ⟨m, N, Z, hZ, hm, rfl, rfl, hsum, hbZ⟩ := hrel
          subst hZ
          have hm2 : (m : Int) ≤ 151 := by omega
          by_cases hmu : m < Us.length
          · obtain ⟨z, N', hz, hN, hN1, hNz⟩ := sizes_at H5.out.2.2.1.names H5.out.1 m hmu
            have eN : N' = N := by omega
            subst eN
            have hfit := H5.out.2.2.1.fits
            rw [HL.out.quota] at hfit
            have hq2 := HQ.out.2
            obtain ⟨g, ha5, hc⟩ : ∃ g, a5 = some ⟨g, 0, none⟩ ∧ ∀ i, i < Us.length → w5.cell? ⟨g, i, none⟩ = some (.string (S (Us.getD i []))) := by
              rcases HC5.out with h | h
              · omega
              · exact h
            subst ha5
            have cm : Z.cell? ⟨g, m, none⟩ = some (.string (S (Us.getD m []))) := by rw [hbZ.cell (World.block_lt_of_cell? _ _ (hc m hmu))]; exact hc m hmu
            have HS := Lib.hid (fun W (hb : Below w5.heap.size w5 W) => SizeD (H5.out.2.2.1.up hb) (S (Us.getD m [])))
            rw [hz] at HS
            have HBZ := Lib.hid hbZ
            have hzi : (z : Int) ≤ 1048576 := by omega
            have hz0 : ¬ (z : Int) < 0 := by omega
            have hz0b : decide ((z : Int) < 0) = false := decide_eq_false hz0
            have hNi : (N' : Int) ≤ 1048576 := by omega
            have hNzi : (N' : Int) + (z : Int) ≤ 1048576 := by omega
            have hmi : (m : Int) < (Us.length : Int) := by omega
            have HG := Lib.hid (And.intro hN1 hmu)
            obtain ⟨tm, htm⟩ : ∃ t, S (Us.getD m []) = t := ⟨_, rfl⟩
            rw [htm] at cm HS
            by_cases hm0 : m = 0
            · subst hm0
              clear hsum hN hN1 hNz hz hfit hq2 hc hbZ htm hm hmu
              go_upto_region 25 with fail
              go_quiet ((go_at_call 19; exact Calls.quiet_of_same (HS.out _ (drewB HBZ.out _))))
              go_wp2_with (go_at_call 19; refine (HS.out _ (drewB HBZ.out _)).mono ?_; rintro e w7 ⟨rfl, hw7⟩; subst w7)
              go_roundw
              case rel => exact ⟨0 + 1, N' + z, _, rfl, HG.out.2, by go_num, by go_num, HG.out.1, drewB HBZ.out _⟩
              case measure => have := HG.out.2; simp [Go.RowKit.intOf]; omega
            · obtain ⟨p, rfl⟩ : ∃ p, m = p + 1 := ⟨m - 1, by omega⟩
              have hless := rise_at (names_rise H5.out.2.2.1.names H5.out.1 H5.out.2.1) p hmu
              rw [htm] at hless
              have cp : Z.cell? ⟨g, p, none⟩ = some (.string (S (Us.getD p []))) := by rw [hbZ.cell (World.block_lt_of_cell? _ _ (hc p (by omega)))]; exact hc p (by omega)
              obtain ⟨tp, htp⟩ : ∃ t, S (Us.getD p []) = t := ⟨_, rfl⟩
              rw [htp] at cp hless
              have hpi : (p : Int) < (Us.length : Int) := by omega
              have hpn : p < Us.length := by omega
              have hp0 : (0 : Int) < (p : Int) + 1 := by omega
              have hpw : IntKind.i64.wrap (p : Int) = (p : Int) := by simp only [IntKind.wrap, IntKind.signed, IntKind.bits]; simp; omega
              have hmi' : (p : Int) + 1 < (Us.length : Int) := by omega
              clear hsum hN hN1 hNz hz hfit hq2 hc hbZ htm hm htp hm0
              go_upto_region 25 with fail
              go_quiet ((go_at_call 19; exact Calls.quiet_of_same (HS.out _ (drewB HBZ.out _))))
              go_wp2_with (go_at_call 19; refine (HS.out _ (drewB HBZ.out _)).mono ?_; rintro e w7 ⟨rfl, hw7⟩; subst w7)
              go_roundw
              case rel => exact ⟨p + 1 + 1, N' + z, _, rfl, HG.out.2, by go_num, by go_num, HG.out.1, drewB HBZ.out _⟩
              case measure => have := HG.out.2; simp [Go.RowKit.intOf]; omega
          · have hmm : m = Us.length := by omega
            subst hmm
            rw [List.take_length, sum_sizes H5.out.2.2.1.names H5.out.1] at hsum
            have hNU : usedP P2 = N := by omega
            have hfit := H5.out.2.2.1.fits
            rw [HL.out.quota, hNU] at hfit
            have hDZ := H5.out.2.2.1.up hbZ
            have HUz := Lib.hid (UsedD hDZ)
            rw [hNU] at HUz
            have HQz := Lib.hid (QuotaD hDZ)
            rw [HL.out.quota] at HQz
            have hNq : ¬ (q : Int) < (N : Int) := by omega
            have hmi : ¬ (Us.length : Int) < (Us.length : Int) := by omega
            have HDZ := Lib.hid hDZ
            have HW := Lib.hid (And.intro hNU hbZ)
            clear hsum hDZ hfit hNU hbZ hm
            go_upto_region 30 with (first | (go_at_call 24; refine HUz.out.mono ?_; rintro e w7 ⟨rfl, hw7⟩; subst w7) | (go_at_call 20; refine HQz.out.mono ?_; rintro e w7 ⟨rfl, hw7⟩; subst w7))
            clear HUz HQz
            have herr := HL.out.err
            rcases herr with rfl | ⟨⟨p, rfl⟩, hsame⟩
            · go_wp2_with fail
              go_roundw
              case rel => exact ⟨k + 1, T2, P2, K5, _, rfl, by go_num, by have := HF.out.1; omega, HL.out.quota, HL.out.ok, HL.out.steps, HL.out.len, HDZ.out⟩
              case measure => simp [Go.RowKit.intOf]; omega
            · unfold failV
              have HDn := Lib.hid (DownD HDZ.out)
              cases hr : T2.runs
              · rw [hr] at HDn
                simp only [Bool.not_false] at HDn
                clear hr hsame
                go_wp2_with (go_at_call 16; refine HDn.out.mono ?_; rintro e w7 ⟨rfl, hw7⟩; subst w7)
                go_roundw
                case rel => exact ⟨k + 1, T2, P2, K5, _, rfl, by go_num, by have := HF.out.1; omega, HL.out.quota, HL.out.ok, HL.out.steps, HL.out.len, HDZ.out⟩
                case measure => simp [Go.RowKit.intOf]; omega
              · rw [hr] at HDn
                simp only [Bool.not_true] at HDn
                have eP := hsame hr
                clear hr hsame
                have eU : U = N := by rw [← HUU.out, ← eP]; exact HW.out.1
                subst eU
                have eT : Ts = Us := names_same (P := P2) (by rw [eP]; exact H3.out.1) H5.out.1 H3.out.2.1 H5.out.2.1
                have r3 : RowIn Z Us v3 := by rw [← eT]; exact ((H3.out.2.2.2.1.mem HL.out.keep).mem H5.out.2.2.2.2).here HDZ.out
                have r5 := H5.out.2.2.2.1.here HDZ.out
                have HTx := Lib.hid (texts_rows r3 r5 (by omega))
                clear r3 r5 eP
                go_wp2_with (first | (go_at_call 16; refine HDn.out.mono ?_; rintro e w7 ⟨rfl, hw7⟩; subst w7) | (go_at_call 26; refine HTx.out.mono ?_; rintro e w8 ⟨rfl, hb8⟩; have HB8 := Lib.hid hb8; clear hb8))
                go_roundw
                case rel => exact ⟨k + 1, T2, P2, K5, _, rfl, by go_num, by have := HF.out.1; omega, HL.out.quota, HL.out.ok, HL.out.steps, HL.out.len, HDZ.out.up HB8.out⟩
                case measure => simp [Go.RowKit.intOf]; omega
      · have hli : (k : Int) < (len : Int) := by omega
        have h15 : ¬ (k : Int) < 150 := by omega
        have HX := Lib.hid hb
        clear hD hb
        go_wp2_with fail
        go_ret
        exact ⟨rfl, HX.out⟩
    · have hli : ¬ (k : Int) < (len : Int) := by omega
      have HX := Lib.hid hb
      clear hD hb
      go_wp2_with fail
      go_ret
      exact ⟨rfl, HX.out⟩
end Go.Proofs.YtgadmfbilmlnkaaDoor
