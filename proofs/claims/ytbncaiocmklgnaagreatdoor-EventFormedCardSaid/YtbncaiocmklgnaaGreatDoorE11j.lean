/- The statement EventFormed: its walk where all are flags (e11jgen.py out of E11j.src). -/
import Derived.Test.YtbncaiocmklgnaaGreatDoorE11k0
import Derived.Test.YtbncaiocmklgnaaGreatDoorE11k3
import Derived.Test.YtbncaiocmklgnaaGreatDoorE11m
import Derived.Test.YtbncaiocmklgnaaGreatDoorE11g
namespace Go.Proofs.YtbncaiocmklgnaaGreatDoor
open Go.RowKit Go.Lib

set_option maxHeartbeats 8000000 in
set_option maxRecDepth 20000 in
theorem formed_ok (v1 : Value) (ss : List ByteArray) (sw : Int) (w : World) (he : Env2 w) (h1 : Strs w v1 ss) (hcap : ∀ a n c, v1 = .slice a n c → n ≤ c) (hnil : ∀ c, v1 = .slice none 0 c → c = 0) (hsw : -9223372036854775808 ≤ sw ∧ sw ≤ 9223372036854775807) (z1 : ∀ f, f ∈ ss → f.size ≤ 140737488355328) (hl8 : ss.length ≤ 8) (hE : flagsE ss = 0) :
    Calls Tryz.prog 3 #[v1, .int .i64 sw] w fun e w' => e = .returned (.bool true) ∧ Below w.heap.size w w' := by
  obtain ⟨hkeys, hL⟩ := form_inv ss hE
  have hag := form_again ss hl8 hkeys
  have hlen := form_len ss
  obtain ⟨fs, hfs⟩ : ∃ fs, formL ss = fs := ⟨_, rfl⟩
  have HFs := Lib.hid hfs
  have HKeys := Lib.hid hkeys
  rw [hfs] at hL hag hlen
  have zf : ∀ f, f ∈ fs → f.size ≤ 140737488355328 := fun f hf => by
    rw [← hfs] at hf
    unfold formL at hf
    rcases List.mem_append.1 hf with hf | hf
    · obtain ⟨j, hj, _, rfl⟩ := (seenTo_mem ss 5 f).1 hf
      exact sysN_size j hj
    · exact z1 f (wordsL_mem ss f hf)
  obtain ⟨ao, cap, rfl, hk⟩ := h1.cells
  have hcap2 := hcap _ _ _ rfl
  have HNil := Lib.hid hnil
  clear hcap hnil
  have HE := Lib.hid he
  have HZ := Lib.hid z1
  have HZf := Lib.hid zf
  have HFl : Hid (∀ W, Below w.heap.size w W → Calls Tryz.prog 7 #[.slice ao ss.length cap] W fun e w' => ∃ a c, e = .returned (.tuple #[.slice a fs.length c, .int .i64 0]) ∧ Strs w' (.slice a fs.length c) fs ∧ Below W.heap.size W w') := Lib.hid (fun W hW => by
    refine (Flags_any _ ss W (he.go hW).f (h1.on hW) (szM z1)).mono ?_
    rintro e w' ⟨vo, rfl, ho⟩
    rw [hL] at ho
    rw [hE]
    obtain ⟨a, c, rfl⟩ := ho.shape
    exact ⟨a, c, rfl, ho.strs (by omega), ho.below⟩)
  have HFa : Hid (∀ W a c, Below w.heap.size w W → Strs W (.slice a fs.length c) fs → Calls Tryz.prog 7 #[.slice a fs.length c] W fun e w' => ∃ a c, e = .returned (.tuple #[.slice a fs.length c, .int .i64 0]) ∧ Strs w' (.slice a fs.length c) fs ∧ Below W.heap.size W w') := Lib.hid (fun W a c hW hS => by
    refine (Flags_any _ fs W (he.go hW).f hS (szM zf)).mono ?_
    rintro e w' ⟨vo, rfl, ho⟩
    rw [hag.2] at ho
    rw [hag.1]
    obtain ⟨a, c, rfl⟩ := ho.shape
    exact ⟨a, c, rfl, ho.strs (by omega), ho.below⟩)
  have HS1 := Lib.hid h1
  obtain ⟨n, hn⟩ : ∃ n, ss.length = n := ⟨_, rfl⟩
  obtain ⟨m, hm⟩ : ∃ m, fs.length = m := ⟨_, rfl⟩
  have HN := Lib.hid hn
  have HM := Lib.hid hm
  rw [hn] at HFl HS1 hl8 hlen hcap2 HNil ⊢
  rw [hm] at HFl HFa hlen
  clear hag hL hE he h1 hk z1 zf hkeys hfs hn hm
  have h8 : ¬ (8 : Int) < (n : Int) := by omega
  go_enter Tryz.func3, Tryz.ntmps3
  go_upto_region 16 with (first | (go_at_call 6; refine (known_any _ HE.out).mono ?_; rintro e w1 ⟨rfl, hb1⟩; have HB1 := Lib.hid hb1; clear hb1) | (go_at_call 7; refine (HFl.out _ HB1.out).mono ?_; rintro e w2 ⟨a2, c2, rfl, hs2, hb2⟩; have HB2 := Lib.hid (HB1.out.trans (hb2.mono HB1.out.size)); have HS2 := Lib.hid hs2; clear hb2 hs2))
  go_upto_region 19 with (first | (go_at_call 7; refine (HFa.out _ _ _ HB2.out HS2.out).mono ?_; rintro e w3 ⟨a3, c3, rfl, hs3, hb3⟩; have HB3 := Lib.hid (HB2.out.trans (hb3.mono HB2.out.size)); have HS3 := Lib.hid (HS2.out.on hb3); have HS3b := Lib.hid hs3; clear hb3 hs3) | (go_at_call 8; refine (texts_eq HS3b.out HS3.out (by rw [HM.out]; omega)).mono ?_; rintro e w4 ⟨rfl, hb4⟩; have HB4 := Lib.hid (HB3.out.trans (hb4.mono HB3.out.size)); have HS4 := Lib.hid (HS3.out.on hb4); clear hb4))
  have HC1 : Hid (∀ X, Below w4.heap.size w4 X → ∀ k, k < n → ∃ b off, ao = some ⟨b, off, none⟩ ∧ X.cell? ⟨b, off + k, none⟩ = some (.string (ss.getD k ByteArray.empty))) := Lib.hid (fun X hX k hk => by
    have hS := (HS1.out.on HB4.out).on hX
    obtain ⟨ao', cap', e, hc⟩ := hS.cells
    cases e
    obtain ⟨b, off, h1, _, h3⟩ := hc k (by rw [HN.out]; exact hk)
    exact ⟨b, off, h1, h3⟩)
  have HC2 : Hid (∀ X, Below w4.heap.size w4 X → ∀ k, k < m → ∃ b off, a2 = some ⟨b, off, none⟩ ∧ X.cell? ⟨b, off + k, none⟩ = some (.string (fs.getD k ByteArray.empty))) := Lib.hid (fun X hX k hk => by
    have hS := HS4.out.on hX
    obtain ⟨ao', cap', e, hc⟩ := hS.cells
    cases e
    obtain ⟨b, off, h1, _, h3⟩ := hc k (by rw [HM.out]; exact hk)
    exact ⟨b, off, h1, h3⟩)
  have HLow := Lib.hid (fun f (hf : f.size ≤ 140737488355328) W => lawlower_any f W hf)
  clear HFl HFa HB1 HB2 HB3 HS2 HS3 HS3b
  have hmi : (m : Int) ≤ 13 := by omega
  have hni : (n : Int) ≤ 8 := by omega
  go_wp2_with fail
  go_loopw [13] (fun vi wr => ∃ (i : Nat) (X : World), X = wr ∧ i ≤ m ∧ vi = .int .i64 i ∧ Below w4.heap.size w4 X) (fun i _ => m - (intOf i).toNat)
  case atStart => exact ⟨0, _, rfl, Nat.zero_le _, rfl, Below.refl _ _⟩
  case round =>
    obtain ⟨i, Z, hX, him, rfl, hb⟩ := hrel
    subst hX
    have HX := Lib.hid hb
    by_cases hlt : i < m
    · obtain ⟨b2, o2, ha2, yx⟩ := HC2.out Z hb i hlt
      subst ha2
      have hi1 : (i : Int) < (m : Int) := by omega
      have hi0 : (0 : Int) ≤ (i : Int) := by omega
      have HMem := Lib.hid (getD_mem fs i (by rw [HM.out]; exact hlt))
      have hfull : 1 ≤ (fs.getD i ByteArray.empty).size := form_full ss HKeys.out _ (by rw [HFs.out]; exact HMem.out)
      have hne := nonempty_eq _ hfull
      have hfi : (1 : Int) ≤ ((fs.getD i ByteArray.empty).size : Int) := by omega
      have hi13 : (i : Int) ≤ 13 := by omega
      have HTail : Hid (∀ X', Below w4.heap.size w4 X' → X'.cell? ⟨b2, o2 + i, none⟩ = some (.string (fs.getD i ByteArray.empty))) := Lib.hid (fun X' hX' => by
        obtain ⟨b, off, e, h⟩ := HC2.out X' hX' i hlt
        cases e
        exact h)
      have HAny : Hid (anyLow ss (fs.getD i ByteArray.empty) = true) := Lib.hid (by
        obtain ⟨f, hf, e⟩ := form_in ss (fs.getD i ByteArray.empty) (by rw [HFs.out]; exact HMem.out)
        exact anyLow_of ss f _ hf e)
      have HLx := Lib.hid (fun W => HLow.out (fs.getD i ByteArray.empty) (HZf.out _ HMem.out) W)
      clear hb
      generalize hx0 : fs.getD i ByteArray.empty = x at *
      have HX0 := Lib.hid hx0
      clear hx0
      go_upto_region 24 with fail
      go_cut [151] (fun c wx => ∃ X, X = wx ∧ c = .bool false ∧ Below w4.heap.size w4 X)
      case first =>
        rcases Nat.eq_zero_or_pos i with h0 | hpos
        · refine r24_zero Z i m c2 b2 o2 _ _ _ _ _ _ _ _ _ _ _ _ _ _ _ _ _ _ _ _ _ _ _ _ _ _ _ _ _ _ _ _ _ _ _ _ _ _ _ _ _ _ _ _ _ _ _ _ _ _ _ _ _ _ _ _ _ _ _ _ _ _ _ _ _ _ _ _ _ _ _ _ _ _ _ _ _ _ _ _ _ _ _ _ _ _ _ _ _ _ _ _ _ _ _ _ _ _ _ _ _ _ _ _ _ _ _ _ _ _ _ _ _ _ _ _ _ _ _ _ _ _ _ _ _ _ _ _ _ _ _ _ _ _ _ _ _ _ _ _ _ _ _ _ _ _ _ _ _ _ _ _ _ _ _ _ _ _ _ _ _ _ _ _ _ _ _ _ _ _ _ _ _ _ _ _ _ _ _ _ _ _ _ _ _ _ _ _ _ _ _ _ _ _ _ _ _ _ _ _ _ _ _ _ _ _ _ _ _ _ _ _ _ _ _ _ _ _ _ _ _ _ _ _ _ _ _ _ _ _ _ _ _ _ _ _ _ _ _ _ _ _ _ _ _ _ _ _ _ _ _ _ _ _ _ _ _ _ _ _ _ _ _ _ _ h0 (fun d _ _ _ _ h => by cases d <;> exact h) (fun r90 r91 r92 r93 r94 r95 r96 r97 r98 r99 r100 r101 r102 r103 r104 r105 r106 r107 r108 r109 r110 r111 r112 r113 r114 r115 r116 r117 r118 r119 r120 r121 r122 r123 r124 r125 r126 r127 r128 r129 r130 r131 r132 r133 r134 r135 r136 r137 r138 r139 r140 r141 r142 r143 r144 r145 r146 r147 r148 r149 r150 => ?_)
          clear h0
          go_wp2_with fail
          go_meet
          exact ⟨_, rfl, rfl, HX.out.trans ((Below.refl _ _).drew.mono HX.out.size)⟩
        · obtain ⟨p, hp⟩ : ∃ p, i = p + 1 := ⟨i - 1, by omega⟩
          have hz0 : (0 : Int) < (i : Int) := by omega
          have hip : (i : Int) - 1 = (p : Int) := by omega
          have hpm : (p : Int) < (m : Int) := by omega
          have hp0 : (0 : Int) ≤ (p : Int) := by omega
          have hpw : IntKind.i64.wrap (p : Int) = (p : Int) := by simp only [IntKind.wrap, IntKind.signed, IntKind.bits]; simp; omega
          have HMemp := Lib.hid (getD_mem fs p (by rw [HM.out]; omega))
          have hfullp : 1 ≤ (fs.getD p ByteArray.empty).size := form_full ss HKeys.out _ (by rw [HFs.out]; exact HMemp.out)
          have hfp : (1 : Int) ≤ ((fs.getD p ByteArray.empty).size : Int) := by omega
          have HYk : Hid (∀ X, Below Z.heap.size Z X → X.cell? ⟨b2, o2 + p, none⟩ = some (.string (fs.getD p ByteArray.empty)) ∧ X.cell? ⟨b2, o2 + i, none⟩ = some (.string x)) := Lib.hid (fun X' hX' => by
            have hb' := HX.out.trans (hX'.mono HX.out.size)
            obtain ⟨b, off, e, h⟩ := HC2.out X' hb' p (by omega)
            cases e
            exact ⟨h, HTail.out X' hb'⟩)
          have HLt := Lib.hid (fun W => HLow.out (fs.getD p ByteArray.empty) (HZf.out _ HMemp.out) W)
          have hr : Rises (fs.getD p ByteArray.empty) x := by
            have hpw2 := form_rises ss HKeys.out
            rw [HFs.out, List.pairwise_iff_getElem] at hpw2
            have := hpw2 p i (by rw [HM.out]; omega) (by rw [HM.out]; omega) (by omega)
            rw [← HX0.out, List.getD_eq_getElem?_getD, List.getElem?_eq_getElem (by rw [HM.out]; omega), List.getD_eq_getElem?_getD, List.getElem?_eq_getElem (by rw [HM.out]; omega)]
            exact this
          clear hp hfullp
          generalize fs.getD p ByteArray.empty = t at *
          rcases hr with ⟨hx, hy, h⟩ | ⟨hx, hy⟩ | ⟨hx, hy, h⟩
          · refine r24_sys Z i m c2 b2 o2 _ _ _ _ _ _ _ _ _ _ _ _ _ _ _ _ _ _ _ _ _ _ _ _ _ _ _ _ _ _ _ _ _ _ _ _ _ _ _ _ _ _ _ _ _ _ _ _ _ _ _ _ _ _ _ _ _ _ _ _ _ _ _ _ _ _ _ _ _ _ _ _ _ _ _ _ _ _ _ _ _ _ _ _ _ _ _ _ _ _ _ _ _ _ _ _ _ _ _ _ _ _ _ _ _ _ _ _ _ _ _ _ _ _ _ _ _ _ _ _ _ _ _ _ _ _ _ _ _ _ _ _ _ _ _ _ _ _ _ _ _ _ _ _ _ _ _ _ _ _ _ _ _ _ _ _ _ _ _ _ _ _ _ _ _ _ _ _ _ _ _ _ _ _ _ _ _ _ _ _ _ _ _ _ _ _ _ _ _ _ _ _ _ _ _ _ _ _ _ _ _ _ _ _ _ _ _ _ _ _ _ _ _ _ _ _ _ _ _ _ _ _ _ _ _ _ _ _ _ _ _ _ _ _ _ _ _ _ _ _ _ _ _ _ _ _ _ _ _ _ _ _ _ _ _ _ _ _ _ _ _ _ _ _ _ p t x hip hz0 hi1 hpm hi13 hfi hfp HYk hx hy h (fun d _ _ _ _ h => by cases d <;> exact h) (fun r90 r91 r92 r93 r94 r95 r96 r97 r98 r99 r100 r101 r102 r103 r104 r105 r106 r107 r108 r109 r110 r111 r112 r113 r114 r115 r116 r117 r118 r119 r120 r121 r122 r123 r124 r125 r126 r127 r128 r129 r130 r131 r132 r133 r134 r135 r136 r137 r138 r139 r140 r141 r142 r143 r144 r145 r146 r147 r148 r149 r150 => ?_)
            go_wp2_with fail
            go_meet
            exact ⟨_, rfl, rfl, HX.out.trans ((Below.refl _ _).drew.mono HX.out.size)⟩
          · refine r24_mid Z i m c2 b2 o2 _ _ _ _ _ _ _ _ _ _ _ _ _ _ _ _ _ _ _ _ _ _ _ _ _ _ _ _ _ _ _ _ _ _ _ _ _ _ _ _ _ _ _ _ _ _ _ _ _ _ _ _ _ _ _ _ _ _ _ _ _ _ _ _ _ _ _ _ _ _ _ _ _ _ _ _ _ _ _ _ _ _ _ _ _ _ _ _ _ _ _ _ _ _ _ _ _ _ _ _ _ _ _ _ _ _ _ _ _ _ _ _ _ _ _ _ _ _ _ _ _ _ _ _ _ _ _ _ _ _ _ _ _ _ _ _ _ _ _ _ _ _ _ _ _ _ _ _ _ _ _ _ _ _ _ _ _ _ _ _ _ _ _ _ _ _ _ _ _ _ _ _ _ _ _ _ _ _ _ _ _ _ _ _ _ _ _ _ _ _ _ _ _ _ _ _ _ _ _ _ _ _ _ _ _ _ _ _ _ _ _ _ _ _ _ _ _ _ _ _ _ _ _ _ _ _ _ _ _ _ _ _ _ _ _ _ _ _ _ _ _ _ _ _ _ _ _ _ _ _ _ _ _ _ _ _ _ _ _ _ _ _ _ _ _ p t x hip hz0 hi1 hpm hi13 hfi hfp HYk hx hy (fun d _ _ _ _ h => by cases d <;> exact h) (fun r90 r91 r92 r93 r94 r95 r96 r97 r98 r99 r100 r101 r102 r103 r104 r105 r106 r107 r108 r109 r110 r111 r112 r113 r114 r115 r116 r117 r118 r119 r120 r121 r122 r123 r124 r125 r126 r127 r128 r129 r130 r131 r132 r133 r134 r135 r136 r137 r138 r139 r140 r141 r142 r143 r144 r145 r146 r147 r148 r149 r150 => ?_)
            go_wp2_with fail
            go_meet
            exact ⟨_, rfl, rfl, HX.out.trans ((Below.refl _ _).drew.mono HX.out.size)⟩
          · refine r24_key Z i m c2 b2 o2 _ _ _ _ _ _ _ _ _ _ _ _ _ _ _ _ _ _ _ _ _ _ _ _ _ _ _ _ _ _ _ _ _ _ _ _ _ _ _ _ _ _ _ _ _ _ _ _ _ _ _ _ _ _ _ _ _ _ _ _ _ _ _ _ _ _ _ _ _ _ _ _ _ _ _ _ _ _ _ _ _ _ _ _ _ _ _ _ _ _ _ _ _ _ _ _ _ _ _ _ _ _ _ _ _ _ _ _ _ _ _ _ _ _ _ _ _ _ _ _ _ _ _ _ _ _ _ _ _ _ _ _ _ _ _ _ _ _ _ _ _ _ _ _ _ _ _ _ _ _ _ _ _ _ _ _ _ _ _ _ _ _ _ _ _ _ _ _ _ _ _ _ _ _ _ _ _ _ _ _ _ _ _ _ _ _ _ _ _ _ _ _ _ _ _ _ _ _ _ _ _ _ _ _ _ _ _ _ _ _ _ _ _ _ _ _ _ _ _ _ _ _ _ _ _ _ _ _ _ _ _ _ _ _ _ _ _ _ _ _ _ _ _ _ _ _ _ _ _ _ _ _ _ _ _ _ _ _ _ _ _ _ _ _ _ p t x hip hz0 hi1 hpm hi13 hfi hfp HYk hx hy h HLt HLx (fun d _ _ _ _ h => by cases d <;> exact h) (fun r90 r91 r92 r93 r94 r95 r96 r97 r98 r99 r100 r101 r102 r103 r104 r105 r106 r107 r108 r109 r110 r111 r112 r113 r114 r115 r116 r117 r118 r119 r120 r121 r122 r123 r124 r125 r126 r127 r128 r129 r130 r131 r132 r133 r134 r135 r136 r137 r138 r139 r140 r141 r142 r143 r144 r145 r146 r147 r148 r149 r150 X6 hX6 => ?_)
            go_wp2_with fail
            go_meet
            exact ⟨_, rfl, rfl, HX.out.trans (hX6.mono HX.out.size)⟩
      case rest =>
        obtain ⟨Z2, hZ2, rfl, hbZ2⟩ := hcut
        subst hZ2
        have HBZ := Lib.hid hbZ2
        clear hbZ2
        have HWt : Hid (Below w4.heap.size w4 Z2) := Lib.hid (HBZ.out)
        go_wp2_with fail
        go_loopw [14, 15] (fun vb vk wr => ∃ (k : Nat) (Y : World), Y = wr ∧ k ≤ n ∧ vk = .int .i64 k ∧ vb = .bool (anyLow (ss.take k) x) ∧ Below w4.heap.size w4 Y) (fun _ k _ => n - (intOf k).toNat)
        case atStart => exact ⟨0, _, rfl, Nat.zero_le _, rfl, rfl, HWt.out⟩
        case round =>
          obtain ⟨k, Y, hY, hkn, rfl, rfl, hb⟩ := hrel
          subst hY
          have HY0 := Lib.hid hb
          by_cases hlk : k < n
          · obtain ⟨b1, o1, ha1, yf⟩ := HC1.out Y hb k hlk
            subst ha1
            have hk1 : (k : Int) < (n : Int) := by omega
            have hk0 : (0 : Int) ≤ (k : Int) := by omega
            have hk8 : (k : Int) ≤ 8 := by omega
            have HT := Lib.hid (take_snocD ss k (by rw [HN.out]; exact hlk))
            have HYk : Hid (∀ X, Below Y.heap.size Y X → X.cell? ⟨b1, o1 + k, none⟩ = some (.string (ss.getD k ByteArray.empty)) ∧ X.cell? ⟨b2, o2 + i, none⟩ = some (.string x)) := Lib.hid (fun X' hX' => by
              have hb' := HY0.out.trans (hX'.mono HY0.out.size)
              obtain ⟨b, off, e, h⟩ := HC1.out X' hb' k hlk
              cases e
              exact ⟨h, HTail.out X' hb'⟩)
            have HL1 := Lib.hid (fun W => HLow.out (ss.getD k ByteArray.empty) (HZ.out _ (getD_mem ss k (by rw [HN.out]; exact hlk))) W)
            have HL2 := Lib.hid (fun W => HLx.out W)
            obtain ⟨eq, heq⟩ : ∃ eq, ((lowB (ss.getD k ByteArray.empty)).toList == (lowB x).toList) = eq := ⟨_, rfl⟩
            obtain ⟨ab, hab⟩ : ∃ ab, anyLow (ss.take k) x = ab := ⟨_, rfl⟩
            have HNx : Hid (anyLow (ss.take (k + 1)) x = (ab || eq)) := Lib.hid (by rw [HT.out, anyLow_snoc, heq, hab])
            rw [hab]
            clear hab hb
            obtain ⟨f, hf⟩ : ∃ f, ss.getD k ByteArray.empty = f := ⟨_, rfl⟩
            rw [hf] at HYk HL1 yf heq
            clear hf
            cases ab with
            | true =>
              clear heq
              go_upto_region 30 with fail
              refine wp_region_N 13 (fun X => X = Y.drew) (by kernel_rfl) ?_
              refine wpAnyN_take (i := 0) (oi := { dst := some 158, op := Go.Op.move (Go.Operand.tmp 14), type := 4, pos := "outright.go:113", after := #[], guard := none }) (oL := { dst := some 171, op := Go.Op.pick (Go.Operand.tmp 159) (Go.Operand.const (Go.Value.bool true)) (Go.Operand.tmp 170), type := 4, pos := "outright.go:113", after := #[{ on := 1, ground := Go.Ground.data }, { on := 12, ground := Go.Ground.data }], guard := none }) (v := .bool true) rfl rfl (by kernel_rfl) (by kernel_rfl) (by kernel_rfl) (by kernel_rfl) (fun _ _ _ h => h) (Or.inl ⟨by kernel_rfl, ?_⟩) rfl ?_
              · (intro X hX; subst hX <;> (go_simp; try first | (with_reducible rfl) | assumption | exact H00.out))
              (try simp only [Act.put, List.setIfInBounds_toArray, List.set_cons_zero, List.set_cons_succ])
              refine wpAnyN_take (i := 1) (oi := { dst := some 159, op := Go.Op.move (Go.Operand.tmp 158), type := 4, pos := "outright.go:113", after := #[{ on := 0, ground := Go.Ground.data }], guard := none }) (oL := { dst := some 171, op := Go.Op.pick (Go.Operand.tmp 159) (Go.Operand.const (Go.Value.bool true)) (Go.Operand.tmp 170), type := 4, pos := "outright.go:113", after := #[{ on := 1, ground := Go.Ground.data }, { on := 12, ground := Go.Ground.data }], guard := none }) (v := .bool true) rfl rfl (by kernel_rfl) (by kernel_rfl) (by kernel_rfl) (by kernel_rfl) (fun _ _ _ h => h) (Or.inl ⟨by kernel_rfl, ?_⟩) rfl ?_
              · (intro X hX; subst hX <;> (go_simp; try first | (with_reducible rfl) | assumption | exact H00.out))
              (try simp only [Act.put, List.setIfInBounds_toArray, List.set_cons_zero, List.set_cons_succ])
              refine wpAnyN_take (i := 2) (oi := { dst := some 160, op := Go.Op.move (Go.Operand.tmp 0), type := 22, pos := "outright.go:113", after := #[{ on := 1, ground := Go.Ground.guard }], guard := some (1, false) }) (oL := { dst := some 171, op := Go.Op.pick (Go.Operand.tmp 159) (Go.Operand.const (Go.Value.bool true)) (Go.Operand.tmp 170), type := 4, pos := "outright.go:113", after := #[{ on := 1, ground := Go.Ground.data }, { on := 12, ground := Go.Ground.data }], guard := none }) (v := undef) rfl rfl (by kernel_rfl) (by kernel_rfl) (by kernel_rfl) (by kernel_rfl) (fun _ _ _ h => h) (Or.inr ⟨by kernel_rfl, rfl⟩) rfl ?_
              (try simp only [Act.put, List.setIfInBounds_toArray, List.set_cons_zero, List.set_cons_succ])
              refine wpAnyN_take (i := 3) (oi := { dst := some 161, op := Go.Op.move (Go.Operand.tmp 15), type := 3, pos := "outright.go:113", after := #[{ on := 1, ground := Go.Ground.guard }], guard := some (1, false) }) (oL := { dst := some 171, op := Go.Op.pick (Go.Operand.tmp 159) (Go.Operand.const (Go.Value.bool true)) (Go.Operand.tmp 170), type := 4, pos := "outright.go:113", after := #[{ on := 1, ground := Go.Ground.data }, { on := 12, ground := Go.Ground.data }], guard := none }) (v := undef) rfl rfl (by kernel_rfl) (by kernel_rfl) (by kernel_rfl) (by kernel_rfl) (fun _ _ _ h => h) (Or.inr ⟨by kernel_rfl, rfl⟩) rfl ?_
              (try simp only [Act.put, List.setIfInBounds_toArray, List.set_cons_zero, List.set_cons_succ])
              refine wpAnyN_take (i := 4) (oi := { dst := some 162, op := Go.Op.indexAddr 22 (Go.Operand.tmp 160) (Go.Operand.tmp 161), type := 0, pos := "outright.go:113", after := #[{ on := 2, ground := Go.Ground.data }, { on := 3, ground := Go.Ground.data }, { on := 1, ground := Go.Ground.guard }], guard := some (1, false) }) (oL := { dst := some 171, op := Go.Op.pick (Go.Operand.tmp 159) (Go.Operand.const (Go.Value.bool true)) (Go.Operand.tmp 170), type := 4, pos := "outright.go:113", after := #[{ on := 1, ground := Go.Ground.data }, { on := 12, ground := Go.Ground.data }], guard := none }) (v := undef) rfl rfl (by kernel_rfl) (by kernel_rfl) (by kernel_rfl) (by kernel_rfl) (fun _ _ _ h => h) (Or.inr ⟨by kernel_rfl, rfl⟩) rfl ?_
              (try simp only [Act.put, List.setIfInBounds_toArray, List.set_cons_zero, List.set_cons_succ])
              refine wpAnyN_take (i := 5) (oi := { dst := some 163, op := Go.Op.load 9 (Go.Operand.tmp 162), type := 9, pos := "outright.go:113", after := #[{ on := 4, ground := Go.Ground.data }, { on := 1, ground := Go.Ground.guard }], guard := some (1, false) }) (oL := { dst := some 171, op := Go.Op.pick (Go.Operand.tmp 159) (Go.Operand.const (Go.Value.bool true)) (Go.Operand.tmp 170), type := 4, pos := "outright.go:113", after := #[{ on := 1, ground := Go.Ground.data }, { on := 12, ground := Go.Ground.data }], guard := none }) (v := undef) rfl rfl (by kernel_rfl) (by kernel_rfl) (by kernel_rfl) (by kernel_rfl) (fun _ _ _ h => h) (Or.inr ⟨by kernel_rfl, rfl⟩) rfl ?_
              (try simp only [Act.put, List.setIfInBounds_toArray, List.set_cons_zero, List.set_cons_succ])
              refine wpAnyN_take (i := 6) (oi := { dst := some 164, op := Go.Op.call { callee := Go.Callee.value (Go.Operand.func 9), args := #[Go.Operand.tmp 163], argTypes := #[9] }, type := 9, pos := "outright.go:113", after := #[{ on := 5, ground := Go.Ground.data }, { on := 1, ground := Go.Ground.chain }, { on := 1, ground := Go.Ground.guard }], guard := some (1, false) }) (oL := { dst := some 171, op := Go.Op.pick (Go.Operand.tmp 159) (Go.Operand.const (Go.Value.bool true)) (Go.Operand.tmp 170), type := 4, pos := "outright.go:113", after := #[{ on := 1, ground := Go.Ground.data }, { on := 12, ground := Go.Ground.data }], guard := none }) (v := undef) rfl rfl (by kernel_rfl) (by kernel_rfl) (by kernel_rfl) (by kernel_rfl) (fun _ _ _ h => h) (Or.inr ⟨by kernel_rfl, rfl⟩) rfl ?_
              (try simp only [Act.put, List.setIfInBounds_toArray, List.set_cons_zero, List.set_cons_succ])
              refine wpAnyN_take (i := 7) (oi := { dst := some 165, op := Go.Op.move (Go.Operand.tmp 5), type := 22, pos := "outright.go:113", after := #[{ on := 1, ground := Go.Ground.guard }], guard := some (1, false) }) (oL := { dst := some 171, op := Go.Op.pick (Go.Operand.tmp 159) (Go.Operand.const (Go.Value.bool true)) (Go.Operand.tmp 170), type := 4, pos := "outright.go:113", after := #[{ on := 1, ground := Go.Ground.data }, { on := 12, ground := Go.Ground.data }], guard := none }) (v := undef) rfl rfl (by kernel_rfl) (by kernel_rfl) (by kernel_rfl) (by kernel_rfl) (fun _ _ _ h => h) (Or.inr ⟨by kernel_rfl, rfl⟩) rfl ?_
              (try simp only [Act.put, List.setIfInBounds_toArray, List.set_cons_zero, List.set_cons_succ])
              refine wpAnyN_take (i := 8) (oi := { dst := some 166, op := Go.Op.move (Go.Operand.tmp 13), type := 3, pos := "outright.go:113", after := #[{ on := 1, ground := Go.Ground.guard }], guard := some (1, false) }) (oL := { dst := some 171, op := Go.Op.pick (Go.Operand.tmp 159) (Go.Operand.const (Go.Value.bool true)) (Go.Operand.tmp 170), type := 4, pos := "outright.go:113", after := #[{ on := 1, ground := Go.Ground.data }, { on := 12, ground := Go.Ground.data }], guard := none }) (v := undef) rfl rfl (by kernel_rfl) (by kernel_rfl) (by kernel_rfl) (by kernel_rfl) (fun _ _ _ h => h) (Or.inr ⟨by kernel_rfl, rfl⟩) rfl ?_
              (try simp only [Act.put, List.setIfInBounds_toArray, List.set_cons_zero, List.set_cons_succ])
              refine wpAnyN_take (i := 9) (oi := { dst := some 167, op := Go.Op.indexAddr 22 (Go.Operand.tmp 165) (Go.Operand.tmp 166), type := 0, pos := "outright.go:113", after := #[{ on := 7, ground := Go.Ground.data }, { on := 8, ground := Go.Ground.data }, { on := 1, ground := Go.Ground.guard }], guard := some (1, false) }) (oL := { dst := some 171, op := Go.Op.pick (Go.Operand.tmp 159) (Go.Operand.const (Go.Value.bool true)) (Go.Operand.tmp 170), type := 4, pos := "outright.go:113", after := #[{ on := 1, ground := Go.Ground.data }, { on := 12, ground := Go.Ground.data }], guard := none }) (v := undef) rfl rfl (by kernel_rfl) (by kernel_rfl) (by kernel_rfl) (by kernel_rfl) (fun _ _ _ h => h) (Or.inr ⟨by kernel_rfl, rfl⟩) rfl ?_
              (try simp only [Act.put, List.setIfInBounds_toArray, List.set_cons_zero, List.set_cons_succ])
              refine wpAnyN_take (i := 10) (oi := { dst := some 168, op := Go.Op.load 9 (Go.Operand.tmp 167), type := 9, pos := "outright.go:113", after := #[{ on := 9, ground := Go.Ground.data }, { on := 1, ground := Go.Ground.guard }], guard := some (1, false) }) (oL := { dst := some 171, op := Go.Op.pick (Go.Operand.tmp 159) (Go.Operand.const (Go.Value.bool true)) (Go.Operand.tmp 170), type := 4, pos := "outright.go:113", after := #[{ on := 1, ground := Go.Ground.data }, { on := 12, ground := Go.Ground.data }], guard := none }) (v := undef) rfl rfl (by kernel_rfl) (by kernel_rfl) (by kernel_rfl) (by kernel_rfl) (fun _ _ _ h => h) (Or.inr ⟨by kernel_rfl, rfl⟩) rfl ?_
              (try simp only [Act.put, List.setIfInBounds_toArray, List.set_cons_zero, List.set_cons_succ])
              refine wpAnyN_take (i := 11) (oi := { dst := some 169, op := Go.Op.call { callee := Go.Callee.value (Go.Operand.func 9), args := #[Go.Operand.tmp 168], argTypes := #[9] }, type := 9, pos := "outright.go:113", after := #[{ on := 10, ground := Go.Ground.data }, { on := 6, ground := Go.Ground.chain }, { on := 1, ground := Go.Ground.guard }], guard := some (1, false) }) (oL := { dst := some 171, op := Go.Op.pick (Go.Operand.tmp 159) (Go.Operand.const (Go.Value.bool true)) (Go.Operand.tmp 170), type := 4, pos := "outright.go:113", after := #[{ on := 1, ground := Go.Ground.data }, { on := 12, ground := Go.Ground.data }], guard := none }) (v := undef) rfl rfl (by kernel_rfl) (by kernel_rfl) (by kernel_rfl) (by kernel_rfl) (fun _ _ _ h => h) (Or.inr ⟨by kernel_rfl, rfl⟩) rfl ?_
              (try simp only [Act.put, List.setIfInBounds_toArray, List.set_cons_zero, List.set_cons_succ])
              refine wpAnyN_take (i := 12) (oi := { dst := some 170, op := Go.Op.binOp Go.BinOp.eql 9 (Go.Operand.tmp 164) (Go.Operand.tmp 169) 9, type := 4, pos := "outright.go:113", after := #[{ on := 6, ground := Go.Ground.data }, { on := 11, ground := Go.Ground.data }, { on := 1, ground := Go.Ground.guard }], guard := some (1, false) }) (oL := { dst := some 171, op := Go.Op.pick (Go.Operand.tmp 159) (Go.Operand.const (Go.Value.bool true)) (Go.Operand.tmp 170), type := 4, pos := "outright.go:113", after := #[{ on := 1, ground := Go.Ground.data }, { on := 12, ground := Go.Ground.data }], guard := none }) (v := undef) rfl rfl (by kernel_rfl) (by kernel_rfl) (by kernel_rfl) (by kernel_rfl) (fun _ _ _ h => h) (Or.inr ⟨by kernel_rfl, rfl⟩) rfl ?_
              (try simp only [Act.put, List.setIfInBounds_toArray, List.set_cons_zero, List.set_cons_succ])
              refine wpAnyN_one (i := 13) (o := { dst := some 171, op := Go.Op.pick (Go.Operand.tmp 159) (Go.Operand.const (Go.Value.bool true)) (Go.Operand.tmp 170), type := 4, pos := "outright.go:113", after := #[{ on := 1, ground := Go.Ground.data }, { on := 12, ground := Go.Ground.data }], guard := none }) (by kernel_rfl) rfl (fun K hK => ?_)
              go_simp
              refine hK.out _ _ (fun e => absurd (e.symm.trans (by kernel_rfl) : false = true) Bool.false_ne_true) ?_
              clear hK K
              (try simp only [Act.put, List.setIfInBounds_toArray, List.set_cons_zero, List.set_cons_succ])
              refine wpAnyN_of_H (S' := fun _ => True) _ _ _ _ (by kernel_rfl) ?_
              refine wpAnyH_take (i := 14) (oi := { dst := some 14, op := Go.Op.assign (Go.Operand.tmp 171), type := 4, pos := "outright.go:113", after := #[{ on := 13, ground := Go.Ground.data }, { on := 11, ground := Go.Ground.chain }, { on := 0, ground := Go.Ground.phase }, { on := 1, ground := Go.Ground.phase }, { on := 2, ground := Go.Ground.phase }, { on := 3, ground := Go.Ground.phase }, { on := 4, ground := Go.Ground.phase }, { on := 5, ground := Go.Ground.phase }, { on := 6, ground := Go.Ground.phase }, { on := 7, ground := Go.Ground.phase }, { on := 8, ground := Go.Ground.phase }, { on := 9, ground := Go.Ground.phase }, { on := 10, ground := Go.Ground.phase }, { on := 11, ground := Go.Ground.phase }, { on := 12, ground := Go.Ground.phase }, { on := 13, ground := Go.Ground.phase }], guard := none }) (v := .bool true) rfl (by kernel_rfl) (by kernel_rfl) (by kernel_rfl) (fun _ _ _ h => h) (Or.inl ⟨by kernel_rfl, ?_⟩) trivial ?_
              · (intro X hX; go_simp; try (with_reducible rfl))
              (try simp only [Act.put, List.setIfInBounds_toArray, List.set_cons_zero, List.set_cons_succ])
              refine wpAnyH_done (by kernel_rfl) ?_ _
              go_wp2_with fail
              go_roundw
              case rel => exact ⟨k + 1, _, rfl, hlk, by go_num, by rw [HNx.out]; rfl, HY0.out.trans ((Below.refl _ _).drew.mono HY0.out.size)⟩
              case measure => simp [intOf]; omega
            | false =>
              generalize lowB f = sf at *
              generalize lowB x = sx at *
              go_upto_region 30 with fail
              refine wp_region_N 13 (fun X => Below Y.heap.size Y X) (by kernel_rfl) ?_
              refine wpAnyN_take (i := 0) (oi := { dst := some 158, op := Go.Op.move (Go.Operand.tmp 14), type := 4, pos := "outright.go:113", after := #[], guard := none }) (oL := { dst := some 171, op := Go.Op.pick (Go.Operand.tmp 159) (Go.Operand.const (Go.Value.bool true)) (Go.Operand.tmp 170), type := 4, pos := "outright.go:113", after := #[{ on := 1, ground := Go.Ground.data }, { on := 12, ground := Go.Ground.data }], guard := none }) (v := .bool false) rfl rfl (by kernel_rfl) (by kernel_rfl) (by kernel_rfl) (by kernel_rfl) (fun _ _ _ h => h) (Or.inl ⟨by kernel_rfl, ?_⟩) (Below.refl _ _).drew ?_
              · (intro X hX; obtain ⟨y1, y2⟩ := HYk.out X hX <;> (go_simp; try first | (with_reducible rfl) | assumption | exact H00.out))
              (try simp only [Act.put, List.setIfInBounds_toArray, List.set_cons_zero, List.set_cons_succ])
              refine wpAnyN_take (i := 1) (oi := { dst := some 159, op := Go.Op.move (Go.Operand.tmp 158), type := 4, pos := "outright.go:113", after := #[{ on := 0, ground := Go.Ground.data }], guard := none }) (oL := { dst := some 171, op := Go.Op.pick (Go.Operand.tmp 159) (Go.Operand.const (Go.Value.bool true)) (Go.Operand.tmp 170), type := 4, pos := "outright.go:113", after := #[{ on := 1, ground := Go.Ground.data }, { on := 12, ground := Go.Ground.data }], guard := none }) (v := .bool false) rfl rfl (by kernel_rfl) (by kernel_rfl) (by kernel_rfl) (by kernel_rfl) (fun _ _ _ h => h) (Or.inl ⟨by kernel_rfl, ?_⟩) (Below.refl _ _).drew ?_
              · (intro X hX; obtain ⟨y1, y2⟩ := HYk.out X hX <;> (go_simp; try first | (with_reducible rfl) | assumption | exact H00.out))
              (try simp only [Act.put, List.setIfInBounds_toArray, List.set_cons_zero, List.set_cons_succ])
              refine wpAnyN_take (i := 2) (oi := { dst := some 160, op := Go.Op.move (Go.Operand.tmp 0), type := 22, pos := "outright.go:113", after := #[{ on := 1, ground := Go.Ground.guard }], guard := some (1, false) }) (oL := { dst := some 171, op := Go.Op.pick (Go.Operand.tmp 159) (Go.Operand.const (Go.Value.bool true)) (Go.Operand.tmp 170), type := 4, pos := "outright.go:113", after := #[{ on := 1, ground := Go.Ground.data }, { on := 12, ground := Go.Ground.data }], guard := none }) (v := .slice (some ⟨b1, o1, none⟩) n cap) rfl rfl (by kernel_rfl) (by kernel_rfl) (by kernel_rfl) (by kernel_rfl) (fun _ _ _ h => h) (Or.inl ⟨by kernel_rfl, ?_⟩) (Below.refl _ _).drew ?_
              · (intro X hX; obtain ⟨y1, y2⟩ := HYk.out X hX <;> (go_simp; try first | (with_reducible rfl) | assumption | exact H00.out))
              (try simp only [Act.put, List.setIfInBounds_toArray, List.set_cons_zero, List.set_cons_succ])
              refine wpAnyN_take (i := 3) (oi := { dst := some 161, op := Go.Op.move (Go.Operand.tmp 15), type := 3, pos := "outright.go:113", after := #[{ on := 1, ground := Go.Ground.guard }], guard := some (1, false) }) (oL := { dst := some 171, op := Go.Op.pick (Go.Operand.tmp 159) (Go.Operand.const (Go.Value.bool true)) (Go.Operand.tmp 170), type := 4, pos := "outright.go:113", after := #[{ on := 1, ground := Go.Ground.data }, { on := 12, ground := Go.Ground.data }], guard := none }) (v := .int .i64 (k : Int)) rfl rfl (by kernel_rfl) (by kernel_rfl) (by kernel_rfl) (by kernel_rfl) (fun _ _ _ h => h) (Or.inl ⟨by kernel_rfl, ?_⟩) (Below.refl _ _).drew ?_
              · (intro X hX; obtain ⟨y1, y2⟩ := HYk.out X hX <;> (go_simp; try first | (with_reducible rfl) | assumption | exact H00.out))
              (try simp only [Act.put, List.setIfInBounds_toArray, List.set_cons_zero, List.set_cons_succ])
              refine wpAnyN_take (i := 4) (oi := { dst := some 162, op := Go.Op.indexAddr 22 (Go.Operand.tmp 160) (Go.Operand.tmp 161), type := 0, pos := "outright.go:113", after := #[{ on := 2, ground := Go.Ground.data }, { on := 3, ground := Go.Ground.data }, { on := 1, ground := Go.Ground.guard }], guard := some (1, false) }) (oL := { dst := some 171, op := Go.Op.pick (Go.Operand.tmp 159) (Go.Operand.const (Go.Value.bool true)) (Go.Operand.tmp 170), type := 4, pos := "outright.go:113", after := #[{ on := 1, ground := Go.Ground.data }, { on := 12, ground := Go.Ground.data }], guard := none }) (v := .pointer (some ⟨b1, o1 + k, none⟩)) rfl rfl (by kernel_rfl) (by kernel_rfl) (by kernel_rfl) (by kernel_rfl) (fun _ _ _ h => h) (Or.inl ⟨by kernel_rfl, ?_⟩) (Below.refl _ _).drew ?_
              · (intro X hX; obtain ⟨y1, y2⟩ := HYk.out X hX <;> (go_simp; try first | (with_reducible rfl) | assumption | exact H00.out))
              (try simp only [Act.put, List.setIfInBounds_toArray, List.set_cons_zero, List.set_cons_succ])
              refine wpAnyN_take (i := 5) (oi := { dst := some 163, op := Go.Op.load 9 (Go.Operand.tmp 162), type := 9, pos := "outright.go:113", after := #[{ on := 4, ground := Go.Ground.data }, { on := 1, ground := Go.Ground.guard }], guard := some (1, false) }) (oL := { dst := some 171, op := Go.Op.pick (Go.Operand.tmp 159) (Go.Operand.const (Go.Value.bool true)) (Go.Operand.tmp 170), type := 4, pos := "outright.go:113", after := #[{ on := 1, ground := Go.Ground.data }, { on := 12, ground := Go.Ground.data }], guard := none }) (v := .string f) rfl rfl (by kernel_rfl) (by kernel_rfl) (by kernel_rfl) (by kernel_rfl) (fun _ _ _ h => h) (Or.inl ⟨by kernel_rfl, ?_⟩) (Below.refl _ _).drew ?_
              · (intro X hX; obtain ⟨y1, y2⟩ := HYk.out X hX <;> (go_simp; try first | (with_reducible rfl) | assumption | exact H00.out))
              (try simp only [Act.put, List.setIfInBounds_toArray, List.set_cons_zero, List.set_cons_succ])
              refine wpAnyN_take (i := 7) (oi := { dst := some 165, op := Go.Op.move (Go.Operand.tmp 5), type := 22, pos := "outright.go:113", after := #[{ on := 1, ground := Go.Ground.guard }], guard := some (1, false) }) (oL := { dst := some 171, op := Go.Op.pick (Go.Operand.tmp 159) (Go.Operand.const (Go.Value.bool true)) (Go.Operand.tmp 170), type := 4, pos := "outright.go:113", after := #[{ on := 1, ground := Go.Ground.data }, { on := 12, ground := Go.Ground.data }], guard := none }) (v := .slice (some ⟨b2, o2, none⟩) m c2) rfl rfl (by kernel_rfl) (by kernel_rfl) (by kernel_rfl) (by kernel_rfl) (fun _ _ _ h => h) (Or.inl ⟨by kernel_rfl, ?_⟩) (Below.refl _ _).drew ?_
              · (intro X hX; obtain ⟨y1, y2⟩ := HYk.out X hX <;> (go_simp; try first | (with_reducible rfl) | assumption | exact H00.out))
              (try simp only [Act.put, List.setIfInBounds_toArray, List.set_cons_zero, List.set_cons_succ])
              refine wpAnyN_take (i := 8) (oi := { dst := some 166, op := Go.Op.move (Go.Operand.tmp 13), type := 3, pos := "outright.go:113", after := #[{ on := 1, ground := Go.Ground.guard }], guard := some (1, false) }) (oL := { dst := some 171, op := Go.Op.pick (Go.Operand.tmp 159) (Go.Operand.const (Go.Value.bool true)) (Go.Operand.tmp 170), type := 4, pos := "outright.go:113", after := #[{ on := 1, ground := Go.Ground.data }, { on := 12, ground := Go.Ground.data }], guard := none }) (v := .int .i64 (i : Int)) rfl rfl (by kernel_rfl) (by kernel_rfl) (by kernel_rfl) (by kernel_rfl) (fun _ _ _ h => h) (Or.inl ⟨by kernel_rfl, ?_⟩) (Below.refl _ _).drew ?_
              · (intro X hX; obtain ⟨y1, y2⟩ := HYk.out X hX <;> (go_simp; try first | (with_reducible rfl) | assumption | exact H00.out))
              (try simp only [Act.put, List.setIfInBounds_toArray, List.set_cons_zero, List.set_cons_succ])
              refine wpAnyN_take (i := 9) (oi := { dst := some 167, op := Go.Op.indexAddr 22 (Go.Operand.tmp 165) (Go.Operand.tmp 166), type := 0, pos := "outright.go:113", after := #[{ on := 7, ground := Go.Ground.data }, { on := 8, ground := Go.Ground.data }, { on := 1, ground := Go.Ground.guard }], guard := some (1, false) }) (oL := { dst := some 171, op := Go.Op.pick (Go.Operand.tmp 159) (Go.Operand.const (Go.Value.bool true)) (Go.Operand.tmp 170), type := 4, pos := "outright.go:113", after := #[{ on := 1, ground := Go.Ground.data }, { on := 12, ground := Go.Ground.data }], guard := none }) (v := .pointer (some ⟨b2, o2 + i, none⟩)) rfl rfl (by kernel_rfl) (by kernel_rfl) (by kernel_rfl) (by kernel_rfl) (fun _ _ _ h => h) (Or.inl ⟨by kernel_rfl, ?_⟩) (Below.refl _ _).drew ?_
              · (intro X hX; obtain ⟨y1, y2⟩ := HYk.out X hX <;> (go_simp; try first | (with_reducible rfl) | assumption | exact H00.out))
              (try simp only [Act.put, List.setIfInBounds_toArray, List.set_cons_zero, List.set_cons_succ])
              refine wpAnyN_take (i := 10) (oi := { dst := some 168, op := Go.Op.load 9 (Go.Operand.tmp 167), type := 9, pos := "outright.go:113", after := #[{ on := 9, ground := Go.Ground.data }, { on := 1, ground := Go.Ground.guard }], guard := some (1, false) }) (oL := { dst := some 171, op := Go.Op.pick (Go.Operand.tmp 159) (Go.Operand.const (Go.Value.bool true)) (Go.Operand.tmp 170), type := 4, pos := "outright.go:113", after := #[{ on := 1, ground := Go.Ground.data }, { on := 12, ground := Go.Ground.data }], guard := none }) (v := .string x) rfl rfl (by kernel_rfl) (by kernel_rfl) (by kernel_rfl) (by kernel_rfl) (fun _ _ _ h => h) (Or.inl ⟨by kernel_rfl, ?_⟩) (Below.refl _ _).drew ?_
              · (intro X hX; obtain ⟨y1, y2⟩ := HYk.out X hX <;> (go_simp; try first | (with_reducible rfl) | assumption | exact H00.out))
              (try simp only [Act.put, List.setIfInBounds_toArray, List.set_cons_zero, List.set_cons_succ])
              refine wpAnyN_one (i := 6) (o := { dst := some 164, op := Go.Op.call { callee := Go.Callee.value (Go.Operand.func 9), args := #[Go.Operand.tmp 163], argTypes := #[9] }, type := 9, pos := "outright.go:113", after := #[{ on := 5, ground := Go.Ground.data }, { on := 1, ground := Go.Ground.chain }, { on := 1, ground := Go.Ground.guard }], guard := some (1, false) }) (by kernel_rfl) rfl (fun K hK => ?_)
              go_simp
              refine (HL1.out _).mono ?_
              rintro e w7 ⟨rfl, hb7⟩
              have HB7 := Lib.hid ((Below.refl _ _).drew.trans hb7)
              clear hb7
              refine hK.out _ _ (fun _ => HB7.out) ?_
              clear hK K
              (try simp only [Act.put, List.setIfInBounds_toArray, List.set_cons_zero, List.set_cons_succ])
              refine wpAnyN_one (i := 11) (o := { dst := some 169, op := Go.Op.call { callee := Go.Callee.value (Go.Operand.func 9), args := #[Go.Operand.tmp 168], argTypes := #[9] }, type := 9, pos := "outright.go:113", after := #[{ on := 10, ground := Go.Ground.data }, { on := 6, ground := Go.Ground.chain }, { on := 1, ground := Go.Ground.guard }], guard := some (1, false) }) (by kernel_rfl) rfl (fun K hK => ?_)
              go_simp
              refine (HL2.out _).mono ?_
              rintro e w8 ⟨rfl, hb8⟩
              have HB8 := Lib.hid (HB7.out.trans (hb8.mono HB7.out.size))
              clear hb8
              refine hK.out _ _ (fun _ => HB8.out) ?_
              clear hK K
              (try simp only [Act.put, List.setIfInBounds_toArray, List.set_cons_zero, List.set_cons_succ])
              refine wpAnyN_take (i := 12) (oi := { dst := some 170, op := Go.Op.binOp Go.BinOp.eql 9 (Go.Operand.tmp 164) (Go.Operand.tmp 169) 9, type := 4, pos := "outright.go:113", after := #[{ on := 6, ground := Go.Ground.data }, { on := 11, ground := Go.Ground.data }, { on := 1, ground := Go.Ground.guard }], guard := some (1, false) }) (oL := { dst := some 171, op := Go.Op.pick (Go.Operand.tmp 159) (Go.Operand.const (Go.Value.bool true)) (Go.Operand.tmp 170), type := 4, pos := "outright.go:113", after := #[{ on := 1, ground := Go.Ground.data }, { on := 12, ground := Go.Ground.data }], guard := none }) (v := .bool eq) rfl rfl (by kernel_rfl) (by kernel_rfl) (by kernel_rfl) (by kernel_rfl) (fun _ _ _ h => h) (Or.inl ⟨by kernel_rfl, ?_⟩) HB8.out ?_
              · (intro X hX; obtain ⟨y1, y2⟩ := HYk.out X hX <;> (go_simp; try first | (with_reducible rfl) | assumption | exact H00.out))
              (try simp only [Act.put, List.setIfInBounds_toArray, List.set_cons_zero, List.set_cons_succ])
              refine wpAnyN_one (i := 13) (o := { dst := some 171, op := Go.Op.pick (Go.Operand.tmp 159) (Go.Operand.const (Go.Value.bool true)) (Go.Operand.tmp 170), type := 4, pos := "outright.go:113", after := #[{ on := 1, ground := Go.Ground.data }, { on := 12, ground := Go.Ground.data }], guard := none }) (by kernel_rfl) rfl (fun K hK => ?_)
              go_simp
              refine hK.out _ _ (fun e => absurd (e.symm.trans (by kernel_rfl) : false = true) Bool.false_ne_true) ?_
              clear hK K
              (try simp only [Act.put, List.setIfInBounds_toArray, List.set_cons_zero, List.set_cons_succ])
              refine wpAnyN_of_H (S' := fun _ => True) _ _ _ _ (by kernel_rfl) ?_
              refine wpAnyH_take (i := 14) (oi := { dst := some 14, op := Go.Op.assign (Go.Operand.tmp 171), type := 4, pos := "outright.go:113", after := #[{ on := 13, ground := Go.Ground.data }, { on := 11, ground := Go.Ground.chain }, { on := 0, ground := Go.Ground.phase }, { on := 1, ground := Go.Ground.phase }, { on := 2, ground := Go.Ground.phase }, { on := 3, ground := Go.Ground.phase }, { on := 4, ground := Go.Ground.phase }, { on := 5, ground := Go.Ground.phase }, { on := 6, ground := Go.Ground.phase }, { on := 7, ground := Go.Ground.phase }, { on := 8, ground := Go.Ground.phase }, { on := 9, ground := Go.Ground.phase }, { on := 10, ground := Go.Ground.phase }, { on := 11, ground := Go.Ground.phase }, { on := 12, ground := Go.Ground.phase }, { on := 13, ground := Go.Ground.phase }], guard := none }) (v := .bool eq) rfl (by kernel_rfl) (by kernel_rfl) (by kernel_rfl) (fun _ _ _ h => h) (Or.inl ⟨by kernel_rfl, ?_⟩) trivial ?_
              · (intro X hX; go_simp; try (with_reducible rfl))
              (try simp only [Act.put, List.setIfInBounds_toArray, List.set_cons_zero, List.set_cons_succ])
              refine wpAnyH_done (by kernel_rfl) ?_ _
              go_wp2_with fail
              go_roundw
              case rel => exact ⟨k + 1, _, rfl, hlk, by go_num, by rw [HNx.out]; rfl, HY0.out.trans (HB8.out.mono HY0.out.size)⟩
              case measure => simp [intOf]; omega
          · have hk1 : ¬ (k : Int) < (n : Int) := by omega
            have hkt : ss.take k = ss := List.take_of_length_le (by rw [HN.out]; omega)
            rw [hkt, HAny.out]
            clear hb hkt
            go_wp2_with fail
            go_roundw
            case rel => exact ⟨i + 1, _, rfl, hlt, by go_num, HY0.out⟩
            case measure => simp [intOf]; omega
    · have hi1 : ¬ (i : Int) < (m : Int) := by omega
      have HBZ := Lib.hid (HB4.out.trans (hb.mono HB4.out.size))
      have HSZ := Lib.hid (HS4.out.on hb)
      clear hb HC1 HC2 HLow HX
      go_upto_region 33 with fail
      rename_i hK33
      exact formed_mid ss fs ao a2 cap c2 n m sw w Z HE HBZ HS1 HSZ HN HM hl8 (by omega) hcap2 HNil hsw HZ HZf HFs HKeys _ _ _ _ _ _ _ _ _ _ _ _ _ _ _ _ _ _ _ _ _ _ _ _ _ _ _ _ _ _ _ _ _ _ _ _ _ _ _ _ _ _ _ _ _ _ _ _ _ _ _ _ _ _ _ _ _ _ _ _ _ _ _ _ _ _ _ _ _ _ _ _ _ _ _ _ _ _ _ _ _ _ _ _ _ _ _ _ _ _ _ _ _ _ _ _ _ _ _ _ _ _ _ _ _ _ _ _ _ _ _ _ _ _ _ _ _ _ _ _ _ _ _ _ _ _ _ _ _ _ _ _ _ _ _ _ _ _ _ _ _ _ _ _ _ _ _ _ _ _ _ _ _ _ _ _ _ _ _ _ _ _ _ _ _ _ _ _ _ _ _ _ _ _ _ _ _ _ _ _ _ _ _ _ _ _ _ _ _ _ _ _ _ _ _ _ _ _ _ _ _ _ _ _ _ _ _ _ _ _ _ _ _ _ _ _ _ _ _ _ _ _ _ _ _ _ _ _ _ _ _ _ _ _ _ _ _ _ _ _ _ _ _ _ _ _ _ _ _ _ _ _ _ _ _ _ _ _ _ _ _ _ _ _ _ (fun a w1 h => hK33 a w1 h)
end Go.Proofs.YtbncaiocmklgnaaGreatDoor

/- The statement EventFormed: its walk. -/
namespace Go.Proofs.YtbncaiocmklgnaaGreatDoor
open Go.RowKit Go.Lib

set_option maxHeartbeats 4000000 in
set_option maxRecDepth 20000 in
theorem EventFormed_walk (v1 : Value) (ss : List ByteArray) (sw : Int) (w : World) (he : Env2 w) (h1 : Strs w v1 ss) (hnil : ∀ c, v1 = .slice none 0 c → c = 0) (hcap : ∀ a n c, v1 = .slice a n c → n ≤ c) (hsw : -9223372036854775808 ≤ sw ∧ sw ≤ 9223372036854775807) (z1 : ∀ i, i < ss.length → (ss.getD i ByteArray.empty).size ≤ 140737488355328) :
    Calls Tryz.prog 3 #[v1, .int .i64 sw] w fun e w' => e = .returned (.bool true) ∧ Below w.heap.size w w' := by
  have zm : ∀ f, f ∈ ss → f.size ≤ 140737488355328 := by
    intro f hf
    obtain ⟨i, hi, rfl⟩ := List.getElem_of_mem hf
    have := z1 i hi
    rw [List.getD_eq_getElem?_getD, List.getElem?_eq_getElem hi] at this
    exact this
  by_cases hl8 : ss.length ≤ 8
  · by_cases hE : flagsE ss = 0
    · exact formed_ok v1 ss sw w he h1 hcap hnil hsw zm hl8 hE
    · exact formed_bad v1 ss sw w he h1 hcap zm hl8 hE
  · obtain ⟨ao, cap, rfl⟩ := h1.shape
    have hli : (8 : Int) < (ss.length : Int) := by omega
    clear he h1 hnil hcap hsw z1 zm
    go_enter Tryz.func3, Tryz.ntmps3
    go_wp2_with fail
    go_ret
    exact ⟨rfl, Below.refl _ _⟩
end Go.Proofs.YtbncaiocmklgnaaGreatDoor
