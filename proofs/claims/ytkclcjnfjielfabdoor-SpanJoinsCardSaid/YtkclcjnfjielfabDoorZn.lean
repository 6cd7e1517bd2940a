/- SpanJoins: the walk. -/
import Derived.Test.YtkclcjnfjielfabDoorZm
import Derived.Test.YtkclcjnfjielfabDoorZe
import Derived.Test.YtkclcjnfjielfabDoorYs
namespace Go.Proofs.YtkclcjnfjielfabDoor
open Go.RowKit

set_option maxRecDepth 100000 in
set_option maxHeartbeats 8000000 in
theorem SpanJoins_walk (v : Value) (A : List AskP) (w : World) (he : Env w) (hA : Asks w v A) :
    Calls Tryd.prog 6 #[v] w fun e w' => e = .returned (.bool true) ∧ Below w.heap.size w w' := by
  have HK := Lib.hid (fun X (hX : Below w.heap.size w X) => (known_any X (he.on hX)).mono fun e w' ⟨p, q⟩ => (⟨p, hX.trans (q.mono hX.size)⟩ : e = Ending.returned (.bool true) ∧ Below w.heap.size w w'))
  have HV := Lib.hid he
  have H0 := Lib.hid hA
  obtain ⟨ao, cap, hv, hAl, hc⟩ := hA
  subst hv
  have HC := Lib.hid hc
  clear hc he
  go_enter Tryd.func6, Tryd.ntmps6
  go_wp2_with fail
  refine (long_any _ A w H0.out).mono ?_
  rintro e w1 ⟨⟨bb, rfl, hsh⟩, hb1⟩
  have HB1 := Lib.hid hb1
  clear hb1 H0
  cases bb with
  | true =>
    clear hsh
    go_wp2_with fail
    go_ret
    exact ⟨rfl, HB1.out⟩
  | false =>
    obtain ⟨h30, hq⟩ := hsh rfl
    have HQ := Lib.hid hq
    clear hsh hq
    go_wp2_with fail
    obtain ⟨D, hD⟩ : ∃ D, D = w1.heap.size := ⟨_, rfl⟩
    have HD := Lib.hid hD
    rw [← hD]
    clear hD
    go_loopg [4, 5, 6, 7, 8, 9] (2 * A.length) (fun gg s4 s5 s6 s7 s8 s9 wr => ∃ (k : Nat) (vin vset v4 v5 : Value) (I : List Value) (M : List (List Rg)) (Sx : List Value) (G T : List Value) (K : List (Value × List Rg)) (X : World), X = wr ∧ k ≤ 2 * A.length ∧ 2 * A.length - k ≤ gg ∧ s6 = .int .i64 k ∧ v4 = s4 ∧ v5 = s5 ∧ DeskS D vin vset I M Sx w1 X ∧ I.length ≤ 1000000 ∧ Sx.length ≤ 3000000 ∧ TwoF D (PlS vin vset I) v4 G v5 T K X ∧ Hid (KeptD k G T K))
    case atStart => exact ⟨0, _, _, _, _, [], [], [], [], [], [], _, rfl, Nat.zero_le _, by omega, rfl, rfl, rfl, DeskS.start _ D HD.out _ _ _, by simp, by simp, TwoF.start (by rw [HD.out]; simp), Lib.hid ⟨rfl, rfl, fun j hj => by omega⟩⟩
    case round =>
      obtain ⟨k, vin, vset, v4, v5, I, M, Sx, G, T, K, X, hX, hk, hgg, rfl, hv4, hv5, hdk, hIl, hSl, htw, HKR⟩ := hrel
      subst hX
      subst hv4
      subst hv5
      have HDK := Lib.hid hdk
      have HTW := Lib.hid htw
      have HBX : Hid (Below w.heap.size w X) := Lib.hid (belThen HB1.out (by have := hdk.below; rw [HD.out] at this; exact this))
      clear hdk htw
      by_cases hlt : k < 2 * A.length
      · have hltz : (k : Int) < 2 * (A.length : Int) := by omega
        have hme : 2 * A.length - (k + 1) < 2 * A.length - k := by omega
        have hG6 : G.length + 1 ≤ 61 := by (have := HKR.out.1; omega)
        have hT6 : T.length + 1 ≤ 61 := by (have := HKR.out.2.1; omega)
        obtain ⟨j, hj, HTN⟩ : ∃ j, j < A.length ∧ Hid (Calls Tryd.prog 10 #[.int .i64 k, .int .i64 A.length] X fun e w' => e = .returned (.int .i64 (j : Nat)) ∧ w' = X) := by
          by_cases hkn : k < A.length
          · exact ⟨k, hkn, Lib.hid (turn_up k A.length X hkn)⟩
          · exact ⟨2 * A.length - 1 - k, by omega, Lib.hid (turn_down k A.length _ X (by omega) (by omega) (by omega))⟩
        have hjz : (j : Int) < (A.length : Int) := by omega
        obtain ⟨b, off, hao, hat⟩ := HC.out (by omega)
        subst hao
        have hqq := hat j hj
        have hsq := HQ.out j hj
        obtain ⟨u1, e1, f1⟩ := hqq.c1
        obtain ⟨u4, e4, f4⟩ := hqq.c4
        obtain ⟨u5, e5, f5⟩ := hqq.c5
        have c0 := cellOn hqq.c0 HBX.out
        have c1 := cellOn e1 HBX.out
        have c2 := cellOn hqq.c2 HBX.out
        have c3 := cellOn hqq.c3 HBX.out
        have c4 := cellOn e4 HBX.out
        have c5 := cellOn e5 HBX.out
        obtain ⟨a1, k1, hu1, _⟩ := f1.shape
        obtain ⟨a4, k4, hu4⟩ := f4.form
        obtain ⟨a5, k5, hu5, _⟩ := f5.form
        have HF5 := Lib.hid f5
        have hs5 : (A.getD j ask0).sets.length ≤ 3000 := hsq.2.2.1
        have hs6 : (A.getD j ask0).sets.flatten.length ≤ 3000 := hsq.2.2.2
        clear hqq hat hsq e1 e4 e5 f1 f4 f5
        generalize A.getD j ask0 = q at *
        subst hu1
        subst hu4
        subst hu5
        go_wp2_with (go_at_call 10; refine HTN.out.mono ?_; rintro e w2 ⟨rfl, hw2⟩; subst hw2)
        refine calls_genD (fun Y hY => ?_)
        obtain ⟨P, hP⟩ : ∃ P, P = w2.heap.size := ⟨_, rfl⟩
        rw [← hP]
        have hbY : Below w2.heap.size w2 Y := by rw [hY]; exact (Below.refl _ _).alloc (Nat.le_refl _) _
        have hcY : Y.cell? ⟨P, 5, none⟩ = some (.slice a5 q.sets.length k5) := by rw [hY, hP]; simp
        have HDY := Lib.hid (HDK.out.on hbY)
        have HTY := Lib.hid (HTW.out.on hbY)
        have HBY := Lib.hid (belThen HBX.out hbY)
        have hPD : P ≠ D := by (have := HDK.out.base; omega)
        have hPv : ¬ PlS vin vset I P := fun e => by (have := (HDK.out.lt P e).2; omega)
        clear hY hP hbY c0 c1 c2 c3 c4 c5 HDK HTW HBX HTN
        have HLL := Lib.hid (joinL_len q.sets)
        have HLF := Lib.hid (len_flat q.sets)
        refine (refJoin_any _ q.sets Y (HF5.out.on HBY.out) (by omega)).mono ?_
        rintro e w3 ⟨v8, rfl, ho8⟩
        have HD3 := Lib.hid (HDY.out.on ho8.below)
        have HT3 := Lib.hid (HTY.out.keep ho8 ho8.below (by have := HLL.out; omega))
        have HB3 := Lib.hid (belThen HBY.out ho8.below)
        have hc3 := cellOn hcY ho8.below
        have hP3 : P < w3.heap.size := block_lt_of_cell hc3
        obtain ⟨a8, c8, hs8⟩ := ho8.shp
        subst hs8
        clear ho8 hcY HDY HTY HBY
        go_wp2_with fail
        refine (several_any HD3.out rfl HD.out (HF5.out.on HB1.out) (by omega) (fun i hi => by have := HLF.out i hi; omega) hIl hSl).mono ?_
        rintro e w4 ⟨vin4, gs, ns, cs, rfl, I4, M4, Sx4, hE⟩
        have HE4 := Lib.hid hE
        have HB4 : Hid (Below w.heap.size w w4) := Lib.hid (belThen HB1.out (by have := hE.sev.desk.below; rw [HD.out] at this; exact this))
        have hc4 : w4.cell? ⟨P, 5, none⟩ = some (.slice a5 q.sets.length k5) := (heap_cell (hE.sev.far.far P hP3 hPD hPv)).trans hc3
        have HT4 := Lib.hid (HT3.out.far (Pl' := PlS vin4 (.slice (some ⟨gs, 0, none⟩) ns cs) I4) hE.sev.far (fun k hk => ⟨(hE.sev.desk.lt k hk).2, hE.sev.new k hk⟩))
        have HV4 := Lib.hid (hE.sets (by omega))
        clear hE HD3 HT3 HB3 hc3 hP3 hPv
        go_wp2_with fail
        refine (join_any _ q.sets w4 HV4.out (by omega)).mono ?_
        rintro e w5 ⟨v9, rfl, ho9⟩
        have HE5 := Lib.hid (HE4.out.on ho9.below)
        have HT5 := Lib.hid (HT4.out.keep ho9 ho9.below (by have := HLL.out; omega))
        have HB5 := Lib.hid (belThen HB4.out ho9.below)
        have hc5 := cellOn hc4 ho9.below
        have HG5 := Lib.hid (HF5.out.on HB5.out)
        obtain ⟨a9, c9, hs9⟩ := ho9.shp
        subst hs9
        have HR9 := Lib.hid (HT5.out.two.k _ List.mem_cons_self).1
        have HR8 := Lib.hid (HT5.out.two.k _ (List.mem_cons_of_mem _ List.mem_cons_self)).1
        clear ho9 hc4 HE4 HT4 HB4 HV4
        generalize joinL q.sets = LL at *
        go_wp2_with (first | (go_at_call 14; refine (same_yes HR9.out HR8.out (by have := HLL.out; omega)).mono ?_; rintro e w6 ⟨rfl, hb6⟩; have HE6 := Lib.hid (HE5.out.on hb6); have HT6 := Lib.hid (HT5.out.on hb6); have HG6 := Lib.hid (HG5.out.on hb6); have hc6 := cellOn hc5 hb6; clear hb6) | (go_at_call 27; refine (stand_yes HE6.out HG6.out (fun i hi => by have := HLF.out i hi; omega)).mono ?_; rintro e w7 ⟨rfl, hb7⟩; have HE7 := Lib.hid (HE6.out.on hb7); have HT7 := Lib.hid (HT6.out.on hb7); clear hb7) | (at_builtin; refine appS3 rfl _ _ rfl a9 LL.length c9 HT7.out.two.swap rfl rfl (by omega) ?_))
        intro v10 w10 ht10 hgr10 hat10
        have HT10 := Lib.hid (HT7.out.swap.app ht10 hgr10 hat10).swap
        have HD10 := Lib.hid (HE7.out.sev.desk.grown hgr10 HT7.out.fst)
        have hb4 := HE7.out.bI
        have hs4 : Sx4.length ≤ 3000000 := by (have := HE7.out.lS; have := HE7.out.bS; omega)
        clear ht10 hgr10 hat10 HT7 HE7
        go_wp2_with (at_builtin; refine appS3 rfl _ _ rfl a8 LL.length c8 HT10.out.two rfl rfl (by omega) ?_)
        intro v11 w11 ht11 hgr11 hat11
        have HT11 := Lib.hid (HT10.out.app ht11 hgr11 hat11)
        have HD11 := Lib.hid (HD10.out.grown hgr11 HT10.out.swap.fst)
        clear ht11 hgr11 hat11 HT10 HD10
        go_wp2_with fail
        go_roundg (2 * A.length - (k + 1))
        case measure => exact Nat.lt_of_lt_of_le hme hgg
        case rel => exact ⟨k + 1, _, _, _, _, _, _, _, _, _, _, _, rfl, hlt, Nat.le_refl _, by go_num, rfl, rfl, HD11.out, hb4, hs4, HT11.out, Lib.hid (HKR.out.next (l := LL) (by have := HLL.out; omega) List.mem_cons_self (List.mem_cons_of_mem _ List.mem_cons_self) (fun p hp => List.mem_cons_of_mem _ (List.mem_cons_of_mem _ hp)))⟩
      · have hltz : ¬ (k : Int) < 2 * (A.length : Int) := by omega
        have HN0 : Hid (Sets w1 (.slice none 0 0) []) := Lib.hid (.inl ⟨rfl, none, 0, rfl, fun _ => rfl⟩)
        go_wp2_with fail
        refine (several_any HDK.out rfl HD.out HN0.out (by simp) (fun i hi => by simp at hi) hIl hSl).mono ?_
        rintro e w4 ⟨vin4, gs, ns, cs, rfl, I4, M4, Sx4, hE⟩
        have HB4 : Hid (Below w.heap.size w w4) := Lib.hid (belThen HB1.out (by have := hE.sev.desk.below; rw [HD.out] at this; exact this))
        have HT4 := Lib.hid (HTW.out.far (Pl' := PlS vin4 (.slice (some ⟨gs, 0, none⟩) ns cs) I4) hE.sev.far (fun k hk => ⟨(hE.sev.desk.lt k hk).2, hE.sev.new k hk⟩))
        have HKR4 := HKR
        clear hE
        obtain ⟨ao3, cap3, hs3, hc3⟩ := row_formD HT4.out.two.a
        obtain ⟨ao4, cap4, hs4, hc4⟩ := row_formD HT4.out.two.b
        subst hs3
        subst hs4
        have HC3 := Lib.hid hc3
        have HC4 := Lib.hid hc4
        have hg1 : G.length ≤ 60 := by (have := HKR.out.1; omega)
        have hg2 : T.length = G.length := by (have := HKR.out.1; have := HKR.out.2.1; omega)
        have HG2 := Lib.hid hg2
        clear hc3 hc4 hg2 HC
        go_wp2_with fail
        go_loopg [10] G.length (fun gg s10 wx => ∃ (i : Nat) (Y : World), Y = wx ∧ i ≤ G.length ∧ G.length - i ≤ gg ∧ s10 = .int .i64 i ∧ Below w4.heap.size w4 Y)
        case atStart => exact ⟨0, _, rfl, Nat.zero_le _, by omega, rfl, Below.refl _ _⟩
        case round =>
          obtain ⟨i, Y, hY, hi, hgg2, rfl, hbx⟩ := hrel
          subst hY
          have HBW := Lib.hid hbx
          clear hbx
          by_cases hig : i < G.length
          · have higz : (i : Int) < (G.length : Int) := by omega
            have hitz : (i : Int) < (T.length : Int) := by (have := HG2.out; omega)
            have hi0 : (0 : Int) ≤ (i : Int) := by omega
            obtain ⟨g3, hg3, hcc3⟩ := HC3.out (by omega)
            obtain ⟨g4, hg4, hcc4⟩ := HC4.out (by have := HG2.out; omega)
            subst hg3
            subst hg4
            have d3 := cellOn (hcc3 i hig) HBW.out
            have d4 := cellOn (hcc4 i (by have := HG2.out; omega)) HBW.out
            obtain ⟨l, m1, m2, m3⟩ := HKR4.out.2.2 i (by have := HKR4.out.1; omega)
            have HL1 := Lib.hid (HT4.out.two.k _ m1).1
            have HL2 := Lib.hid (HT4.out.two.k _ m2).1
            clear hcc3 hcc4 m1 m2
            generalize G.getD i (.slice none 0 0) = u1 at *
            generalize T.getD i (.slice none 0 0) = u2 at *
            have st : sD w4 g3 g4 i u1 u2 Y.drew := ⟨d3, d4, HBW.out.drew⟩
            clear d3 d4
            go_wp2_with fail
            go_region_held3 (sD w4 g3 g4 i u1 u2) (first | with_reducible exact st | with_reducible assumption) (first | (go_at_call 14; refine (same_yes (HL1.out.on st.2.2) (HL2.out.on st.2.2) (by omega)).mono ?_; rintro e w7 ⟨rfl, hb7⟩; have st7 : sD w4 g3 g4 i u1 u2 w7 := st.on hb7))
            go_wp2_with fail
            go_roundg (G.length - (i + 1))
            case measure => omega
            case rel => exact ⟨i + 1, _, rfl, by omega, by omega, by go_num, st7.2.2⟩
          · have higz : ¬ (i : Int) < (G.length : Int) := by omega
            go_wp2_with (go_at_call 16; refine (HK.out _ (belThen HB4.out HBW.out)).mono ?_; rintro e w9 ⟨rfl, hb9⟩)
            go_ret
            exact ⟨rfl, hb9⟩
end Go.Proofs.YtkclcjnfjielfabDoor
