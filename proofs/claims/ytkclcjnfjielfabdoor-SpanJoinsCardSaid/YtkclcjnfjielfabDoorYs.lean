/- SpanLeasts: the walk. -/
import Derived.Test.YtkclcjnfjielfabDoorYr
import Derived.Test.YtkclcjnfjielfabDoorYp
import Derived.Deep.RegionHeld3
namespace Go.Proofs.YtkclcjnfjielfabDoor
open Go.RowKit

theorem row_formD {B : Nat} {v : Value} {G : List Value} {w : World} (h : w.ownsRow B 25 1 v G.length G) : ∃ ao cap, v = .slice ao G.length cap ∧ (0 < G.length → ∃ g, ao = some ⟨g, 0, none⟩ ∧ ∀ i, i < G.length → w.cell? ⟨g, i, none⟩ = some (G.getD i (.slice none 0 0))) := by
  rcases h.2 with ⟨rfl, h0⟩ | ⟨g, cap, cur, rfl, hB, hg, rest⟩
  · exact ⟨none, 0, by rw [h0], fun h => by omega⟩
  · refine ⟨_, cap, rfl, fun _ => ⟨g, rfl, fun i hi => ?_⟩⟩
    have c1 := h.cells (g := g) rfl i _ (List.getElem?_eq_getElem hi)
    rw [Addr.add_lit, Nat.zero_add] at c1
    rw [c1, List.getD_eq_getElem?_getD, List.getElem?_eq_getElem hi]
    rfl
abbrev sD (w : World) (g3 g4 i : Nat) (u1 u2 : Value) : World → Prop := fun X => X.cell? ⟨g3, i, none⟩ = some u1 ∧ X.cell? ⟨g4, i, none⟩ = some u2 ∧ Below w.heap.size w X
theorem sD.on {w : World} {g3 g4 i : Nat} {u1 u2 : Value} {X Y : World} (h : sD w g3 g4 i u1 u2 X) (hb : Below X.heap.size X Y) : sD w g3 g4 i u1 u2 Y := ⟨cellOn h.1 hb, cellOn h.2.1 hb, belThen h.2.2 hb⟩
theorem calls_genD {P : Program} {f : Nat} {args : Array Value} {W : World} {Q : Ending → World → Prop} (h : ∀ Y, Y = W → Calls P f args Y Q) : Calls P f args W Q := h W rfl
theorem Ints.notB {w : World} {v : Value} {l : List Int} {D : Nat} (h : Ints w v l) (hD : w.heap.size ≤ D) : 0 < l.length → v.ownBlock ≠ some D := by
  intro hl
  rcases h with ⟨rfl, _⟩ | ⟨b, off, cap, rfl, _, h1, _⟩
  · simp at hl
  · intro e
    simp [Value.ownBlock] at e
    omega
set_option maxRecDepth 100000 in
set_option maxHeartbeats 8000000 in
theorem SpanLeasts_walk (v : Value) (A : List AskP) (w : World) (he : Env w) (hA : Asks w v A) :
    Calls Tryd.prog 3 #[v] w fun e w' => e = .returned (.bool true) ∧ Below w.heap.size w w' := by
  have HK := Lib.hid (fun X (hX : Below w.heap.size w X) => (known_any X (he.on hX)).mono fun e w' ⟨p, q⟩ => (⟨p, hX.trans (q.mono hX.size)⟩ : e = Ending.returned (.bool true) ∧ Below w.heap.size w w'))
  have HV := Lib.hid he
  have H0 := Lib.hid hA
  obtain ⟨ao, cap, hv, hAl, hc⟩ := hA
  subst hv
  have HC := Lib.hid hc
  clear hc he
  go_enter Tryd.func3, Tryd.ntmps3
  go_wp2_with fail
  refine (long_any _ A w H0.out).mono ?_
  rintro e w1 ⟨⟨bb, rfl, hsh⟩, hb1⟩
  have HB1 := Lib.hid hb1
  clear hb1 H0
  cases bb with
  | true =>
    clear hsh
    go_wp2_with fail
    go_ret
    exact ⟨rfl, HB1.out⟩
  | false =>
    obtain ⟨h30, hq⟩ := hsh rfl
    have HQ := Lib.hid hq
    clear hsh hq
    go_wp2_with fail
    obtain ⟨D, hD⟩ : ∃ D, D = w1.heap.size := ⟨_, rfl⟩
    have HD := Lib.hid hD
    rw [← hD]
    clear hD
    go_loopg [4, 5, 6, 7, 8, 9] (2 * A.length) (fun gg s4 s5 s6 s7 s8 s9 wr => ∃ (k : Nat) (vd v4 v5 : Value) (m : List Int) (G T : List Value) (K : List (Value × List Rg)) (X : World), X = wr ∧ k ≤ 2 * A.length ∧ 2 * A.length - k ≤ gg ∧ s6 = .int .i64 k ∧ v4 = s4 ∧ v5 = s5 ∧ DeskI D vd m w1 X ∧ TwoD D vd.ownBlock v4 G v5 T K X ∧ Hid (KeptD k G T K))
    case atStart => exact ⟨0, _, _, _, [], [], [], [], _, rfl, Nat.zero_le _, by omega, rfl, rfl, rfl, DeskI.start _ D HD.out _ _ _ _, TwoD.start (by rw [HD.out]; simp), Lib.hid ⟨rfl, rfl, fun j hj => by omega⟩⟩
    case round =>
      obtain ⟨k, vd, v4, v5, m, G, T, K, X, hX, hk, hgg, rfl, hv4, hv5, hdk, htw, HKR⟩ := hrel
      subst hX
      subst hv4
      subst hv5
      have HDK := Lib.hid hdk
      have HTW := Lib.hid htw
      have HBX : Hid (Below w.heap.size w X) := Lib.hid (belThen HB1.out (by have := hdk.below; rw [HD.out] at this; exact this))
      clear hdk htw
      by_cases hlt : k < 2 * A.length
      · have hltz : (k : Int) < 2 * (A.length : Int) := by omega
        have hme : 2 * A.length - (k + 1) < 2 * A.length - k := by omega
        have hG6 : G.length + 1 ≤ 61 := by (have := HKR.out.1; omega)
        have hT6 : T.length + 1 ≤ 61 := by (have := HKR.out.2.1; omega)
        obtain ⟨j, hj, HTN⟩ : ∃ j, j < A.length ∧ Hid (Calls Tryd.prog 10 #[.int .i64 k, .int .i64 A.length] X fun e w' => e = .returned (.int .i64 (j : Nat)) ∧ w' = X) := by
          by_cases hkn : k < A.length
          · exact ⟨k, hkn, Lib.hid (turn_up k A.length X hkn)⟩
          · exact ⟨2 * A.length - 1 - k, by omega, Lib.hid (turn_down k A.length _ X (by omega) (by omega) (by omega))⟩
        have hjz : (j : Int) < (A.length : Int) := by omega
        obtain ⟨b, off, hao, hat⟩ := HC.out (by omega)
        subst hao
        have hqq := hat j hj
        have hsq := HQ.out j hj
        obtain ⟨u1, e1, f1⟩ := hqq.c1
        obtain ⟨u4, e4, f4⟩ := hqq.c4
        obtain ⟨u5, e5, f5⟩ := hqq.c5
        have c0 := cellOn hqq.c0 HBX.out
        have c1 := cellOn e1 HBX.out
        have c2 := cellOn hqq.c2 HBX.out
        have c3 := cellOn hqq.c3 HBX.out
        have c4 := cellOn e4 HBX.out
        have c5 := cellOn e5 HBX.out
        obtain ⟨a1, k1, hu1, _⟩ := f1.shape
        obtain ⟨a4, k4, hu4⟩ := f4.form
        obtain ⟨a5, k5, hu5, _⟩ := f5.form
        have HF4 := Lib.hid f4
        have hs4 : (A.getD j ask0).list.length ≤ 3000 := hsq.2.1
        clear hqq hat hsq e1 e4 e5 f1 f4 f5
        generalize A.getD j ask0 = q at *
        subst hu1
        subst hu4
        subst hu5
        go_wp2_with (go_at_call 10; refine HTN.out.mono ?_; rintro e w2 ⟨rfl, hw2⟩; subst hw2)
        refine calls_genD (fun Y hY => ?_)
        obtain ⟨P, hP⟩ : ∃ P, P = w2.heap.size := ⟨_, rfl⟩
        rw [← hP]
        have hbY : Below w2.heap.size w2 Y := by rw [hY]; exact (Below.refl _ _).alloc (Nat.le_refl _) _
        have hcY : Y.cell? ⟨P, 4, none⟩ = some (.slice a4 q.list.length k4) := by rw [hY, hP]; simp
        have HDY := Lib.hid (HDK.out.on hbY)
        have HTY := Lib.hid (HTW.out.on hbY)
        have HBY := Lib.hid (belThen HBX.out hbY)
        have hPD : P ≠ D := by (have := HDK.out.base; omega)
        have hPv : vd.ownBlock ≠ some P := fun e => by (have := (HDK.out.row.lt P e).2; omega)
        clear hY hP hbY c0 c1 c2 c3 c4 c5 HDK HTW HBX HTN
        have HLL := Lib.hid (leastL_len q.list)
        refine (refLeast_any _ q.list Y (HF4.out.on HBY.out) (by omega)).mono ?_
        rintro e w3 ⟨v8, rfl, ho8⟩
        have HD3 := Lib.hid (HDY.out.on ho8.below)
        have HT3 := Lib.hid (HTY.out.keep ho8 ho8.below (by have := HLL.out; omega))
        have HB3 := Lib.hid (belThen HBY.out ho8.below)
        have hc3 := cellOn hcY ho8.below
        have hP3 : P < w3.heap.size := block_lt_of_cell hc3
        obtain ⟨a8, c8, hs8⟩ := ho8.shp
        subst hs8
        clear ho8 hcY HDY HTY HBY
        go_wp2_with fail
        refine (numbers_any HD3.out.c1 HD3.out.f1 HD3.out.row HD3.out.base (HF4.out.on HB3.out) (HF4.out.notB (by have := HB1.out.size; rw [HD.out]; exact this)) (by omega) HD3.out.lm).mono ?_
        rintro e w4 ⟨g, n, cp, rfl, hn, hnc, hR⟩
        have HD4 := Lib.hid (HD3.out.numbered hR hn)
        have HB4 : Hid (Below w.heap.size w w4) := Lib.hid (belThen HB1.out (by have := HD4.out.below; rw [HD.out] at this; exact this))
        have hc4 : w4.cell? ⟨P, 4, none⟩ = some (.slice a4 q.list.length k4) := (heap_cell (hR.far.far P hP3 hPD hPv)).trans hc3
        have HT4 := Lib.hid (HT3.out.far hR.far hR.at_ (hR.row.lt g rfl).2 (hR.row.lt g rfl).1)
        have HP4 := Lib.hid (numbered_ints hR hn).1
        have HV4 := Lib.hid (numbered_ints hR hn).2
        have hln := hR.len
        clear hR HD3 HT3 HB3 hc3 hP3 hPv
        go_wp2_with fail
        refine (least_any _ q.list w4 HV4.out (by omega)).mono ?_
        rintro e w5 ⟨v9, rfl, ho9⟩
        have HD5 := Lib.hid (HD4.out.on ho9.below)
        have HT5 := Lib.hid (HT4.out.keep ho9 ho9.below (by have := HLL.out; omega))
        have HB5 := Lib.hid (belThen HB4.out ho9.below)
        have HP5 := Lib.hid (HP4.out.on ho9.below)
        have hc5 := cellOn hc4 ho9.below
        have HF5 := Lib.hid (HF4.out.on HB5.out)
        obtain ⟨a9, c9, hs9⟩ := ho9.shp
        subst hs9
        have HR9 := Lib.hid (HT5.out.two.k _ List.mem_cons_self).1
        have HR8 := Lib.hid (HT5.out.two.k _ (List.mem_cons_of_mem _ (List.mem_cons_of_mem _ List.mem_cons_self))).1
        clear ho9 hc4 HD4 HT4 HB4 HV4 HP4
        generalize leastL q.list = LL at *
        go_wp2_with (first | (go_at_call 14; refine (same_yes HR9.out HR8.out (by have := HLL.out; omega)).mono ?_; rintro e w6 ⟨rfl, hb6⟩; have HD6 := Lib.hid (HD5.out.on hb6); have HT6 := Lib.hid (HT5.out.on hb6); have HP6 := Lib.hid (HP5.out.on hb6); have HF6 := Lib.hid (HF5.out.on hb6); have hc6 := cellOn hc5 hb6; clear hb6) | (go_at_call 15; refine (counted_yes HD6.out.c1 HP6.out HF6.out hln (by omega) hn hnc).mono ?_; rintro e w7 ⟨rfl, hb7⟩; have HD7 := Lib.hid (HD6.out.on hb7); have HT7 := Lib.hid (HT6.out.on hb7); clear hb7) | (at_builtin; refine appS2 rfl _ _ rfl a9 LL.length c9 HT7.out.two.swap rfl rfl (by omega) ?_))
        intro v10 w10 ht10 hgr10
        have HT10 : Hid (TwoD D _ _ _ _ _ _ w10) := Lib.hid ⟨ht10.swap.self, HT7.out.lo, HT7.out.pl⟩
        have HD10 := Lib.hid (HD7.out.grown hgr10 HT7.out.apart.1)
        clear ht10 hgr10 HT7 HD7
        go_wp2_with (at_builtin; refine appS2 rfl _ _ rfl a8 LL.length c8 HT10.out.two rfl rfl (by omega) ?_)
        intro v11 w11 ht11 hgr11
        have HT11 : Hid (TwoD D _ _ _ _ _ _ w11) := Lib.hid ⟨ht11.self, HT10.out.lo, HT10.out.pl⟩
        have HD11 := Lib.hid (HD10.out.grown hgr11 HT10.out.apart.2)
        clear ht11 hgr11 HT10 HD10
        go_wp2_with fail
        go_roundg (2 * A.length - (k + 1))
        case measure => exact Nat.lt_of_lt_of_le hme hgg
        case rel => exact ⟨k + 1, _, _, _, _, _, _, _, _, rfl, hlt, Nat.le_refl _, by go_num, rfl, rfl, HD11.out, HT11.out, Lib.hid (HKR.out.next (l := LL) (by have := HLL.out; omega) List.mem_cons_self (List.mem_cons_of_mem _ (List.mem_cons_of_mem _ List.mem_cons_self)) (fun p hp => List.mem_cons_of_mem _ (List.mem_cons_of_mem _ (List.mem_cons_of_mem _ hp))))⟩
      · have hltz : ¬ (k : Int) < 2 * (A.length : Int) := by omega
        have HI0 : Hid (Ints X (.slice none 0 0) []) := Lib.hid (.inl ⟨rfl, none, 0, rfl, fun _ => rfl⟩)
        go_wp2_with (go_at_call 13; refine (numbers_any HDK.out.c1 HDK.out.f1 HDK.out.row HDK.out.base HI0.out (fun h => by simp at h) (by simp) HDK.out.lm).mono ?_; rintro e w4 ⟨g, n, cp, rfl, hn, hnc, hR⟩; have HD4 := Lib.hid (HDK.out.numbered hR hn); have HT4 := Lib.hid (HTW.out.far hR.far hR.at_ (hR.row.lt g rfl).2 (hR.row.lt g rfl).1); clear hR)
        have HB4 : Hid (Below w.heap.size w w4) := Lib.hid (belThen HB1.out (by have := HD4.out.below; rw [HD.out] at this; exact this))
        have HKR4 := Lib.hid (HKR.out.more (.slice (some ⟨g, 0, none⟩) 0 1, []))
        obtain ⟨ao3, cap3, hs3, hc3⟩ := row_formD HT4.out.two.a
        obtain ⟨ao4, cap4, hs4, hc4⟩ := row_formD HT4.out.two.b
        subst hs3
        subst hs4
        have HC3 := Lib.hid hc3
        have HC4 := Lib.hid hc4
        have hg1 : G.length ≤ 60 := by (have := HKR.out.1; omega)
        have hg2 : T.length = G.length := by (have := HKR.out.1; have := HKR.out.2.1; omega)
        have HG2 := Lib.hid hg2
        clear hc3 hc4 hg2 HC
        go_loopg [10] G.length (fun gg s10 wx => ∃ (i : Nat) (Y : World), Y = wx ∧ i ≤ G.length ∧ G.length - i ≤ gg ∧ s10 = .int .i64 i ∧ Below w4.heap.size w4 Y)
        case atStart => exact ⟨0, _, rfl, Nat.zero_le _, by omega, rfl, Below.refl _ _⟩
        case round =>
          obtain ⟨i, Y, hY, hi, hgg2, rfl, hbx⟩ := hrel
          subst hY
          have HBW := Lib.hid hbx
          clear hbx
          by_cases hig : i < G.length
          · have higz : (i : Int) < (G.length : Int) := by omega
            have hitz : (i : Int) < (T.length : Int) := by (have := HG2.out; omega)
            have hi0 : (0 : Int) ≤ (i : Int) := by omega
            obtain ⟨g3, hg3, hcc3⟩ := HC3.out (by omega)
            obtain ⟨g4, hg4, hcc4⟩ := HC4.out (by have := HG2.out; omega)
            subst hg3
            subst hg4
            have d3 := cellOn (hcc3 i hig) HBW.out
            have d4 := cellOn (hcc4 i (by have := HG2.out; omega)) HBW.out
            obtain ⟨l, m1, m2, m3⟩ := HKR4.out.2.2 i (by have := HKR4.out.1; omega)
            have HL1 := Lib.hid (HT4.out.two.k _ m1).1
            have HL2 := Lib.hid (HT4.out.two.k _ m2).1
            clear hcc3 hcc4 m1 m2
            generalize G.getD i (.slice none 0 0) = u1 at *
            generalize T.getD i (.slice none 0 0) = u2 at *
            have st : sD w4 g3 g4 i u1 u2 Y.drew := ⟨d3, d4, HBW.out.drew⟩
            clear d3 d4
            go_wp2_with fail
            go_region_held3 (sD w4 g3 g4 i u1 u2) (first | with_reducible exact st | with_reducible assumption) (first | (go_at_call 14; refine (same_yes (HL1.out.on st.2.2) (HL2.out.on st.2.2) (by omega)).mono ?_; rintro e w7 ⟨rfl, hb7⟩; have st7 : sD w4 g3 g4 i u1 u2 w7 := st.on hb7))
            go_wp2_with fail
            go_roundg (G.length - (i + 1))
            case measure => omega
            case rel => exact ⟨i + 1, _, rfl, by omega, by omega, by go_num, st7.2.2⟩
          · have higz : ¬ (i : Int) < (G.length : Int) := by omega
            go_wp2_with (go_at_call 16; refine (HK.out _ (belThen HB4.out HBW.out)).mono ?_; rintro e w9 ⟨rfl, hb9⟩)
            go_ret
            exact ⟨rfl, hb9⟩
end Go.Proofs.YtkclcjnfjielfabDoor
