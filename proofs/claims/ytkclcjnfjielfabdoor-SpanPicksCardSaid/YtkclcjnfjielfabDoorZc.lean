/- SpanPicks: the walk. -/
import Derived.Test.YtkclcjnfjielfabDoorZb
import Derived.Test.YtkclcjnfjielfabDoorZa
import Derived.Test.YtkclcjnfjielfabDoorYs
namespace Go.Proofs.YtkclcjnfjielfabDoor
open Go.RowKit

theorem ofL_len (l : List Rg) (list : List Int) : (ofL l list).length ≤ list.length := List.length_filter_le _ _
theorem row_formE {B : Nat} {v : Value} {G : List Value} {w : World} (h : w.ownsRow B 26 1 v G.length G) : ∃ ao cap, v = .slice ao G.length cap ∧ (0 < G.length → ∃ g, ao = some ⟨g, 0, none⟩ ∧ ∀ i, i < G.length → w.cell? ⟨g, i, none⟩ = some (G.getD i (.slice none 0 0))) := by
  rcases h.2 with ⟨rfl, h0⟩ | ⟨g, cap, cur, rfl, hB, hg, rest⟩
  · exact ⟨none, 0, by rw [h0], fun h => by omega⟩
  · refine ⟨_, cap, rfl, fun _ => ⟨g, rfl, fun i hi => ?_⟩⟩
    have c1 := h.cells (g := g) rfl i _ (List.getElem?_eq_getElem hi)
    rw [Addr.add_lit, Nat.zero_add] at c1
    rw [c1, List.getD_eq_getElem?_getD, List.getElem?_eq_getElem hi]
    rfl
theorem DeskR.lists {D g n cap : Nat} {l : List Rg} {W0 w : World} (h : DeskR D (.slice (some ⟨g, 0, none⟩) n cap) (laidG markR l n) W0 w) (hln : l.length + 4 ≤ n) (hn : n ≤ 3000000) : Rgs w (.slice (some ⟨g, 0, none⟩) n cap) (laidG markR l n) ∧ Rgs w (.slice (some ⟨g, 0, none⟩) l.length cap) l := by
  have hlg : (laidG markR l n).length = n := laidG_length markR (by omega)
  have h1 := row_rgs h.row rfl (by omega)
  have h2 := h1.upto (k := l.length) (by omega) cap (fun h => by cases h)
  rw [laidG_take] at h2
  exact ⟨h1, h2⟩
abbrev pkS (P : Nat) (u1 u4 : Value) : World → Prop := fun X => X.cell? ⟨P, 1, none⟩ = some u1 ∧ X.cell? ⟨P, 4, none⟩ = some u4
abbrev pqS (Z : World) (D P : Nat) (u u1 u4 : Value) : World → Prop := fun X => X.cell? ⟨D, 0, none⟩ = some u ∧ X.cell? ⟨P, 1, none⟩ = some u1 ∧ X.cell? ⟨P, 4, none⟩ = some u4 ∧ Below Z.heap.size Z X
theorem pqS.on {Z : World} {D P : Nat} {u u1 u4 : Value} {X Y : World} (h : pqS Z D P u u1 u4 X) (hb : Below X.heap.size X Y) : pqS Z D P u u1 u4 Y := ⟨cellOn h.1 hb, cellOn h.2.1 hb, cellOn h.2.2.1 hb, belThen h.2.2.2 hb⟩
set_option maxRecDepth 100000 in
set_option maxHeartbeats 8000000 in
theorem SpanPicks_walk (v : Value) (A : List AskP) (w : World) (he : Env w) (hA : Asks w v A) :
    Calls Tryd.prog 7 #[v] w fun e w' => e = .returned (.bool true) ∧ Below w.heap.size w w' := by
  have HK := Lib.hid (fun X (hX : Below w.heap.size w X) => (known_any X (he.on hX)).mono fun e w' ⟨p, q⟩ => (⟨p, hX.trans (q.mono hX.size)⟩ : e = Ending.returned (.bool true) ∧ Below w.heap.size w w'))
  have HV := Lib.hid he
  have H0 := Lib.hid hA
  obtain ⟨ao, cap, hv, hAl, hc⟩ := hA
  subst hv
  have HC := Lib.hid hc
  clear hc he
  go_enter Tryd.func7, Tryd.ntmps7
  go_wp2_with fail
  refine (long_any _ A w H0.out).mono ?_
  rintro e w1 ⟨⟨bb, rfl, hsh⟩, hb1⟩
  have HB1 := Lib.hid hb1
  clear hb1 H0
  cases bb with
  | true =>
    clear hsh
    go_wp2_with fail
    go_ret
    exact ⟨rfl, HB1.out⟩
  | false =>
    obtain ⟨h30, hq⟩ := hsh rfl
    have HQ := Lib.hid hq
    clear hsh hq
    go_wp2_with fail
    obtain ⟨D, hD⟩ : ∃ D, D = w1.heap.size := ⟨_, rfl⟩
    have HD := Lib.hid hD
    rw [← hD]
    clear hD
    go_loopg [4, 5, 6, 7, 8, 9] (2 * A.length) (fun gg s4 s5 s6 s7 s8 s9 wr => ∃ (k : Nat) (vs vd v4 v5 : Value) (ms : List Rg) (m : List Int) (G T : List Value) (K : List (Value × List Int)) (X : World), X = wr ∧ k ≤ 2 * A.length ∧ 2 * A.length - k ≤ gg ∧ s6 = .int .i64 k ∧ v4 = s4 ∧ v5 = s5 ∧ DeskR D vs ms w1 X ∧ DeskI D vd m w1 X ∧ TwoE D vs.ownBlock vd.ownBlock v4 G v5 T K X ∧ Hid (KeptE k G T K))
    case atStart => exact ⟨0, _, _, _, _, [], [], [], [], [], _, rfl, Nat.zero_le _, by omega, rfl, rfl, rfl, DeskR.start _ D HD.out _ _ _ _, DeskI.start _ D HD.out _ _ _ _, TwoE.start (by rw [HD.out]; simp), Lib.hid ⟨rfl, rfl, fun j hj => by omega⟩⟩
    case round =>
      obtain ⟨k, vs, vd, v4, v5, ms, m, G, T, K, X, hX, hk, hgg, rfl, hv4, hv5, hdr, hdk, htw, HKR⟩ := hrel
      subst hX
      subst hv4
      subst hv5
      have HDR := Lib.hid hdr
      have HDK := Lib.hid hdk
      have HTW := Lib.hid htw
      have HBX : Hid (Below w.heap.size w X) := Lib.hid (belThen HB1.out (by have := hdk.below; rw [HD.out] at this; exact this))
      clear hdr hdk htw
      by_cases hlt : k < 2 * A.length
      · have hltz : (k : Int) < 2 * (A.length : Int) := by omega
        have hme : 2 * A.length - (k + 1) < 2 * A.length - k := by omega
        have hG6 : G.length + 1 ≤ 61 := by (have := HKR.out.1; omega)
        have hT6 : T.length + 1 ≤ 61 := by (have := HKR.out.2.1; omega)
        obtain ⟨j, hj, HTN⟩ : ∃ j, j < A.length ∧ Hid (Calls Tryd.prog 10 #[.int .i64 k, .int .i64 A.length] X fun e w' => e = .returned (.int .i64 (j : Nat)) ∧ w' = X) := by
          by_cases hkn : k < A.length
          · exact ⟨k, hkn, Lib.hid (turn_up k A.length X hkn)⟩
          · exact ⟨2 * A.length - 1 - k, by omega, Lib.hid (turn_down k A.length _ X (by omega) (by omega) (by omega))⟩
        have hjz : (j : Int) < (A.length : Int) := by omega
        obtain ⟨b, off, hao, hat⟩ := HC.out (by omega)
        subst hao
        have hqq := hat j hj
        have hsq := HQ.out j hj
        obtain ⟨u1, e1, f1⟩ := hqq.c1
        obtain ⟨u4, e4, f4⟩ := hqq.c4
        obtain ⟨u5, e5, f5⟩ := hqq.c5
        have c0 := cellOn hqq.c0 HBX.out
        have c1 := cellOn e1 HBX.out
        have c2 := cellOn hqq.c2 HBX.out
        have c3 := cellOn hqq.c3 HBX.out
        have c4 := cellOn e4 HBX.out
        have c5 := cellOn e5 HBX.out
        obtain ⟨a1, k1, hu1, _⟩ := f1.shape
        obtain ⟨a4, k4, hu4⟩ := f4.form
        obtain ⟨a5, k5, hu5, _⟩ := f5.form
        have HF1 := Lib.hid f1
        have HF4 := Lib.hid f4
        have HM4 := Lib.hid hqq.m4
        have hs1 : (A.getD j ask0).set.length ≤ 3000 := hsq.1
        have hs4 : (A.getD j ask0).list.length ≤ 3000 := hsq.2.1
        clear hqq hat hsq e1 e4 e5 f1 f4 f5
        generalize A.getD j ask0 = q at *
        subst hu1
        subst hu4
        subst hu5
        go_wp2_with (go_at_call 10; refine HTN.out.mono ?_; rintro e w2 ⟨rfl, hw2⟩; subst hw2)
        refine calls_genD (fun Y hY => ?_)
        obtain ⟨P, hP⟩ : ∃ P, P = w2.heap.size := ⟨_, rfl⟩
        rw [← hP]
        have hbY : Below w2.heap.size w2 Y := by rw [hY]; exact (Below.refl _ _).alloc (Nat.le_refl _) _
        have hcY1 : Y.cell? ⟨P, 1, none⟩ = some (.slice a1 q.set.length k1) := by rw [hY, hP]; simp
        have hcY4 : Y.cell? ⟨P, 4, none⟩ = some (.slice a4 q.list.length k4) := by rw [hY, hP]; simp
        have HRY := Lib.hid (HDR.out.on hbY)
        have HDY := Lib.hid (HDK.out.on hbY)
        have HTY := Lib.hid (HTW.out.on hbY)
        have HBY := Lib.hid (belThen HBX.out hbY)
        have hPD : P ≠ D := by (have := HDK.out.base; omega)
        have hPs : vs.ownBlock ≠ some P := fun e => by (have := (HDR.out.row.lt P e).2; omega)
        have hPv : vd.ownBlock ≠ some P := fun e => by (have := (HDK.out.row.lt P e).2; omega)
        clear hY hP hbY c0 c1 c2 c3 c4 c5 HDR HDK HTW HBX HTN
        have HLL := Lib.hid (ofL_len q.set q.list)
        refine (refOf_any _ _ q.set q.list Y (HF1.out.on HBY.out) (HF4.out.on HBY.out) (by omega)).mono ?_
        rintro e w3 ⟨v8, rfl, ho8⟩
        have HR3 := Lib.hid ((HRY.out.on ho8.below).on (Below.refl _ _).drew)
        have HD3 := Lib.hid ((HDY.out.on ho8.below).on (Below.refl _ _).drew)
        have HT3 := Lib.hid ((HTY.out.keep ho8 ho8.below (by have := HLL.out; omega)).on (Below.refl _ _).drew)
        have HB3 := Lib.hid ((belThen HBY.out ho8.below).drew)
        have st3 : pkS P (.slice a1 q.set.length k1) (.slice a4 q.list.length k4) w3.drew := ⟨cellOn hcY1 ho8.below.drew, cellOn hcY4 ho8.below.drew⟩
        obtain ⟨a8, c8, hs8⟩ := ho8.shpI
        subst hs8
        clear ho8 hcY1 hcY4 HRY HDY HTY HBY
        have HOF := Lib.hid (fun v v2 Z (h1 : Rgs Z v q.set) (h2 : Ints Z v2 q.list) => of_any v v2 q.set q.list Z h1 h2 (by omega) (by omega) HM4.out)
        generalize ofL q.set q.list = LL at *
        go_wp2_with fail
        go_region_held3 (pkS P (.slice a1 q.set.length k1) (.slice a4 q.list.length k4)) (first | with_reducible exact st3 | with_reducible assumption) (first | (go_at_call 19; refine (ranges_any HR3.out.c0 HR3.out.f0 HR3.out.row HR3.out.base (HF1.out.on HB3.out) (by omega) HR3.out.lm).mono ?_; rintro e w4 ⟨g, n, cp, rfl, hn, hnc, hR⟩; have HR4 := Lib.hid (HR3.out.ranged hR hn); have HD4 := Lib.hid (HD3.out.ranged HR3.out hR); have HT4 := Lib.hid (HT3.out.turn.far hR.size hR.far hR.at_ (hR.row.lt g rfl).2 (hR.row.lt g rfl).1).turn; have hP4 : P < w3.drew.heap.size := block_lt_of_cell st3.1; have st4 : pkS P (.slice a1 q.set.length k1) (.slice a4 q.list.length k4) w4 := ⟨(heap_cell (hR.far P hP4 hPD hPs)).trans st3.1, (heap_cell (hR.far P hP4 hPD hPs)).trans st3.2⟩; have hln := hR.len; have HB4 : Hid (Below w.heap.size w w4) := Lib.hid (belThen HB1.out (by have := HD4.out.below; rw [HD.out] at this; exact this)); clear hR) | (go_at_call 13; refine (numbers_any HD4.out.c1 HD4.out.f1 HD4.out.row HD4.out.base (HF4.out.on HB4.out) (HF4.out.notB (by have := HB1.out.size; rw [HD.out]; exact this)) (by omega) HD4.out.lm).mono ?_; rintro e w5 ⟨g2, n2, cp2, rfl, hn2, hnc2, hR2⟩; have HD5 := Lib.hid (HD4.out.numbered hR2 hn2); have HR5 := Lib.hid (HR4.out.numbered HD4.out hR2); have HT5 := Lib.hid (HT4.out.far hR2.far.size hR2.far.far hR2.at_ (hR2.row.lt g2 rfl).2 (hR2.row.lt g2 rfl).1); have hP5 : P < w4.heap.size := block_lt_of_cell st4.1; have st5 : pkS P (.slice a1 q.set.length k1) (.slice a4 q.list.length k4) w5 := ⟨(heap_cell (hR2.far.far P hP5 hPD hPv)).trans st4.1, (heap_cell (hR2.far.far P hP5 hPD hPv)).trans st4.2⟩; have hln2 := hR2.len; have HI5 := Lib.hid (numbered_ints hR2 hn2); have HV5 := Lib.hid (HR5.out.lists hln hn); have HB5 : Hid (Below w.heap.size w w5) := Lib.hid (belThen HB1.out (by have := HD5.out.below; rw [HD.out] at this; exact this)); clear hR2) | (go_at_call 29; refine (HOF.out _ _ _ HV5.out.2 HI5.out.2).mono ?_; rintro e w6 ⟨v9, rfl, ho9⟩; obtain ⟨a9, c9, hs9⟩ := ho9.shpI; subst hs9; have HR6 := Lib.hid (HR5.out.on ho9.below); have HD6 := Lib.hid (HD5.out.on ho9.below); have HT6 := Lib.hid (HT5.out.keep ho9 ho9.below (by have := HLL.out; omega)); have HV6 := Lib.hid (HV5.out.1.on ho9.below); have HI6 := Lib.hid (HI5.out.1.on ho9.below); have HB6 := Lib.hid (belThen HB5.out ho9.below); have st6 : pkS P (.slice a1 q.set.length k1) (.slice a4 q.list.length k4) w6 := ⟨cellOn st5.1 ho9.below, cellOn st5.2 ho9.below⟩; clear ho9))
        have HR9 := Lib.hid (HT6.out.two.k _ List.mem_cons_self).1
        have HR8 := Lib.hid (HT6.out.two.k _ (List.mem_cons_of_mem _ (List.mem_cons_of_mem _ (List.mem_cons_of_mem _ List.mem_cons_self)))).1
        have HF16 := Lib.hid (HF1.out.on HB6.out)
        have HF46 := Lib.hid (HF4.out.on HB6.out)
        have tt : pqS w6 D P (.slice (some ⟨g, 0, none⟩) n cp) (.slice a1 q.set.length k1) (.slice a4 q.list.length k4) w6.drew := ⟨HR6.out.c0, st6.1, st6.2, (Below.refl _ _).drew⟩
        clear st3 st4 st5 st6 HR3 HD3 HT3 HB3 HR4 HD4 HT4 HB4 HR5 HD5 HT5 HB5 HI5 HV5
        go_wp2_with fail
        go_region_held3 (pqS w6 D P (.slice (some ⟨g, 0, none⟩) n cp) (.slice a1 q.set.length k1) (.slice a4 q.list.length k4)) (first | with_reducible exact tt | with_reducible assumption) (first | (go_at_call 30; refine (alike_yes (HR9.out.on tt.2.2.2) (HR8.out.on tt.2.2.2) (by have := HLL.out; omega)).mono ?_; rintro e w7 ⟨rfl, hb7⟩; have tt7 : pqS w6 D P (.slice (some ⟨g, 0, none⟩) n cp) (.slice a1 q.set.length k1) (.slice a4 q.list.length k4) w7 := tt.on hb7; clear hb7) | (go_at_call 21; refine (lies_yes (HV6.out.on tt7.2.2.2) (HF16.out.on tt7.2.2.2) hln (by omega) hn hnc).mono ?_; rintro e w8 ⟨rfl, hb8⟩; have tt8 : pqS w6 D P (.slice (some ⟨g, 0, none⟩) n cp) (.slice a1 q.set.length k1) (.slice a4 q.list.length k4) w8 := tt7.on hb8; clear hb8) | (go_at_call 15; refine (counted_yes (HD6.out.on tt8.2.2.2).c1 (HI6.out.on tt8.2.2.2) (HF46.out.on tt8.2.2.2) hln2 (by omega) hn2 hnc2).mono ?_; rintro e w9 ⟨rfl, hb9⟩; have tt9 : pqS w6 D P (.slice (some ⟨g, 0, none⟩) n cp) (.slice a1 q.set.length k1) (.slice a4 q.list.length k4) w9 := tt8.on hb9; clear hb9))
        have HR7 := Lib.hid (HR6.out.on tt9.2.2.2)
        have HD7 := Lib.hid (HD6.out.on tt9.2.2.2)
        have HT7 := Lib.hid (HT6.out.on tt9.2.2.2)
        clear tt tt7 tt8 tt9 HR6 HD6 HT6 HV6 HI6
        go_wp2_with (at_builtin; refine appJ2 rfl _ _ rfl a9 LL.length c9 HT7.out.two.swap rfl rfl (by omega) ?_)
        intro v10 w10 ht10 hgr10
        have HT10 : Hid (TwoE D _ _ _ _ _ _ _ w10) := Lib.hid ⟨ht10.swap.self, HT7.out.lo, HT7.out.pl⟩
        have HD10 := Lib.hid (HD7.out.grown hgr10 (fun k hk => ⟨(HT7.out.apart.1 k hk).1, (HT7.out.apart.1 k hk).2.2⟩))
        have HR10 := Lib.hid (HR7.out.grown hgr10 (fun k hk => ⟨(HT7.out.apart.1 k hk).1, (HT7.out.apart.1 k hk).2.1⟩))
        clear ht10 hgr10 HT7 HD7 HR7
        go_wp2_with (at_builtin; refine appJ2 rfl _ _ rfl a8 LL.length c8 HT10.out.two rfl rfl (by omega) ?_)
        intro v11 w11 ht11 hgr11
        have HT11 : Hid (TwoE D _ _ _ _ _ _ _ w11) := Lib.hid ⟨ht11.self, HT10.out.lo, HT10.out.pl⟩
        have HD11 := Lib.hid (HD10.out.grown hgr11 (fun k hk => ⟨(HT10.out.apart.2 k hk).1, (HT10.out.apart.2 k hk).2.2⟩))
        have HR11 := Lib.hid (HR10.out.grown hgr11 (fun k hk => ⟨(HT10.out.apart.2 k hk).1, (HT10.out.apart.2 k hk).2.1⟩))
        clear ht11 hgr11 HT10 HD10 HR10
        go_wp2_with fail
        go_roundg (2 * A.length - (k + 1))
        case measure => exact Nat.lt_of_lt_of_le hme hgg
        case rel => exact ⟨k + 1, _, _, _, _, _, _, _, _, _, _, rfl, hlt, Nat.le_refl _, by go_num, rfl, rfl, HR11.out, HD11.out, HT11.out, Lib.hid (HKR.out.next (l := LL) (by have := HLL.out; omega) List.mem_cons_self (List.mem_cons_of_mem _ (List.mem_cons_of_mem _ (List.mem_cons_of_mem _ List.mem_cons_self))) (fun p hp => List.mem_cons_of_mem _ (List.mem_cons_of_mem _ (List.mem_cons_of_mem _ (List.mem_cons_of_mem _ hp)))))⟩
      · have hltz : ¬ (k : Int) < 2 * (A.length : Int) := by omega
        have HN0 : Hid (Rgs X (.slice none 0 0) []) := Lib.hid (.inl ⟨rfl, none, 0, rfl, fun _ => rfl⟩)
        go_wp2_with fail
        refine (ranges_any HDR.out.c0 HDR.out.f0 HDR.out.row HDR.out.base HN0.out (by simp) HDR.out.lm).mono ?_
        rintro e w3 ⟨g, n, cp, rfl, hn, hnc, hR⟩
        have HD3 := Lib.hid (HDK.out.ranged HDR.out hR)
        have HT3 := Lib.hid (HTW.out.turn.far hR.size hR.far hR.at_ (hR.row.lt g rfl).2 (hR.row.lt g rfl).1).turn
        have HK3 := Lib.hid (HKR.out.more (.slice (some ⟨g, 0, none⟩) 0 1, []))
        have HI0 : Hid (Ints w3 (.slice none 0 0) []) := Lib.hid (.inl ⟨rfl, none, 0, rfl, fun _ => rfl⟩)
        clear hR HN0
        go_wp2_with fail
        refine (numbers_any HD3.out.c1 HD3.out.f1 HD3.out.row HD3.out.base HI0.out (fun h => by simp at h) (by simp) HD3.out.lm).mono ?_
        rintro e w4 ⟨g2, n2, cp2, rfl, hn2, hnc2, hR2⟩
        have HD4 := Lib.hid (HD3.out.numbered hR2 hn2)
        have HT4 := Lib.hid (HT3.out.far hR2.far.size hR2.far.far hR2.at_ (hR2.row.lt g2 rfl).2 (hR2.row.lt g2 rfl).1)
        have HB4 : Hid (Below w.heap.size w w4) := Lib.hid (belThen HB1.out (by have := HD4.out.below; rw [HD.out] at this; exact this))
        have HKR4 := Lib.hid (HK3.out.more (.slice (some ⟨g2, 0, none⟩) 0 1, []))
        clear hR2
        obtain ⟨ao3, cap3, hs3, hc3⟩ := row_formE HT4.out.two.a
        obtain ⟨ao4, cap4, hs4, hc4⟩ := row_formE HT4.out.two.b
        subst hs3
        subst hs4
        have HC3 := Lib.hid hc3
        have HC4 := Lib.hid hc4
        have hg1 : G.length ≤ 60 := by (have := HKR.out.1; omega)
        have hg2 : T.length = G.length := by (have := HKR.out.1; have := HKR.out.2.1; omega)
        have HG2 := Lib.hid hg2
        clear hc3 hc4 hg2 HC
        go_wp2_with fail
        go_loopg [10] G.length (fun gg s10 wx => ∃ (i : Nat) (Y : World), Y = wx ∧ i ≤ G.length ∧ G.length - i ≤ gg ∧ s10 = .int .i64 i ∧ Below w4.heap.size w4 Y)
        case atStart => exact ⟨0, _, rfl, Nat.zero_le _, by omega, rfl, Below.refl _ _⟩
        case round =>
          obtain ⟨i, Y, hY, hi, hgg2, rfl, hbx⟩ := hrel
          subst hY
          have HBW := Lib.hid hbx
          clear hbx
          by_cases hig : i < G.length
          · have higz : (i : Int) < (G.length : Int) := by omega
            have hitz : (i : Int) < (T.length : Int) := by (have := HG2.out; omega)
            have hi0 : (0 : Int) ≤ (i : Int) := by omega
            obtain ⟨g3, hg3, hcc3⟩ := HC3.out (by omega)
            obtain ⟨g4, hg4, hcc4⟩ := HC4.out (by have := HG2.out; omega)
            subst hg3
            subst hg4
            have d3 := cellOn (hcc3 i hig) HBW.out
            have d4 := cellOn (hcc4 i (by have := HG2.out; omega)) HBW.out
            obtain ⟨l, m1, m2, m3⟩ := HKR4.out.2.2 i (by have := HKR4.out.1; omega)
            have HL1 := Lib.hid (HT4.out.two.k _ m1).1
            have HL2 := Lib.hid (HT4.out.two.k _ m2).1
            clear hcc3 hcc4 m1 m2
            generalize G.getD i (.slice none 0 0) = u1 at *
            generalize T.getD i (.slice none 0 0) = u2 at *
            have st : sD w4 g3 g4 i u1 u2 Y.drew := ⟨d3, d4, HBW.out.drew⟩
            clear d3 d4
            go_wp2_with fail
            go_region_held3 (sD w4 g3 g4 i u1 u2) (first | with_reducible exact st | with_reducible assumption) (first | (go_at_call 30; refine (alike_yes (HL1.out.on st.2.2) (HL2.out.on st.2.2) (by omega)).mono ?_; rintro e w7 ⟨rfl, hb7⟩; have st7 : sD w4 g3 g4 i u1 u2 w7 := st.on hb7))
            go_wp2_with fail
            go_roundg (G.length - (i + 1))
            case measure => omega
            case rel => exact ⟨i + 1, _, rfl, by omega, by omega, by go_num, st7.2.2⟩
          · have higz : ¬ (i : Int) < (G.length : Int) := by omega
            go_wp2_with (go_at_call 16; refine (HK.out _ (belThen HB4.out HBW.out)).mono ?_; rintro e w9 ⟨rfl, hb9⟩)
            go_ret
            exact ⟨rfl, hb9⟩
end Go.Proofs.YtkclcjnfjielfabDoor
