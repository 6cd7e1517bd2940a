/- SpanParses: the walk. -/
import Derived.Test.YtoikjkcnekkehaaDoorWu
import Derived.Test.YtoikjkcnekkehaaDoorWy
import Derived.Test.YtoikjkcnekkehaaDoorWz
namespace Go.Proofs.YtoikjkcnekkehaaDoor
open Go.RowKit

theorem parseL_len (l : List UInt8) : (parseL l).length ≤ 64 := by
  unfold parseL
  split
  · simp
  · split
    · simp
    · split
      · simp
      · omega
theorem getD_snocV (G : List Value) (x : Value) (j : Nat) (hj : j < G.length) : (G ++ [x]).getD j (.slice none 0 0) = G.getD j (.slice none 0 0) := by
  rw [List.getD_eq_getElem?_getD, List.getD_eq_getElem?_getD, List.getElem?_append_left hj]
theorem getD_lastV (G : List Value) (x : Value) : (G ++ [x]).getD G.length (.slice none 0 0) = x := by
  rw [List.getD_eq_getElem?_getD, List.getElem?_append_right (Nat.le_refl _)]; simp
def KeptR (k : Nat) (G T : List Value) (K : List (Value × List Rg)) : Prop := G.length = k ∧ T.length = k ∧ ∀ j, j < k → ∃ l, (G.getD j (.slice none 0 0), l) ∈ K ∧ (T.getD j (.slice none 0 0), l) ∈ K ∧ l.length ≤ 64
theorem KeptR.next {k : Nat} {G T : List Value} {K : List (Value × List Rg)} {x y : Value} {l : List Rg} (h : KeptR k G T K) (hl : l.length ≤ 64) : KeptR (k + 1) (G ++ [x]) (T ++ [y]) ((x, l) :: (y, l) :: K) := by
  obtain ⟨h1, h2, h3⟩ := h
  refine ⟨by simp [h1], by simp [h2], fun j hj => ?_⟩
  by_cases hjk : j < k
  · obtain ⟨l', m1, m2, m3⟩ := h3 j hjk
    refine ⟨l', ?_, ?_, m3⟩
    · rw [getD_snocV G x j (by omega)]; exact List.mem_cons_of_mem _ (List.mem_cons_of_mem _ m1)
    · rw [getD_snocV T y j (by omega)]; exact List.mem_cons_of_mem _ (List.mem_cons_of_mem _ m2)
  · have : j = k := by omega
    subst this
    refine ⟨l, ?_, ?_, hl⟩
    · have := getD_lastV G x
      rw [h1] at this
      rw [this]; exact List.mem_cons_self
    · have := getD_lastV T y
      rw [h2] at this
      rw [this]; exact List.mem_cons_of_mem _ List.mem_cons_self
theorem row_form {B : Nat} {v : Value} {G : List Value} {w : World} (h : w.ownsRow B 22 1 v G.length G) : ∃ ao cap, v = .slice ao G.length cap ∧ (0 < G.length → ∃ g, ao = some ⟨g, 0, none⟩ ∧ ∀ i, i < G.length → w.cell? ⟨g, i, none⟩ = some (G.getD i (.slice none 0 0))) := by
  rcases h.2 with ⟨rfl, h0⟩ | ⟨g, cap, cur, rfl, hB, hg, rest⟩
  · exact ⟨none, 0, by rw [h0], fun h => by omega⟩
  · refine ⟨_, cap, rfl, fun _ => ⟨g, rfl, fun i hi => ?_⟩⟩
    have c1 := h.cells (g := g) rfl i _ (List.getElem?_eq_getElem hi)
    rw [Addr.add_lit, Nat.zero_add] at c1
    rw [c1, List.getD_eq_getElem?_getD, List.getElem?_eq_getElem hi]
    rfl
abbrev sS (w : World) (g3 g4 i : Nat) (u1 u2 : Value) : World → Prop := fun X => X.cell? ⟨g3, i, none⟩ = some u1 ∧ X.cell? ⟨g4, i, none⟩ = some u2 ∧ Below w.heap.size w X
theorem sS.on {w : World} {g3 g4 i : Nat} {u1 u2 : Value} {X Y : World} (h : sS w g3 g4 i u1 u2 X) (hb : Below X.heap.size X Y) : sS w g3 g4 i u1 u2 Y := ⟨cellOn h.1 hb, cellOn h.2.1 hb, belThen h.2.2 hb⟩
set_option maxRecDepth 100000 in
set_option maxHeartbeats 8000000 in
theorem SpanParses_walk (v : Value) (A : List AskP) (w : World) (he : Env w) (hA : Asks w v A) :
    Calls Tryd.prog 8 #[v] w fun e w' => e = .returned (.bool true) ∧ Below w.heap.size w w' := by
  have HK := Lib.hid (fun X (hX : Below w.heap.size w X) => (known_any X (he.on hX)).mono fun e w' ⟨p, q⟩ => (⟨p, hX.trans (q.mono hX.size)⟩ : e = Ending.returned (.bool true) ∧ Below w.heap.size w w'))
  have HV := Lib.hid he
  have H0 := Lib.hid hA
  obtain ⟨ao, cap, hv, hAl, hc⟩ := hA
  subst hv
  have HC := Lib.hid hc
  clear hc he
  go_enter Tryd.func8, Tryd.ntmps8
  go_wp2_with fail
  refine (long_any _ A w H0.out).mono ?_
  rintro e w1 ⟨⟨bb, rfl, hsh⟩, hb1⟩
  have HB1 := Lib.hid hb1
  clear hb1 H0
  cases bb with
  | true =>
    clear hsh
    go_wp2_with fail
    go_ret
    exact ⟨rfl, HB1.out⟩
  | false =>
    obtain ⟨h30, _⟩ := hsh rfl
    clear hsh
    go_wp2_with fail
    go_loopg [3, 4, 5, 6, 7, 8, 9, 10] (2 * A.length) (fun gg s3 s4 s5 s6 s7 s8 s9 s10 wr => ∃ (k : Nat) (v3 v4 : Value) (G T : List Value) (K : List (Value × List Rg)) (X : World), X = wr ∧ k ≤ 2 * A.length ∧ 2 * A.length - k ≤ gg ∧ s5 = .int .i64 k ∧ v3 = s3 ∧ v4 = s4 ∧ TwoS w1.heap.size v3 G v4 T K w1 X ∧ Hid (KeptR k G T K))
    case atStart => exact ⟨0, _, _, [], [], [], _, rfl, Nat.zero_le _, by omega, rfl, rfl, rfl, TwoS.nil (Below.refl _ _) (Nat.le_refl _), Lib.hid ⟨rfl, rfl, fun j hj => by omega⟩⟩
    case round =>
      obtain ⟨k, v3, v4, G, T, K, X, hX, hk, hgg, rfl, hv3, hv4, htw, HKR⟩ := hrel
      subst hX
      subst hv3
      subst hv4
      have HT := Lib.hid htw
      have HBX := Lib.hid (belThen HB1.out htw.below)
      clear htw
      by_cases hlt : k < 2 * A.length
      · have hltz : (k : Int) < 2 * (A.length : Int) := by omega
        obtain ⟨j, hj, HTN⟩ : ∃ j, j < A.length ∧ Hid (Calls Tryd.prog 21 #[.int .i64 k, .int .i64 A.length] X fun e w' => e = .returned (.int .i64 (j : Nat)) ∧ w' = X) := by
          by_cases hkn : k < A.length
          · exact ⟨k, hkn, Lib.hid (turn_up k A.length X hkn)⟩
          · exact ⟨2 * A.length - 1 - k, by omega, Lib.hid (turn_down k A.length _ X (by omega) (by omega) (by omega))⟩
        have hjz : (j : Int) < (A.length : Int) := by omega
        obtain ⟨b, off, hao, hat⟩ := HC.out (by omega)
        subst hao
        have hq := hat j hj
        have c0 := cellOn hq.c0 HBX.out
        have z0 := hq.z0
        clear hq hat
        generalize (A.getD j ask0).text = s at *
        have HPL := Lib.hid (parseL_len (L s))
        have hme : 2 * A.length - (k + 1) < 2 * A.length - k := by omega
        have hG6 : G.length + 1 ≤ 61 := by (have := HKR.out.1; omega)
        have hT6 : T.length + 1 ≤ 61 := by (have := HKR.out.2.1; omega)
        go_wp2_with (go_at_call 21; refine HTN.out.mono ?_; rintro e w2 ⟨rfl, hw2⟩; subst hw2)
        refine (refParse_any s w2).mono ?_
        rintro e w3 ⟨v7, rfl, ho7⟩
        have HT3 := Lib.hid (HT.out.keep ho7 ho7.below (by have := HPL.out; omega))
        have HBX3 := Lib.hid (belThen HBX.out ho7.below)
        have HR7 := Lib.hid (ho7.rgs (by have := HPL.out; omega))
        obtain ⟨a7, c7, hs7, _⟩ := (ho7.rgs (by have := HPL.out; omega)).shape
        subst hs7
        clear ho7 HT HBX c0 HTN
        go_wp2_with fail
        refine (parse_any s w3 (HV.out.on HBX3.out) z0).mono ?_
        rintro e w4 ⟨v9, rfl, ho9⟩
        have HT4 := Lib.hid (HT3.out.keep ho9 ho9.below (by have := HPL.out; omega))
        have HBX4 := Lib.hid (belThen HBX3.out ho9.below)
        have HR9 := Lib.hid (ho9.rgs (by have := HPL.out; omega))
        have HR74 := Lib.hid (HR7.out.on ho9.below)
        obtain ⟨a9, c9, hs9, _⟩ := (ho9.rgs (by have := HPL.out; omega)).shape
        subst hs9
        clear ho9 HT3 HBX3 HR7
        generalize parseL (L s) = pl at *
        generalize parseE (L s) = pe at *
        go_wp2_with (first | (go_at_call 23; refine (num_any pe _).mono ?_; rintro e w5 ⟨rfl, hw5⟩; subst hw5) | (go_at_call 15; refine (same_yes HR9.out HR74.out (by have := HPL.out; omega)).mono ?_; rintro e w6 ⟨rfl, hb6⟩; have HT6 := Lib.hid (HT4.out.on hb6); have HBX6 := Lib.hid (belThen HBX4.out hb6); clear hb6) | (at_builtin; refine appS rfl _ _ rfl a9 pl.length c9 HT6.out.swap rfl rfl (by omega) ?_))
        intro v10 w10 ht10
        have HT10 := Lib.hid ht10.swap
        clear ht10 HT6 HT4
        go_wp2_with (at_builtin; refine appS rfl _ _ rfl a7 pl.length c7 HT10.out rfl rfl (by omega) ?_)
        intro v11 w11 ht11
        have HT11 := Lib.hid ht11
        clear ht11 HT10
        go_wp2_with fail
        go_roundg (2 * A.length - (k + 1))
        case measure => exact Nat.lt_of_lt_of_le hme hgg
        case rel => exact ⟨k + 1, _, _, _, _, _, _, rfl, hlt, Nat.le_refl _, by go_num, rfl, rfl, HT11.out, Lib.hid (HKR.out.next HPL.out)⟩
      · have hltz : ¬ (k : Int) < 2 * (A.length : Int) := by omega
        obtain ⟨ao3, cap3, hs3, hc3⟩ := row_form HT.out.a
        obtain ⟨ao4, cap4, hs4, hc4⟩ := row_form HT.out.b
        subst hs3
        subst hs4
        have HC3 := Lib.hid hc3
        have HC4 := Lib.hid hc4
        have hg1 : G.length ≤ 60 := by (have := HKR.out.1; omega)
        have hg2 : T.length = G.length := by (have := HKR.out.1; have := HKR.out.2.1; omega)
        have HG2 := Lib.hid hg2
        clear hc3 hc4 hg2 HC
        go_wp2_with fail
        go_loopg [11] G.length (fun gg s11 wx => ∃ (i : Nat) (Y : World), Y = wx ∧ i ≤ G.length ∧ G.length - i ≤ gg ∧ s11 = .int .i64 i ∧ Below X.heap.size X Y)
        case atStart => exact ⟨0, _, rfl, Nat.zero_le _, by omega, rfl, Below.refl _ _⟩
        case round =>
          obtain ⟨i, Y, hY, hi, hgg2, rfl, hbx⟩ := hrel
          subst hY
          have HBW := Lib.hid hbx
          clear hbx
          by_cases hig : i < G.length
          · have higz : (i : Int) < (G.length : Int) := by omega
            have hitz : (i : Int) < (T.length : Int) := by (have := HG2.out; omega)
            have hi0 : (0 : Int) ≤ (i : Int) := by omega
            obtain ⟨g3, hg3, hcc3⟩ := HC3.out (by omega)
            obtain ⟨g4, hg4, hcc4⟩ := HC4.out (by have := HG2.out; omega)
            subst hg3
            subst hg4
            have d3 := cellOn (hcc3 i hig) HBW.out
            have d4 := cellOn (hcc4 i (by have := HG2.out; omega)) HBW.out
            obtain ⟨l, m1, m2, m3⟩ := HKR.out.2.2 i (by have := HKR.out.1; omega)
            have HL1 := Lib.hid (HT.out.k _ m1).1
            have HL2 := Lib.hid (HT.out.k _ m2).1
            clear hcc3 hcc4 m1 m2
            generalize G.getD i (.slice none 0 0) = u1 at *
            generalize T.getD i (.slice none 0 0) = u2 at *
            have st : sS X g3 g4 i u1 u2 Y.drew := ⟨d3, d4, HBW.out.drew⟩
            clear d3 d4
            go_wp2_with fail
            go_region_held3 (sS X g3 g4 i u1 u2) (first | with_reducible exact st | with_reducible assumption) (first | (go_at_call 15; refine (same_yes (HL1.out.on st.2.2) (HL2.out.on st.2.2) (by omega)).mono ?_; rintro e w7 ⟨rfl, hb7⟩; have st7 : sS X g3 g4 i u1 u2 w7 := st.on hb7))
            go_wp2_with fail
            go_roundg (G.length - (i + 1))
            case measure => omega
            case rel => exact ⟨i + 1, _, rfl, by omega, by omega, by go_num, st7.2.2⟩
          · have higz : ¬ (i : Int) < (G.length : Int) := by omega
            go_wp2_with (go_at_call 10; refine (HK.out _ (belThen HBX.out HBW.out)).mono ?_; rintro e w9 ⟨rfl, hb9⟩)
            go_ret
            exact ⟨rfl, hb9⟩
end Go.Proofs.YtoikjkcnekkehaaDoor
