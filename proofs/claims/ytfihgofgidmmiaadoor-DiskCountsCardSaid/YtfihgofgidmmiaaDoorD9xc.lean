/- DiskCounts: the walk. -/
import Derived.Test.YtfihgofgidmmiaaDoorD9xb
namespace Go.Proofs.YtfihgofgidmmiaaDoor
open Go.RowKit Go.Lib

theorem cntP {A : Whys} {w0 w : World} {d : Nat} {P : List PF} {K : List (Nat × Obj)} (h : Dk A w0 d ⟨5000, 0, true, []⟩ P K w) (p q : Nat) (hp : 1 ≤ p) (hq : 1 ≤ q) :
    Calls Tryd.prog 12 #[.pointer (some ⟨d, 0, none⟩), .slice (some ⟨w.heap.size, 0, none⟩) 4 4] (w.alloc (.cells #[.int .i64 0, .int .i64 0, .int .i64 0, .int .i64 p, .int .i64 0, .int .i64 0, .int .i64 (-5), .int .i64 0, .int .i64 0, .int .i64 q, .int .i64 0, .int .i64 0] 32)) fun e w' => e = .returned (.tuple #[]) ∧ Dk A w0 d ⟨5000, 0, true, planL p q 0 0⟩ P K w' := by
  have hh := heap_alloc_new w (.cells #[.int .i64 0, .int .i64 0, .int .i64 0, .int .i64 p, .int .i64 0, .int .i64 0, .int .i64 (-5), .int .i64 0, .int .i64 0, .int .i64 q, .int .i64 0, .int .i64 0] 32)
  have hp' : (1 : Int) ≤ p := by omega
  have hq' : (1 : Int) ≤ q := by omega
  have hpl : planP [(0, 0, 0), ((p : Int), 0, 0), (-5, 0, 0), ((q : Int), 0, 0)] = planL p q 0 0 := by
    simp [planP, planL, hp', hq']
  have := PlanD h (by show 1 ≤ 5000; decide) [(0, 0, 0), ((p : Int), 0, 0), (-5, 0, 0), ((q : Int), 0, 0)] #[.int .i64 0, .int .i64 0, .int .i64 0, .int .i64 p, .int .i64 0, .int .i64 0, .int .i64 (-5), .int .i64 0, .int .i64 0, .int .i64 q, .int .i64 0, .int .i64 0] (by show 4 ≤ 1000000000; decide) (by
    intro i hi s hs
    have hi : i < 4 := hi
    match i, hi with
    | 0, _ => injection hs with hs; subst hs; exact ⟨cell_of hh 0, cell_of hh 1, cell_of hh 2⟩
    | 1, _ => injection hs with hs; subst hs; exact ⟨cell_of hh 3, cell_of hh 4, cell_of hh 5⟩
    | 2, _ => injection hs with hs; subst hs; exact ⟨cell_of hh 6, cell_of hh 7, cell_of hh 8⟩
    | 3, _ => injection hs with hs; subst hs; exact ⟨cell_of hh 9, cell_of hh 10, cell_of hh 11⟩) 4
  rw [hpl] at this
  exact this
theorem cntR {A : Whys} {w0 w : World} {d n : Nat} {l : List (Int × Int × Int)} {P : List PF} {K : List (Nat × Obj)} (h : Dk A w0 d ⟨5000, n, false, l⟩ P K w) (hok : DS.ok ⟨5000, n, false, l⟩) (hn : n < 1000000000) :
    Calls Tryd.prog 18 #[.pointer (some ⟨d, 0, none⟩), .string kA] w fun e w' => ∃ t r K', e = .returned (.tuple #[.string t, r]) ∧ Dk A w0 d ⟨5000, n, false, l⟩ P K' w' ∧ ErrK A sRead kA 0 93 r K K' := by
  refine (ReadD h hok hn kA (by decide)).mono ?_
  rintro e w' ⟨r, K', rfl, hD, hE⟩
  exact ⟨_, r, K', rfl, hD, hE⟩
set_option maxHeartbeats 8000000 in
set_option maxRecDepth 20000 in
theorem cnt_walk {A : Whys} {B : Nat} {w : World} (he : Env A B w) (a : Option Addr) (len c : Nat) (hs : ActsAt w a len) (one two : Int) :
    Calls Tryd.prog 4 #[.slice a len c, .int .i64 one, .int .i64 two] w fun e w' => e = .returned (.bool true) ∧ Below w.heap.size w w' := by
  obtain ⟨p, hp1, hp2, hpe⟩ := one_16 one
  obtain ⟨q, hq1, hq2, hqe⟩ := one_16 two
  have HK := Lib.hid (known_any he)
  have HN := Lib.hid (fun W (hb : Below w.heap.size w W) => NewD (A := A) (w0 := w) (w := W) hb ((he.up he.hi (Nat.le_refl _)).below hb) 5000 (by decide) (by decide))
  have HP := Lib.hid (fun d W P K (h : Dk A w d ⟨5000, 0, true, []⟩ P K W) => cntP h p q hp1 hq1)
  have HB : Hid (∀ d W S P K, Dk A w d S P K W → Below w.heap.size w W) := Lib.hid (fun d W S P K h => h.below)
  have HA := Lib.hid hs
  have hlen : (len : Int) ≤ 4611686018427387904 := by have := hs.1; omega
  clear he hs
  go_enter Tryd.func4, Tryd.ntmps4
  go_upto_region 7 with (first | (go_at_call 8; refine HK.out.mono ?_; rintro e w1 ⟨rfl, hb1⟩; have HB1 := Lib.hid hb1; clear hb1) | (go_at_call 9; refine (HN.out _ HB1.out).mono ?_; rintro e w2 ⟨d, rfl, h2⟩; have K2 := Lib.hid h2; clear h2))
  rw [hpe, hqe]
  clear hpe hqe HN HK HB1
  go_wp2_with (go_at_call 12; refine (HP.out _ _ _ _ K2.out).mono ?_; rintro e w3 ⟨rfl, h3⟩; have K3 := Lib.hid h3; clear h3)
  clear HP K2
  go_loopw [10, 11, 12, 13] (fun vn vs vt vi wr => ∃ (n s t k : Nat) (P : List PF) (K : List (Nat × Obj)) (X : World), X = wr ∧ vn = .int .i64 n ∧ vs = .int .i64 s ∧ vt = .int .i64 t ∧ vi = .int .i64 k ∧ k ≤ 150 ∧ n ≤ k ∧ t ≤ n ∧ s ≤ n ∧ (s = 0 → t < p) ∧ (s = 1 → t < q) ∧ Dk A w d ⟨5000, n, true, planL p q s t⟩ P K X) (fun _ _ _ i _ => 150 - (Go.RowKit.intOf i).toNat)
  case atStart => exact ⟨0, 0, 0, 0, _, _, _, rfl, rfl, rfl, rfl, rfl, by omega, by omega, by omega, by omega, fun _ => by omega, fun e => by omega, K3.out⟩
  case round =>
    obtain ⟨n, s, t, k, P, K, X, hX, rfl, rfl, rfl, rfl, hk, hnk, htn, hsn, h0, h1, hD⟩ := hrel
    subst hX
    have HD := Lib.hid hD
    have hk2 : (k : Int) ≤ 150 := by omega
    have hb := hD.below
    by_cases hlt : k < len
    · by_cases h150 : k < 150
      · obtain ⟨b, o, ha, hbw, hall⟩ := HA.out.2 (by omega)
        obtain ⟨ac, hac⟩ := hall k hlt
        have hacX := hac.on (hb.block b hbw)
        obtain ⟨kind, on, name, dest, data, nn, sa, sn, sc⟩ := ac
        obtain ⟨c0, c1, c2, c3, c4, c5, c6, hns, hts⟩ := hacX
        simp only at c0 c1 c2 c3 c4 c5 c6 hns hts
        subst ha
        have hli : (k : Int) < (len : Int) := by omega
        have h15 : (k : Int) < 150 := by omega
        obtain ⟨Y, hY⟩ : ∃ Y, X.alloc (.cells #[.int .i64 kind, .int .i64 on, .string name, .string dest, .string data, .int .i64 nn, .slice sa sn sc] 42) = Y := ⟨_, rfl⟩
        have hoY := heap_alloc_new X (.cells #[.int .i64 kind, .int .i64 on, .string name, .string dest, .string data, .int .i64 nn, .slice sa sn sc] 42)
        have hbY : Below X.heap.size X (X.alloc (.cells #[.int .i64 kind, .int .i64 on, .string name, .string dest, .string data, .int .i64 nn, .slice sa sn sc] 42)) := (Below.refl _ _).alloc (Nat.le_refl _) _
        rw [hY] at hoY hbY
        have y0 := cell_of hoY 0
        have y1 := cell_of hoY 1
        have y2 := cell_of hoY 2
        have y3 := cell_of hoY 3
        have y4 := cell_of hoY 4
        have y5 := cell_of hoY 5
        have y6 := cell_of hoY 6
        simp only [List.getElem?_toArray, List.getElem?_cons_zero, List.getElem?_cons_succ] at y0 y1 y2 y3 y4 y5 y6
        have KY := Lib.hid (hD.up hbY)
        have HY := Lib.hid hY
        have HDo := Lib.hid (does_any (hD.up hbY) (plan_ok p q s t n hp2 hq2 (by omega) true) (by show n < 1000000000; omega) ⟨kind, on, name, dest, data, nn, sa, sn, sc⟩ hns hts)
        simp only [ActR.cells] at HDo
        have HF := Lib.hid (And.intro hk (And.intro hnk (And.intro htn (And.intro hsn (And.intro h0 (And.intro h1 (And.intro hp2 (And.intro hq2 hq1))))))))
        have hni : (n : Int) ≤ 150 := by omega
        have hti : (t : Int) ≤ 150 := by omega
        have hsi : (s : Int) ≤ 150 := by omega
        clear hk hnk htn hsn h0 h1 hp1 hq1 hp2 hq2 h150 hlt
        clear hD hb hac hall hbw hoY hbY hY HD
        go_upto_region 15 with fail
        rw [HY.out]
        clear c0 c1 c2 c3 c4 c5 c6
        by_cases hkd : 1 ≤ kind ∧ kind ≤ 6
        · have hk7 : ¬ kind < 1 := by omega
          have hk8 : ¬ 6 < kind := by omega
          go_upto_region 19 with (go_at_call 21; refine HDo.out.mono ?_; rintro e w4 ⟨tx4, r4, rfl, hD4⟩; have H4 := Lib.hid hD4; clear hD4)
          clear y0 y1 y2 y3 y4 y5 y6 HDo KY HY
          obtain ⟨P4, K4', op4, nm4, code4, hD4, hE4, h93⟩ := H4.out
          clear H4
          have ce4 : w4.cell? ⟨0, 0, none⟩ = some (.iface 166 (.pointer (some (A.at 93)))) := hD4.env.d
          obtain ⟨hk, hnk, htn, hsn, h0, h1, hp2, hq2, hq1⟩ := HF.out
          by_cases hdue : dueL p q s t
          · obtain ⟨en, ec⟩ := plan_due p q s t n hdue code4
            rw [en] at hD4
            rw [ec] at hE4
            have HI4 := Lib.hid (isK hD4 hE4 true (by decide))
            unfold whyV at HI4
            have HDw : Hid (Calls Tryd.prog 16 #[.pointer (some ⟨d, 0, none⟩)] w4 fun e w' => e = .returned (.bool true) ∧ w' = w4) := Lib.hid (DownD hD4)
            have HSt : Hid (Calls Tryd.prog 22 #[.pointer (some ⟨d, 0, none⟩)] w4 fun e w' => e = .returned (.int .i64 ((n : Int) + 1)) ∧ w' = w4) := Lib.hid (StepsD hD4)
            have HR4 := Lib.hid (cntR hD4 (plan_ok p q (s + 1) 0 (n + 1) hp2 hq2 (by omega) false) (by omega))
            clear hD4 hE4 en ec h93
            have hdue' := hdue
            unfold dueL at hdue'
            rcases hdue' with ⟨e1, e2⟩ | ⟨e1, e2⟩
            · have bs : ((s : Int) == 0) = true := by simp [e1]
              have bt : ((t : Int) + 1 == (p : Int)) = true := by rw [← e2]; simp
              have HG := Lib.hid hdue
              clear hdue hk hnk htn hsn h0 h1 hp2 hq2 hq1 e1 e2
              go_upto_region 26 with (first | (go_at_call 16; refine HDw.out.mono ?_; rintro e w5 ⟨rfl, hw5⟩; subst w5) | (go_at_call 15; refine HI4.out.mono ?_; rintro e w5 ⟨rfl, hw5⟩; subst w5) | (go_at_call 22; refine HSt.out.mono ?_; rintro e w5 ⟨rfl, hw5⟩; subst w5) | (go_at_call 18; refine HR4.out.mono ?_; rintro e w6 ⟨tx, r6, K6, rfl, hD6, hE6⟩; have H6 := Lib.hid (And.intro hD6 hE6); clear hD6 hE6))
              have ce6 : w6.cell? ⟨0, 0, none⟩ = some (.iface 166 (.pointer (some (A.at 93)))) := H6.out.1.env.d
              have HI6 := Lib.hid (isK H6.out.1 H6.out.2 true (by decide))
              unfold whyV at HI6
              have HSt6 : Hid (Calls Tryd.prog 22 #[.pointer (some ⟨d, 0, none⟩)] w6 fun e w' => e = .returned (.int .i64 ((n : Int) + 1)) ∧ w' = w6) := Lib.hid (StepsD H6.out.1)
              have HSA : Hid (Calls Tryd.prog 17 #[.pointer (some ⟨d, 0, none⟩)] w6 fun e w' => e = .returned (.tuple #[]) ∧ Dk A w d ⟨5000, n + 1, true, planL p q (s + 1) 0⟩ P4 K6 w') := Lib.hid (StartD H6.out.1 (by show 1 ≤ 5000; decide))
              have HSB : Hid (∀ W, Dk A w d ⟨5000, n + 1, true, planL p q (s + 1) 0⟩ P4 K6 W → Calls Tryd.prog 17 #[.pointer (some ⟨d, 0, none⟩)] W fun e w' => e = .returned (.tuple #[]) ∧ Dk A w d ⟨5000, n + 1, true, planL p q (s + 1) 0⟩ P4 K6 w') := Lib.hid (fun W hW => StartD hW (by show 1 ≤ 5000; decide))
              clear HI4 ce4 HDw HSt HR4
              go_wp2_with (first | (go_at_call 15; refine HI6.out.mono ?_; rintro e w5 ⟨rfl, hw5⟩; subst w5) | (go_at_call 22; refine HSt6.out.mono ?_; rintro e w5 ⟨rfl, hw5⟩; subst w5) | (go_at_call 17; first | (refine (HSB.out _ K7.out).mono ?_; rintro e w8 ⟨rfl, h8⟩; have K8 := Lib.hid h8; clear h8) | (refine HSA.out.mono ?_; rintro e w7 ⟨rfl, h7⟩; have K7 := Lib.hid h7; clear h7)))
              go_roundw
              case rel =>
                obtain ⟨hk, hnk, htn, hsn, h0, h1, hp2, hq2, hq1⟩ := HF.out
                have hdue := HG.out
                unfold dueL at hdue
                exact ⟨n + 1, s + 1, 0, k + 1, _, _, _, rfl, by go_num, by go_num, by go_num, by go_num, by omega, by omega, by omega, by omega, fun e => by omega, fun e => by omega, K8.out⟩
              case measure => simp [Go.RowKit.intOf]; omega
            · have bs : ((s : Int) == 0) = false := beqI_no (by omega)
              have bs1 : ((s : Int) == 1) = true := by simp [e1]
              have bt : ((t : Int) + 1 == (q : Int)) = true := by rw [← e2]; simp
              have HG := Lib.hid hdue
              clear hdue hk hnk htn hsn h0 h1 hp2 hq2 hq1 e1 e2
              go_upto_region 26 with (first | (go_at_call 16; refine HDw.out.mono ?_; rintro e w5 ⟨rfl, hw5⟩; subst w5) | (go_at_call 15; refine HI4.out.mono ?_; rintro e w5 ⟨rfl, hw5⟩; subst w5) | (go_at_call 22; refine HSt.out.mono ?_; rintro e w5 ⟨rfl, hw5⟩; subst w5) | (go_at_call 18; refine HR4.out.mono ?_; rintro e w6 ⟨tx, r6, K6, rfl, hD6, hE6⟩; have H6 := Lib.hid (And.intro hD6 hE6); clear hD6 hE6))
              have ce6 : w6.cell? ⟨0, 0, none⟩ = some (.iface 166 (.pointer (some (A.at 93)))) := H6.out.1.env.d
              have HI6 := Lib.hid (isK H6.out.1 H6.out.2 true (by decide))
              unfold whyV at HI6
              have HSt6 : Hid (Calls Tryd.prog 22 #[.pointer (some ⟨d, 0, none⟩)] w6 fun e w' => e = .returned (.int .i64 ((n : Int) + 1)) ∧ w' = w6) := Lib.hid (StepsD H6.out.1)
              have HSA : Hid (Calls Tryd.prog 17 #[.pointer (some ⟨d, 0, none⟩)] w6 fun e w' => e = .returned (.tuple #[]) ∧ Dk A w d ⟨5000, n + 1, true, planL p q (s + 1) 0⟩ P4 K6 w') := Lib.hid (StartD H6.out.1 (by show 1 ≤ 5000; decide))
              have HSB : Hid (∀ W, Dk A w d ⟨5000, n + 1, true, planL p q (s + 1) 0⟩ P4 K6 W → Calls Tryd.prog 17 #[.pointer (some ⟨d, 0, none⟩)] W fun e w' => e = .returned (.tuple #[]) ∧ Dk A w d ⟨5000, n + 1, true, planL p q (s + 1) 0⟩ P4 K6 w') := Lib.hid (fun W hW => StartD hW (by show 1 ≤ 5000; decide))
              clear HI4 ce4 HDw HSt HR4
              go_wp2_with (first | (go_at_call 15; refine HI6.out.mono ?_; rintro e w5 ⟨rfl, hw5⟩; subst w5) | (go_at_call 22; refine HSt6.out.mono ?_; rintro e w5 ⟨rfl, hw5⟩; subst w5) | (go_at_call 17; first | (refine (HSB.out _ K7.out).mono ?_; rintro e w8 ⟨rfl, h8⟩; have K8 := Lib.hid h8; clear h8) | (refine HSA.out.mono ?_; rintro e w7 ⟨rfl, h7⟩; have K7 := Lib.hid h7; clear h7)))
              go_roundw
              case rel =>
                obtain ⟨hk, hnk, htn, hsn, h0, h1, hp2, hq2, hq1⟩ := HF.out
                have hdue := HG.out
                unfold dueL at hdue
                exact ⟨n + 1, s + 1, 0, k + 1, _, _, _, rfl, by go_num, by go_num, by go_num, by go_num, by omega, by omega, by omega, by omega, fun e => by omega, fun e => by omega, K8.out⟩
              case measure => simp [Go.RowKit.intOf]; omega
          · obtain ⟨en, ec⟩ := plan_quiet p q s t n h0 h1 hdue code4
            rw [en] at hD4
            rw [ec] at hE4
            have HI4 := Lib.hid (isK hD4 hE4 false (by rw [decide_eq_false h93]))
            unfold whyV at HI4
            have HDw : Hid (Calls Tryd.prog 16 #[.pointer (some ⟨d, 0, none⟩)] w4 fun e w' => e = .returned (.bool false) ∧ w' = w4) := Lib.hid (DownD hD4)
            have HSt : Hid (Calls Tryd.prog 22 #[.pointer (some ⟨d, 0, none⟩)] w4 fun e w' => e = .returned (.int .i64 ((n : Int) + 1)) ∧ w' = w4) := Lib.hid (StepsD hD4)
            have K4 := Lib.hid hD4
            clear hD4 hE4 en ec h93
            have HG := Lib.hid hdue
            have hdue' := hdue
            unfold dueL at hdue'
            clear hdue
            by_cases e0 : s = 0
            · have bs : ((s : Int) == 0) = true := by simp [e0]
              have bs1 : ((s : Int) == 1) = false := beqI_no (by omega)
              have bt : ((t : Int) + 1 == (p : Int)) = false := beqI_no (by omega)
              clear hk hnk htn hsn h0 h1 hp2 hq2 hq1 hdue' e0
              go_wp2_with (first | (go_at_call 16; refine HDw.out.mono ?_; rintro e w5 ⟨rfl, hw5⟩; subst w5) | (go_at_call 15; refine HI4.out.mono ?_; rintro e w5 ⟨rfl, hw5⟩; subst w5) | (go_at_call 22; refine HSt.out.mono ?_; rintro e w5 ⟨rfl, hw5⟩; subst w5))
              go_roundw
              case rel =>
                obtain ⟨hk, hnk, htn, hsn, h0, h1, hp2, hq2, hq1⟩ := HF.out
                have hdue := HG.out
                exact ⟨n + 1, s, t + 1, k + 1, _, _, _, rfl, by go_num, by go_num, by go_num, by go_num, by omega, by omega, by omega, by omega, fun e => by have := h0 e; unfold dueL at hdue; omega, fun e => by have := h1 e; unfold dueL at hdue; omega, K4.out⟩
              case measure => simp [Go.RowKit.intOf]; omega
            · have bs : ((s : Int) == 0) = false := beqI_no (by omega)
              by_cases e1 : s = 1
              · have bs1 : ((s : Int) == 1) = true := by simp [e1]
                have bt : ((t : Int) + 1 == (q : Int)) = false := beqI_no (by omega)
                clear hk hnk htn hsn h0 h1 hp2 hq2 hq1 hdue' e0 e1
                go_wp2_with (first | (go_at_call 16; refine HDw.out.mono ?_; rintro e w5 ⟨rfl, hw5⟩; subst w5) | (go_at_call 15; refine HI4.out.mono ?_; rintro e w5 ⟨rfl, hw5⟩; subst w5) | (go_at_call 22; refine HSt.out.mono ?_; rintro e w5 ⟨rfl, hw5⟩; subst w5))
                go_roundw
                case rel =>
                  obtain ⟨hk, hnk, htn, hsn, h0, h1, hp2, hq2, hq1⟩ := HF.out
                  have hdue := HG.out
                  exact ⟨n + 1, s, t + 1, k + 1, _, _, _, rfl, by go_num, by go_num, by go_num, by go_num, by omega, by omega, by omega, by omega, fun e => by have := h0 e; unfold dueL at hdue; omega, fun e => by have := h1 e; unfold dueL at hdue; omega, K4.out⟩
                case measure => simp [Go.RowKit.intOf]; omega
              · have bs1 : ((s : Int) == 1) = false := beqI_no (by omega)
                clear hk hnk htn hsn h0 h1 hp2 hq2 hq1 hdue' e0 e1
                go_wp2_with (first | (go_at_call 16; refine HDw.out.mono ?_; rintro e w5 ⟨rfl, hw5⟩; subst w5) | (go_at_call 15; refine HI4.out.mono ?_; rintro e w5 ⟨rfl, hw5⟩; subst w5) | (go_at_call 22; refine HSt.out.mono ?_; rintro e w5 ⟨rfl, hw5⟩; subst w5))
                go_roundw
                case rel =>
                  obtain ⟨hk, hnk, htn, hsn, h0, h1, hp2, hq2, hq1⟩ := HF.out
                  have hdue := HG.out
                  exact ⟨n + 1, s, t + 1, k + 1, _, _, _, rfl, by go_num, by go_num, by go_num, by go_num, by omega, by omega, by omega, by omega, fun e => by have := h0 e; unfold dueL at hdue; omega, fun e => by have := h1 e; unfold dueL at hdue; omega, K4.out⟩
                case measure => simp [Go.RowKit.intOf]; omega
        · have HYD := Lib.hid KY.out
          by_cases hk7 : kind < 1
          · go_wp2_with fail
            go_roundw
            case rel =>
              obtain ⟨hk, hnk, htn, hsn, h0, h1, hp2, hq2, hq1⟩ := HF.out
              exact ⟨n, s, t, k + 1, P, K, _, rfl, rfl, rfl, rfl, by go_num, by omega, by omega, by omega, by omega, h0, h1, HYD.out⟩
            case measure => simp [Go.RowKit.intOf]; omega
          · have hk8 : 6 < kind := by omega
            go_wp2_with fail
            go_roundw
            case rel =>
              obtain ⟨hk, hnk, htn, hsn, h0, h1, hp2, hq2, hq1⟩ := HF.out
              exact ⟨n, s, t, k + 1, P, K, _, rfl, rfl, rfl, rfl, by go_num, by omega, by omega, by omega, by omega, h0, h1, HYD.out⟩
            case measure => simp [Go.RowKit.intOf]; omega
      · have hli : (k : Int) < (len : Int) := by omega
        have h15 : ¬ (k : Int) < 150 := by omega
        have HX := Lib.hid hb
        clear hD hb HD
        go_wp2_with fail
        go_ret
        exact ⟨rfl, HX.out⟩
    · have hli : ¬ (k : Int) < (len : Int) := by omega
      have HX := Lib.hid hb
      clear hD hb HD
      go_wp2_with fail
      go_ret
      exact ⟨rfl, HX.out⟩
theorem DiskCounts_walk (v : Value) (one two : Int) (w : World) (he : ∃ A B, Env A B w) (hv : ∃ a len c, v = .slice a len c ∧ ActsAt w a len) :
    Calls Tryd.prog 4 #[v, .int .i64 one, .int .i64 two] w fun e w' => e = .returned (.bool true) ∧ Below w.heap.size w w' := by
  obtain ⟨A, B, he⟩ := he
  obtain ⟨a, len, c, rfl, hs⟩ := hv
  exact cnt_walk he a len c hs one two
end Go.Proofs.YtfihgofgidmmiaaDoor
