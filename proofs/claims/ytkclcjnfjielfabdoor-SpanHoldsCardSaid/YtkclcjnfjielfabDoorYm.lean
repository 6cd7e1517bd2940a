/- SpanHolds: the walk. -/
import Derived.Test.YtkclcjnfjielfabDoorYk
import Derived.Test.YtkclcjnfjielfabDoorYh
import Derived.Deep.RegionHeld3
namespace Go.Proofs.YtkclcjnfjielfabDoor
open Go.RowKit

theorem wp_gen {P : Program} {c : Code} {Q : Exit → Act → World → Prop} {a : Act} {W : World} (h : ∀ Y, Y = W → c.wp P Q a Y) : c.wp P Q a W := h W rfl
theorem wpAnyH_mono {P : Program} {md : Region.Mode} {ops : Array Oper} {Q : Exit → Act → World → Prop} {S S2 : World → Prop} (hS : ∀ w, S2 w → S w) : ∀ (fuel : Nat) (listed : Array Bool) (a : Act) (w : World), wpAnyH P md ops Q S2 fuel listed a w → wpAnyH P md ops Q S fuel listed a w
  | 0, _, _, _, h => h
  | fuel + 1, _, _, _, h => ⟨h.1, fun i hi => wpOp_mono (fun a' w' h' => ⟨hS _ h'.1, wpAnyH_mono hS fuel _ a' w' h'.2⟩) (h.2 i hi)⟩
abbrev hdS (P : Nat) (u1 : Value) (n g : Int) : World → Prop := fun X => X.cell? ⟨P, 1, none⟩ = some u1 ∧ X.cell? ⟨P, 2, none⟩ = some (.int .i64 n) ∧ X.cell? ⟨P, 3, none⟩ = some (.int .i64 g)
abbrev hrS (w : World) (b o1 o2 o3 : Nat) (u1 : Value) (n g : Int) : World → Prop := fun X => X.cell? ⟨b, o1, none⟩ = some u1 ∧ X.cell? ⟨b, o2, none⟩ = some (.int .i64 n) ∧ X.cell? ⟨b, o3, none⟩ = some (.int .i64 g) ∧ Below w.heap.size w X
theorem hrS.on {w : World} {b o1 o2 o3 : Nat} {u1 : Value} {n g : Int} {X Y : World} (h : hrS w b o1 o2 o3 u1 n g X) (hb : Below X.heap.size X Y) : hrS w b o1 o2 o3 u1 n g Y := ⟨cellOn h.1 hb, cellOn h.2.1 hb, cellOn h.2.2.1 hb, belThen h.2.2.2 hb⟩
theorem hrS_over {w w1 : World} {D b o1 o2 o3 : Nat} {u1 : Value} {n g : Int} {X Y : World} (hbl : b < w.heap.size) (hb1 : Below w.heap.size w w1) (hD : D = w1.heap.size) (h : hrS w b o1 o2 o3 u1 n g X) (hb : Below D w1 Y) : hrS w b o1 o2 o3 u1 n g Y := by
  subst hD
  have hY := belThen hb1 hb
  have c : ∀ o, Y.cell? ⟨b, o, none⟩ = X.cell? ⟨b, o, none⟩ := fun o => by rw [hY.cell (p := ⟨b, o, none⟩) hbl, h.2.2.2.cell (p := ⟨b, o, none⟩) hbl]
  exact ⟨(c o1).trans h.1, (c o2).trans h.2.1, (c o3).trans h.2.2.1, hY⟩
theorem ranged_rgs {D : Nat} {v0 : Option Nat} {l : List Rg} {g n cap : Nat} {w w' : World} (h : Ranged D v0 l g n cap w w') (hn : n ≤ 3000000) : Rgs w' (.slice (some ⟨g, 0, none⟩) l.length cap) l := by
  have hlg : (laidG markR l n).length = n := laidG_length markR (by have := h.len; omega)
  have := (row_rgs h.row hlg.symm (by omega)).upto (k := l.length) (by have := h.len; omega) cap (fun h => by cases h)
  rw [laidG_take] at this
  exact this
abbrev hdT (Z : World) (P : Nat) (u1 : Value) (n g : Int) (D : Nat) (u : Value) : World → Prop := fun X => hdS P u1 n g X ∧ X.cell? ⟨D, 0, none⟩ = some u ∧ Below Z.heap.size Z X
theorem hdT.on {Z : World} {P : Nat} {u1 : Value} {n g : Int} {D : Nat} {u : Value} {X Y : World} (h : hdT Z P u1 n g D u X) (hb : Below X.heap.size X Y) : hdT Z P u1 n g D u Y :=
  ⟨⟨cellOn h.1.1 hb, cellOn h.1.2.1 hb, cellOn h.1.2.2 hb⟩, cellOn h.2.1 hb, belThen h.2.2 hb⟩
set_option maxRecDepth 100000 in
set_option maxHeartbeats 8000000 in
theorem SpanHolds_walk (v : Value) (A : List AskP) (w : World) (he : Env w) (hA : Asks w v A) :
    Calls Tryd.prog 5 #[v] w fun e w' => e = .returned (.bool true) ∧ Below w.heap.size w w' := by
  have HK := Lib.hid (fun X (hX : Below w.heap.size w X) => (known_any X (he.on hX)).mono fun e w' ⟨p, q⟩ => (⟨p, hX.trans (q.mono hX.size)⟩ : e = Ending.returned (.bool true) ∧ Below w.heap.size w w'))
  have HV := Lib.hid he
  have H0 := Lib.hid hA
  obtain ⟨ao, cap, hv, hAl, hc⟩ := hA
  subst hv
  have HC := Lib.hid hc
  clear hc he
  go_enter Tryd.func5, Tryd.ntmps5
  go_wp2_with fail
  refine (long_any _ A w H0.out).mono ?_
  rintro e w1 ⟨⟨bb, rfl, hsh⟩, hb1⟩
  have HB1 := Lib.hid hb1
  clear hb1 H0
  cases bb with
  | true =>
    clear hsh
    go_wp2_with fail
    go_ret
    exact ⟨rfl, HB1.out⟩
  | false =>
    obtain ⟨h30, hq⟩ := hsh rfl
    have HQ := Lib.hid hq
    clear hsh hq
    go_wp2_with fail
    obtain ⟨D, hD⟩ : ∃ D, D = w1.heap.size := ⟨_, rfl⟩
    have HD := Lib.hid hD
    rw [← hD]
    clear hD
    go_loopg [4, 5] (2 * A.length) (fun gg s4 s5 wr => ∃ (k : Nat) (vd : Value) (m : List Rg) (X : World), X = wr ∧ k ≤ 2 * A.length ∧ 2 * A.length - k ≤ gg ∧ s4 = .int .i64 k ∧ DeskR D vd m w1 X)
    case atStart => exact ⟨0, _, [], _, rfl, Nat.zero_le _, by omega, rfl, DeskR.start _ D HD.out _ _ _ _⟩
    case round =>
      obtain ⟨k, vd, m, X, hX, hk, hgg, rfl, hdk⟩ := hrel
      subst hX
      have HDK := Lib.hid hdk
      have HBX : Hid (Below w.heap.size w X) := Lib.hid (belThen HB1.out (by have := hdk.below; rw [HD.out] at this; exact this))
      clear hdk
      by_cases hlt : k < 2 * A.length
      · have hltz : (k : Int) < 2 * (A.length : Int) := by omega
        have hme : 2 * A.length - (k + 1) < 2 * A.length - k := by omega
        obtain ⟨j, hj, HTN⟩ : ∃ j, j < A.length ∧ Hid (Calls Tryd.prog 10 #[.int .i64 k, .int .i64 A.length] X fun e w' => e = .returned (.int .i64 (j : Nat)) ∧ w' = X) := by
          by_cases hkn : k < A.length
          · exact ⟨k, hkn, Lib.hid (turn_up k A.length X hkn)⟩
          · exact ⟨2 * A.length - 1 - k, by omega, Lib.hid (turn_down k A.length _ X (by omega) (by omega) (by omega))⟩
        have hjz : (j : Int) < (A.length : Int) := by omega
        obtain ⟨b, off, hao, hat⟩ := HC.out (by omega)
        subst hao
        have hqq := hat j hj
        have hsq := HQ.out j hj
        obtain ⟨u1, e1, f1⟩ := hqq.c1
        obtain ⟨u4, e4, f4⟩ := hqq.c4
        obtain ⟨u5, e5, f5⟩ := hqq.c5
        have c0 := cellOn hqq.c0 HBX.out
        have c1 := cellOn e1 HBX.out
        have c2 := cellOn hqq.c2 HBX.out
        have c3 := cellOn hqq.c3 HBX.out
        have c4 := cellOn e4 HBX.out
        have c5 := cellOn e5 HBX.out
        obtain ⟨a1, k1, hu1, _⟩ := f1.shape
        obtain ⟨a4, k4, hu4⟩ := f4.form
        obtain ⟨a5, k5, hu5, _⟩ := f5.form
        have HF1 := Lib.hid f1
        have hs1 : (A.getD j ask0).set.length ≤ 3000 := hsq.1
        clear hqq hat hsq e1 e4 e5 f1 f4 f5
        generalize A.getD j ask0 = q at *
        subst hu1
        subst hu4
        subst hu5
        go_wp2_with (go_at_call 10; refine HTN.out.mono ?_; rintro e w2 ⟨rfl, hw2⟩; subst hw2)
        refine wp_gen (fun Y hY => ?_)
        obtain ⟨P, hP⟩ : ∃ P, P = w2.heap.size := ⟨_, rfl⟩
        rw [← hP]
        have hbY : Below w2.heap.size w2 Y := by rw [hY]; exact (Below.refl _ _).alloc (Nat.le_refl _) _
        have hc1 : Y.cell? ⟨P, 1, none⟩ = some (.slice a1 q.set.length k1) := by rw [hY, hP]; simp
        have hc2 : Y.cell? ⟨P, 2, none⟩ = some (.int .i64 q.n) := by rw [hY, hP]; simp
        have hc3 : Y.cell? ⟨P, 3, none⟩ = some (.int .i64 q.g) := by rw [hY, hP]; simp
        have HDY := Lib.hid ((HDK.out.on hbY).on (Below.refl _ _).drew)
        have HBY := Lib.hid ((belThen HBX.out hbY).drew)
        have hPD : P ≠ D := by (have := HDK.out.base; omega)
        have hPv : vd.ownBlock ≠ some P := fun e => by (have := (HDK.out.row.lt P e).2; omega)
        clear hY hP hbY c0 c1 c2 c3 c4 c5 HDK HBX HTN
        generalize q.n = nn at *
        generalize q.g = gv at *
        have hS : hdS P (.slice a1 q.set.length k1) nn gv Y.drew := ⟨hc1, hc2, hc3⟩
        have hP3 : P < Y.drew.heap.size := block_lt_of_cell hc1
        clear hc1 hc2 hc3
        refine wp_region_held_drew (S := hdS P (.slice a1 q.set.length k1) nn gv) (by kernel_rfl) hS (fun hHeld => ?_)
        clear hHeld
        refine wpAnyH_take (i := 0) (v := ?_) rfl (by kernel_rfl) (by kernel_rfl) (by kernel_rfl) (fun _ _ _ h => h) (Or.inl ⟨by rfl, ?_⟩) hS ?_
        rotate_left
        · (intro X hX; (try dsimp only at hX); go_simp; try (with_reducible rfl))
        (try simp only [Act.put])
        refine wpAnyH_take (i := 1) (v := ?_) rfl (by kernel_rfl) (by kernel_rfl) (by kernel_rfl) (fun _ _ _ h => h) (Or.inl ⟨by rfl, ?_⟩) hS ?_
        rotate_left
        · (intro X hX; (try dsimp only at hX); go_simp; try (with_reducible rfl))
        (try simp only [Act.put])
        refine wpAnyH_take (i := 2) (v := ?_) rfl (by kernel_rfl) (by kernel_rfl) (by kernel_rfl) (fun _ _ _ h => h) (Or.inl ⟨by rfl, ?_⟩) hS ?_
        rotate_left
        · (intro X hX; (try dsimp only at hX); go_simp; try (with_reducible rfl))
        (try simp only [Act.put])
        refine wpAnyH_take (i := 4) (v := ?_) rfl (by kernel_rfl) (by kernel_rfl) (by kernel_rfl) (fun _ _ _ h => h) (Or.inl ⟨by rfl, ?_⟩) hS ?_
        rotate_left
        · (intro X hX; (try dsimp only at hX); go_simp; try (with_reducible rfl))
        (try simp only [Act.put])
        refine wpAnyH_take (i := 5) (v := ?_) rfl (by kernel_rfl) (by kernel_rfl) (by kernel_rfl) (fun _ _ _ h => h) (Or.inl ⟨by rfl, ?_⟩) hS ?_
        rotate_left
        · (intro X hX; (try dsimp only at hX); go_simp; try (with_reducible rfl))
        (try simp only [Act.put])
        refine wpAnyH_take (i := 6) (v := ?_) rfl (by kernel_rfl) (by kernel_rfl) (by kernel_rfl) (fun _ _ _ h => h) (Or.inl ⟨by rfl, ?_⟩) hS ?_
        rotate_left
        · (intro X hX; (try dsimp only at hX); go_simp; try (with_reducible rfl))
        (try simp only [Act.put])
        refine wpAnyH_take (i := 7) (v := ?_) rfl (by kernel_rfl) (by kernel_rfl) (by kernel_rfl) (fun _ _ _ h => h) (Or.inl ⟨by rfl, ?_⟩) hS ?_
        rotate_left
        · (intro X hX; (try dsimp only at hX); go_simp; try (with_reducible rfl))
        (try simp only [Act.put])
        refine wpAnyH_take (i := 9) (v := ?_) rfl (by kernel_rfl) (by kernel_rfl) (by kernel_rfl) (fun _ _ _ h => h) (Or.inl ⟨by rfl, ?_⟩) hS ?_
        rotate_left
        · (intro X hX; (try dsimp only at hX); go_simp; try (with_reducible rfl))
        (try simp only [Act.put])
        refine wpAnyH_take (i := 10) (v := ?_) rfl (by kernel_rfl) (by kernel_rfl) (by kernel_rfl) (fun _ _ _ h => h) (Or.inl ⟨by rfl, ?_⟩) hS ?_
        rotate_left
        · (intro X hX; (try dsimp only at hX); go_simp; try (with_reducible rfl))
        (try simp only [Act.put])
        refine wpAnyH_take (i := 11) (v := ?_) rfl (by kernel_rfl) (by kernel_rfl) (by kernel_rfl) (fun _ _ _ h => h) (Or.inl ⟨by rfl, ?_⟩) hS ?_
        rotate_left
        · (intro X hX; (try dsimp only at hX); go_simp; try (with_reducible rfl))
        (try simp only [Act.put])
        refine wpAnyH_take (i := 12) (v := ?_) rfl (by kernel_rfl) (by kernel_rfl) (by kernel_rfl) (fun _ _ _ h => h) (Or.inl ⟨by rfl, ?_⟩) hS ?_
        rotate_left
        · (intro X hX; (try dsimp only at hX); go_simp; try (with_reducible rfl))
        (try simp only [Act.put])
        refine wpAnyH_take (i := 13) (v := ?_) rfl (by kernel_rfl) (by kernel_rfl) (by kernel_rfl) (fun _ _ _ h => h) (Or.inl ⟨by rfl, ?_⟩) hS ?_
        rotate_left
        · (intro X hX; (try dsimp only at hX); go_simp; try (with_reducible rfl))
        (try simp only [Act.put])
        refine wpAnyH_take (i := 14) (v := ?_) rfl (by kernel_rfl) (by kernel_rfl) (by kernel_rfl) (fun _ _ _ h => h) (Or.inl ⟨by rfl, ?_⟩) hS ?_
        rotate_left
        · (intro X hX; (try dsimp only at hX); go_simp; try (with_reducible rfl))
        (try simp only [Act.put])
        refine wpAnyH_ready (rs := [3]) (by kernel_rfl) (by simp) ?_
        refine AllReadyH.cons rfl (fun K hK => ?_) AllReadyH.nil
        go_simp
        refine (ranges_any HDY.out.c0 HDY.out.f0 HDY.out.row HDY.out.base (HF1.out.on HBY.out) (by omega) HDY.out.lm).mono ?_
        rintro e w4 ⟨g, n, cp, rfl, hn, hnc, hR⟩
        have HD4 := Lib.hid (HDY.out.ranged hR hn)
        have HB4 : Hid (Below w.heap.size w w4) := Lib.hid (belThen HB1.out (by have := HD4.out.below; rw [HD.out] at this; exact this))
        have hcc : ∀ i, w4.cell? ⟨P, i, none⟩ = Y.drew.cell? ⟨P, i, none⟩ := fun i => cell_heap (hR.far P hP3 hPD hPv)
        have hS4 : hdS P (.slice a1 q.set.length k1) nn gv w4 := ⟨(hcc 1).trans hS.1, (hcc 2).trans hS.2.1, (hcc 3).trans hS.2.2⟩
        have hlg : (laidG markR q.set n).length = n := laidG_length markR (by have := hR.len; omega)
        have HP4 := Lib.hid (row_rgs hR.row hlg.symm (by omega))
        have HV4 : Hid (Rgs w4 (.slice (some ⟨g, 0, none⟩) q.set.length cp) q.set) := Lib.hid (by
          have := HP4.out.upto (k := q.set.length) (by have := hR.len; omega) cp (fun h => by cases h)
          rw [laidG_take] at this
          exact this)
        have hln := hR.len
        have hS2 : hdT w4 P (.slice a1 q.set.length k1) nn gv D (.slice (some ⟨g, 0, none⟩) n cp) w4 := ⟨hS4, HD4.out.c0, Below.refl _ _⟩
        clear hR HDY HBY hP3 hlg hPv hcc hS
        dsimp only
        refine hK.out _ _ hS4 (fun hHeld => ?_)
        clear hHeld hK K hS4
        refine wpAnyH_mono (S2 := hdT w4 P (.slice a1 q.set.length k1) nn gv D (.slice (some ⟨g, 0, none⟩) n cp)) (fun X h => h.1) _ _ _ _ ?_
        (try simp only [Act.put])
        have HRH := Lib.hid (fun Z (hZ : Below w4.heap.size w4 Z) => refHas_any (.slice a1 q.set.length k1) q.set nn gv Z (HF1.out.on (belThen HB4.out hZ)))
        have HHS := Lib.hid (has_any _ q.set nn gv w4 HV4.out)
        generalize hasB q.set nn gv = hb at *
        refine wpAnyH_ready (rs := [8]) (by kernel_rfl) (by simp) ?_
        refine AllReadyH.cons rfl (fun K hK => ?_) AllReadyH.nil
        go_simp
        refine HHS.out.mono ?_
        rintro e w5 ⟨rfl, hb5⟩
        have hS5 := hS2.on hb5
        clear hb5 hS2 HHS
        dsimp only
        refine hK.out _ _ hS5 (fun hHeld => ?_)
        clear hHeld hK K
        (try simp only [Act.put])
        refine wpAnyH_ready (rs := [15]) (by kernel_rfl) (by simp) ?_
        refine AllReadyH.cons rfl (fun K hK => ?_) AllReadyH.nil
        go_simp
        refine (HRH.out w5 hS5.2.2).mono ?_
        rintro e w6 ⟨rfl, hb6⟩
        have hS6 := hS5.on hb6
        clear hb6 hS5 HRH
        dsimp only
        refine hK.out _ _ hS6 (fun hHeld => ?_)
        clear hHeld hK K
        (try simp only [Act.put])
        refine wpAnyH_take (i := 16) (v := ?_) rfl (by kernel_rfl) (by kernel_rfl) (by kernel_rfl) (fun _ _ _ h => h) (Or.inl ⟨by rfl, ?_⟩) hS6 ?_
        rotate_left
        · (intro X hX; (try dsimp only at hX); go_simp; try (with_reducible rfl))
        (try simp only [Act.put])
        refine wpAnyH_take (i := 17) (v := ?_) rfl (by kernel_rfl) (by kernel_rfl) (by kernel_rfl) (fun _ _ _ h => h) (Or.inl ⟨by rfl, ?_⟩) hS6 ?_
        rotate_left
        · (intro X hX; (try dsimp only at hX); go_simp; try (with_reducible rfl))
        (try simp only [Act.put])
        refine wpAnyH_take (i := 18) (v := ?_) rfl (by kernel_rfl) (by kernel_rfl) (by kernel_rfl) (fun _ _ _ h => h) (Or.inl ⟨by rfl, ?_⟩) hS6 ?_
        rotate_left
        · (intro X hX; (try dsimp only at hX); go_simp; try (with_reducible rfl))
        (try simp only [Act.put])
        refine wpAnyH_take (i := 19) (v := ?_) rfl (by kernel_rfl) (by kernel_rfl) (by kernel_rfl) (fun _ _ _ h => h) (Or.inl ⟨by rfl, ?_⟩) hS6 ?_
        rotate_left
        · (intro X hX; (try dsimp only at hX); go_simp; try (with_reducible rfl))
        (try simp only [Act.put])
        refine wpAnyH_take (i := 20) (v := ?_) rfl (by kernel_rfl) (by kernel_rfl) (by kernel_rfl) (fun _ _ _ h => h) (Or.inl ⟨by rfl, ?_⟩) hS6 ?_
        rotate_left
        · (intro X hX; (try dsimp only at hX); go_simp; try (with_reducible rfl))
        (try simp only [Act.put])
        refine wpAnyH_take (i := 21) (v := ?_) rfl (by kernel_rfl) (by kernel_rfl) (by kernel_rfl) (fun _ _ _ h => h) (Or.inl ⟨by rfl, ?_⟩) hS6 ?_
        rotate_left
        · (intro X hX; (try dsimp only at hX); go_simp; try (with_reducible rfl))
        (try simp only [Act.put])
        refine wpAnyH_take (i := 22) (v := ?_) rfl (by kernel_rfl) (by kernel_rfl) (by kernel_rfl) (fun _ _ _ h => h) (Or.inl ⟨by rfl, ?_⟩) hS6 ?_
        rotate_left
        · (intro X hX; (try dsimp only at hX); go_simp; try (with_reducible rfl))
        (try simp only [Act.put])
        refine wpAnyH_take (i := 23) (v := ?_) rfl (by kernel_rfl) (by kernel_rfl) (by kernel_rfl) (fun _ _ _ h => h) (Or.inl ⟨by rfl, ?_⟩) hS6 ?_
        rotate_left
        · (intro X hX; (try dsimp only at hX); go_simp; try (with_reducible rfl))
        (try simp only [Act.put])
        refine wpAnyH_ready (rs := [24]) (by kernel_rfl) (by simp) ?_
        refine AllReadyH.cons rfl (fun K hK => ?_) AllReadyH.nil
        go_simp
        refine (lies_yes (HP4.out.on hS6.2.2) (HF1.out.on (belThen HB4.out hS6.2.2)) hln (by omega) hn hnc).mono ?_
        rintro e w7 ⟨rfl, hb7⟩
        have hS7 := hS6.on hb7
        clear hb7 hS6
        dsimp only
        refine hK.out _ _ hS7 (fun hHeld => ?_)
        clear hHeld hK K
        (try simp only [Act.put])
        refine wpAnyH_take (i := 25) (v := ?_) rfl (by kernel_rfl) (by kernel_rfl) (by kernel_rfl) (fun _ _ _ h => h) (Or.inl ⟨by rfl, ?_⟩) hS7 ?_
        rotate_left
        · (intro X hX; (try dsimp only at hX); go_simp; try (with_reducible rfl))
        (try simp only [Act.put])
        refine wpAnyH_take (i := 26) (v := ?_) rfl (by kernel_rfl) (by kernel_rfl) (by kernel_rfl) (fun _ _ _ h => h) (Or.inl ⟨by rfl, ?_⟩) hS7 ?_
        rotate_left
        · (intro X hX; (try dsimp only at hX); go_simp; try (with_reducible rfl))
        (try simp only [Act.put])
        refine wpAnyH_done (by kernel_rfl) ?_ _
        go_wp2_with fail
        go_roundg (2 * A.length - (k + 1))
        case measure => exact Nat.lt_of_lt_of_le hme hgg
        case rel => exact ⟨k + 1, _, _, _, rfl, hlt, Nat.le_refl _, by go_num, HD4.out.on hS7.2.2⟩
      · have hltz : ¬ (k : Int) < 2 * (A.length : Int) := by omega
        clear hlt
        go_wp2_with fail
        go_loopg [6, 7] A.length (fun gg s6 s7 wr => ∃ (i : Nat) (vd : Value) (m : List Rg) (X : World), X = wr ∧ i ≤ A.length ∧ A.length - i ≤ gg ∧ s6 = .int .i64 i ∧ DeskR D vd m w1 X)
        case atStart => exact ⟨0, _, _, _, rfl, Nat.zero_le _, by omega, rfl, HDK.out⟩
        case round =>
          clear HDK HBX
          obtain ⟨i, vd, m, X, hX, hi, hgg2, rfl, hdk⟩ := hrel
          subst hX
          have HDK := Lib.hid hdk
          have HBX : Hid (Below w.heap.size w X) := Lib.hid (belThen HB1.out (by have := hdk.below; rw [HD.out] at this; exact this))
          clear hdk
          by_cases hiA : i < A.length
          · have hiz : (i : Int) < (A.length : Int) := by omega
            have hi0 : (0 : Int) ≤ (i : Int) := by omega
            by_cases hi6 : i < 6
            · have hi6z : (i : Int) < 6 := by omega
              go_wp2_with fail
              go_loopg [7] A.length (fun gg s7 wr => ∃ (k : Nat) (vd : Value) (m : List Rg) (X : World), X = wr ∧ k ≤ A.length ∧ A.length - k ≤ gg ∧ s7 = .int .i64 k ∧ DeskR D vd m w1 X)
              case atStart => exact ⟨0, _, _, _, rfl, Nat.zero_le _, by omega, rfl, HDK.out⟩
              case round =>
                clear HDK HBX
                obtain ⟨k, vd, m, X, hX, hk, hgg3, rfl, hdk⟩ := hrel
                subst hX
                have HDK := Lib.hid hdk
                have HBX : Hid (Below w.heap.size w X) := Lib.hid (belThen HB1.out (by have := hdk.below; rw [HD.out] at this; exact this))
                clear hdk
                by_cases hkA : k < A.length
                · have hkz : (k : Int) < (A.length : Int) := by omega
                  have hk0 : (0 : Int) ≤ (k : Int) := by omega
                  obtain ⟨b, off, hao, hat⟩ := HC.out (by omega)
                  subst hao
                  have hqk := hat k hkA
                  have hqi := hat i hiA
                  have hs1 : (A.getD k ask0).set.length ≤ 3000 := (HQ.out k hkA).1
                  obtain ⟨u1, e1, f1⟩ := hqk.c1
                  obtain ⟨a1, k1, hu1, _⟩ := f1.shape
                  have HF1 := Lib.hid f1
                  subst hu1
                  have c1 := cellOn e1 HBX.out
                  have c2 := cellOn hqi.c2 HBX.out
                  have c3 := cellOn hqi.c3 HBX.out
                  have hbl : b < w.heap.size := block_lt_of_cell e1
                  clear hqk hqi hat e1 f1
                  generalize A.getD k ask0 = q at *
                  generalize (A.getD i ask0).n = nn at *
                  generalize (A.getD i ask0).g = gv at *
                  have st : hrS w b (off + k * 6 + 1) (off + i * 6 + 2) (off + i * 6 + 3) (.slice a1 q.set.length k1) nn gv X.drew := ⟨c1, c2, c3, HBX.out.drew⟩
                  have HDY := Lib.hid (HDK.out.on (Below.refl _ _).drew)
                  have HHS := Lib.hid (fun v Z (h : Rgs Z v q.set) => has_any v q.set nn gv Z h)
                  have HRH := Lib.hid (fun Z (h : Below w.heap.size w Z) => refHas_any (.slice a1 q.set.length k1) q.set nn gv Z (HF1.out.on h))
                  generalize hasB q.set nn gv = hb at *
                  clear c1 c2 c3 HDK HBX
                  go_wp2_with fail
                  go_region_held3 (hrS w b (off + k * 6 + 1) (off + i * 6 + 2) (off + i * 6 + 3) (.slice a1 q.set.length k1) nn gv) (first | with_reducible exact st | with_reducible assumption) (first | (go_at_call 19; refine (ranges_any HDY.out.c0 HDY.out.f0 HDY.out.row HDY.out.base (HF1.out.on st.2.2.2) (by omega) HDY.out.lm).mono ?_; rintro e w4 ⟨g, n, cp, rfl, hn, hnc, hR⟩; have HD4 := Lib.hid (HDY.out.ranged hR hn); have st4 : hrS w b (off + k * 6 + 1) (off + i * 6 + 2) (off + i * 6 + 3) (.slice a1 q.set.length k1) nn gv w4 := hrS_over hbl HB1.out HD.out st HD4.out.below; have HV4 := Lib.hid (ranged_rgs hR hn); clear hR) | (go_at_call 22; refine (HHS.out _ _ HV4.out).mono ?_; rintro e w5 ⟨rfl, hb5⟩; have HD5 := Lib.hid (HD4.out.on hb5); have st5 : hrS w b (off + k * 6 + 1) (off + i * 6 + 2) (off + i * 6 + 3) (.slice a1 q.set.length k1) nn gv w5 := st4.on hb5; clear hb5) | (go_at_call 23; refine (HRH.out _ st5.2.2.2).mono ?_; rintro e w6 ⟨rfl, hb6⟩; have HD6 := Lib.hid (HD5.out.on hb6); have st6 : hrS w b (off + k * 6 + 1) (off + i * 6 + 2) (off + i * 6 + 3) (.slice a1 q.set.length k1) nn gv w6 := st5.on hb6; clear hb6))
                  go_wp2_with fail
                  go_roundg (A.length - (k + 1))
                  case measure => omega
                  case rel => exact ⟨k + 1, _, _, _, rfl, by omega, by omega, by go_num, HD6.out⟩
                · have hkz : ¬ (k : Int) < (A.length : Int) := by omega
                  go_wp2_with fail
                  go_roundg (A.length - (i + 1))
                  case measure => omega
                  case rel => exact ⟨i + 1, _, _, _, rfl, by omega, by omega, by go_num, HDK.out⟩
            · have hi6z : ¬ (i : Int) < 6 := by omega
              go_wp2_with (go_at_call 16; refine (HK.out _ HBX.out).mono ?_; rintro e w9 ⟨rfl, hb9⟩)
              go_ret
              exact ⟨rfl, hb9⟩
          · have hiz : ¬ (i : Int) < (A.length : Int) := by omega
            go_wp2_with (go_at_call 16; refine (HK.out _ HBX.out).mono ?_; rintro e w9 ⟨rfl, hb9⟩)
            go_ret
            exact ⟨rfl, hb9⟩
end Go.Proofs.YtkclcjnfjielfabDoor
