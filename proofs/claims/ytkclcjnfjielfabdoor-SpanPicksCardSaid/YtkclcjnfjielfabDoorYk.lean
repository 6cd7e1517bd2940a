/- A desk as the statements use it; SpanPrints: the walk. -/
import Derived.Test.YtkclcjnfjielfabDoorYf
import Derived.Test.YtkclcjnfjielfabDoorYj
import Derived.Test.YtkclcjnfjielfabDoorWy
namespace Go.Proofs.YtkclcjnfjielfabDoor
open Go.RowKit

/-- The place for sets on a desk: its value, what lies there. -/
structure DeskR (D : Nat) (v : Value) (m : List Rg) (W0 w : World) : Prop where
  c0 : w.cell? ⟨D, 0, none⟩ = some v
  f0 : w.frozen? ⟨D, 0, none⟩ = false
  row : w.ownsRow (D + 1) 63 2 v m.length (rc m)
  below : Below D W0 w
  base : D < w.heap.size
  lm : m.length ≤ 3000000
theorem row_on2 {B : Nat} {e : TypeId} {sz : Nat} {v : Value} {n : Nat} {xs : List Value} {w w' : World} (h : w.ownsRow B e sz v n xs) (hb : Below w.heap.size w w') : w'.ownsRow B e sz v n xs := by
  refine ⟨h.1, ?_⟩
  rcases h.2 with hn | ⟨g, cap, cur, rfl, hB, hg, rest⟩
  · exact .inl hn
  · exact .inr ⟨g, cap, cur, rfl, hB, by rw [hb.block g (Array.getElem?_eq_some_iff.1 hg).1]; exact hg, rest⟩
theorem DeskR.on {D : Nat} {v : Value} {m : List Rg} {W0 w w' : World} (h : DeskR D v m W0 w) (hb : Below w.heap.size w w') : DeskR D v m W0 w' :=
  ⟨cellOn h.c0 hb, by rw [hb.frozen (p := ⟨D, 0, none⟩) h.base]; exact h.f0, row_on2 h.row hb, h.below.trans (hb.mono (Nat.le_of_lt h.base)), Nat.lt_of_lt_of_le h.base hb.size, h.lm⟩
theorem DeskR.ranged {D : Nat} {v : Value} {m l : List Rg} {g n cap : Nat} {W0 w w' : World} (h : DeskR D v m W0 w) (hr : Ranged D v.ownBlock l g n cap w w') (hn : n ≤ 3000000) : DeskR D (.slice (some ⟨g, 0, none⟩) n cap) (laidG markR l n) W0 w' := by
  have hb := h.base
  have e : (laidG markR l n).length = n := laidG_length markR (by have := hr.len; omega)
  refine ⟨hr.cell, hr.fr, by rw [e]; exact hr.row, ⟨hr.os.trans h.below.os, hr.tape.trans h.below.tape, hr.output.trans h.below.output, ?_, fun k hk => ?_⟩, Nat.lt_of_lt_of_le hb hr.size, by rw [e]; exact hn⟩
  · exact Nat.le_trans h.below.size hr.size
  · rw [hr.far k (by omega) (by omega) (fun e => by have := (h.row.lt k e).1; omega)]
    exact h.below.block k hk
theorem cell_heap {w w' : World} {k i : Nat} (h : w'.heap[k]? = w.heap[k]?) : w'.cell? ⟨k, i, none⟩ = w.cell? ⟨k, i, none⟩ := by
  unfold World.cell?
  simp [h]
theorem DeskR.start (w : World) (D : Nat) (hD : D = w.heap.size) (v2 v3 v4 : Value) (t : TypeId) : DeskR D (.slice none 0 0) [] w (w.alloc (.cells #[.slice none 0 0, v2, v3, v4] t)) := by
  subst hD
  exact ⟨by simp, by simp [World.frozen?_alloc_mark], World.ownsRow_nil _ _ _ _, (Below.refl _ _).alloc (Nat.le_refl _) _, by simp, by simp⟩
abbrev prS (w : World) (D P : Nat) (u1 u2 : Value) : World → Prop := fun X => X.cell? ⟨D, 0, none⟩ = some u1 ∧ X.cell? ⟨P, 1, none⟩ = some u2 ∧ Below w.heap.size w X
theorem prS.on {w : World} {D P : Nat} {u1 u2 : Value} {X Y : World} (h : prS w D P u1 u2 X) (hb : Below X.heap.size X Y) : prS w D P u1 u2 Y := ⟨cellOn h.1 hb, cellOn h.2.1 hb, belThen h.2.2 hb⟩
theorem calls_gen {P : Program} {f : Nat} {args : Array Value} {W : World} {Q : Ending → World → Prop} (h : ∀ Y, Y = W → Calls P f args Y Q) : Calls P f args W Q := h W rfl
set_option maxRecDepth 100000 in
set_option maxHeartbeats 8000000 in
theorem SpanPrints_walk (v : Value) (A : List AskP) (w : World) (he : Env w) (hA : Asks w v A) :
    Calls Tryd.prog 4 #[v] w fun e w' => e = .returned (.bool true) ∧ Below w.heap.size w w' := by
  have HK := Lib.hid (fun X (hX : Below w.heap.size w X) => (known_any X (he.on hX)).mono fun e w' ⟨p, q⟩ => (⟨p, hX.trans (q.mono hX.size)⟩ : e = Ending.returned (.bool true) ∧ Below w.heap.size w w'))
  have HV := Lib.hid he
  have H0 := Lib.hid hA
  obtain ⟨ao, cap, hv, hAl, hc⟩ := hA
  subst hv
  have HC := Lib.hid hc
  clear hc he
  go_enter Tryd.func4, Tryd.ntmps4
  go_wp2_with fail
  refine (long_any _ A w H0.out).mono ?_
  rintro e w1 ⟨⟨bb, rfl, hsh⟩, hb1⟩
  have HB1 := Lib.hid hb1
  clear hb1 H0
  cases bb with
  | true =>
    clear hsh
    go_wp2_with fail
    go_ret
    exact ⟨rfl, HB1.out⟩
  | false =>
    obtain ⟨h30, hq⟩ := hsh rfl
    have HQ := Lib.hid hq
    clear hsh hq
    go_wp2_with fail
    obtain ⟨D, hD⟩ : ∃ D, D = w1.heap.size := ⟨_, rfl⟩
    have HD := Lib.hid hD
    rw [← hD]
    clear hD
    go_loopg [4, 5, 6, 7, 8, 9] (2 * A.length) (fun gg s4 s5 s6 s7 s8 s9 wr => ∃ (k : Nat) (vd : Value) (m : List Rg) (X : World), X = wr ∧ k ≤ 2 * A.length ∧ 2 * A.length - k ≤ gg ∧ s4 = .int .i64 k ∧ DeskR D vd m w1 X)
    case atStart => exact ⟨0, _, [], _, rfl, Nat.zero_le _, by omega, rfl, DeskR.start _ D HD.out _ _ _ _⟩
    case round =>
      obtain ⟨k, vd, m, X, hX, hk, hgg, rfl, hdk⟩ := hrel
      subst hX
      have HDK := Lib.hid hdk
      have HBX : Hid (Below w.heap.size w X) := Lib.hid (belThen HB1.out (by have := hdk.below; rw [HD.out] at this; exact this))
      clear hdk
      by_cases hlt : k < 2 * A.length
      · have hltz : (k : Int) < 2 * (A.length : Int) := by omega
        have hme : 2 * A.length - (k + 1) < 2 * A.length - k := by omega
        obtain ⟨j, hj, HTN⟩ : ∃ j, j < A.length ∧ Hid (Calls Tryd.prog 10 #[.int .i64 k, .int .i64 A.length] X fun e w' => e = .returned (.int .i64 (j : Nat)) ∧ w' = X) := by
          by_cases hkn : k < A.length
          · exact ⟨k, hkn, Lib.hid (turn_up k A.length X hkn)⟩
          · exact ⟨2 * A.length - 1 - k, by omega, Lib.hid (turn_down k A.length _ X (by omega) (by omega) (by omega))⟩
        have hjz : (j : Int) < (A.length : Int) := by omega
        obtain ⟨b, off, hao, hat⟩ := HC.out (by omega)
        subst hao
        have hqq := hat j hj
        have hsq := HQ.out j hj
        obtain ⟨u1, e1, f1⟩ := hqq.c1
        obtain ⟨u4, e4, f4⟩ := hqq.c4
        obtain ⟨u5, e5, f5⟩ := hqq.c5
        have c0 := cellOn hqq.c0 HBX.out
        have c1 := cellOn e1 HBX.out
        have c2 := cellOn hqq.c2 HBX.out
        have c3 := cellOn hqq.c3 HBX.out
        have c4 := cellOn e4 HBX.out
        have c5 := cellOn e5 HBX.out
        obtain ⟨a1, k1, hu1, _⟩ := f1.shape
        obtain ⟨a4, k4, hu4⟩ := f4.form
        obtain ⟨a5, k5, hu5, _⟩ := f5.form
        have HF1 := Lib.hid f1
        have hs1 : (A.getD j ask0).set.length ≤ 3000 := hsq.1
        clear hqq hat hsq e1 e4 e5 f1 f4 f5
        generalize A.getD j ask0 = q at *
        subst hu1
        subst hu4
        subst hu5
        go_wp2_with (go_at_call 10; refine HTN.out.mono ?_; rintro e w2 ⟨rfl, hw2⟩; subst hw2)
        refine calls_gen (fun Y hY => ?_)
        obtain ⟨P, hP⟩ : ∃ P, P = w2.heap.size := ⟨_, rfl⟩
        rw [← hP]
        have hbY : Below w2.heap.size w2 Y := by rw [hY]; exact (Below.refl _ _).alloc (Nat.le_refl _) _
        have hc1 : Y.cell? ⟨P, 1, none⟩ = some (.slice a1 q.set.length k1) := by rw [hY, hP]; simp
        have HDY := Lib.hid (HDK.out.on hbY)
        have HBY := Lib.hid (belThen HBX.out hbY)
        have hPD : P ≠ D := by (have := HDK.out.base; omega)
        have hPv : vd.ownBlock ≠ some P := fun e => by (have := (HDK.out.row.lt P e).2; omega)
        clear hY hP hbY c0 c1 c2 c3 c4 c5 HDK HBX HTN
        refine (refPrint_any _ q.set Y (HF1.out.on HBY.out)).mono ?_
        rintro e w3 ⟨rfl, hb3⟩
        have HD3 := Lib.hid (HDY.out.on hb3)
        have HB3 := Lib.hid (belThen HBY.out hb3)
        have hc3 := cellOn hc1 hb3
        have hP3 : P < w3.heap.size := block_lt_of_cell hc3
        clear hb3 hc1 HDY HBY
        generalize hTT : S (printT q.set) = T at *
        generalize hEE : printE q.set = E at *
        have HTT := Lib.hid hTT
        have HEE := Lib.hid hEE
        clear hTT hEE
        go_wp2_with fail
        refine (ranges_any HD3.out.c0 HD3.out.f0 HD3.out.row HD3.out.base (HF1.out.on HB3.out) (by omega) HD3.out.lm).mono ?_
        rintro e w4 ⟨g, n, cp, rfl, hn, hnc, hR⟩
        have HD4 := Lib.hid (HD3.out.ranged hR hn)
        have HB4 : Hid (Below w.heap.size w w4) := Lib.hid (belThen HB1.out (by have := HD4.out.below; rw [HD.out] at this; exact this))
        have hc4 : w4.cell? ⟨P, 1, none⟩ = some (.slice a1 q.set.length k1) := (cell_heap (hR.far P hP3 hPD hPv)).trans hc3
        have hlg : (laidG markR q.set n).length = n := laidG_length markR (by have := hR.len; omega)
        have HP4 := Lib.hid (row_rgs hR.row hlg.symm (by omega))
        have HV4 : Hid (Rgs w4 (.slice (some ⟨g, 0, none⟩) q.set.length cp) q.set) := Lib.hid (by
          have := HP4.out.upto (k := q.set.length) (by have := hR.len; omega) cp (fun h => by cases h)
          rw [laidG_take] at this
          exact this)
        have hln := hR.len
        clear hR HD3 HB3 hc3 hP3 hlg hPv
        go_wp2_with fail
        refine (print_any _ q.set w4 (HV.out.on HB4.out) HV4.out).mono ?_
        rintro e w5 ⟨rfl, hb5⟩
        rw [HTT.out, HEE.out]
        have HD5 := Lib.hid (HD4.out.on hb5)
        have HP5 := Lib.hid (HP4.out.on hb5)
        have HB5 := Lib.hid (belThen HB4.out hb5)
        have hc5 := cellOn hc4 hb5
        have HF5 := Lib.hid (HF1.out.on HB5.out)
        have st : prS w5 D P (.slice (some ⟨g, 0, none⟩) n cp) (.slice a1 q.set.length k1) w5.drew := ⟨HD5.out.c0, hc5, (Below.refl _ _).drew⟩
        clear hb5 hc4 hc5 HD4 HB4 HV4 HP4
        go_wp2_with fail
        go_region_held3 (prS w5 D P (.slice (some ⟨g, 0, none⟩) n cp) (.slice a1 q.set.length k1)) (first | with_reducible exact st | with_reducible assumption) (first | (go_at_call 20; refine (num_any E _).mono ?_; rintro e w6 ⟨rfl, hw6⟩; subst hw6) | (go_at_call 21; refine (lies_yes (HP5.out.on st.2.2) (HF5.out.on st.2.2) hln (by omega) hn hnc).mono ?_; rintro e w7 ⟨rfl, hb7⟩; have st7 : prS w5 D P (.slice (some ⟨g, 0, none⟩) n cp) (.slice a1 q.set.length k1) w7 := st.on hb7))
        go_wp2_with fail
        go_roundg (2 * A.length - (k + 1))
        case measure => exact Nat.lt_of_lt_of_le hme hgg
        case rel => exact ⟨k + 1, _, _, _, rfl, hlt, Nat.le_refl _, by go_num, HD5.out.on st7.2.2⟩
      · have hltz : ¬ (k : Int) < 2 * (A.length : Int) := by omega
        go_wp2_with (go_at_call 16; refine (HK.out _ HBX.out).mono ?_; rintro e w9 ⟨rfl, hb9⟩)
        go_ret
        exact ⟨rfl, hb9⟩
end Go.Proofs.YtkclcjnfjielfabDoor
