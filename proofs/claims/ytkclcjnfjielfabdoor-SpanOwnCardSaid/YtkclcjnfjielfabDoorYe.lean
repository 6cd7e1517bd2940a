/- The law's lay, lies. -/
import Derived.Test.YtkclcjnfjielfabDoorYc
import Derived.Deep.LoopGhost
import Derived.Deep.QuietTactic
import Derived.BigQuiet
namespace Go.Proofs.YtkclcjnfjielfabDoor
open Go.RowKit

/-- A list has been laid at a place: v0 is the block of the place as it was. -/
structure Laid (B : Nat) (v0 : Option Nat) (l : List Rg) (g n cap : Nat) (w w' : World) : Prop where
  row : w'.ownsRow B 63 2 (.slice (some ⟨g, 0, none⟩) n cap) n (rc (laidG markR l n))
  grown : w.grownBy w' v0
  at_ : v0 = some g ∨ w.heap.size ≤ g
  len : l.length + 4 ≤ n
theorem wr7 (k : Nat) (h : k ≤ 3000000) : IntKind.i64.wrap (-7 - (k : Int)) = -7 - (k : Int) := by rw [IntKind.wrap_i64]; omega
theorem made_rc (n : Nat) : (madeCells #[.int .i64 0, .int .i64 0] (n * 2)).toList = rc (List.replicate n (0, 0)) := by
  apply List.ext_getElem?
  intro j
  by_cases hj : j < n * 2
  · have h1 : (madeCells #[.int .i64 0, .int .i64 0] (n * 2)).toList[j]? = some (.int .i64 0) := by
      have : j % 2 = 0 ∨ j % 2 = 1 := by omega
      rcases this with h | h <;> simp [madeCells, hj, h]
    rw [h1]
    have ha := rc_at (List.replicate n (0, 0)) (j / 2) (by simp; omega)
    have e0 : (List.replicate n ((0, 0) : Rg)).getD (j / 2) (0, 0) = (0, 0) := by
      rw [List.getD_eq_getElem?_getD, List.getElem?_replicate]; split <;> rfl
    rw [e0] at ha
    have : j % 2 = 0 ∨ j % 2 = 1 := by omega
    rcases this with h | h
    · rw [show j = j / 2 * 2 by omega]; exact ha.1.symm
    · rw [show j = j / 2 * 2 + 1 by omega]; exact ha.2.symm
  · rw [List.getElem?_eq_none (by rw [Array.length_toList, size_madeCells]; omega), List.getElem?_eq_none (by rw [rc_length]; simp; omega)]
set_option maxRecDepth 100000 in
set_option maxHeartbeats 4000000 in
theorem lay_any {B : Nat} {v vl : Value} {m0 l : List Rg} {w : World} (hrow : w.ownsRow B 63 2 v m0.length (rc m0)) (hB : B ≤ w.heap.size) (hl : Rgs w vl l) (hll : l.length ≤ 1000000) (hml : m0.length ≤ 3000000) :
    Calls Tryd.prog 43 #[v, vl] w fun e w' => ∃ g n cap, e = .returned (.slice (some ⟨g, 0, none⟩) n cap) ∧ Laid B v.ownBlock l g n cap w w' ∧ n ≤ 3000000 := by
  obtain ⟨i0, hi, hz0, hz1, hz2⟩ := info_parts Tryd.infoRange
  have hsz : (Tryd.prog.info? 63).map (·.size) = some 2 := by rw [hi]; simp [hz1]
  obtain ⟨sp, scap, hvl, hs0, hs1⟩ := hl.src
  by_cases hc : m0.length < l.length + 4
  · have hcz : (m0.length : Int) < (l.length : Int) + 4 := by omega
    obtain ⟨ao, cap0, hv⟩ : ∃ ao cap, v = .slice ao m0.length cap := by
      rcases hrow.2 with ⟨rfl, h0⟩ | ⟨g, cap, cur, rfl, _⟩
      · exact ⟨none, 0, by rw [h0]⟩
      · exact ⟨_, _, rfl⟩
    have hvl' := hvl
    subst hvl
    have HL := Lib.hid hl
    have HS1 := Lib.hid hs1
    generalize hv0 : v.ownBlock = v0 at *
    clear hrow hv0 hl hs1 hvl'
    subst hv
    obtain ⟨n, hn⟩ : ∃ n, n = 2 * l.length + 40 := ⟨_, rfl⟩
    have hnz : (2 : Int) * (l.length : Int) + 40 = (n : Int) := by omega
    have hln : l.length ≤ n := by omega
    have hle4 : l.length + 4 ≤ n := by omega
    have hn3 : n ≤ 3000000 := by omega
    have HN := Lib.hid hn
    clear hn
    obtain ⟨m, HM, hmn⟩ : ∃ m : List Rg, Hid (m = List.replicate n (0, 0)) ∧ m.length = n := ⟨_, Lib.hid rfl, by simp⟩
    go_enter Tryd.func43, Tryd.ntmps43
    go_wp2_with (at_make; refine wpList_make_full _ rfl _ _ 25 rfl B 63 i0 (rgV 0 0) 2 Tryd.underlying25 hi hz0 hz1 _ _ _ _ n rfl rfl (by go_arith) (by go_arith) (by rw [hz2]; omega) (by unfold maxLen; omega) hB ?_)
    intro w1 hr1 hg1
    rw [made_rc, ← HM.out] at hr1
    have HR1 := Lib.hid hr1
    have HG1 := Lib.hid hg1
    clear hr1 hg1
    obtain ⟨g, hg⟩ : ∃ g, g = w.heap.size := ⟨_, rfl⟩
    rw [← hg] at HR1 ⊢
    have hat : v0 = some g ∨ w.heap.size ≤ g := .inr (by omega)
    have HS2 : Hid (0 < l.length → ∃ ad, sp = some ad ∧ ∀ j u, (rc l)[j]? = some u → w1.cell? (ad.add j) = some u) := Lib.hid (fun hp => by
      obtain ⟨ad, h1, h2⟩ := HS1.out hp
      exact ⟨ad, h1, fun j u hj => HG1.out.cell (h2 j u hj) (by simp)⟩)
    have HGW := Lib.hid hg
    clear hg
    obtain ⟨w2, hcp, hr2, hg2⟩ := copyRun 25 25 3 63 2 Tryd.underlying25 hsz HR1.out (rc l) (rc_length l) hln hs0 HS2.out (rc_one l)
    clear hs0
    have HG2 : Hid (w.grownBy w2 v0) := Lib.hid (gthen (gbut HG1.out _) hg2 (fun j hj => by simp at hj; left; rw [← hj, HGW.out]; exact Nat.le_refl _))
    have HR2 : Hid (w2.ownsRow B 63 2 (.slice (some ⟨g, 0, none⟩) n n) n (rc (laidTo markR l m l.length))) := Lib.hid (by rw [laidTo_zero, rc_append, ← rc_drop]; simpa [rc_length] using hr2)
    clear hr2 hg2
    go_wp2_with fail
    go_loopg [5] n (fun gg s5 wr => ∃ (k : Nat) (X : World), X = wr ∧ l.length ≤ k ∧ k ≤ n ∧ n - k ≤ gg ∧ s5 = .int .i64 k ∧ Hid (w.grownBy X v0) ∧ Hid (X.ownsRow B 63 2 (.slice (some ⟨g, 0, none⟩) n n) n (rc (laidTo markR l m k))))
    case atStart => exact ⟨l.length, _, rfl, Nat.le_refl _, hln, by omega, rfl, HG2, HR2⟩
    case round =>
      obtain ⟨k, X, hX, hlk, hk, hgg, rfl, HG, HR⟩ := hrel
      subst hX
      by_cases hlt : k < n
      · have hltz : (k : Int) < (n : Int) := by omega
        have hm : k < m.length := by omega
        have c1 : ∃ u, X.cell? ⟨g, k * 2, none⟩ = some u := ⟨_, by rw [HR.out.cellAt _ (by omega)]; exact (rc_at _ k (by rw [laidTo_length markR hlk (by omega)]; omega)).1⟩
        have c2 : ∃ u, X.cell? ⟨g, k * 2 + 1, none⟩ = some u := ⟨_, by rw [HR.out.cellAt _ (by omega)]; exact (rc_at _ k (by rw [laidTo_length markR hlk (by omega)]; omega)).2⟩
        obtain ⟨u1, c1⟩ := c1
        obtain ⟨u2, c2⟩ := c2
        have f1 : X.frozen? ⟨g, k * 2, none⟩ = false := HR.out.frozenAt _
        have f2 : X.frozen? ⟨g, k * 2 + 1, none⟩ = false := HR.out.frozenAt _
        have hk7 : IntKind.i64.wrap (-7 - (k : Int)) = -7 - (k : Int) := wr7 k (by omega)
        have HLK := Lib.hid hlk
        clear hlk
        go_wp2_with fail
        go_roundg (n - (k + 1))
        case measure => omega
        case rel =>
          have hlk := HLK.out
          refine ⟨k + 1, _, rfl, by omega, by omega, by omega, by go_num, Lib.hid ?_, Lib.hid ?_⟩
          · exact gset (gset HG.out _ _ (Or.symm hat)) _ _ (Or.symm hat)
          · have h1 := ((HR.out.stored (k * 2) (.int .i64 (-7 - (k : Int)))).1.stored (k * 2 + 1) (.int .i64 (-9))).1
            have e := rc_set (laidTo markR l m k) k (markR k)
            rw [laidTo_succ markR hlk hm] at e
            rw [← e]
            exact h1
      · have hltz : ¬ (k : Int) < (n : Int) := by omega
        have hkn : k = n := by omega
        subst hkn
        go_wp2_with fail
        go_ret
        exact ⟨g, k, _, rfl, ⟨by have := HR.out; rw [← hmn, laidTo_all] at this; rw [← hmn]; exact this, HG.out, hat, hle4⟩, hn3⟩
  · have hcz : ¬ (m0.length : Int) < (l.length : Int) + 4 := by omega
    obtain ⟨g, cap, hv⟩ : ∃ g cap, v = .slice (some ⟨g, 0, none⟩) m0.length cap := by
      rcases hrow.2 with ⟨rfl, h0⟩ | ⟨g, cap, cur, rfl, _⟩
      · omega
      · exact ⟨_, _, rfl⟩
    subst hv
    subst hvl
    have HR1 := Lib.hid hrow
    have HS2 := Lib.hid hs1
    clear hrow hl hs1
    show Calls _ _ _ _ fun e w' => ∃ g' n cap, e = _ ∧ Laid B (some g) l g' n cap w w' ∧ n ≤ 3000000
    obtain ⟨v0, hv0⟩ : ∃ v0, v0 = some g := ⟨_, rfl⟩
    rw [← hv0]
    have hat : v0 = some g ∨ w.heap.size ≤ g := .inl hv0
    generalize hmn : m0.length = n at *
    have hln : l.length ≤ n := by omega
    have hle4 : l.length + 4 ≤ n := by omega
    have hn3 : n ≤ 3000000 := by omega
    have HV0 := Lib.hid hv0
    clear hv0
    obtain ⟨w2, hcp, hr2, hg2⟩ := copyRun 25 25 3 63 2 Tryd.underlying25 hsz HR1.out (rc l) (rc_length l) hln hs0 HS2.out (rc_one l)
    clear hs0
    have HG2 : Hid (w.grownBy w2 v0) := Lib.hid (by rw [HV0.out]; exact hg2)
    have HR2 : Hid (w2.ownsRow B 63 2 (.slice (some ⟨g, 0, none⟩) n cap) n (rc (laidTo markR l m0 l.length))) := Lib.hid (by rw [laidTo_zero, rc_append, ← rc_drop]; simpa [rc_length] using hr2)
    clear hr2 hg2
    go_enter Tryd.func43, Tryd.ntmps43
    go_wp2_with fail
    go_loopg [5] n (fun gg s5 wr => ∃ (k : Nat) (X : World), X = wr ∧ l.length ≤ k ∧ k ≤ n ∧ n - k ≤ gg ∧ s5 = .int .i64 k ∧ Hid (w.grownBy X v0) ∧ Hid (X.ownsRow B 63 2 (.slice (some ⟨g, 0, none⟩) n cap) n (rc (laidTo markR l m0 k))))
    case atStart => exact ⟨l.length, _, rfl, Nat.le_refl _, hln, by omega, rfl, HG2, HR2⟩
    case round =>
      obtain ⟨k, X, hX, hlk, hk, hgg, rfl, HG, HR⟩ := hrel
      subst hX
      by_cases hlt : k < n
      · have hltz : (k : Int) < (n : Int) := by omega
        have hm : k < m0.length := by omega
        have c1 : ∃ u, X.cell? ⟨g, k * 2, none⟩ = some u := ⟨_, by rw [HR.out.cellAt _ (by omega)]; exact (rc_at _ k (by rw [laidTo_length markR hlk (by omega)]; omega)).1⟩
        have c2 : ∃ u, X.cell? ⟨g, k * 2 + 1, none⟩ = some u := ⟨_, by rw [HR.out.cellAt _ (by omega)]; exact (rc_at _ k (by rw [laidTo_length markR hlk (by omega)]; omega)).2⟩
        obtain ⟨u1, c1⟩ := c1
        obtain ⟨u2, c2⟩ := c2
        have f1 : X.frozen? ⟨g, k * 2, none⟩ = false := HR.out.frozenAt _
        have f2 : X.frozen? ⟨g, k * 2 + 1, none⟩ = false := HR.out.frozenAt _
        have hk7 : IntKind.i64.wrap (-7 - (k : Int)) = -7 - (k : Int) := wr7 k (by omega)
        have HLK := Lib.hid hlk
        clear hlk
        go_wp2_with fail
        go_roundg (n - (k + 1))
        case measure => omega
        case rel =>
          have hlk := HLK.out
          refine ⟨k + 1, _, rfl, by omega, by omega, by omega, by go_num, Lib.hid ?_, Lib.hid ?_⟩
          · exact gset (gset HG.out _ _ (Or.symm hat)) _ _ (Or.symm hat)
          · have h1 := ((HR.out.stored (k * 2) (.int .i64 (-7 - (k : Int)))).1.stored (k * 2 + 1) (.int .i64 (-9))).1
            have e := rc_set (laidTo markR l m0 k) k (markR k)
            rw [laidTo_succ markR hlk hm] at e
            rw [← e]
            exact h1
      · have hltz : ¬ (k : Int) < (n : Int) := by omega
        have hkn : k = n := by omega
        subst hkn
        go_wp2_with fail
        go_ret
        exact ⟨g, k, _, rfl, ⟨by have := HR.out; rw [← hmn, laidTo_all] at this; rw [← hmn]; exact this, HG.out, hat, hle4⟩, hn3⟩
end Go.Proofs.YtkclcjnfjielfabDoor
