/- A desk's numbers, counted. -/
import Derived.Test.YtkclcjnfjielfabDoorYg
import Derived.Test.YtkclcjnfjielfabDoorYe
import Derived.Test.YtkclcjnfjielfabDoorWj
import Derived.Test.YtkclcjnfjielfabDoorWv
namespace Go.Proofs.YtkclcjnfjielfabDoor
open Go.RowKit

/-- All but a desk's cell and one block more are as they were. -/
structure FarD (D : Nat) (v0 : Option Nat) (w w' : World) : Prop where
  size : w.heap.size ≤ w'.heap.size
  os : w'.os = w.os
  tape : w'.tape = w.tape
  output : w'.output = w.output
  far : ∀ k, k < w.heap.size → k ≠ D → v0 ≠ some k → w'.heap[k]? = w.heap[k]?
  oth : ∀ i, i ≠ 1 → w'.cell? ⟨D, i, none⟩ = w.cell? ⟨D, i, none⟩
  ofr : ∀ i, w'.frozen? ⟨D, i, none⟩ = w.frozen? ⟨D, i, none⟩
theorem FarD.refl (D : Nat) (v0 : Option Nat) (w : World) : FarD D v0 w w := ⟨Nat.le_refl _, rfl, rfl, rfl, fun _ _ _ _ => rfl, fun _ _ => rfl, fun _ => rfl⟩
theorem FarD.grown {D g : Nat} {v0 : Option Nat} {w w1 w2 : World} (h : FarD D v0 w w1) (hg : w1.grownBy w2 (some g)) (hat : v0 = some g ∨ w.heap.size ≤ g) (hD : D < w.heap.size) (hgD : g ≠ D) : FarD D v0 w w2 := by
  have hne : some D ≠ some g := fun e => hgD (Option.some.inj e).symm
  refine ⟨Nat.le_trans h.size hg.size, hg.os.trans h.os, hg.tape.trans h.tape, hg.output.trans h.output, fun k hk hkD hv => ?_, fun i hi => (hg.cell_far ⟨D, i, none⟩ (Nat.lt_of_lt_of_le hD h.size) hne).trans (h.oth i hi), fun i => (hg.frozen_far ⟨D, i, none⟩ (Nat.lt_of_lt_of_le hD h.size) hne).trans (h.ofr i)⟩
  rw [hg.block k (Nat.lt_of_lt_of_le hk h.size) (fun e => ?_)]
  · exact h.far k hk hkD hv
  · have e' : k = g := by simpa using e
    rcases hat with h1 | h1
    · exact hv (by rw [h1, e'])
    · omega
theorem FarD.new {D : Nat} {v0 : Option Nat} {w w1 w2 : World} (h : FarD D v0 w w1) (hg : w1.grownBy w2 none) (hD : D < w.heap.size) : FarD D v0 w w2 := by
  refine ⟨Nat.le_trans h.size hg.size, hg.os.trans h.os, hg.tape.trans h.tape, hg.output.trans h.output, fun k hk hkD hv => ?_, fun i hi => (hg.cell_far ⟨D, i, none⟩ (Nat.lt_of_lt_of_le hD h.size) (by simp)).trans (h.oth i hi), fun i => (hg.frozen_far ⟨D, i, none⟩ (Nat.lt_of_lt_of_le hD h.size) (by simp)).trans (h.ofr i)⟩
  rw [hg.block k (Nat.lt_of_lt_of_le hk h.size) (by simp)]
  exact h.far k hk hkD hv
theorem FarD.desk {D : Nat} {v0 : Option Nat} {w w1 : World} (h : FarD D v0 w w1) (v : Value) : FarD D v0 w (w1.setCell ⟨D, 1, none⟩ v) := by
  refine ⟨by simpa using h.size, h.os, h.tape, h.output, fun k hk hD hv => ?_, fun i hi => ?_, fun i => ?_⟩
  · rw [heap_setCell_other w1 ⟨D, 1, none⟩ k v hD]
    exact h.far k hk hD hv
  · rw [World.cell?_setCell_other _ _ _ _ (fun e => hi (congrArg Addr.off e).symm)]
    exact h.oth i hi
  · rw [World.frozen?_setCell]; exact h.ofr i
theorem FarD.set {D : Nat} {v0 : Option Nat} {w w1 : World} (h : FarD D v0 w w1) (g i : Nat) (v : Value) (hat : v0 = some g ∨ w.heap.size ≤ g) (hgD : g ≠ D) : FarD D v0 w (w1.setCell ⟨g, i, none⟩ v) := by
  refine ⟨by simpa using h.size, h.os, h.tape, h.output, fun k hk hD hv => ?_, fun j hj => ?_, fun j => ?_⟩
  · rw [heap_setCell_other w1 ⟨g, i, none⟩ k v (fun e => ?_)]
    · exact h.far k hk hD hv
    · have e' : k = g := e
      rcases hat with h1 | h1
      · exact hv (by rw [h1, e'])
      · omega
  · rw [World.cell?_setCell_other _ _ _ _ (fun e => hgD (congrArg Addr.block e))]
    exact h.oth j hj
  · rw [World.frozen?_setCell]; exact h.ofr j
structure Numbered (D : Nat) (v0 : Option Nat) (l : List Int) (g n cap : Nat) (w w' : World) : Prop where
  cell : w'.cell? ⟨D, 1, none⟩ = some (.slice (some ⟨g, 0, none⟩) n cap)
  fr : w'.frozen? ⟨D, 1, none⟩ = false
  row : w'.ownsRow (D + 1) 3 1 (.slice (some ⟨g, 0, none⟩) n cap) n (ic (laidG markI l n))
  at_ : v0 = some g ∨ w.heap.size ≤ g
  len : l.length + 4 ≤ n
  far : FarD D v0 w w'
theorem add_blk (ad : Addr) (j : Nat) : (ad.add j).block = ad.block := by
  unfold Addr.add
  split <;> rfl
theorem made_ic (n : Nat) : (madeCells #[.int .i64 0] n).toList = ic (List.replicate n 0) := by
  rw [toList_madeCells_one]; simp [ic]
set_option maxRecDepth 100000 in
set_option maxHeartbeats 4000000 in
theorem numbers_any {D : Nat} {v vl : Value} {m0 l : List Int} {w : World} (c0 : w.cell? ⟨D, 1, none⟩ = some v) (f0 : w.frozen? ⟨D, 1, none⟩ = false) (hrow : w.ownsRow (D + 1) 3 1 v m0.length (ic m0)) (hD : D < w.heap.size) (hl : Ints w vl l) (hvD : 0 < l.length → vl.ownBlock ≠ some D) (hll : l.length ≤ 1000000) (hml : m0.length ≤ 3000000) :
    Calls Tryd.prog 13 #[.pointer (some ⟨D, 0, none⟩), vl] w fun e w' => ∃ g n cap, e = .returned (.slice (some ⟨g, 0, none⟩) l.length cap) ∧ n ≤ 3000000 ∧ n ≤ cap ∧ Numbered D v.ownBlock l g n cap w w' := by
  obtain ⟨i0, hi, hz0, hz1, hz2⟩ := info_parts Tryd.infoInt
  have hsz : (Tryd.prog.info? 3).map (·.size) = some 1 := by rw [hi]; simp [hz1]
  obtain ⟨sp, scap, hvl, hs0, hs1⟩ := hl.src
  have hspD : 0 < l.length → ∀ ad, sp = some ad → ad.block ≠ D := fun h0 ad h1 h2 => hvD h0 (by rw [hvl, h1]; simp [Value.ownBlock, h2])
  by_cases hc : m0.length < l.length + 4
  · have hcz : (m0.length : Int) < (l.length : Int) + 4 := by omega
    obtain ⟨ao, cap0, hv⟩ : ∃ ao cap, v = .slice ao m0.length cap := by
      rcases hrow.2 with ⟨rfl, h0⟩ | ⟨g, cap, cur, rfl, _⟩
      · exact ⟨none, 0, by rw [h0]⟩
      · exact ⟨_, _, rfl⟩
    subst hvl
    have HS1 := Lib.hid hs1
    have HSD := Lib.hid hspD
    have HF0 := Lib.hid f0
    generalize hv0 : v.ownBlock = v0 at *
    clear hrow hv0 hl hs1 hspD hvD f0
    subst hv
    obtain ⟨n, hn⟩ : ∃ n, n = 2 * l.length + 40 := ⟨_, rfl⟩
    have hnz : (2 : Int) * (l.length : Int) + 40 = (n : Int) := by omega
    have hln : l.length ≤ n := by omega
    have hle4 : l.length + 4 ≤ n := by omega
    have hn3 : n ≤ 3000000 := by omega
    have hncap : n ≤ n := Nat.le_refl _
    have hlnz : (l.length : Int) ≤ (n : Int) := by omega
    have HN := Lib.hid hn
    clear hn
    obtain ⟨m, HM, hmn⟩ : ∃ m : List Int, Hid (m = List.replicate n 0) ∧ m.length = n := ⟨_, Lib.hid rfl, by simp⟩
    have HC0 := Lib.hid c0
    go_enter Tryd.func13, Tryd.ntmps13
    go_wp2_with (at_make; refine wpList_make_full _ rfl _ _ 26 rfl (D + 1) 3 i0 (.int .i64 0) 1 Tryd.underlying26 hi hz0 hz1 _ _ _ _ n rfl rfl (by go_arith) (by go_arith) (by rw [hz2]; omega) (by unfold maxLen; omega) hD ?_)
    intro w1 hr1 hg1
    have hr1' : w1.ownsRow (D + 1) 3 1 (.slice (some ⟨w.heap.size, 0, none⟩) n n) n (ic m) := by rw [HM.out, ← made_ic]; exact hr1
    have HG1 := Lib.hid hg1
    obtain ⟨g, hg⟩ : ∃ g, g = w.heap.size := ⟨_, rfl⟩
    rw [← hg] at hr1' ⊢
    have hat : v0 = some g ∨ w.heap.size ≤ g := .inr (by omega)
    have hgD : g ≠ D := by omega
    have hc1 : w1.cell? ⟨D, 1, none⟩ = some (.slice ao m0.length cap0) := hg1.cell HC0.out (by simp)
    have hf1 : w1.frozen? ⟨D, 1, none⟩ = false := by rw [hg1.frozen_far ⟨D, 1, none⟩ hD (by simp)]; exact HF0.out
    have HR1 : Hid ((w1.setCell ⟨D, 1, none⟩ (.slice (some ⟨g, 0, none⟩) n n)).ownsRow (D + 1) 3 1 (.slice (some ⟨g, 0, none⟩) n n) n (ic m)) := Lib.hid (ownsRow_setCell_below hr1' (Nat.lt_succ_self D) _)
    have HS2 : Hid (0 < l.length → ∃ ad, sp = some ad ∧ ∀ j u, (ic l)[j]? = some u → (w1.setCell ⟨D, 1, none⟩ (.slice (some ⟨g, 0, none⟩) n n)).cell? (ad.add j) = some u) := Lib.hid (fun hp => by
      obtain ⟨ad, h1, h2⟩ := HS1.out hp
      refine ⟨ad, h1, fun j u hj => ?_⟩
      rw [World.cell?_setCell_other _ _ _ _ (fun e => ?_)]
      · exact HG1.out.cell (h2 j u hj) (by simp)
      · have e2 := congrArg Addr.block e
        rw [add_blk] at e2
        exact HSD.out hp ad h1 e2.symm)
    have hcd : (w1.setCell ⟨D, 1, none⟩ (.slice (some ⟨g, 0, none⟩) n n)).cell? ⟨D, 1, none⟩ = some (.slice (some ⟨g, 0, none⟩) n n) := by rw [World.cell?_setCell_same' _ _ _ (by rw [hc1]; rfl)]
    have hfd : (w1.setCell ⟨D, 1, none⟩ (.slice (some ⟨g, 0, none⟩) n n)).frozen? ⟨D, 1, none⟩ = false := by rw [World.frozen?_setCell]; exact hf1
    obtain ⟨w2, hcp, hr2, hg2⟩ := copyRun 26 26 3 3 1 Tryd.underlying26 hsz HR1.out (ic l) (by rw [ic_length]; omega) hln hs0 HS2.out (ic_one l)
    have HG2 : Hid (FarD D v0 w w2) := Lib.hid ((((FarD.refl D v0 w).new HG1.out hD).desk _).grown hg2 hat hD hgD)
    have HR2 : Hid (w2.ownsRow (D + 1) 3 1 (.slice (some ⟨g, 0, none⟩) n n) n (ic (laidTo markI l m l.length))) := Lib.hid (by rw [laidTo_zero, ic_append, ← ic_drop]; simpa [ic_length] using hr2)
    have hc2 : w2.cell? ⟨D, 1, none⟩ = some (.slice (some ⟨g, 0, none⟩) n n) := hg2.cell hcd (fun e => hgD (by simpa using e.symm))
    have HF2 : Hid (w2.frozen? ⟨D, 1, none⟩ = false) := Lib.hid (by rw [hg2.frozen_far ⟨D, 1, none⟩ (block_lt_of_cell hcd) (fun e => hgD (by simpa using e.symm))]; exact hfd)
    have HGW := Lib.hid hg
    clear hr2 hg2 hs0 hr1 hr1' hg1 hg
    go_wp2_with fail
    go_loopg [5] n (fun gg s5 wr => ∃ (k : Nat) (X : World), X = wr ∧ l.length ≤ k ∧ k ≤ n ∧ n - k ≤ gg ∧ s5 = .int .i64 k ∧ X.cell? ⟨D, 1, none⟩ = some (.slice (some ⟨g, 0, none⟩) n n) ∧ Hid (FarD D v0 w X) ∧ Hid (X.frozen? ⟨D, 1, none⟩ = false) ∧ Hid (X.ownsRow (D + 1) 3 1 (.slice (some ⟨g, 0, none⟩) n n) n (ic (laidTo markI l m k))))
    case atStart => exact ⟨l.length, _, rfl, Nat.le_refl _, hln, by omega, rfl, hc2, HG2, HF2, HR2⟩
    case round =>
      obtain ⟨k, X, hX, hlk, hk, hgg, rfl, hcX, HG, HFX, HR⟩ := hrel
      subst hX
      by_cases hlt : k < n
      · have hltz : (k : Int) < (n : Int) := by omega
        have hm : k < m.length := by omega
        have c1 : ∃ u, X.cell? ⟨g, k, none⟩ = some u := ⟨_, by rw [HR.out.cellAt _ (by omega)]; exact ic_at _ k (by rw [laidTo_length markI hlk (by omega)]; omega)⟩
        obtain ⟨u1, c1⟩ := c1
        have f1 : X.frozen? ⟨g, k, none⟩ = false := HR.out.frozenAt _
        have hk7 : IntKind.i64.wrap (-7 - (k : Int)) = -7 - (k : Int) := wr7 k (by omega)
        have HLK := Lib.hid hlk
        clear hlk
        go_wp2_with fail
        go_roundg (n - (k + 1))
        case measure => omega
        case rel =>
          have hlk := HLK.out
          refine ⟨k + 1, _, rfl, by omega, by omega, by omega, by go_num, ?_, Lib.hid ?_, Lib.hid ?_, Lib.hid ?_⟩
          · rw [World.cell?_setCell_other _ _ _ _ (fun e => hgD (congrArg Addr.block e))]; exact hcX
          · exact HG.out.set g k _ hat hgD
          · rw [World.frozen?_setCell]; exact HFX.out
          · have h1 := (HR.out.stored k (.int .i64 (-7 - (k : Int)))).1
            have e := ic_set (laidTo markI l m k) k (markI k)
            rw [laidTo_succ markI hlk hm] at e
            rw [← e]
            exact h1
      · have hltz : ¬ (k : Int) < (n : Int) := by omega
        have hkn : k = n := by omega
        subst hkn
        go_wp2_with fail
        go_ret
        exact ⟨g, _, _, rfl, hn3, hncap, ⟨hcX, HFX.out, by have := HR.out; rw [← hmn, laidTo_all] at this; rw [← hmn]; exact this, hat, hle4, HG.out⟩⟩
  · have hcz : ¬ (m0.length : Int) < (l.length : Int) + 4 := by omega
    obtain ⟨g, cap, hv, hncap0, hgB⟩ : ∃ g cap, v = .slice (some ⟨g, 0, none⟩) m0.length cap ∧ m0.length ≤ cap ∧ D + 1 ≤ g := by
      rcases hrow.2 with ⟨rfl, h0⟩ | ⟨g, cap, cur, rfl, hB, _, hnc, _⟩
      · omega
      · exact ⟨_, _, rfl, hnc, hB⟩
    subst hv
    subst hvl
    have HR1 := Lib.hid hrow
    have hgD : g ≠ D := by omega
    obtain ⟨v0, hv0⟩ : ∃ v0, v0 = some g := ⟨_, rfl⟩
    show Calls _ _ _ _ fun e w' => ∃ g' n cap, e = _ ∧ n ≤ 3000000 ∧ n ≤ cap ∧ Numbered D (some g) l g' n cap w w'
    rw [← hv0]
    have hat : v0 = some g ∨ w.heap.size ≤ g := .inl hv0
    have HF0 := Lib.hid f0
    have HS2 := Lib.hid hs1
    generalize hmn : m0.length = n at *
    have hln : l.length ≤ n := by omega
    have hle4 : l.length + 4 ≤ n := by omega
    have hn3 : n ≤ 3000000 := by omega
    have hncap : n ≤ cap := hncap0
    have hlcz : (l.length : Int) ≤ (cap : Int) := by omega
    have HV0 := Lib.hid hv0
    clear hrow hl hs1 hspD hvD f0 hv0
    obtain ⟨w2, hcp, hr2, hg2⟩ := copyRun 26 26 3 3 1 Tryd.underlying26 hsz HR1.out (ic l) (by rw [ic_length]; omega) hln hs0 HS2.out (ic_one l)
    have HG2 : Hid (FarD D v0 w w2) := Lib.hid ((FarD.refl D v0 w).grown hg2 hat hD hgD)
    have HR2 : Hid (w2.ownsRow (D + 1) 3 1 (.slice (some ⟨g, 0, none⟩) n cap) n (ic (laidTo markI l m0 l.length))) := Lib.hid (by rw [laidTo_zero, ic_append, ← ic_drop]; simpa [ic_length] using hr2)
    have hc2 : w2.cell? ⟨D, 1, none⟩ = some (.slice (some ⟨g, 0, none⟩) n cap) := hg2.cell c0 (fun e => hgD (by simpa using e.symm))
    have HF2 : Hid (w2.frozen? ⟨D, 1, none⟩ = false) := Lib.hid (by rw [hg2.frozen_far ⟨D, 1, none⟩ hD (fun e => hgD (by simpa using e.symm))]; exact HF0.out)
    clear hr2 hg2 hs0
    go_enter Tryd.func13, Tryd.ntmps13
    go_wp2_with fail
    go_loopg [5] n (fun gg s5 wr => ∃ (k : Nat) (X : World), X = wr ∧ l.length ≤ k ∧ k ≤ n ∧ n - k ≤ gg ∧ s5 = .int .i64 k ∧ X.cell? ⟨D, 1, none⟩ = some (.slice (some ⟨g, 0, none⟩) n cap) ∧ Hid (FarD D v0 w X) ∧ Hid (X.frozen? ⟨D, 1, none⟩ = false) ∧ Hid (X.ownsRow (D + 1) 3 1 (.slice (some ⟨g, 0, none⟩) n cap) n (ic (laidTo markI l m0 k))))
    case atStart => exact ⟨l.length, _, rfl, Nat.le_refl _, hln, by omega, rfl, hc2, HG2, HF2, HR2⟩
    case round =>
      obtain ⟨k, X, hX, hlk, hk, hgg, rfl, hcX, HG, HFX, HR⟩ := hrel
      subst hX
      by_cases hlt : k < n
      · have hltz : (k : Int) < (n : Int) := by omega
        have hm : k < m0.length := by omega
        have c1 : ∃ u, X.cell? ⟨g, k, none⟩ = some u := ⟨_, by rw [HR.out.cellAt _ (by omega)]; exact ic_at _ k (by rw [laidTo_length markI hlk (by omega)]; omega)⟩
        obtain ⟨u1, c1⟩ := c1
        have f1 : X.frozen? ⟨g, k, none⟩ = false := HR.out.frozenAt _
        have hk7 : IntKind.i64.wrap (-7 - (k : Int)) = -7 - (k : Int) := wr7 k (by omega)
        have HLK := Lib.hid hlk
        clear hlk
        go_wp2_with fail
        go_roundg (n - (k + 1))
        case measure => omega
        case rel =>
          have hlk := HLK.out
          refine ⟨k + 1, _, rfl, by omega, by omega, by omega, by go_num, ?_, Lib.hid ?_, Lib.hid ?_, Lib.hid ?_⟩
          · rw [World.cell?_setCell_other _ _ _ _ (fun e => hgD (congrArg Addr.block e))]; exact hcX
          · exact HG.out.set g k _ hat hgD
          · rw [World.frozen?_setCell]; exact HFX.out
          · have h1 := (HR.out.stored k (.int .i64 (-7 - (k : Int)))).1
            have e := ic_set (laidTo markI l m0 k) k (markI k)
            rw [laidTo_succ markI hlk hm] at e
            rw [← e]
            exact h1
      · have hltz : ¬ (k : Int) < (n : Int) := by omega
        have hkn : k = n := by omega
        subst hkn
        go_wp2_with fail
        go_ret
        exact ⟨g, _, _, rfl, hn3, hncap, ⟨hcX, HFX.out, by have := HR.out; rw [← hmn, laidTo_all] at this; rw [← hmn]; exact this, hat, hle4, HG.out⟩⟩
end Go.Proofs.YtkclcjnfjielfabDoor
