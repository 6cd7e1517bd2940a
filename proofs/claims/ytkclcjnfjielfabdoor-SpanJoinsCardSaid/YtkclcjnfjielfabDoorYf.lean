/- The law's lies; a desk's ranges. -/
import Derived.Test.YtkclcjnfjielfabDoorYe
import Derived.Test.YtkclcjnfjielfabDoorWv
namespace Go.Proofs.YtkclcjnfjielfabDoor
open Go.RowKit

set_option maxRecDepth 100000 in
set_option maxHeartbeats 2000000 in
theorem lies_yes {g n cap : Nat} {vl : Value} {l : List Rg} {w : World} (h1 : Rgs w (.slice (some ⟨g, 0, none⟩) n cap) (laidG markR l n)) (h2 : Rgs w vl l) (hln : l.length + 4 ≤ n) (hll : l.length ≤ 1000000) (hn : n ≤ 3000000) (hcap : n ≤ cap) :
    Calls Tryd.prog 21 #[.slice (some ⟨g, 0, none⟩) n cap, vl] w fun e w' => e = .returned (.bool true) ∧ Below w.heap.size w w' := by
  obtain ⟨ao, c2, hv, _⟩ := h2.shape
  have H2 := Lib.hid h2
  have hlen : (laidG markR l n).length = n := laidG_length markR (by omega)
  have H3 : Hid (Rgs w (.slice (some ⟨g, 0, none⟩) l.length cap) l) := Lib.hid (by
    have := h1.upto (k := l.length) (by omega) cap (fun h => by cases h)
    rw [laidG_take] at this
    exact this)
  have HC : Hid (∀ k, l.length ≤ k → k < n → w.cell? ⟨g, k * 2, none⟩ = some (.int .i64 (-7 - (k : Int))) ∧ w.cell? ⟨g, k * 2 + 1, none⟩ = some (.int .i64 (-9))) := Lib.hid (fun k hk hkn => by
    obtain ⟨ao', cap', he, hx⟩ := h1.shape
    obtain ⟨b, off, hb, _, hc⟩ := hx (by omega)
    simp only [Value.slice.injEq] at he
    obtain ⟨rfl, _, _⟩ := he
    simp only [Option.some.injEq, Addr.mk.injEq, and_true] at hb
    obtain ⟨rfl, rfl⟩ := hb
    have := hc k (by omega)
    rw [laidG_at markR l n k _ hk hkn, Nat.zero_add] at this
    exact this)
  subst hv
  have HN := Tryd.neqRange
  clear h1 h2 hlen
  have hlz : (l.length : Int) ≤ (n : Int) := by omega
  have hlc : (l.length : Int) ≤ (cap : Int) := by omega
  go_enter Tryd.func21, Tryd.ntmps21
  go_wp2_with fail
  go_loopg [5] n (fun gg s5 wr => ∃ k : Nat, l.length ≤ k ∧ k ≤ n ∧ n - k ≤ gg ∧ s5 = .int .i64 k ∧ Below w.heap.size w wr)
  case atStart => exact ⟨l.length, Nat.le_refl _, by omega, by omega, rfl, Below.refl _ _⟩
  case round =>
    obtain ⟨k, hlk, hk, hgg, rfl, hbw⟩ := hrel
    have HBW := Lib.hid hbw
    clear hbw
    by_cases hlt : k < n
    · have hltz : (k : Int) < (n : Int) := by omega
      obtain ⟨c1, c2⟩ := HC.out k hlk hlt
      replace c1 := cellOn c1 HBW.out
      replace c2 := cellOn c2 HBW.out
      have hk7 : IntKind.i64.wrap (-7 - (k : Int)) = -7 - (k : Int) := wr7 k (by omega)
      go_wp2_with fail
      go_roundg (n - (k + 1))
      case measure => omega
      case rel => exact ⟨k + 1, by omega, by omega, by omega, by go_num, HBW.out⟩
    · have hltz : ¬ (k : Int) < (n : Int) := by omega
      go_wp2_with (go_at_call 14; refine (same_yes (H3.out.on HBW.out) (H2.out.on HBW.out) (by omega)).mono ?_; rintro e w1 ⟨rfl, hb1⟩)
      go_ret
      exact ⟨rfl, belThen HBW.out hb1⟩

theorem laid_caps {B : Nat} {v0 : Option Nat} {l : List Rg} {g n cap : Nat} {w w' : World} (h : Laid B v0 l g n cap w w') : n ≤ cap ∧ l.length ≤ cap := by
  rcases h.row.2 with ⟨h', _⟩ | ⟨g', cap', cur, h', hB, hg, hnc, _⟩
  · simp at h'
  · simp only [Value.slice.injEq, Option.some.injEq, Addr.mk.injEq, and_true, true_and] at h'
    obtain ⟨rfl, rfl⟩ := h'
    have := h.len
    exact ⟨hnc, by omega⟩
/-- A list has been laid on a desk. -/
structure Ranged (D : Nat) (v0 : Option Nat) (l : List Rg) (g n cap : Nat) (w w' : World) : Prop where
  cell : w'.cell? ⟨D, 0, none⟩ = some (.slice (some ⟨g, 0, none⟩) n cap)
  fr : w'.frozen? ⟨D, 0, none⟩ = false
  row : w'.ownsRow (D + 1) 63 2 (.slice (some ⟨g, 0, none⟩) n cap) n (rc (laidG markR l n))
  at_ : v0 = some g ∨ w.heap.size ≤ g
  len : l.length + 4 ≤ n
  size : w.heap.size ≤ w'.heap.size
  os : w'.os = w.os
  tape : w'.tape = w.tape
  output : w'.output = w.output
  far : ∀ k, k < w.heap.size → k ≠ D → v0 ≠ some k → w'.heap[k]? = w.heap[k]?
  oth : ∀ i, i ≠ 0 → w'.cell? ⟨D, i, none⟩ = w.cell? ⟨D, i, none⟩
  ofr : ∀ i, w'.frozen? ⟨D, i, none⟩ = w.frozen? ⟨D, i, none⟩
set_option maxRecDepth 100000 in
set_option maxHeartbeats 2000000 in
theorem ranges_any {D : Nat} {v vl : Value} {m l : List Rg} {w : World} (c0 : w.cell? ⟨D, 0, none⟩ = some v) (f0 : w.frozen? ⟨D, 0, none⟩ = false) (hrow : w.ownsRow (D + 1) 63 2 v m.length (rc m)) (hD : D < w.heap.size) (hl : Rgs w vl l) (hll : l.length ≤ 1000000) (hml : m.length ≤ 3000000) :
    Calls Tryd.prog 19 #[.pointer (some ⟨D, 0, none⟩), vl] w fun e w' => ∃ g n cap, e = .returned (.slice (some ⟨g, 0, none⟩) l.length cap) ∧ n ≤ 3000000 ∧ n ≤ cap ∧ Ranged D v.ownBlock l g n cap w w' := by
  have HL := Lib.hid (lay_any hrow hD hl hll hml)
  have hvD : v.ownBlock ≠ some D := fun e => by have := (hrow.lt D e).1; omega
  obtain ⟨ao, c2, hv, _⟩ := hl.shape
  obtain ⟨a0, k0, hv0⟩ : ∃ ao cap, v = .slice ao m.length cap := by
    rcases hrow.2 with ⟨rfl, h0⟩ | ⟨g, cap, cur, rfl, _⟩
    · exact ⟨none, 0, by rw [h0]⟩
    · exact ⟨_, _, rfl⟩
  generalize hq : v.ownBlock = q at *
  have HF := Lib.hid f0
  have HC := Lib.hid c0
  clear hrow hl hq f0
  subst hv
  subst hv0
  go_enter Tryd.func19, Tryd.ntmps19
  go_wp2_with (go_at_call 43; refine HL.out.mono ?_; rintro e w1 ⟨g, n, cap, rfl, hL, hn⟩; have hf1 : w1.frozen? ⟨D, 0, none⟩ = false := (by rw [hL.grown.frozen_far ⟨D, 0, none⟩ hD (fun e => hvD e.symm)]; exact HF.out); have hc1 : w1.cell? ⟨D, 0, none⟩ = some (.slice a0 m.length k0) := hL.grown.cell HC.out (fun e => hvD e.symm); obtain ⟨hnc, hlc⟩ := laid_caps hL; have hlc2 : (l.length : Int) ≤ (cap : Int) := (by omega); have HLD := Lib.hid hL; clear hL)
  go_ret
  have hL := HLD.out
  have hgD : D + 1 ≤ g := (hL.row.lt g rfl).1
  have hw1 := hL.grown.size
  refine ⟨g, n, cap, rfl, hn, hnc, ⟨?_, ?_, ?_, hL.at_, hL.len, by simpa using hL.grown.size, hL.grown.os, hL.grown.tape, hL.grown.output, fun k hk hkD hkv => ?_, fun i hi => ?_, fun i => ?_⟩⟩
  · rw [World.cell?_setCell_same' _ _ _ (by rw [hc1]; rfl)]
  · rw [World.frozen?_setCell]; exact hf1
  · exact ownsRow_setCell_below hL.row (Nat.lt_succ_self D) _
  · rw [heap_setCell_other w1 ⟨D, 0, none⟩ k _ hkD]
    exact hL.grown.block k hk (fun e => hkv e.symm)
  · rw [World.cell?_setCell_other _ _ _ _ (fun e => hi (congrArg Addr.off e).symm)]
    exact hL.grown.cell_far ⟨D, i, none⟩ hD (fun e => hvD e.symm)
  · rw [World.frozen?_setCell]
    exact hL.grown.frozen_far ⟨D, i, none⟩ hD (fun e => hvD e.symm)
end Go.Proofs.YtkclcjnfjielfabDoor
