/- What came in: values as deep as they are; a script's steps. -/
import Derived.Test.YtfcpmiafliegiaaDoorM19b
namespace Go.Proofs.YtfcpmiafliegiaaDoor
open Go.RowKit

/-- A list of values in memory, however deep. -/
inductive LiesV (w : World) : Value → Prop
  | nil (a : Option Addr) (c : Nat) : LiesV w (.slice a 0 c)
  | row (g o n c : Nat) (hg : g < w.heap.size) (hn : n ≤ 9223372036854775807) (k m : Nat → Int) (t : Nat → ByteArray) (v : Nat → Value)
      (hc : ∀ i, i < n → w.cell? ⟨g, o + i * 4, none⟩ = some (.int .i64 (k i)) ∧ w.cell? ⟨g, o + i * 4 + 1, none⟩ = some (.int .i64 (m i)) ∧ w.cell? ⟨g, o + i * 4 + 2, none⟩ = some (.string (t i)) ∧ w.cell? ⟨g, o + i * 4 + 3, none⟩ = some (v i))
      (hv : ∀ i, i < n → LiesV w (v i)) : LiesV w (.slice (some ⟨g, o, none⟩) n c)
theorem LiesV.shape {w : World} {v : Value} (h : LiesV w v) : ∃ a n c, v = .slice a n c := by
  cases h with
  | nil a c => exact ⟨_, _, _, rfl⟩
  | row g o n c => exact ⟨_, _, _, rfl⟩
theorem LiesV.on {w w' : World} {v : Value} (h : LiesV w v) (hb : Below w.heap.size w w') : LiesV w' v := by
  induction h with
  | nil a c => exact .nil a c
  | row g o n c hg hn k m t v hc hv ih =>
    refine .row g o n c (Nat.lt_of_lt_of_le hg hb.size) hn k m t v (fun i hi => ?_) (fun i hi => ih i hi)
    obtain ⟨h0, h1, h2, h3⟩ := hc i hi
    exact ⟨by rw [hb.cell (p := ⟨g, o + i * 4, none⟩) hg]; exact h0, by rw [hb.cell (p := ⟨g, o + i * 4 + 1, none⟩) hg]; exact h1, by rw [hb.cell (p := ⟨g, o + i * 4 + 2, none⟩) hg]; exact h2, by rw [hb.cell (p := ⟨g, o + i * 4 + 3, none⟩) hg]; exact h3⟩
def ValOut (w : World) (e : Ending) (w' : World) : Prop := ∃ z : Int, e = .returned (.int .i64 z) ∧ Below w.heap.size w w'
set_option maxRecDepth 20000 in
set_option maxHeartbeats 2000000 in
theorem values_any {W : World} {kv : Value} (hl : LiesV W kv) : ∀ (k m n : Int) (t : ByteArray) (w : World), Below W.heap.size W w →
    Calls Tryd.prog 17 #[.agg #[.int .i64 k, .int .i64 m, .string t, kv], .int .i64 n] w (ValOut w) := by
  induction hl with
  | nil a c =>
    intro k m n t w hw
    have b0 : Below w.heap.size w (w.alloc (.cells #[.int .i64 k, .int .i64 m, .string t, .slice a 0 c] 64)) := (Below.refl _ _).alloc (Nat.le_refl _) _
    have B0 := Lib.hid b0
    clear b0 hw
    go_enter Tryd.func17, Tryd.ntmps17
    go_wp2_with fail
    go_loopw [1, 5] (fun x i wr => ∃ (z : Int), x = .int .i64 z ∧ i = .int .i64 0 ∧ wr = w.alloc (.cells #[.int .i64 k, .int .i64 m, .string t, .slice a 0 c] 64)) (fun _ _ _ => 0)
    case atStart => exact ⟨_, rfl, rfl, rfl⟩
    case round =>
      obtain ⟨z, rfl, rfl, rfl⟩ := hrel
      go_wp2_with fail
      go_ret
      exact ⟨_, rfl, B0.out⟩
  | row g o n c hg hn kk mm tt vv hc hv ih =>
    intro k m N t w hw
    obtain ⟨Y, hY⟩ : ∃ Y, w.alloc (.cells #[.int .i64 k, .int .i64 m, .string t, .slice (some ⟨g, o, none⟩) n c] 64) = Y := ⟨_, rfl⟩
    have b0 : Below w.heap.size w Y := by rw [← hY]; exact (Below.refl _ _).alloc (Nat.le_refl _) _
    have yB : Y.heap[w.heap.size]? = some (.cells #[.int .i64 k, .int .i64 m, .string t, .slice (some ⟨g, o, none⟩) n c] 64 (0, 0)) := by rw [← hY]; exact heap_new _ _
    have HX : Hid (∀ X, Below Y.heap.size Y X → X.cell? ⟨w.heap.size, 3, none⟩ = some (.slice (some ⟨g, o, none⟩) n c) ∧ ∀ i, i < n → X.cell? ⟨g, o + i * 4, none⟩ = some (.int .i64 (kk i)) ∧ X.cell? ⟨g, o + i * 4 + 1, none⟩ = some (.int .i64 (mm i)) ∧ X.cell? ⟨g, o + i * 4 + 2, none⟩ = some (.string (tt i)) ∧ X.cell? ⟨g, o + i * 4 + 3, none⟩ = some (vv i)) := Lib.hid (fun X hX => by
      have bX : Below W.heap.size W X := (hw.trans (b0.mono hw.size)).trans (hX.mono (Nat.le_trans hw.size b0.size))
      refine ⟨?_, fun i hi => ?_⟩
      · have : X.heap[w.heap.size]? = some (.cells #[.int .i64 k, .int .i64 m, .string t, .slice (some ⟨g, o, none⟩) n c] 64 (0, 0)) := by rw [hX.block _ (lt_of_heap yB)]; exact yB
        exact cell_of this 3
      · obtain ⟨h0, h1, h2, h3⟩ := hc i hi
        exact ⟨by rw [bX.cell (p := ⟨g, o + i * 4, none⟩) hg]; exact h0, by rw [bX.cell (p := ⟨g, o + i * 4 + 1, none⟩) hg]; exact h1, by rw [bX.cell (p := ⟨g, o + i * 4 + 2, none⟩) hg]; exact h2, by rw [bX.cell (p := ⟨g, o + i * 4 + 3, none⟩) hg]; exact h3⟩)
    have HI : Hid (∀ i, i < n → ∀ (z : Int) X, Below Y.heap.size Y X → Calls Tryd.prog 17 #[.agg #[.int .i64 (kk i), .int .i64 (mm i), .string (tt i), vv i], .int .i64 z] X (ValOut X)) := Lib.hid (fun i hi z X hX => ih i hi (kk i) (mm i) z (tt i) X ((hw.trans (b0.mono hw.size)).trans (hX.mono (Nat.le_trans hw.size b0.size))))
    have HS : Hid (∀ i, i < n → ∃ a b d, vv i = .slice a b d) := Lib.hid (fun i hi => (hv i hi).shape)
    have B0 := Lib.hid b0
    have HY := Lib.hid hY
    have HNN := Lib.hid hn
    clear hY b0 yB hw hc hv ih hg hn
    go_enter Tryd.func17, Tryd.ntmps17
    go_upto_region 1 with fail
    rw [HY.out]
    clear HY
    go_wp2_with fail
    go_loopw [1, 5] (fun x i wr => ∃ (z : Int) (j : Nat) (X : World), X = wr ∧ x = .int .i64 z ∧ i = .int .i64 j ∧ j ≤ n ∧ Below Y.heap.size Y X) (fun _ i _ => n - (intOf i).toNat)
    case atStart => exact ⟨_, 0, Y, rfl, rfl, rfl, Nat.zero_le _, Below.refl _ _⟩
    case round =>
      obtain ⟨z, j, X, rfl, rfl, rfl, hj, hbX⟩ := hrel
      obtain ⟨c3, hcc⟩ := HX.out _ hbX
      have HB := Lib.hid hbX
      clear hbX
      by_cases hlt : j < n
      · have hlti : (j : Int) < (n : Int) := by omega
        have hjb : (n : Int) ≤ 9223372036854775807 := by have := HNN.out; omega
        obtain ⟨d0, d1, d2, d3⟩ := hcc j hlt
        clear hcc
        obtain ⟨va, vb, vc, hs⟩ := HS.out j hlt
        have HC := Lib.hid (HI.out j hlt z _ HB.out)
        rw [hs] at d3 HC
        clear hs
        by_cases hz : z ≤ 4000
        · go_wp2_with (go_at_call 17; refine HC.out.mono ?_; rintro e w3 ⟨z3, rfl, hb3⟩; have HB3 := Lib.hid hb3; clear hb3)
          go_roundw
          case rel => exact ⟨_, j + 1, _, rfl, rfl, by go_num, by omega, HB.out.trans (HB3.out.mono HB.out.size)⟩
          case measure => simp [intOf]; omega
        · go_wp2_with fail
          go_ret
          exact ⟨_, rfl, B0.out.trans (HB.out.mono B0.out.size)⟩
      · clear hcc
        have hlti : ¬ (j : Int) < (n : Int) := by omega
        go_wp2_with fail
        go_ret
        exact ⟨_, rfl, B0.out.trans (HB.out.mono B0.out.size)⟩
end Go.Proofs.YtfcpmiafliegiaaDoor
