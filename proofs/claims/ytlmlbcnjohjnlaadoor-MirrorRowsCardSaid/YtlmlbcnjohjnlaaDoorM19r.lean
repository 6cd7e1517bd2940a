/- What came in: values as deep as they are; a script's steps. -/
import Derived.Test.YtlmlbcnjohjnlaaDoorM19b
namespace Go.Proofs.YtlmlbcnjohjnlaaDoor
open Go.RowKit

/-- A list of values in memory, however deep. -/
inductive LiesV (w : World) : Value → Prop
  | nil (a : Option Addr) (c : Nat) : LiesV w (.slice a 0 c)
  | row (g o n c : Nat) (hg : g < w.heap.size) (hn : n ≤ 9223372036854775807) (k m : Nat → Int) (t : Nat → ByteArray) (v : Nat → Value)
      (hc : ∀ i, i < n → w.cell? ⟨g, o + i * 4, none⟩ = some (.int .i64 (k i)) ∧ w.cell? ⟨g, o + i * 4 + 1, none⟩ = some (.int .i64 (m i)) ∧ w.cell? ⟨g, o + i * 4 + 2, none⟩ = some (.string (t i)) ∧ w.cell? ⟨g, o + i * 4 + 3, none⟩ = some (v i))
      (hv : ∀ i, i < n → LiesV w (v i)) : LiesV w (.slice (some ⟨g, o, none⟩) n c)
theorem LiesV.shape {w : World} {v : Value} (h : LiesV w v) : ∃ a n c, v = .slice a n c := by
  cases h with
  | nil a c => exact ⟨_, _, _, rfl⟩
  | row g o n c => exact ⟨_, _, _, rfl⟩
theorem LiesV.on {w w' : World} {v : Value} (h : LiesV w v) (hb : Below w.heap.size w w') : LiesV w' v := by
  induction h with
  | nil a c => exact .nil a c
  | row g o n c hg hn k m t v hc hv ih =>
    refine .row g o n c (Nat.lt_of_lt_of_le hg hb.size) hn k m t v (fun i hi => ?_) (fun i hi => ih i hi)
    obtain ⟨h0, h1, h2, h3⟩ := hc i hi
    exact ⟨by rw [hb.cell (p := ⟨g, o + i * 4, none⟩) hg]; exact h0, by rw [hb.cell (p := ⟨g, o + i * 4 + 1, none⟩) hg]; exact h1, by rw [hb.cell (p := ⟨g, o + i * 4 + 2, none⟩) hg]; exact h2, by rw [hb.cell (p := ⟨g, o + i * 4 + 3, none⟩) hg]; exact h3⟩
end Go.Proofs.YtlmlbcnjohjnlaaDoor

/- What came in: a script; long. -/
namespace Go.Proofs.YtlmlbcnjohjnlaaDoor
open Go.RowKit

/-- A list of things of size z in memory, of each of which Pr holds. -/
def RowOf (W : World) (z : Nat) (Pr : List Value → Prop) (v : Value) : Prop := ∃ a n c, v = .slice a n c ∧ n ≤ 9223372036854775807 ∧ (0 < n → ∃ g o, a = some ⟨g, o, none⟩ ∧ g < W.heap.size ∧ ∀ i, i < n → ∃ cs : List Value, cs.length = z ∧ Pr cs ∧ W.rangeAt g (o + i * z) cs)
/-- A datum's cells. -/
def DatC (W : World) (cs : List Value) : Prop := ∃ s k m t kv, cs = [.string s, .int .i64 k, .int .i64 m, .string t, kv] ∧ LiesV W kv
def SliC (cs : List Value) : Prop := ∃ a n c, cs = [.slice a n c]
/-- A step's cells. -/
structure StC (W : World) (cs : List Value) : Prop where
  len : cs.length = 74
  one : ∀ v ∈ cs, v.oneCell' = true
  set : ∃ a n c, cs[11]? = some (.slice a n c)
  args : ∃ a n c, cs[55]? = some (.slice a n c)
  data : ∃ v, cs[61]? = some v ∧ RowOf W 5 (DatC W) v
  uids : ∃ a n c, cs[71]? = some (.slice a n c)
  flags : ∃ v, cs[72]? = some v ∧ RowOf W 1 SliC v
  known : ∃ a n c, cs[73]? = some (.slice a n c)
  kind : ∃ k, cs[51]? = some (.int .i64 k)
  num : ∃ k, cs[57]? = some (.int .i64 k)
theorem range_on {W X : World} {g o : Nat} {cs : List Value} (h : W.rangeAt g o cs) (hb : Below W.heap.size W X) (hg : g < W.heap.size) : X.rangeAt g o cs := by
  intro j u hj
  have := h j u hj
  rw [hb.cell (p := ⟨g, o + j, none⟩) hg]
  exact this
def stZ : Array Value := #[.int .i64 0, .int .i64 0, .string ⟨#[]⟩, .int .i64 0, .bool false, .string ⟨#[]⟩, .string ⟨#[]⟩, .string ⟨#[]⟩, .string ⟨#[]⟩, .string ⟨#[]⟩, .string ⟨#[]⟩, .slice none 0 0, .slice none 0 0, .int .i64 0, .bool false, .slice none 0 0, .bool false, .string ⟨#[]⟩, .bool false, .string ⟨#[]⟩, .bool false, .int .i64 0, .string ⟨#[]⟩, .string ⟨#[]⟩, .slice none 0 0, .int .i64 0, .int .i64 0, .int .i64 0, .int .i64 0, .int .i64 0, .int .i64 0, .int .i64 0, .int .i64 0, .slice none 0 0, .bool false, .string ⟨#[]⟩, .slice none 0 0, .int .i64 0, .slice none 0 0, .bool false, .bool false, .int .i64 0, .int .i64 0, .int .i64 0, .int .i64 0, .int .i64 0, .int .i64 0, .int .i64 0, .string ⟨#[]⟩, .slice none 0 0, .slice none 0 0, .int .i64 0, .string ⟨#[]⟩, .int .i64 0, .int .i64 0, .slice none 0 0, .string ⟨#[]⟩, .int .i64 0, .string ⟨#[]⟩, .slice none 0 0, .slice none 0 0, .slice none 0 0, .slice none 0 0, .slice none 0 0, .slice none 0 0, .bool false, .int .i64 0, .bool false, .int .i64 0, .int .i64 0, .int .i64 0, .slice none 0 0, .slice none 0 0, .slice none 0 0]
theorem Tryd.sizeSt : (Tryd.prog.info? 49).map (·.size) = some 74 := by kernel_rfl
theorem Tryd.sizeVa : (Tryd.prog.info? 64).map (·.size) = some 4 := by kernel_rfl
end Go.Proofs.YtlmlbcnjohjnlaaDoor

/- What came in: values counted, and how many a list then has. -/
namespace Go.Proofs.YtlmlbcnjohjnlaaDoor
open Go.RowKit

/-- How many things a list has. -/
def lenV : Value → Nat
  | .slice _ n _ => n
  | _ => 0
def ValB (kv : Value) (n : Int) (w : World) (e : Ending) (w' : World) : Prop := ∃ z : Int, e = .returned (.int .i64 z) ∧ Below w.heap.size w w' ∧ n + 1 ≤ z ∧ (z ≤ n + 1 ∨ z ≤ 4001) ∧ (z ≤ 4000 → n + 1 + (lenV kv : Int) ≤ z)
set_option maxRecDepth 20000 in
set_option maxHeartbeats 2000000 in
theorem values_b {W : World} {kv : Value} (hl : LiesV W kv) : ∀ (k m n : Int) (t : ByteArray) (w : World), Below W.heap.size W w → 0 ≤ n → n ≤ 1000000 →
    Calls Tryd.prog 17 #[.agg #[.int .i64 k, .int .i64 m, .string t, kv], .int .i64 n] w (ValB kv n w) := by
  induction hl with
  | nil a c =>
    intro k m n t w hw hn0 hn1
    have b0 : Below w.heap.size w (w.alloc (.cells #[.int .i64 k, .int .i64 m, .string t, .slice a 0 c] 64)) := (Below.refl _ _).alloc (Nat.le_refl _) _
    have B0 := Lib.hid b0
    clear b0 hw
    go_enter Tryd.func17, Tryd.ntmps17
    go_wp2_with fail
    go_loopw [1, 5] (fun x i wr => x = .int .i64 (n + 1) ∧ i = .int .i64 0 ∧ wr = w.alloc (.cells #[.int .i64 k, .int .i64 m, .string t, .slice a 0 c] 64)) (fun _ _ _ => 0)
    case atStart => exact ⟨by go_num, rfl, rfl⟩
    case round =>
      obtain ⟨rfl, rfl, rfl⟩ := hrel
      go_wp2_with fail
      go_ret
      exact ⟨_, rfl, B0.out, by omega, by omega, fun _ => by simp [lenV]⟩
  | row g o n c hg hn kk mm tt vv hc hv ih =>
    intro k m N t w hw hN0 hN1
    obtain ⟨Y, hY⟩ : ∃ Y, w.alloc (.cells #[.int .i64 k, .int .i64 m, .string t, .slice (some ⟨g, o, none⟩) n c] 64) = Y := ⟨_, rfl⟩
    have b0 : Below w.heap.size w Y := by rw [← hY]; exact (Below.refl _ _).alloc (Nat.le_refl _) _
    have yB : Y.heap[w.heap.size]? = some (.cells #[.int .i64 k, .int .i64 m, .string t, .slice (some ⟨g, o, none⟩) n c] 64 (0, 0)) := by rw [← hY]; exact heap_new _ _
    have HX : Hid (∀ X, Below Y.heap.size Y X → X.cell? ⟨w.heap.size, 3, none⟩ = some (.slice (some ⟨g, o, none⟩) n c) ∧ ∀ i, i < n → X.cell? ⟨g, o + i * 4, none⟩ = some (.int .i64 (kk i)) ∧ X.cell? ⟨g, o + i * 4 + 1, none⟩ = some (.int .i64 (mm i)) ∧ X.cell? ⟨g, o + i * 4 + 2, none⟩ = some (.string (tt i)) ∧ X.cell? ⟨g, o + i * 4 + 3, none⟩ = some (vv i)) := Lib.hid (fun X hX => by
      have bX : Below W.heap.size W X := (hw.trans (b0.mono hw.size)).trans (hX.mono (Nat.le_trans hw.size b0.size))
      refine ⟨?_, fun i hi => ?_⟩
      · have : X.heap[w.heap.size]? = some (.cells #[.int .i64 k, .int .i64 m, .string t, .slice (some ⟨g, o, none⟩) n c] 64 (0, 0)) := by rw [hX.block _ (lt_of_heap yB)]; exact yB
        exact cell_of this 3
      · obtain ⟨h0, h1, h2, h3⟩ := hc i hi
        exact ⟨by rw [bX.cell (p := ⟨g, o + i * 4, none⟩) hg]; exact h0, by rw [bX.cell (p := ⟨g, o + i * 4 + 1, none⟩) hg]; exact h1, by rw [bX.cell (p := ⟨g, o + i * 4 + 2, none⟩) hg]; exact h2, by rw [bX.cell (p := ⟨g, o + i * 4 + 3, none⟩) hg]; exact h3⟩)
    have HI : Hid (∀ i, i < n → ∀ (z : Int) X, Below Y.heap.size Y X → 0 ≤ z → z ≤ 1000000 → Calls Tryd.prog 17 #[.agg #[.int .i64 (kk i), .int .i64 (mm i), .string (tt i), vv i], .int .i64 z] X (ValB (vv i) z X)) := Lib.hid (fun i hi z X hX hz0 hz1 => ih i hi (kk i) (mm i) z (tt i) X ((hw.trans (b0.mono hw.size)).trans (hX.mono (Nat.le_trans hw.size b0.size))) hz0 hz1)
    have HS : Hid (∀ i, i < n → ∃ a b d, vv i = .slice a b d) := Lib.hid (fun i hi => (hv i hi).shape)
    have B0 := Lib.hid b0
    have HY := Lib.hid hY
    have HNN := Lib.hid hn
    clear hY b0 yB hw hc hv ih hg hn
    go_enter Tryd.func17, Tryd.ntmps17
    go_upto_region 1 with fail
    rw [HY.out]
    clear HY
    go_wp2_with fail
    go_loopw [1, 5] (fun x i wr => ∃ (z : Int) (j : Nat) (X : World), X = wr ∧ x = .int .i64 z ∧ i = .int .i64 j ∧ j ≤ n ∧ Below Y.heap.size Y X ∧ N + 1 + j ≤ z ∧ (z ≤ N + 1 ∨ z ≤ 4001)) (fun _ i _ => n - (intOf i).toNat)
    case atStart => exact ⟨N + 1, 0, Y, rfl, by go_num, rfl, Nat.zero_le _, Below.refl _ _, by omega, by omega⟩
    case round =>
      obtain ⟨z, j, X, rfl, rfl, rfl, hj, hbX, hz1, hz2⟩ := hrel
      obtain ⟨c3, hcc⟩ := HX.out _ hbX
      have HB := Lib.hid hbX
      clear hbX
      by_cases hlt : j < n
      · have hlti : (j : Int) < (n : Int) := by omega
        have hjb : (n : Int) ≤ 9223372036854775807 := by have := HNN.out; omega
        obtain ⟨d0, d1, d2, d3⟩ := hcc j hlt
        clear hcc
        obtain ⟨va, vb, vc, hs⟩ := HS.out j hlt
        by_cases hz : z ≤ 4000
        · have HC := Lib.hid (HI.out j hlt z _ HB.out (by omega) (by omega))
          rw [hs] at d3 HC
          clear hs
          go_wp2_with (go_at_call 17; refine HC.out.mono ?_; rintro e w3 ⟨z3, rfl, hb3, hz3, hz4, _⟩; have HB3 := Lib.hid hb3; clear hb3)
          go_roundw
          case rel => exact ⟨_, j + 1, _, rfl, rfl, by go_num, by omega, HB.out.trans (HB3.out.mono HB.out.size), by omega, by omega⟩
          case measure => simp [intOf]; omega
        · rw [hs] at d3
          clear hs
          go_wp2_with fail
          go_ret
          exact ⟨_, rfl, B0.out.trans (HB.out.mono B0.out.size), by omega, by omega, fun h => by omega⟩
      · clear hcc
        have hlti : ¬ (j : Int) < (n : Int) := by omega
        go_wp2_with fail
        go_ret
        exact ⟨_, rfl, B0.out.trans (HB.out.mono B0.out.size), by omega, by omega, fun _ => by show N + 1 + (n : Int) ≤ z; omega⟩
end Go.Proofs.YtlmlbcnjohjnlaaDoor

/- What came in: a script, counted: long, and what is small if it is not. -/
namespace Go.Proofs.YtlmlbcnjohjnlaaDoor
open Go.RowKit

/-- A list of things of size z in memory, of each of which Pr holds: no longer than memory is. -/
def RowB (W : World) (z : Nat) (Pr : List Value → Prop) (v : Value) : Prop := ∃ a n c, v = .slice a n c ∧ n ≤ 140737488355328 ∧ (0 < n → ∃ g o, a = some ⟨g, o, none⟩ ∧ g < W.heap.size ∧ ∀ i, i < n → ∃ cs : List Value, cs.length = z ∧ Pr cs ∧ W.rangeAt g (o + i * z) cs)
theorem RowB.row {W : World} {z : Nat} {Pr : List Value → Prop} {v : Value} (h : RowB W z Pr v) : RowOf W z Pr v := by
  obtain ⟨a, n, c, rfl, hn, h⟩ := h
  exact ⟨a, n, c, rfl, by omega, h⟩
def SliB (cs : List Value) : Prop := ∃ a n c, cs = [.slice a n c] ∧ n ≤ 140737488355328
/-- A step's cells. -/
structure StB (W : World) (cs : List Value) : Prop where
  len : cs.length = 74
  one : ∀ v ∈ cs, v.oneCell' = true
  set : ∃ a n c, cs[11]? = some (.slice a n c) ∧ n ≤ 140737488355328
  args : ∃ a n c, cs[55]? = some (.slice a n c) ∧ n ≤ 140737488355328
  data : ∃ v, cs[61]? = some v ∧ RowB W 5 (DatC W) v
  uids : ∃ a n c, cs[71]? = some (.slice a n c) ∧ n ≤ 140737488355328
  flags : ∃ v, cs[72]? = some v ∧ RowB W 1 SliB v
  known : ∃ a n c, cs[73]? = some (.slice a n c) ∧ n ≤ 140737488355328
  kind : ∃ k, cs[51]? = some (.int .i64 k)
  num : ∃ k, cs[57]? = some (.int .i64 k)
/-- A step's lists are short. -/
structure Small (W : World) (cs : List Value) : Prop where
  set : ∀ v, cs[11]? = some v → lenV v ≤ 4000
  args : ∀ v, cs[55]? = some v → lenV v ≤ 4000
  data : ∀ v, cs[61]? = some v → lenV v ≤ 4000
  uids : ∀ v, cs[71]? = some v → lenV v ≤ 4000
  flags : ∀ v, cs[72]? = some v → lenV v ≤ 4000
  known : ∀ v, cs[73]? = some v → lenV v ≤ 4000
  kids : ∀ g o n c, cs[61]? = some (.slice (some ⟨g, o, none⟩) n c) → ∀ i, i < n → ∀ v, W.cell? ⟨g, o + i * 5 + 4, none⟩ = some v → lenV v ≤ 4000
  texts : ∀ g o n c, cs[72]? = some (.slice (some ⟨g, o, none⟩) n c) → ∀ i, i < n → ∀ v, W.cell? ⟨g, o + i, none⟩ = some v → lenV v ≤ 4000
/-- Every step is small. -/
def AllSm (W : World) (v : Value) (m : Nat) : Prop := ∀ g o n c, v = .slice (some ⟨g, o, none⟩) n c → ∀ i, i < m → ∀ cs : List Value, cs.length = 74 → W.rangeAt g (o + i * 74) cs → Small W cs
theorem range_one {W : World} {g o : Nat} {cs ds : List Value} (hl : cs.length = ds.length) (h1 : W.rangeAt g o cs) (h2 : W.rangeAt g o ds) : cs = ds := by
  apply List.ext_getElem hl
  intro i h3 h4
  have a := h1 i _ (List.getElem?_eq_getElem h3)
  have b := h2 i _ (List.getElem?_eq_getElem h4)
  rw [a] at b
  injection b
def LongB (W : World) (v : Value) (w : World) (e : Ending) (w' : World) : Prop := ∃ b : Bool, e = .returned (.bool b) ∧ Below w.heap.size w w' ∧ (b = false → lenV v ≤ 150 ∧ AllSm W v (lenV v))
set_option maxRecDepth 20000 in
set_option maxHeartbeats 4000000 in
theorem long_b (W w : World) (v : Value) (hv : RowB W 74 (StB W) v) (hw : Below W.heap.size W w) :
    Calls Tryd.prog 6 #[v] w (LongB W v w) := by
  obtain ⟨a, N, c, rfl, hN, hrow⟩ := hv
  by_cases hbig : (150 : Int) < (N : Int)
  · have b0 := Lib.hid (Below.refl w.heap.size w)
    clear hrow hw
    go_enter Tryd.func6, Tryd.ntmps6
    go_wp2_with fail
    go_ret
    exact ⟨true, rfl, b0.out, fun h => by cases h⟩
  · have HN : Hid (N ≤ 150) := Lib.hid (by omega)
    have HR := Lib.hid hrow
    have HW := Lib.hid hw
    clear hrow hw hN
    go_enter Tryd.func6, Tryd.ntmps6
    go_wp2_with fail
    go_loopw [3, 4] (fun n i wr => ∃ (z : Int) (j : Nat) (X : World), X = wr ∧ n = .int .i64 z ∧ i = .int .i64 j ∧ j ≤ N ∧ Below w.heap.size w X ∧ 0 ≤ z ∧ z ≤ 4000 ∧ AllSm W (.slice a N c) j) (fun _ i _ => N - (intOf i).toNat)
    case atStart => exact ⟨0, 0, w, rfl, rfl, rfl, Nat.zero_le _, Below.refl _ _, by omega, by omega, fun _ _ _ _ _ i hi => absurd hi (Nat.not_lt_zero i)⟩
    case round =>
      obtain ⟨z, j, X, rfl, rfl, rfl, hj, hbX, hz0, hz1, hsm⟩ := hrel
      have HB := Lib.hid hbX
      have HSm := Lib.hid hsm
      clear hbX hsm
      by_cases hlt : j < N
      · have hlti : (j : Int) < (N : Int) := by omega
        have hjb : (N : Int) ≤ 9223372036854775807 := by have := HN.out; omega
        obtain ⟨g, o, rfl, hg, hall⟩ := HR.out (by omega)
        obtain ⟨cs, hlen, hst, hrg⟩ := hall j hlt
        have bWX : Below W.heap.size W X := HW.out.trans (HB.out.mono HW.out.size)
        have HRG := Lib.hid (range_on hrg bWX hg)
        obtain ⟨Y, hY⟩ : ∃ Y, (X.alloc (.cells stZ 49)).setRow X.heap.size cs.toArray = Y := ⟨_, rfl⟩
        obtain ⟨bY, rY⟩ := box_below hY
        have hc : ∀ i u, cs[i]? = some u → Y.cell? ⟨X.heap.size, i, none⟩ = some u := fun i u h => by rw [cell_of rY]; simpa using h
        obtain ⟨sa, sn, sc, hs, hsB⟩ := hst.set
        obtain ⟨aa, an, ac, ha, haB⟩ := hst.args
        obtain ⟨dv, hdv, da, dn, dc, rfl, hdn, hdat⟩ := hst.data
        obtain ⟨ua, un, uc, hu, huB⟩ := hst.uids
        obtain ⟨fv, hfv, fa, fn, fc, rfl, hfn, hfl⟩ := hst.flags
        obtain ⟨ka, kn, kc, hk, hkB⟩ := hst.known
        obtain ⟨kd, hkd⟩ := hst.kind
        obtain ⟨nm, hnm⟩ := hst.num
        have HC : Hid (∀ X2, Below Y.heap.size Y X2 → X2.cell? ⟨X.heap.size, 11, none⟩ = some (.slice sa sn sc) ∧ X2.cell? ⟨X.heap.size, 55, none⟩ = some (.slice aa an ac) ∧ X2.cell? ⟨X.heap.size, 61, none⟩ = some (.slice da dn dc) ∧ X2.cell? ⟨X.heap.size, 71, none⟩ = some (.slice ua un uc) ∧ X2.cell? ⟨X.heap.size, 72, none⟩ = some (.slice fa fn fc) ∧ X2.cell? ⟨X.heap.size, 73, none⟩ = some (.slice ka kn kc) ∧ X2.cell? ⟨X.heap.size, 51, none⟩ = some (.int .i64 kd) ∧ X2.cell? ⟨X.heap.size, 57, none⟩ = some (.int .i64 nm)) := Lib.hid (fun X2 h2 => by
          have k : ∀ i u, cs[i]? = some u → X2.cell? ⟨X.heap.size, i, none⟩ = some u := fun i u h => by rw [h2.cell (p := ⟨X.heap.size, i, none⟩) (lt_of_heap rY)]; exact hc i u h
          exact ⟨k _ _ hs, k _ _ ha, k _ _ hdv, k _ _ hu, k _ _ hfv, k _ _ hk, k _ _ hkd, k _ _ hnm⟩)
        have HSz : Hid ((Tryd.prog.info? 49).map (·.size) = some cs.toArray.size) := Lib.hid (by rw [Tryd.sizeSt]; simp [hlen])
        have HSl : Hid ((Tryd.prog.info? 49).map (·.size) = some cs.length) := Lib.hid (by rw [Tryd.sizeSt, hlen])
        have HO : Hid (cs.toArray.all (·.oneCell') = true) := Lib.hid (all_oneCell_toArray hst.one)
        have HZc : Hid (stZ.size = cs.toArray.size) := Lib.hid (by simp [hlen, stZ])
        have HBY : Hid (Below w.heap.size w Y) := Lib.hid (HB.out.trans (bY.mono HB.out.size))
        have HD : Hid (∀ X2, Below Y.heap.size Y X2 → 0 < dn → ∃ g o, da = some ⟨g, o, none⟩ ∧ ∀ i, i < dn → ∃ k m t va vn vc, X2.rangeAt g (o + i * 5 + 1) [.int .i64 k, .int .i64 m, .string t, .slice va vn vc] ∧ LiesV W (.slice va vn vc) ∧ W.cell? ⟨g, o + i * 5 + 4, none⟩ = some (.slice va vn vc)) := Lib.hid (fun X2 h2 h0 => by
          obtain ⟨g', o', rfl, hg', hal⟩ := hdat h0
          refine ⟨g', o', rfl, fun i hi => ?_⟩
          obtain ⟨es, _, ⟨s, k, m, t, kv, rfl, hlv⟩, hr⟩ := hal i hi
          have bW2 : Below W.heap.size W X2 := (bWX.trans (bY.mono bWX.size)).trans (h2.mono (Nat.le_trans bWX.size bY.size))
          obtain ⟨va, vn, vc, rfl⟩ := hlv.shape
          refine ⟨k, m, t, va, vn, vc, fun jj u hj => ?_, hlv, hr 4 _ rfl⟩
          have := range_on hr bW2 hg' (jj + 1) u (by simpa using hj)
          rw [show o' + i * 5 + 1 + jj = o' + i * 5 + (jj + 1) from by omega]
          exact this)
        have HV : Hid (∀ X2, Below Y.heap.size Y X2 → Below W.heap.size W X2) := Lib.hid (fun X2 h2 => (bWX.trans (bY.mono bWX.size)).trans (h2.mono (Nat.le_trans bWX.size bY.size)))
        have HF : Hid (∀ X2, Below Y.heap.size Y X2 → 0 < fn → ∃ g o, fa = some ⟨g, o, none⟩ ∧ ∀ i, i < fn → ∃ va vn vc, X2.cell? ⟨g, o + i, none⟩ = some (.slice va vn vc) ∧ W.cell? ⟨g, o + i, none⟩ = some (.slice va vn vc) ∧ vn ≤ 140737488355328) := Lib.hid (fun X2 h2 h0 => by
          obtain ⟨g', o', rfl, hg', hal⟩ := hfl h0
          refine ⟨g', o', rfl, fun i hi => ?_⟩
          obtain ⟨es, _, ⟨va, vn, vc, rfl, hvB⟩, hr⟩ := hal i hi
          have bW2 : Below W.heap.size W X2 := (bWX.trans (bY.mono bWX.size)).trans (h2.mono (Nat.le_trans bWX.size bY.size))
          have := range_on hr bW2 hg' 0 _ rfl
          exact ⟨va, vn, vc, by simpa using this, by have := hr 0 _ rfl; simpa using this, hvB⟩)
        have HY := Lib.hid hY
        have HDN := Lib.hid hdn
        have HFN := Lib.hid hfn
        have HSl11 : Hid (cs[11]? = some (.slice sa sn sc) ∧ cs[55]? = some (.slice aa an ac) ∧ cs[61]? = some (.slice da dn dc) ∧ cs[71]? = some (.slice ua un uc) ∧ cs[72]? = some (.slice fa fn fc) ∧ cs[73]? = some (.slice ka kn kc)) := Lib.hid ⟨hs, ha, hdv, hu, hfv, hk⟩
        have HRW : Hid (cs.length = 74 ∧ W.rangeAt g (o + j * 74) cs) := Lib.hid ⟨hlen, hrg⟩
        clear hY bY rY hc hs ha hdv hdat hu hfv hfl hk hkd hnm hst hlen hrg hall hg bWX HB
        go_upto_region 8 with (first | (refine wpList_load_mid rfl 49 _ rfl g (o + j * 74) rfl cs _ HRG.out Tryd.underlying49 rfl HSl.out ?_) | (refine wpList_store_row rfl 49 _ _ rfl X.heap.size cs.toArray rfl rfl 49 _ (heap_new _ _) HSz.out HZc.out HO.out ?_))
        refine wp_gen (fun Y' hY' => ?_)
        obtain rfl : Y = Y' := (hY'.trans HY.out).symm
        clear hY' HY HRG HO HSz HSl HZc
        obtain ⟨c11, c55, c61, c71, c72, c73, c51, c57⟩ := HC.out Y (Below.refl _ _)
        go_upto_region 11 with fail
        · go_ret
          exact ⟨true, rfl, HBY.out, fun h => by cases h⟩
        clear c11 c55 c61 c71 c72 c73 c51 c57
        go_wp2_with fail
        go_loopw [3, 6] (fun n k wr => ∃ (z : Int) (k1 : Nat) (X2 : World), X2 = wr ∧ n = .int .i64 z ∧ k = .int .i64 k1 ∧ k1 ≤ dn ∧ Below Y.heap.size Y X2 ∧ 0 ≤ z ∧ z ≤ 4000 + k1 ∧ (z ≤ 4000 → Hid (∀ i, i < k1 → ∀ g o n c, Value.slice da dn dc = .slice (some ⟨g, o, none⟩) n c → ∀ v, W.cell? ⟨g, o + i * 5 + 4, none⟩ = some v → lenV v ≤ 4000))) (fun _ k _ => dn - (intOf k).toNat)
        case atStart => exact ⟨_, 0, Y, rfl, by go_num, rfl, Nat.zero_le _, Below.refl _ _, by omega, by omega, fun _ => Lib.hid (fun i hi => absurd hi (Nat.not_lt_zero i))⟩
        case round =>
          obtain ⟨z1, k1, X2, rfl, rfl, rfl, hk1, hb2, hz10, hz11, hKD⟩ := hrel
          have HB2 := Lib.hid hb2
          clear hb2
          obtain ⟨_, _, c61, _, _, _, _, _⟩ := HC.out _ HB2.out
          by_cases hk1l : k1 < dn
          · have hk1i : (k1 : Int) < (dn : Int) := by omega
            have hk1b : (dn : Int) ≤ 9223372036854775807 := by have := HDN.out; omega
            obtain ⟨g', o', rfl, hdall⟩ := HD.out _ HB2.out (by omega)
            obtain ⟨vk, vm, vt, va, vn, vc, hvr, hlv, hvc⟩ := hdall k1 hk1l
            have HVc := Lib.hid hvc
            have HVR := Lib.hid hvr
            have HVC := Lib.hid (values_b hlv vk vm z1 vt X2 (HV.out _ HB2.out) hz10 (by omega))
            clear hdall hvr hlv hvc
            go_wp2_with (first | (refine wpList_load_mid rfl 64 _ rfl g' (o' + k1 * 5 + 1) rfl [.int .i64 vk, .int .i64 vm, .string vt, .slice va vn vc] _ HVR.out Tryd.underlying64 rfl Tryd.sizeVa ?_) | (go_at_call 17; refine HVC.out.mono ?_; rintro e w3 ⟨z3, rfl, hb3, hz3, hz4, hz5⟩; have HB3 := Lib.hid hb3; clear hb3))
            go_roundw
            case rel =>
              refine ⟨_, k1 + 1, _, rfl, rfl, by go_num, by omega, HB2.out.trans (HB3.out.mono HB2.out.size), by omega, by omega, fun h4 => Lib.hid (fun i hi g o n c e v hv => ?_)⟩
              by_cases hik : i < k1
              · exact (hKD (by omega)).out i hik g o n c e v hv
              · obtain rfl : i = k1 := by omega
                injection e with e1 e2 e3
                injection e1 with e1
                injection e1 with e1 e4
                subst e1 e4
                rw [HVc.out] at hv
                injection hv with hv
                subst hv
                have := hz5 h4
                omega
            case measure => simp [intOf]; omega
          · have hk1i : ¬ (k1 : Int) < (dn : Int) := by omega
            go_wp2_with fail
            go_loopw [3, 7] (fun n k wr => ∃ (z : Int) (k2 : Nat), n = .int .i64 z ∧ k = .int .i64 k2 ∧ k2 ≤ fn ∧ wr = X2 ∧ 0 ≤ z ∧ z ≤ 8000 + k2 * 140737488355328 ∧ (z ≤ 4000 → Hid (∀ i, i < dn → ∀ g o n c, Value.slice da dn dc = .slice (some ⟨g, o, none⟩) n c → ∀ v, W.cell? ⟨g, o + i * 5 + 4, none⟩ = some v → lenV v ≤ 4000) ∧ Hid (∀ i, i < k2 → ∀ g o n c, Value.slice fa fn fc = .slice (some ⟨g, o, none⟩) n c → ∀ v, W.cell? ⟨g, o + i, none⟩ = some v → lenV v ≤ 4000))) (fun _ k _ => fn - (intOf k).toNat)
            case atStart => exact ⟨_, 0, rfl, rfl, Nat.zero_le _, rfl, by omega, by omega, fun h => ⟨by have := hKD h; rw [show k1 = dn from by omega] at this; exact this, Lib.hid (fun i hi => absurd hi (Nat.not_lt_zero i))⟩⟩
            case round =>
              obtain ⟨z2, k2, rfl, rfl, hk2, rfl, hz20, hz21, hTX⟩ := hrel
              clear c61
              by_cases hk2l : k2 < fn
              · have hk2i : (k2 : Int) < (fn : Int) := by omega
                have hk2b : (fn : Int) ≤ 9223372036854775807 := by have := HFN.out; omega
                obtain ⟨_, _, _, _, c72, _, _, _⟩ := HC.out _ HB2.out
                obtain ⟨g', o', rfl, hfall⟩ := HF.out _ HB2.out (by omega)
                obtain ⟨va, vn, vc, hfc, hfw, hfB⟩ := hfall k2 hk2l
                have HFw := Lib.hid hfw
                clear hfw
                clear hfall
                go_wp2_with fail
                go_roundw
                case rel =>
                  refine ⟨z2 + vn, k2 + 1, by go_num, by go_num, by omega, trivial, by omega, by omega, fun h4 => ⟨(hTX (by omega)).1, Lib.hid (fun i hi g o n c e v hv => ?_)⟩⟩
                  by_cases hik : i < k2
                  · exact (hTX (by omega)).2.out i hik g o n c e v hv
                  · obtain rfl : i = k2 := by omega
                    injection e with e1 e2 e3
                    injection e1 with e1
                    injection e1 with e1 e4
                    subst e1 e4
                    rw [HFw.out] at hv
                    injection hv with hv
                    subst hv
                    show vn ≤ 4000
                    omega
                case measure => simp [intOf]; omega
              · have hk2i : ¬ (k2 : Int) < (fn : Int) := by omega
                obtain ⟨e11, e55, e61, e71, e72, e73, e51, e57⟩ := HC.out _ HB2.out
                have HFin : Hid (z2 ≤ 4000 → AllSm W (.slice (some ⟨g, o, none⟩) N c) (j + 1)) := Lib.hid (fun h4 => by
                  have hkd := (hTX h4).1.out
                  have htx := (hTX h4).2.out
                  intro g' o' n' c' e i hi ds hl hr
                  injection e with e1 e2 e3
                  injection e1 with e1
                  injection e1 with e1 e4
                  subst e1 e4
                  by_cases hij : i < j
                  · exact HSm.out g o N c rfl i hij ds hl hr
                  · obtain rfl : i = j := by omega
                    obtain ⟨hl2, hr2⟩ := HRW.out
                    obtain rfl := range_one (hl.trans hl2.symm) hr hr2
                    obtain ⟨q1, q2, q3, q4, q5, q6⟩ := HSl11.out
                    refine ⟨fun v h => ?_, fun v h => ?_, fun v h => ?_, fun v h => ?_, fun v h => ?_, fun v h => ?_, fun g o n c h i hi v hv => ?_, fun g o n c h i hi v hv => ?_⟩
                    · rw [q1] at h; injection h with h; subst h; show sn ≤ 4000; omega
                    · rw [q2] at h; injection h with h; subst h; show an ≤ 4000; omega
                    · rw [q3] at h; injection h with h; subst h; show dn ≤ 4000; omega
                    · rw [q4] at h; injection h with h; subst h; show un ≤ 4000; omega
                    · rw [q5] at h; injection h with h; subst h; show fn ≤ 4000; omega
                    · rw [q6] at h; injection h with h; subst h; show kn ≤ 4000; omega
                    · rw [q3] at h; injection h with h
                      have hn : dn = n := by injection h
                      exact hkd i (by omega) g o n c h v hv
                    · rw [q5] at h; injection h with h
                      have hn : fn = n := by injection h
                      exact htx i (by omega) g o n c h v hv)
                by_cases h11 : kd = 11
                · have d1 : (kd == 11) = true := by simp [h11]
                  by_cases h3 : (300 : Int) < nm
                  · have d2 : decide ((300 : Int) < nm) = true := by simpa using h3
                    by_cases h26 : nm ≤ (262144 : Int)
                    · have d3 : decide (nm ≤ (262144 : Int)) = true := by simpa using h26
                      go_wp2_with fail
                      · go_ret
                        exact ⟨_, rfl, HBY.out.trans (HB2.out.mono HBY.out.size), fun h => by cases h⟩
                      · go_roundw
                        case rel => exact ⟨_, j + 1, _, rfl, rfl, by go_num, by omega, HBY.out.trans (HB2.out.mono HBY.out.size), by omega, by omega, HFin.out (by omega)⟩
                        case measure => simp [intOf]; omega
                    · have d3 : decide (nm ≤ (262144 : Int)) = false := by simpa using h26
                      go_wp2_with fail
                      · go_ret
                        exact ⟨_, rfl, HBY.out.trans (HB2.out.mono HBY.out.size), fun h => by cases h⟩
                      · go_roundw
                        case rel => exact ⟨_, j + 1, _, rfl, rfl, by go_num, by omega, HBY.out.trans (HB2.out.mono HBY.out.size), by omega, by omega, HFin.out (by omega)⟩
                        case measure => simp [intOf]; omega
                  · have d2 : decide ((300 : Int) < nm) = false := by simpa using h3
                    go_wp2_with fail
                    · go_ret
                      exact ⟨_, rfl, HBY.out.trans (HB2.out.mono HBY.out.size), fun h => by cases h⟩
                    · go_roundw
                      case rel => exact ⟨_, j + 1, _, rfl, rfl, by go_num, by omega, HBY.out.trans (HB2.out.mono HBY.out.size), by omega, by omega, HFin.out (by omega)⟩
                      case measure => simp [intOf]; omega
                · have d1 : (kd == 11) = false := by simp [h11]
                  go_wp2_with fail
                  · go_ret
                    exact ⟨_, rfl, HBY.out.trans (HB2.out.mono HBY.out.size), fun h => by cases h⟩
                  · go_roundw
                    case rel => exact ⟨_, j + 1, _, rfl, rfl, by go_num, by omega, HBY.out.trans (HB2.out.mono HBY.out.size), by omega, by omega, HFin.out (by omega)⟩
                    case measure => simp [intOf]; omega
      · have hlti : ¬ (j : Int) < (N : Int) := by omega
        go_wp2_with fail
        go_ret
        exact ⟨_, rfl, HB.out, fun _ => ⟨HN.out, by have := HSm.out; rw [show j = N from by omega] at this; exact this⟩⟩
end Go.Proofs.YtlmlbcnjohjnlaaDoor
