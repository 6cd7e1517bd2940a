/- disk: Names. -/
import Derived.Test.YtbnicjpkfldcdaaDoorD9zb
import Derived.Test.YtbnicjpkfldcdaaDoorSx
import Derived.Sort.OwnSorted
namespace Go.Proofs.YtbnicjpkfldcdaaDoor
open Go.RowKit Go.Lib Go.Sort
open Go.ChangeMaps (setBlock)

theorem Tryd.infoStr : (Tryd.prog.info? 9).map (fun i => (i.zero, i.size, i.bytes)) = some (some (.string ⟨#[]⟩), 1, 16) := by kernel_rfl
def nmC (vis : List FE) : List (List UInt8) := vis.map fun f => L f.name
theorem enc_nm (n : ByteArray) : encStr (L n) = .string n := congrArg Value.string (S_L n)
/-- Names, in the middle of its loop. -/
structure Naming (w : World) (m clk r : Nat) (F vis : List FE) (v : Value) (X : World) : Prop where
  iter : X.heap[r]? = some (.mapIter (some m) clk (vis.map FE.born).toArray clk)
  row : X.ownsRow w.heap.size 9 1 v vis.length ((nmC vis).map encStr)
  vr : v.ownBlock ≠ some r
  sub : ∀ f, f ∈ vis → f ∈ F
  nd : (vis.map FE.born).Nodup
  below : Below w.heap.size w X
  rlo : w.heap.size ≤ r
theorem born_inj {F : List FE} (hn : (F.map FE.born).Nodup) {f g : FE} (hf : f ∈ F) (hg : g ∈ F) (e : f.born = g.born) : f = g := by
  induction F with
  | nil => cases hf
  | cons x F ih =>
    rw [List.map_cons, List.nodup_cons] at hn
    rcases List.mem_cons.1 hf with e1 | hf1
    · rcases List.mem_cons.1 hg with e2 | hg1
      · rw [e1, e2]
      · exact absurd (List.mem_map.2 ⟨g, hg1, by rw [← e, e1]⟩) hn.1
    · rcases List.mem_cons.1 hg with e2 | hg1
      · exact absurd (List.mem_map.2 ⟨f, hf1, by rw [e, e2]⟩) hn.1
      · exact ih hn.2 hf1 hg1
theorem Naming.perm {w : World} {m clk r : Nat} {F vis : List FE} {v : Value} {X : World} (h : Naming w m clk r F vis v X) (hn : (F.map FE.born).Nodup) (h0 : (leftOf (F.map FE.entry).toArray (vis.map FE.born).toArray).size = 0) : vis.Perm F := by
  have hall := leftOf_none h0
  have n1 : vis.Nodup := List.Pairwise.of_map FE.born (fun a b hab e => hab (by rw [e])) h.nd
  have n2 : F.Nodup := List.Pairwise.of_map FE.born (fun a b hab e => hab (by rw [e])) hn
  refine (List.perm_ext_iff_of_nodup n1 n2).2 (fun f => ⟨h.sub f, fun hf => ?_⟩)
  have := hall f hf
  rw [Array.contains_iff_mem, List.mem_toArray] at this
  obtain ⟨g, hg, e⟩ := List.mem_map.1 this
  rw [← born_inj hn (h.sub g hg) hf e]
  exact hg
/-- One more name: what its append leaves. -/
theorem name_put {w : World} {m clk r : Nat} {F vis : List FE} {v : Value} {X w1 : World} {f : FE} (h : Naming w m clk r F vis v X) (hf : f ∈ F) (hun : (vis.map FE.born).toArray.contains f.born = false) (hw1 : w1 = X ∨ w1 = X.drew) (hlen : vis.length ≤ 1000000) {Y : World} (hY : Y = putObj w1 r (.mapIter (some m) clk ((vis.map FE.born).toArray.push f.born) clk)) :
    ∃ a n c W3, (Builtin.append_ #[30, 30] 30 #[v, .slice (some ⟨Y.heap.size, 0, none⟩) 1 1]).run Tryd.prog (Y.alloc (.cells #[.string f.name] 9)) = .ok (.slice a n c) W3 ∧ Naming w m clk r F (vis ++ [f]) (.slice a n c) W3 := by
  have hz : w1.heap.size = X.heap.size := by rcases hw1 with rfl | rfl <;> rfl
  have hh : ∀ b : Nat, w1.heap[b]? = X.heap[b]? := by rcases hw1 with rfl | rfl <;> exact fun _ => rfl
  have hrl : r < X.heap.size := lt_of_heap h.iter
  have hYz : Y.heap.size = X.heap.size := by rw [hY, putObj_size, hz]
  have hYb : ∀ b, b ≠ r → Y.heap[b]? = X.heap[b]? := fun b hb => by rw [hY, putObj_ne _ hb, hh]
  have hbX := h.below.size
  have hYB : Below w.heap.size w Y := by
    have hb := h.below
    refine ⟨?_, ?_, ?_, by rw [hYz]; exact hb.size, fun k hk => by rw [hYb k (by have := h.rlo; omega)]; exact hb.block k hk⟩
    · rw [hY]; rcases hw1 with rfl | rfl <;> exact hb.os
    · rw [hY]; rcases hw1 with rfl | rfl <;> exact hb.tape
    · rw [hY]; rcases hw1 with rfl | rfl <;> exact hb.output
  obtain ⟨i0, hi, hz0, hz1, hz2⟩ := info_parts' Tryd.infoStr
  have hrowY : (Y.alloc (.cells #[.string f.name] 9)).ownsRow w.heap.size 9 1 v vis.length ((nmC vis).map encStr) := (ownsRow_same h.row (fun b hb => hYb b (fun e => h.vr (by rw [hb, e])))).alloc _
  have hnew : (Y.alloc (.cells #[.string f.name] 9)).heap[Y.heap.size]? = some (.cells #[.string f.name] 9 (0, 0)) := heap_alloc_new Y _
  obtain ⟨v', W3, hrun, hrow3, hgr, _, hat⟩ := run_append_own_at (P := Tryd.prog) (Y.alloc (.cells #[.string f.name] 9)) w.heap.size 30 30 9 i0 _ 1 16 Tryd.underlying30 hi hz0 hz1 hz2 rfl (by decide) v vis.length ((nmC vis).map encStr) hrowY ⟨Y.heap.size, 0, none⟩ 1 1 [.string f.name] rfl (by
      intro j u hj
      match j, hj with
      | 0, hj => simp at hj; subst hj; exact cell_of hnew 0
      | (j + 1), hj => simp at hj) (by
      intro u hu
      simp at hu
      subst hu; rfl) (by unfold maxLen; omega) (by omega) (by simp; omega)
  obtain ⟨a, c, rfl⟩ := ownsRow_shape hrow3
  refine ⟨a, _, c, W3, hrun, ?_, ?_, ?_, ?_, ?_, ?_, h.rlo⟩
  · rw [hgr.block r (by simp; omega) (fun e => h.vr e.symm), Below.heap_alloc _ _ _ (by omega), hY, putObj_at _ (by omega)]
    simp
  · have e : (nmC (vis ++ [f])).map encStr = (nmC vis).map encStr ++ [.string f.name] := by
      simp [nmC, enc_nm]
    rw [e, List.length_append]
    exact hrow3
  · intro e
    rcases hat with hat | hat
    · exact h.vr (by rw [← hat]; exact e)
    · rw [hat] at e
      simp at e
      omega
  · intro g hg
    rcases List.mem_append.1 hg with hg | hg
    · exact h.sub g hg
    · simp at hg; subst hg; exact hf
  · rw [List.map_append, List.nodup_append]
    refine ⟨h.nd, by simp, ?_⟩
    intro x hx y hy e
    simp at hy
    subst hy
    subst e
    have : (vis.map FE.born).toArray.contains f.born = true := by
      rw [Array.contains_iff_mem, List.mem_toArray]; exact hx
    rw [this] at hun
    cases hun
  · refine (hYB.alloc (by omega) _).grown hgr (by simp; omega) (fun k hk => ?_)
    have := (h.row.lt k hk).1
    exact this
end Go.Proofs.YtbnicjpkfldcdaaDoor

/- disk: Names, its walk. -/
namespace Go.Proofs.YtbnicjpkfldcdaaDoor
open Go.RowKit Go.Lib Go.Sort
open Go.ChangeMaps (setBlock)

theorem le_tr (a b c : List UInt8) (h1 : decide (a ≤ b) = true) (h2 : decide (b ≤ c) = true) : decide (a ≤ c) = true := by
  simp at *
  exact List.le_trans h1 h2
theorem le_tot (a b : List UInt8) : (decide (a ≤ b) || decide (b ≤ a)) = true := by
  simp
  exact List.le_total a b
/-- What Names answers. -/
def NamesAt (w : World) (F : List FE) (v : Value) (Ts : List (List UInt8)) (w' : World) : Prop :=
  Ts.Perm (nmC F) ∧ Ts.Pairwise (fun x y => x ≤ y) ∧ w'.ownsRow w.heap.size 9 1 v Ts.length (Ts.map encStr) ∧ Below w.heap.size w w'
theorem names_sort {w : World} {m clk r : Nat} {F vis : List FE} {v : Value} {X : World} (h : Naming w m clk r F vis v X) (hp : vis.Perm F) (hl : vis.length ≤ 1000000) :
    Calls Tryd.prog 52 #[v] X fun e w' => e = .returned (.tuple #[]) ∧ ∃ Ts, NamesAt w F v Ts w' := by
  have hpn : (nmC vis).Perm (nmC F) := hp.map _
  have hlen : (nmC vis).length = vis.length := by simp [nmC]
  have hrow := h.row
  rcases hrow.2 with ⟨hnil, h0⟩ | ⟨g, cap, cur, rfl, hbase, hb, h1, h2, h3, h4⟩
  · subst hnil
    have hv : vis = [] := List.eq_nil_of_length_eq_zero h0
    refine (Tryd.slices_Sort_string_none none 0 X).mono ?_
    rintro e w' ⟨rfl, rfl⟩
    subst hv
    exact ⟨rfl, [], hpn, List.Pairwise.nil, hrow, h.below⟩
  · have hH := holds_of_block (ss := nmC vis) hb (by rw [hlen]; simpa using h4)
    have := Tryd.slices_Sort_string g 0 cap (nmC vis) X hH (lt_of_heap hb) (by rw [hlen]; omega)
    rw [hlen] at this
    refine this.mono ?_
    rintro e w' ⟨rfl, n, os, rfl⟩
    have hts : ((nmC vis).mergeSort fun x y => decide (x ≤ y)).length = (nmC vis).length := by simp
    have hr := ownsRow_sorted (n := n) (os := os) hts hbase hb (by rw [hlen]; exact h1) h2 h3
    refine ⟨rfl, (nmC vis).mergeSort fun x y => decide (x ≤ y), (List.mergeSort_perm _ _).trans hpn, ?_, ?_, h.below.grown (grownBy_sorted _) h.below.size (fun k hk => by injection hk with hk; omega)⟩
    · have := List.pairwise_mergeSort (le := fun (x y : List UInt8) => decide (x ≤ y)) le_tr le_tot (nmC vis)
      simpa using this
    · rw [hlen] at hr hts
      rw [hts]
      exact hr
set_option maxHeartbeats 4000000 in
theorem Names_any {B d m clk : Nat} {sv : Value} {S : DS} {F : List FE} {w : World} (h : DiskAt B d m clk sv S F w) (hF : F.length ≤ 1000000) :
    Calls Tryd.prog 28 #[.pointer (some ⟨d, 0, none⟩)] w fun e w' => ∃ v Ts, e = .returned v ∧ NamesAt w F v Ts w' := by
  have c5 := h.cells.c5
  obtain ⟨N, hN⟩ : ∃ N, F.length = N := ⟨_, rfl⟩
  have hlen : (Builtin.len_ #[52] 3 #[.map (some m)]).run Tryd.prog w = .ok (.int .i64 (N : Int)) w := by
    rw [run_len_map w _ _ m _ clk (by kernel_rfl) h.map]
    simp [goInt, hN]
  obtain ⟨i0, hi, hz0, hz1, hz2⟩ := info_parts' Tryd.infoStr
  obtain ⟨W1, hmk, hrow1, hgr1⟩ := run_make_own (P := Tryd.prog) w w.heap.size 30 9 i0 _ 1 Tryd.underlying30 hi hz0 hz1 .i64 .i64 N (by rw [hz2]; omega) (by unfold maxLen; omega) (Nat.le_refl _)
  have hb1 : Below w.heap.size w W1 := (Below.refl _ _).grown hgr1 (Nat.le_refl _) (fun k hk => by cases hk)
  have hD1 := h.below hb1
  have c51 := hD1.cells.c5
  have hrg := run_rangeM hD1.map
  have HD := Lib.hid h
  have HNd := Lib.hid h.borns
  have hN0 : Naming w m clk W1.heap.size F [] (.slice (some ⟨w.heap.size, 0, none⟩) 0 N) (W1.alloc (.mapIter (some m) clk #[] clk)) := by
    have hlt := (hrow1.lt w.heap.size rfl).2
    exact ⟨heap_alloc_new W1 _, hrow1.alloc _, (fun e => by (simp [Value.ownBlock] at e; omega)), (fun f hf => by cases hf), (by simp), hb1.alloc hb1.size _, hb1.size⟩
  have H0 := Lib.hid hN0
  have HF := Lib.hid (by rw [hN] at hF; exact hF : N ≤ 1000000)
  have HNN := Lib.hid hN
  clear h hD1 hb1 hN0 hrow1 hgr1 hi hz0 hz1 hz2 hF hN
  generalize W1.heap.size = r at *
  go_enter Tryd.func28, Tryd.ntmps28
  go_wp2
  go_loopg [3] (F.countP (fun g => !((([] : List FE).map FE.born).toArray).contains g.born)) (fun gg v wr => ∃ (vis : List FE) (X : World), X = wr ∧ F.countP (fun g => !((vis.map FE.born).toArray).contains g.born) ≤ gg ∧ vis.length + F.countP (fun g => !((vis.map FE.born).toArray).contains g.born) ≤ N ∧ Naming w m clk r F vis v X)
  case atStart => exact ⟨[], _, rfl, Nat.le_refl _, by
    have := List.countP_le_length (p := fun g : FE => !((([] : List FE).map FE.born).toArray).contains g.born) (l := F)
    have := HNN.out
    simp only [List.length_nil]
    omega, H0.out⟩
  case round =>
    obtain ⟨vis, X, hX, hgg, hlt, hNa⟩ := hrel
    subst hX
    have hDX := HD.out.below hNa.below
    rcases run_next_at (P := Tryd.prog) X 0 r m clk clk (vis.map FE.born).toArray (F.map FE.entry).toArray clk hNa.iter hDX.map (by
      intro x hx
      simp only [List.mem_map] at hx
      obtain ⟨f, hf, rfl⟩ := hx
      exact hDX.born f hf) (Nat.le_refl _) with ⟨h0, hnx⟩ | ⟨e, he, w1, hw1, hnx⟩
    · have HS := Lib.hid (names_sort hNa (hNa.perm HNd.out h0) (by have := HF.out; omega))
      clear hNa h0 hDX hgg hlt
      go_wp2_with (go_at_call 52; refine HS.out.mono ?_; rintro e w4 ⟨rfl, hT⟩; have HT := Lib.hid hT; clear hT)
      go_ret
      obtain ⟨Ts, hT⟩ := HT.out
      exact ⟨_, Ts, rfl, hT⟩
    · obtain ⟨F1, f, F2, hFe, rfl, hun⟩ := leftOf_mem he
      have hfF : f ∈ F := by rw [hFe]; simp
      obtain ⟨Y, hY⟩ : ∃ Y, Y = putObj w1 r (.mapIter (some m) clk ((vis.map FE.born).toArray.push f.born) clk) := ⟨_, rfl⟩
      have hn2 : (Instr.next (.pointer (some ⟨r, 0, none⟩)) false 0).run Tryd.prog X = .ok (.tuple #[.bool true, .string f.name, .pointer (some ⟨f.blk, 0, none⟩)]) Y := by rw [hY]; exact hnx
      obtain ⟨a3, n3, c3, W3, hrun, hNa3⟩ := name_put hNa hfF hun hw1 (by have := HF.out; omega) hY
      have hrl : r < w1.heap.size := by
        have := lt_of_heap hNa.iter
        rcases hw1 with rfl | rfl <;> exact this
      have hmr : m ≠ r := fun e => by
        have h1 := hDX.map
        rw [e, hNa.iter] at h1
        cases h1
      have hent : (Instr.entry (.pointer (some ⟨r, 0, none⟩))).run Tryd.prog Y = .ok (.tuple #[.string f.name, .pointer (some ⟨f.blk, 0, none⟩)]) Y := by
        have := run_entry_at (P := Tryd.prog) Y r m clk (vis.map FE.born).toArray (F.map FE.entry).toArray clk f.entry (by rw [hY]; exact putObj_at _ hrl) (by
          rw [hY, putObj_ne _ hmr]
          rcases hw1 with rfl | rfl <;> exact hDX.map) (by simp; exact ⟨f, hfF, rfl⟩) (by
          have hb := HNd.out
          simpa [FE.entry, Function.comp_def] using hb)
        exact this
      have ev : ((vis ++ [f]).map FE.born).toArray = (vis.map FE.born).toArray.push f.born := by simp
      have hcnt : F.countP (fun g => !((vis ++ [f]).map FE.born).toArray.contains g.born) < F.countP (fun g => !((vis.map FE.born).toArray).contains g.born) := by
        rw [ev]
        exact (tear_step (F := F) (F1 := F1) (F2 := F2) (f := f) (f2 := f) (T := id) (by rw [hFe]) (by rw [hFe]; simp) HNd.out hun rfl rfl).2.2
      obtain ⟨va, vc, hv⟩ := ownsRow_shape hNa.row
      have HN3 := Lib.hid hNa3
      have HC := Lib.hid hcnt
      have HG := Lib.hid (And.intro hgg hlt)
      clear hNa hDX hgg hlt hY hNa3 hcnt ev he hun hFe hfF hrl hmr hnx
      subst hv
      obtain ⟨vn, hvn⟩ : ∃ vn, vis.length = vn := ⟨_, rfl⟩
      rw [hvn] at hrun ⊢
      have HA := Lib.hid hrun
      have HVN := Lib.hid hvn
      clear hrun hvn
      go_wp2_with (at_builtin; refine append_by_run rfl _ _ _ rfl _ rfl _ _ rfl rfl _ _ HA.out ?_)
      go_roundg (F.countP (fun g => !((vis ++ [f]).map FE.born).toArray.contains g.born))
      case rel => exact ⟨vis ++ [f], _, rfl, Nat.le_refl _, by
        have := HC.out
        have := HG.out.2
        rw [List.length_append]
        simp only [List.length_singleton]
        omega, HN3.out⟩
      case measure => exact Nat.lt_of_lt_of_le HC.out HG.out.1
end Go.Proofs.YtbnicjpkfldcdaaDoor
