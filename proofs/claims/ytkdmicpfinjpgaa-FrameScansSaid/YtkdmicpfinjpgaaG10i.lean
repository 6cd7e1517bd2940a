/- frame: the scan within FrameScans; rows of iterators. -/
import Derived.Test.YtkdmicpfinjpgaaG10h
import Derived.Test.YtkdmicpfinjpgaaG10f
import Derived.Test.YtkdmicpfinjpgaaF10k
namespace Go.Proofs.Ytkdmicpfinjpgaa
open Go.RowKit

theorem inner_any {bits bi bj bw bp bx bm gi cnt cap i j : Nat} {Q : Nat → Addr} {ss : Nat → ByteArray} {vW vP vX vM : Value} (N : Nat) (w0 W : World) (hN : N = w0.heap.size) (h : Fw bits bi bj bw bp bx bm gi cnt cap i j Q ss vW vP vX vM w0) (hb : Below w0.heap.size w0 W)
    (hI : i < cnt) (hJ : j < cnt) (hz : ∀ t, t < cnt → (ss t).size ≤ 1099511627776) (hL : Ls N 0 W) (hl : N + 2 ≤ W.heap.size) :
    Calls Try.prog 25 #[.func (.func 16) #[] #[.pointer (some ⟨N + 1, 0, none⟩), .pointer (some ⟨N, 0, none⟩), .pointer (some ⟨bw, 0, none⟩), .pointer (some ⟨bp, 0, none⟩), .pointer (some ⟨bits, 0, none⟩), .pointer (some ⟨bi, 0, none⟩), .pointer (some ⟨bj, 0, none⟩), .pointer (some ⟨bx, 0, none⟩), .pointer (some ⟨bm, 0, none⟩)], .pointer (some (Q i))] W fun e w' =>
      e = .returned (.tuple #[]) ∧ Ls N (scan (L (ss i)) 0 0).length w' ∧ Below w0.heap.size w0 w' := by
  refine (scanF (ss i) (Q i) _ _ _ _ _ _ _ _ _ W (by have := hz i hI; omega)
    (fun a n X => ∃ k, k ≤ (scan (L (ss i)) 0 0).length ∧ (scan (L (ss i)) 0 0).drop k = scan (L (ss i)) a n ∧ Ls N k X ∧ Below w0.heap.size w0 X ∧ N + 2 ≤ X.heap.size ∧ X.heap[W.heap.size + 2]? = some (.cells (tabC 256) 54)) (fun _ => False) ?_ ?_ ?_ ?_ ?_).mono ?_
  · rintro a n X ⟨k, _, _, _, _, _, h5⟩
    exact h5
  · rintro a n X ⟨k, _, _, _, h4, _, _⟩
    exact (h.on h4).qs i hI
  · rintro a n X X' ⟨k, h1, h2, h3, h4, h6, h5⟩ hb'
    have l0 : N + 1 < X.heap.size := by omega
    refine ⟨k, h1, h2, ⟨?_, ?_, ?_, ?_⟩, h4.trans (hb'.mono h4.size), Nat.le_trans h6 hb'.size, keeps hb' h5⟩
    · rw [hb'.cell (p := ⟨N, 0, none⟩) (by show N < _; omega)]; exact h3.c0
    · rw [hb'.cell (p := ⟨N + 1, 0, none⟩) (by show N + 1 < _; omega)]; exact h3.c1
    · rw [hb'.frozen (p := ⟨N, 0, none⟩) (by show N < _; omega)]; exact h3.f0
    · rw [hb'.frozen (p := ⟨N + 1, 0, none⟩) (by show N + 1 < _; omega)]; exact h3.f1
  · rintro a n X hF hn ⟨k, h1, h2, h3, h4, h6, h5⟩
    rw [scan_on hF hn] at h2
    have hk : k < (scan (L (ss i)) 0 0).length := by
      rcases Nat.lt_or_ge k (scan (L (ss i)) 0 0).length with h | h
      · exact h
      · rw [List.drop_eq_nil_of_le h] at h2; cases h2
    rw [List.drop_eq_getElem_cons hk] at h2
    obtain ⟨e1, e2⟩ := List.cons.inj h2
    have hf : (scan (L (ss i)) 0 0)[k]? = some (frAt (L (ss i)) a) := by rw [List.getElem?_eq_getElem hk, e1]
    refine (scans1 N w0 X hN h h4 hI hJ hz k h3 h6 _ hf).mono ?_
    rintro e X' ⟨rfl, r1, r2⟩
    exact ⟨true, rfl, fun _ => ⟨k + 1, hk, e2, r1, hN ▸ r2.low, Nat.le_trans h6 r2.size, by rw [r2.high _ (by omega) (heap_lt h5)]; exact h5⟩, fun hx => by cases hx⟩
  · intro X hb' ht
    have l0 : N + 1 < W.heap.size := by omega
    refine ⟨0, Nat.zero_le _, rfl, ⟨?_, ?_, ?_, ?_⟩, hb.trans (hb'.mono hb.size), Nat.le_trans hl hb'.size, ht⟩
    · rw [hb'.cell (p := ⟨N, 0, none⟩) (by show N < _; omega)]; exact hL.c0
    · rw [hb'.cell (p := ⟨N + 1, 0, none⟩) (by show N + 1 < _; omega)]; exact hL.c1
    · rw [hb'.frozen (p := ⟨N, 0, none⟩) (by show N < _; omega)]; exact hL.f0
    · rw [hb'.frozen (p := ⟨N + 1, 0, none⟩) (by show N + 1 < _; omega)]; exact hL.f1
  · rintro e w' ⟨rfl, h4⟩
    rcases h4 with ⟨a, n, ⟨k, h1, h2, h3, h5, _, _⟩, hno⟩ | h4
    · rw [scan_off hno] at h2
      have := congrArg List.length h2
      simp at this
      obtain rfl : k = (scan (L (ss i)) 0 0).length := by omega
      exact ⟨rfl, h3, h5⟩
    · exact absurd h4 id
/-- A row of functions that the call made itself. -/
structure OwnF (B : Nat) (v : Value) (fs : List Value) (W0 w : World) : Prop where
  row : w.ownsRow B 39 1 v fs.length fs
  below : Below B W0 w
  base : B ≤ w.heap.size
theorem OwnF.nil {B : Nat} {W0 w : World} (h : Below B W0 w) (hB : B ≤ w.heap.size) : OwnF B (.slice none 0 0) [] W0 w := ⟨World.ownsRow_nil _ _ _ _, h, hB⟩
theorem OwnF.alloc {B : Nat} {v : Value} {l : List Value} {W0 w : World} (h : OwnF B v l W0 w) (o : Obj) : OwnF B v l W0 (w.alloc o) :=
  ⟨h.row.alloc o, h.below.alloc h.base o, by have := h.base; simp; omega⟩
theorem Try.infoSeq : (Try.prog.info? 39).map (fun i => (i.zero, i.size, i.bytes)) = some (some .nilFunc, 1, 8) := by kernel_rfl
theorem appFn {ops : Array Oper} {rest : List Oper} {o : Oper} {a : Act} {Q : Exit → Act → World → Prop} (hgd : o.guard = none) (s x : Operand)
    (ho : o.op = .call { callee := .builtin .append, args := #[s, x], argTypes := #[37, 37] })
    {B : Nat} {v : Value} {l : List Value} {W0 w : World} (f : Value) (hf : f.oneCell' = true) (hown : OwnF B v l W0 w) (n : Nat) (hn : n = w.heap.size) (hs : a.eval s = v) (hx : a.eval x = .slice (some ⟨n, 0, none⟩) 1 1)
    (hlen : l.length + 1 ≤ 1000000)
    (h : ∀ v' w', OwnF B v' (l ++ [f]) W0 w' → (∀ k, k < w.heap.size → v.ownBlock ≠ some k → w'.heap[k]? = w.heap[k]?) → w.heap.size ≤ w'.heap.size → wpList Try.prog ops Q rest (a.put o.dst v') w') : wpList Try.prog ops Q (o :: rest) a (w.alloc (.cells #[f] 39)) := by
  subst hn
  obtain ⟨i0, hi, hz0, hz1, hz2⟩ := info_parts Try.infoSeq
  have ha := hown.alloc (.cells #[f] 39)
  refine wpList_append_own _ hgd s x 37 ho B 39 i0 .nilFunc 1 8 (by kernel_rfl) hi hz0 hz1 hz2 rfl (by decide) v l.length l hs ha.row ⟨w.heap.size, 0, none⟩ 1 1 [f] hx rfl ?_ ?_ (by unfold maxLen; omega) (by omega) ha.base ?_
  · intro j u hj
    match j, hj with
    | 0, hj => simp at hj; subst hj; simp [Addr.add]
    | (j + 1), hj => simp at hj
  · intro u hu; simp at hu; subst hu; exact hf
  · intro v' w' ho' hg _
    refine h v' w' ⟨?_, ha.below.grown hg ha.base (fun k hk => (ha.row.lt k hk).1), Nat.le_trans ha.base hg.size⟩ (fun k h1 h2 => ?_) ?_
    · rw [List.length_append]
      exact ho'
    · rw [hg.block k (by simp; omega) (fun e => h2 e.symm)]
      exact Below.heap_alloc w _ k h1
    · have := hg.size; simp at this; omega
def fnOf (b : Nat) : Value := .func (.func 25) #[] #[.pointer (some ⟨b, 0, none⟩)]
theorem OwnF.not {B : Nat} {v : Value} {fs : List Value} {W0 w : World} (h : OwnF B v fs W0 w) (k : Nat) {cs : Array Value} {t : TypeId} {fr : Nat × Nat} (hk : w.heap[k]? = some (.cells cs t fr)) (ht : t ≠ 39) : v.ownBlock ≠ some k := by
  intro e
  rcases h.row.2 with ⟨rfl, _⟩ | ⟨g, cap, cur, rfl, _, hg, _⟩
  · cases e
  · have : g = k := by simpa [Value.ownBlock] using e
    subst this
    rw [hk] at hg
    injection hg with hg
    injection hg with _ h2 _
    exact ht h2
theorem OwnF.setCell {B : Nat} {v : Value} {fs : List Value} {W0 w : World} (h : OwnF B v fs W0 w) (k : Nat) (hk : v.ownBlock ≠ some k) (hB : B ≤ k) (u : Value) : OwnF B v fs W0 (w.setCell ⟨k, 0, none⟩ u) := by
  refine ⟨⟨h.row.1, ?_⟩, h.below.setCell (p := ⟨k, 0, none⟩) hB _, by have := h.base; simpa using this⟩
  rcases h.row.2 with hn | ⟨g, cap, cur, rfl, hB', hg, rest⟩
  · exact .inl hn
  · refine .inr ⟨g, cap, cur, rfl, hB', ?_, rest⟩
    rw [heap_setCell_other]
    · exact hg
    · intro e; apply hk; simp [Value.ownBlock, e]
theorem OwnF.cells {B : Nat} {v : Value} {fs : List Value} {W0 w : World} (h : OwnF B v fs W0 w) (hl : 0 < fs.length) : ∃ g cap, v = .slice (some ⟨g, 0, none⟩) fs.length cap ∧ g < w.heap.size ∧ ∀ j, j < fs.length → w.cell? ⟨g, j, none⟩ = fs[j]? := by
  rcases h.row.2 with ⟨rfl, h0⟩ | ⟨g, cap, cur, rfl, hB, hg, hc, rest⟩
  · omega
  · refine ⟨g, cap, rfl, (Array.getElem?_eq_some_iff.1 hg).1, fun j hj => ?_⟩
    have := h.row.cells (g := g) rfl j fs[j] (by simp [hj])
    rw [add_off] at this; rw [this, List.getElem?_eq_getElem hj]
/-- The iterators so far. -/
structure IT (b5 : Nat) (v : Value) (qs : List Nat) (ss : List ByteArray) (W0 w : World) : Prop where
  hv : w.heap[b5]? = some (.cells #[v] 37 (0, 0))
  row : OwnF b5 v (qs.map fnOf) W0 w
  hq : ∀ t, t < qs.length → w.heap[qs.getD t 0]? = some (.cells #[.string (ss.getD t ByteArray.empty)] 9 (0, 0))
theorem IT.step {b5 : Nat} {v v' : Value} {qs : List Nat} {ss : List ByteArray} {W0 w w' : World} (h : IT b5 v qs ss W0 w) (s : ByteArray) (hs : ss.getD qs.length ByteArray.empty = s)
    (hown : OwnF b5 v' (qs.map fnOf ++ [fnOf w.heap.size]) W0 w') (hk : ∀ k, k < (w.alloc (.cells #[.string s] 9)).heap.size → v.ownBlock ≠ some k → w'.heap[k]? = (w.alloc (.cells #[.string s] 9)).heap[k]?) :
    IT b5 v' (qs ++ [w.heap.size]) ss W0 (w'.setCell ⟨b5, 0, none⟩ v') ∧ w'.heap[b5]? = some (.cells #[v] 37 (0, 0)) := by
  have hb5 : b5 < w.heap.size := (Array.getElem?_eq_some_iff.1 h.hv).1
  have n1 := h.row.not b5 h.hv (by decide)
  have h5 : w'.heap[b5]? = some (.cells #[v] 37 (0, 0)) := by
    rw [hk b5 (by simp; omega) n1, Below.heap_alloc w _ _ hb5]; exact h.hv
  have hown2 := hown.not b5 h5 (by decide)
  have hnew : w'.heap[w.heap.size]? = some (.cells #[.string s] 9 (0, 0)) := by
    rw [hk w.heap.size (by simp) (by intro e; have := (h.row.row.lt _ e).2; omega)]
    exact heap_alloc_last w _
  refine ⟨⟨by rw [heap_setCell_same _ _ 0 _ _ _ h5]; rfl, ?_, ?_⟩, h5⟩
  · have := hown.setCell b5 hown2 (Nat.le_refl _) v'
    rw [List.map_append]
    exact this
  · intro t ht
    rw [List.length_append] at ht
    by_cases e : t < qs.length
    · have e1 : (qs ++ [w.heap.size]).getD t 0 = qs.getD t 0 := by simp [List.getD_eq_getElem?_getD, List.getElem?_append_left e]
      have hqt := h.hq t e
      have hlt := (Array.getElem?_eq_some_iff.1 hqt).1
      have hne : qs.getD t 0 ≠ b5 := by
        intro e2
        rw [e2, h.hv] at hqt
        injection hqt with hqt
        injection hqt with _ h2 _
        exact absurd h2 (by decide)
      rw [e1, heap_setCell_other _ _ _ _ (by simpa using hne), hk _ (Nat.lt_of_lt_of_le hlt (by simp)) (h.row.not _ hqt (by decide)), Below.heap_alloc w _ _ hlt]
      exact hqt
    · have e2 : t = qs.length := by simp at ht; omega
      subst e2
      have e1 : (qs ++ [w.heap.size]).getD qs.length 0 = w.heap.size := by simp
      rw [e1, heap_setCell_other _ _ _ _ (by simp; omega), hnew, hs]
end Go.Proofs.Ytkdmicpfinjpgaa
