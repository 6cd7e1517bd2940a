/- span: the order of pieces, the sort. -/
import Derived.Test.YtflkhnmggmfhfaaGreatVe
import Derived.Test.YtflkhnmggmfhfaaGreatSs
import Derived.Test.YtflkhnmggmfhfaaGreatSh
namespace Go.Proofs.YtflkhnmggmfhfaaGreat
open Go.RowKit Go.Sort

set_option maxHeartbeats 400000 in
theorem order_any (a b c d : Int) (W : World) : Calls Tryz.prog 92 #[.agg #[.int .i64 a, .int .i64 b], .agg #[.int .i64 c, .int .i64 d]] W fun e w' => e = .returned (.int .i64 (cmpI a c)) ∧ ∃ q os', w' = grow (W.drewN q) os' := by
  have hcon := fun W' => compare_any a c W'
  generalize cmpI a c = r at hcon ⊢
  go_enter Tryz.func92, Tryz.ntmps92
  go_wp2_with (go_at_call 76; refine (hcon _).mono ?_; rintro e w' ⟨rfl, rfl⟩)
  go_ret
  exact ⟨rfl, 0, _, by rw [alloc_eq_grow, alloc_eq_grow, grow_grow]; rfl⟩
def ordF (p q : Rg) : Int := cmpI p.1 q.1
theorem lt_ordF (p q : Rg) : ltOf ordF p q = decide (p.1 < q.1) := by
  unfold ltOf ordF cmpI
  rw [decide_eq_decide]
  by_cases h : p.1 < q.1
  · simp [h]
  · simp only [h, if_false, iff_false]; split <;> omega
theorem swo_ordF : SWO (ltOf ordF) := by
  refine ⟨fun x => ?_, fun x y z h1 h2 => ?_, fun x y z h1 h2 => ?_⟩
  · rw [lt_ordF]; simp
  · rw [lt_ordF] at *; simp at *; omega
  · rw [lt_ordF] at *; simp at *; omega

set_option maxRecDepth 100000 in
set_option maxHeartbeats 1000000 in
theorem insNone (v : Value) (p : Option Addr) (cap : Nat) (fv : Value) (w : World) (hv : v = .slice p 0 cap) :
    Calls Tryz.prog 95 #[v, .int .i64 0, .int .i64 0, fv] w fun e w' => e = .returned (.tuple #[]) ∧ w' = w := by
  subst hv
  go_enter Tryz.func95, Tryz.ntmps95
  go_wp2
  refine wp_loop_rounds 1 ?_
  rw [rounds_succ]
  go_wp2
  go_end0
  exact ⟨rfl, rfl⟩
set_option maxRecDepth 100000 in
set_option maxHeartbeats 1000000 in
theorem pdqNone (p : Option Addr) (cap : Nat) (lim : Int) (fv : Value) (w : World) :
    Calls Tryz.prog 93 #[.slice p 0 cap, .int .i64 0, .int .i64 0, .int .i64 lim, fv] w fun e w' => e = .returned (.tuple #[]) ∧ w' = w := by
  go_enter Tryz.func93, Tryz.ntmps93
  go_wp2
  refine wp_loop_rounds 1 ?_
  rw [rounds_succ]
  go_wp2_with (go_at_call 95; refine (insNone _ p cap _ _ rfl).mono ?_; rintro e w' ⟨rfl, rfl⟩)
  (try simp only [Exit.inBlock, Exit.then])
  refine bodyPost_ret (results_none rfl _ _ _) rfl ?_
  exact ⟨rfl, rfl⟩
set_option maxRecDepth 100000 in
set_option maxHeartbeats 1000000 in
theorem sortNone (p : Option Addr) (cap : Nat) (fv : Value) (w : World) :
    Calls Tryz.prog 91 #[.slice p 0 cap, fv] w fun e w' => e = .returned (.tuple #[]) ∧ w' = w := by
  have hl : ∀ W, Calls Tryz.prog 94 #[.int .u64 0] W fun e w' => e = .returned (.int .i64 0) ∧ w' = W := fun W => Tryz.bits_Len 0 W (by omega) (by omega)
  go_enter Tryz.func91, Tryz.ntmps91
  go_wp2_with (first | (go_at_call 94; refine (hl _).mono ?_; rintro e w' ⟨rfl, rfl⟩) | (go_at_call 93; refine (pdqNone p cap _ _ _).mono ?_; rintro e w' ⟨rfl, rfl⟩))
  go_end0
  exact ⟨rfl, rfl⟩

theorem below_sortWorld {B blk off n : Nat} {w : World} {d : Array Rg} {os : Array Obj} (hB : B ≤ blk) (hz : B ≤ w.heap.size) : Below B w (sortWorldK encR 2 w blk off n d os) := by
  unfold sortWorldK
  refine ⟨rfl, rfl, rfl, ?_, ?_⟩
  · rw [size_grow, size_putRowK]; exact Nat.le_add_right _ _
  · intro k hk
    show ((w.heap.modify blk _) ++ os)[k]? = _
    rw [Array.getElem?_append_left (by rw [Array.size_modify]; omega), Array.getElem?_modify, if_neg (by omega)]
theorem holds_own {B : Nat} {l : List Rg} {W0 w : World} {g cap : Nat} (h : OwnR B (.slice (some ⟨g, 0, none⟩) l.length cap) l W0 w) : HoldsK encR 2 w g 0 l.toArray := by
  intro j hj
  have hj2 : j < l.length * 2 := by simpa using hj
  rw [get_flatK _ _ _ _ (by simpa using hj2), Nat.zero_add]
  refine ⟨?_, h.row.frozenAt j⟩
  rw [h.row.cellAt j hj2]
  have ha := rc_at l (j / 2) (by omega)
  have e0 : (l.toArray[j / 2]!) = l.getD (j / 2) (0, 0) := by
    rw [getElem!_pos _ _ (by simp; omega), List.getD_eq_getElem?_getD, List.getElem?_eq_getElem (by omega)]; simp
  rw [e0]
  rcases Nat.mod_two_eq_zero_or_one j with e | e
  · have ej : j / 2 * 2 = j := by omega
    rw [ej] at ha
    rw [ha.1, e]; rfl
  · have ej : j / 2 * 2 + 1 = j := by omega
    rw [ej] at ha
    rw [ha.2, e]; rfl
theorem sortedF_of {d : Array Rg} (h : SortedIn (ltOf ordF) 0 d.size d) : sortedF d.toList := by
  have key : ∀ (r : List Rg), (∀ i j (hi : i < j) (hj : j < r.length), (r[i]'(by omega)).1 ≤ (r[j]).1) → sortedF r := by
    intro r
    induction r with
    | nil => intro _; trivial
    | cons p r ih =>
      intro hr
      refine ⟨fun q hq => ?_, ih (fun i j hi hj => ?_)⟩
      · obtain ⟨j, hj, rfl⟩ := List.mem_iff_getElem.1 hq
        exact hr 0 (j + 1) (by omega) (by simpa using hj)
      · exact hr (i + 1) (j + 1) (by omega) (by simpa using hj)
  refine key _ (fun i j hi hj => ?_)
  have hj' : j < d.size := by simpa using hj
  have := h i j (Nat.zero_le _) hi hj'
  rw [lt_ordF, getElem!_pos d j hj', getElem!_pos d i (by omega)] at this
  simp at this
  simpa using this

/-- slices.SortFunc, of a slice of the call's own. -/
theorem sort_any {B : Nat} {v : Value} {l : List Rg} {W0 w : World} (h : OwnR B v l W0 w) (hl : l.length ≤ 8796093022208) :
    Calls Tryz.prog 91 #[v, .func (.func 92) #[] #[]] w fun e w' =>
      e = .returned (.tuple #[]) ∧ ∃ l', Rgs w' v l' ∧ l'.length = l.length ∧ (∀ p, p ∈ l' ↔ p ∈ l) ∧ sortedF l' ∧ Below B W0 w' ∧ w.heap.size ≤ w'.heap.size := by
  rcases h.row.2 with ⟨rfl, h0⟩ | ⟨g, cap, cur, rfl, hB, hg, rest⟩
  · have : l = [] := List.eq_nil_of_length_eq_zero h0
    subst this
    exact (sortNone none 0 _ w).mono fun e w' ⟨he, hw⟩ => ⟨he, [], by subst hw; exact .inl ⟨rfl, none, 0, rfl, fun _ => rfl⟩, rfl, fun p => Iff.rfl, trivial, by subst hw; exact h.below, by subst hw; exact Nat.le_refl _⟩
  · have hlt : g < w.heap.size := (Array.getElem?_eq_some_iff.1 hg).1
    have hs : l.toArray.size = l.length := by simp
    have hH := holds_own h
    have := AnyQ.slices_SortFunc Tryz.laysSort 2 Tryz.isAgg90 Tryz.sizeOf90 encR (fun _ => rfl) (fun x v hv => by simp [encR] at hv; rcases hv with rfl | rfl <;> rfl) ordF swo_ordF 92 #[] g 0 cap l.toArray w (enters_of Tryz.func92 (by kernel_rfl) rfl) (fun _ _ _ _ x y => order_any x.1 x.2 y.1 y.2 _) hH hlt (by rw [hs]; omega)
    rw [hs] at this
    refine Calls.mono this ?_
    rintro e w' ⟨he, d', n, os, hp, hso, rfl⟩
    have hd : d'.size = l.length := by rw [hp.1, hs]
    have hH' : HoldsK encR 2 (sortWorldK encR 2 w g 0 n d' os) g 0 d' := holdsK_sortWorldK_c encR 2 w g 0 l.toArray d' n os hH hlt (by rw [hd, hs])
    have hbel := below_sortWorld (B := B) (blk := g) (off := 0) (n := n) (w := w) (d := d') (os := os) hB h.base
    refine ⟨he, d'.toList, ?_, by simpa using hd, ?_, ?_, h.below.trans hbel, hbel.size⟩
    · refine .inr ⟨g, 0, cap, by simp [hd], by simpa [hd] using hl, Nat.lt_of_lt_of_le hlt hbel.size, fun i hi => ?_⟩
      have hi' : i < d'.size := by simpa using hi
      have c1 := hH'.cell (i := i) (c := 0) hi' (by omega)
      have c2 := hH'.cell (i := i) (c := 1) hi' (by omega)
      have e0 : d'.toList.getD i (0, 0) = d'[i]! := by
        rw [getElem!_pos d' i hi', List.getD_eq_getElem?_getD, List.getElem?_eq_getElem hi]; simp
      rw [e0]
      exact ⟨c1.1, c2.1⟩
    · intro p
      have hpp := hp.2.2
      rw [Array.extract_eq_self_of_le (by omega), Array.extract_eq_self_of_le (by omega)] at hpp
      simpa using hpp.mem_iff (a := p)
    · have hso' : SortedIn (ltOf ordF) 0 d'.size d' := by rw [hd]; exact hso
      exact sortedF_of hso'
end Go.Proofs.YtflkhnmggmfhfaaGreat
