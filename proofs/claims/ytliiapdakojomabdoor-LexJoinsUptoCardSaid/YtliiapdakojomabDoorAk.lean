/- lex: a word is put to the topmost's kids: what the memory is then. -/
import Derived.Test.YtliiapdakojomabDoorAj
import Derived.Test.YtliiapdakojomabDoorZv
namespace Go.Proofs.YtliiapdakojomabDoor
open Go.RowKit

theorem row_set {w : World} {B : Nat} {e : TypeId} {sz g n cap : Nat} {xs : List Value} (h : w.ownsRow B e sz (.slice (some ⟨g, 0, none⟩) n cap) n xs) (i : Nat) (v : Value) : (w.setCell ⟨g, i, none⟩ v).ownsRow B e sz (.slice (some ⟨g, 0, none⟩) n cap) n (xs.set i v) := by
  refine ⟨by rw [List.length_set]; exact h.1, ?_⟩
  rcases h.2 with ⟨hn, _⟩ | ⟨g', cap', cur, he, hB, hg, h1, h2, h3, h4⟩
  · cases hn
  · injection he with e1 e2 e3
    injection e1 with e1
    injection e1 with e1 _ _
    subst e1 e3
    refine .inr ⟨g, cap, cur.setIfInBounds i v, rfl, hB, heap_setCell_same w g i cur _ v hg, h1, h2, by rw [Array.size_setIfInBounds]; exact h3, ?_⟩
    rw [Array.toList_setIfInBounds, List.take_set]
    rw [h4]
def Wc.kids (c : Wc) (ka : Option Addr) (kn kc : Nat) : Wc := { c with ka := ka, kn := kn, kc := kc }
theorem wc_set (l : List Wc) (i : Nat) (hi : i < l.length) (ka : Option Addr) (kn kc : Nat) : (wc l).set (i * 4 + 2) (.slice ka kn kc) = wc (l.set i ((l.getD i wc0).kids ka kn kc)) := by
  induction l generalizing i with
  | nil => simp at hi
  | cons p r ih =>
    have e : wc (p :: r) = .int .i64 p.kind :: .string p.text :: .slice p.ka p.kn p.kc :: .bool p.glued :: wc r := by simp [wc, encW]
    cases i with
    | zero => rw [e]; simp [wc, encW, Wc.kids]
    | succ i =>
      have := ih i (by simpa using hi)
      rw [e, show (i + 1) * 4 + 2 = i * 4 + 2 + 1 + 1 + 1 + 1 by omega]
      simp only [List.set_cons_succ, List.getD_cons_succ]
      rw [this]
      simp [wc, encW]
/-- The last of a row is written over, cell by cell. -/
theorem RowW.last {B g cap : Nat} {its : List Wc} {c : Wc} {w : World} (h : w.ownsRow B 33 4 (.slice (some ⟨g, 0, none⟩) (its.length + 1) cap) (its.length + 1) (wc its ++ wc [wc0])) :
    RowW B (.slice (some ⟨g, 0, none⟩) (its.length + 1) cap) (its ++ [c]) ((((w.setCell ⟨g, its.length * 4, none⟩ (.int .i64 c.kind)).setCell ⟨g, its.length * 4 + 1, none⟩ (.string c.text)).setCell ⟨g, its.length * 4 + 2, none⟩ c.kv).setCell ⟨g, its.length * 4 + 3, none⟩ (.bool c.glued)) := by
  have h4 := row_set (row_set (row_set (row_set h (its.length * 4) (.int .i64 c.kind)) (its.length * 4 + 1) (.string c.text)) (its.length * 4 + 2) c.kv) (its.length * 4 + 3) (.bool c.glued)
  have hl := wc_length its
  have e : ((((wc its ++ wc [wc0]).set (its.length * 4) (.int .i64 c.kind)).set (its.length * 4 + 1) (.string c.text)).set (its.length * 4 + 2) c.kv).set (its.length * 4 + 3) (.bool c.glued) = wc (its ++ [c]) := by
    rw [wc_append, ← hl]
    generalize wc its = x
    simp [wc, encW, wc0, Wc.kv]
  rw [e] at h4
  unfold RowW
  rw [List.length_append]
  exact h4
theorem RowW.kidsAt {B ob oc : Nat} {fs : List Wc} {w : World} (h : RowW B (.slice (some ⟨ob, 0, none⟩) fs.length oc) fs w) (n : Nat) (hn : n < fs.length) (ka : Option Addr) (kn kc : Nat) :
    RowW B (.slice (some ⟨ob, 0, none⟩) fs.length oc) (fs.set n ((fs.getD n wc0).kids ka kn kc)) (w.setCell ⟨ob, n * 4 + 2, none⟩ (.slice ka kn kc)) := by
  have := row_set h (n * 4 + 2) (.slice ka kn kc)
  rw [wc_set fs n hn] at this
  unfold RowW
  rw [List.length_set]
  exact this
theorem getD_set_self (l : List Wc) (n : Nat) (hn : n < l.length) (c : Wc) : (l.set n c).getD n wc0 = c := by
  rw [List.getD_eq_getElem?_getD, List.getElem?_set_self hn]; rfl
theorem getD_set_other (l : List Wc) (n i : Nat) (h : n ≠ i) (c : Wc) : (l.set n c).getD i wc0 = l.getD i wc0 := by
  rw [List.getD_eq_getElem?_getD, List.getElem?_set_ne h, List.getD_eq_getElem?_getD]
theorem getD_snoc_lt {α : Type} (l : List α) (x d : α) (i : Nat) (h : i < l.length) : (l ++ [x]).getD i d = l.getD i d := by
  rw [List.getD_eq_getElem?_getD, List.getElem?_append_left h, List.getD_eq_getElem?_getD]
theorem getD_snoc_eq {α : Type} (l : List α) (x d : α) : (l ++ [x]).getD l.length d = x := by
  rw [List.getD_eq_getElem?_getD]; simp
/-- The stack behind a word that is put to the topmost. -/
theorem Stk.added {B P ob oc : Nat} {fs : List Wc} {under : List Fr} {top : Fr} {D : Nat → Prop} {w w4 : World} (h : Stk B P ob oc fs (under ++ [top]) D w) (hP : P < w.heap.size) {its : List Wc} {c : Wc} {d : Wd} {g' cap : Nat}
    (hits : its.length = top.kids.length) (hwd : ∀ j, j < top.kids.length → WdIs D w (its.getD j wc0) (top.kids.getD j wd0)) (hd : WdIs D w c d)
    (h1 : w.heap.size ≤ w4.heap.size) (h2 : ∀ g, g < w.heap.size → g ≠ ob → (fs.getD under.length wc0).kv.ownBlock ≠ some g → w4.heap[g]? = w.heap[g]?)
    (h3 : RowW B (.slice (some ⟨ob, 0, none⟩) fs.length oc) (fs.set under.length ((fs.getD under.length wc0).kids (some ⟨g', 0, none⟩) (its.length + 1) cap)) w4)
    (h4 : RowW B (.slice (some ⟨g', 0, none⟩) (its.length + 1) cap) (its ++ [c]) w4)
    (h5 : (fs.getD under.length wc0).kv.ownBlock = some g' ∨ w.heap.size ≤ g') :
    Stk B P ob oc (fs.set under.length ((fs.getD under.length wc0).kids (some ⟨g', 0, none⟩) (its.length + 1) cap)) (under ++ [{ top with kids := top.kids ++ [d] }]) D w4 := by
  have hl : fs.length = under.length + 1 := by rw [h.len]; simp
  have hn : under.length < fs.length := by omega
  have hft : FrIs B D w (fs.getD under.length wc0) top := by have := h.fr under.length (by simp); rwa [getD_snoc_eq] at this
  have hkn := h.kP under.length (by simp)
  have hob := h.row.lt ob rfl
  have hD : ∀ g, D g → g < w.heap.size → g < w4.heap.size ∧ w4.heap[g]? = w.heap[g]? := fun g hg hlt => ⟨by omega, h2 g hlt (h.dd g hg).2.2.2 (fun e => (hkn g e).2.2 hg)⟩
  have hself := getD_set_self fs under.length hn ((fs.getD under.length wc0).kids (some ⟨g', 0, none⟩) (its.length + 1) cap)
  have hblk : ((fs.getD under.length wc0).kids (some ⟨g', 0, none⟩) (its.length + 1) cap).kv.ownBlock = some g' := rfl
  refine ⟨by simp [hl], by rw [List.length_set]; exact h3, h.obP, fun i hi => ?_, fun i hi g e => ?_, fun i j hi hj hij g e e' => ?_, fun g hg => ?_⟩
  · by_cases hin : i = under.length
    · subst hin
      rw [hself, getD_snoc_eq]
      refine ⟨hft.kind, hft.text, hft.glued, its ++ [c], h4, by simp [hits], fun j hj => ?_⟩
      by_cases hjl : j < top.kids.length
      · rw [getD_snoc_lt _ _ _ _ (by omega)]
        rw [show (top.kids ++ [d]).getD j wd0 = top.kids.getD j wd0 from getD_snoc_lt _ _ _ _ hjl]
        exact (hwd j hjl).move hD (fun _ x => x)
      · have hje : j = top.kids.length := by simp at hj; omega
        subst hje
        rw [show (its ++ [c]).getD top.kids.length wc0 = c by rw [← hits]; exact getD_snoc_eq _ _ _, show (top.kids ++ [d]).getD top.kids.length wd0 = d from getD_snoc_eq _ _ _]
        exact hd.move hD (fun _ x => x)
    · have hilt : i < under.length := by simp at hi; omega
      rw [getD_set_other fs under.length i (Ne.symm hin), getD_snoc_lt _ _ _ _ hilt]
      have hf := h.fr i (by simp; omega)
      rw [getD_snoc_lt _ _ _ _ hilt] at hf
      refine hf.move hD (fun _ x => x) (fun g e => h2 g (hf.lt g e).2 (h.kP i (by simp; omega) g e).2.1 (fun e' => h.kk i under.length (by simp; omega) (by simp) hin g e e'))
  · by_cases hin : i = under.length
    · subst hin
      rw [hself, hblk] at e
      obtain rfl := Option.some.inj e
      rcases h5 with h5 | h5
      · exact hkn g' h5
      · exact ⟨by omega, by omega, fun hg => by have := (h.dd g' hg).2.1; omega⟩
    · have hilt : i < under.length := by simp at hi; omega
      rw [getD_set_other fs under.length i (Ne.symm hin)] at e
      exact h.kP i (by simp; omega) g e
  · have hlt : ∀ k, k < under.length → ∀ g, (fs.getD k wc0).kv.ownBlock = some g → g ≠ g' := fun k hk g e e2 => by
      rcases h5 with h5 | h5
      · rw [← e2] at h5
        exact h.kk k under.length (by simp; omega) (by simp) (by omega) g e h5
      · have := ((h.fr k (by simp; omega)).lt g e).2
        omega
    by_cases hin : i = under.length
    · subst hin
      rw [hself, hblk] at e
      have hjlt : j < under.length := by simp at hj; omega
      rw [getD_set_other fs under.length j (Ne.symm (by omega))] at e'
      exact hlt j hjlt g e' (Option.some.inj e).symm
    · have hilt : i < under.length := by simp at hi; omega
      rw [getD_set_other fs under.length i (Ne.symm hin)] at e
      by_cases hjn : j = under.length
      · subst hjn
        rw [hself, hblk] at e'
        exact hlt i hilt g e (Option.some.inj e').symm
      · rw [getD_set_other fs under.length j (Ne.symm hjn)] at e'
        exact h.kk i j (by simp; omega) (by simp at hj ⊢; omega) hij g e e'
  · obtain ⟨a, b, x⟩ := h.dd g hg
    exact ⟨a, by omega, x⟩
end Go.Proofs.YtliiapdakojomabDoor
