/- Patterns: what follows for patterns cut out of names. Plain mathematics. -/
import Derived.Test.YtedegnngdlkbhaaS12g
namespace Go.Proofs.Ytedegnngdlkbhaa

theorem fm_star (s : List (UInt8 × UInt8)) : fm [42] 0 s = true := by
  induction s with
  | nil => rfl
  | cons x s ih =>
    have h : stays [42] x.1 0 = true := any_stays _ _ _ rfl
    simp only [fm, h, ih, Bool.and_true, Bool.true_or]
theorem fm_pct (s : List (UInt8 × UInt8)) : fm [37] 0 s = s.all (fun x => !(x.1 == 47)) := by
  induction s with
  | nil => rfl
  | cons x s ih =>
    have h1 : hit [37] x.1 x.2 0 = false := by simp [hit, hasL, ltr, isW]
    have h2 : stays [37] x.1 0 = !(x.1 == 47) := by
      unfold stays
      by_cases e : x.1 = 47
      · rw [if_pos e, e]; rfl
      · rw [if_neg e]
        have e' : (x.1 == 47) = false := by simpa using e
        rw [e']; rfl
    simp only [fm, h1, h2, ih, List.all_cons, Bool.false_and, Bool.or_false]
theorem fm_nil (s : List (UInt8 × UInt8)) : fm [] 0 s = s.isEmpty := by
  cases s with
  | nil => rfl
  | cons x s =>
    have h1 : hit [] x.1 x.2 0 = false := by simp [hit, hasL, ltr]
    have h2 : stays [] x.1 0 = false := by unfold stays; split <;> rfl
    simp [fm, h1, h2]
theorem prs_all (l : List UInt8) (f : UInt8 → Bool) : (prs l).all (fun x => f x.1) = l.all f := by
  rw [Bool.eq_iff_iff, List.all_eq_true, List.all_eq_true]
  constructor
  · intro h c hc
    obtain ⟨i, hi, e⟩ := List.getElem_of_mem hc
    have := h (bt l i, oth l i) (by unfold prs; exact List.mem_map.2 ⟨i, List.mem_range.2 hi, rfl⟩)
    rw [← e, ← bt_getElem l i hi]; exact this
  · intro h x hx
    obtain ⟨i, hi, e⟩ := List.mem_map.1 hx
    have hi' := List.mem_range.1 hi
    rw [← e]
    exact h _ (by show bt l i ∈ l; rw [bt_getElem l i hi']; exact List.getElem_mem _)
theorem prs_empty (l : List UInt8) : (prs l).isEmpty = l.isEmpty := by
  cases l with
  | nil => rfl
  | cons a l => simp [prs]
theorem prs_at (l : List UInt8) (i : Nat) (h : i < (prs l).length) : (prs l)[i] = (bt l i, oth l i) := by simp [prs]

theorem fm_hits (p : List UInt8) (a b : List (UInt8 × UInt8)) (j : Nat) (h : ∀ i (hi : i < a.length), hit p a[i].1 a[i].2 (j + i) = true) (hb : fm p (j + a.length) b = true) : fm p j (a ++ b) = true := by
  induction a generalizing j with
  | nil => exact hb
  | cons x a ih =>
    have h0 := h 0 (by simp)
    simp only [List.getElem_cons_zero, Nat.add_zero] at h0
    have := ih (j + 1) (fun i hi => by
      have := h (i + 1) (by simp; omega)
      simp only [List.getElem_cons_succ] at this
      rw [show j + 1 + i = j + (i + 1) by omega]; exact this) (by rw [show j + 1 + a.length = j + (x :: a).length by simp; omega]; exact hb)
    simp only [List.cons_append, fm, h0, this, Bool.and_true, Bool.or_true]
theorem fm_stay (p : List UInt8) (a b : List (UInt8 × UInt8)) (j : Nat) (h : ∀ x, x ∈ a → stays p x.1 j = true) (hb : fm p j b = true) : fm p j (a ++ b) = true := by
  induction a with
  | nil => exact hb
  | cons x a ih =>
    have := ih (fun y hy => h y (List.mem_cons_of_mem _ hy))
    have h0 := h x (List.mem_cons_self ..)
    simp only [List.cons_append, fm, h0, this, Bool.and_true, Bool.true_or]
def bare (l : List UInt8) : Bool := l.all (fun c => !isW c)
theorem ltr_bare (l : List UInt8) (h : bare l = true) : ltr l = l := by
  unfold ltr; rw [List.filter_eq_self]; unfold bare at h; rw [List.all_eq_true] at h; exact h
theorem wAt_app (f : UInt8 → Bool) (p r : List UInt8) (j : Nat) (h : wAt f p j = true) : wAt f (p ++ r) j = true := by
  induction p generalizing j with
  | nil => simp [wAt] at h
  | cons a p ih =>
    simp only [List.cons_append, wAt] at *
    cases ha : isW a
    · simp only [ha] at h ⊢
      cases j with
      | zero => simp at h
      | succ j => simpa using ih j (by simpa using h)
    · simp only [ha] at h ⊢
      simp at h ⊢
      rcases h with h | h
      · exact Or.inl h
      · exact Or.inr (ih j h)
theorem wAt_bare (f : UInt8 → Bool) (p : List UInt8) (j : Nat) (h : bare p = true) : wAt f p j = false := by
  induction p generalizing j with
  | nil => rfl
  | cons a p ih =>
    unfold bare at h
    rw [List.all_cons, Bool.and_eq_true] at h
    have ha : isW a = false := by simpa using h.1
    simp only [wAt, ha, Bool.false_eq_true, if_false]
    cases j with
    | zero => rfl
    | succ j => exact ih j h.2
theorem match_self (l : List UInt8) (h : bare l = true) : fm l 0 (prs l) = true := by
  have := fm_hits l (prs l) [] 0 (fun i hi => by
    rw [prs_at]
    rw [prs_length] at hi
    unfold hit hasL; rw [ltr_bare l h, Nat.zero_add, List.getElem?_eq_getElem hi, bt_getElem l i hi]; simp) (by
    rw [prs_length, Nat.zero_add]; simp [fm, ltr_bare l h])
  rw [List.append_nil] at this; exact this
theorem match_cut (l : List UInt8) (i k : Nat) (hik : i ≤ k) (hk : k ≤ l.length) (hb : bare l = true) (w : UInt8) (hw : isW w = true) (hst : ∀ x, i ≤ x → x < k → w = 42 ∨ bt l x ≠ 47) :
    fm (l.take i ++ [w] ++ l.drop k) 0 (prs l) = true := by
  have hbt : bare (l.take i) = true := by unfold bare at *; rw [List.all_eq_true] at *; exact fun c hc => hb c (List.mem_of_mem_take hc)
  have hbd : bare (l.drop k) = true := by unfold bare at *; rw [List.all_eq_true] at *; exact fun c hc => hb c (List.mem_of_mem_drop hc)
  have hl : ltr (l.take i ++ [w] ++ l.drop k) = l.take i ++ l.drop k := by
    have e1 : ltr (l.take i ++ [w] ++ l.drop k) = ltr (l.take i ++ [w]) ++ ltr (l.drop k) := by unfold ltr; rw [List.filter_append]
    rw [e1, ltr_snoc, hw, ltr_bare _ hbt, ltr_bare _ hbd]; rfl
  have hlen : (l.take i).length = i := by rw [List.length_take]; omega
  have hat : ∀ f : UInt8 → Bool, f w = true → wAt f (l.take i ++ [w] ++ l.drop k) i = true := fun f hf => wAt_app f _ _ _ (by
    rw [wAt_snoc, hw, hf, ltr_bare _ hbt, hlen]; simp)
  have hsplit : prs l = (prs l).take i ++ (((prs l).drop i).take (k - i) ++ (prs l).drop k) := by
    have e2 : (prs l).drop k = ((prs l).drop i).drop (k - i) := by rw [List.drop_drop]; congr 1; omega
    rw [e2, List.take_append_drop, List.take_append_drop]
  rw [hsplit]
  refine fm_hits _ _ _ 0 (fun j hj => ?_) ?_
  · rw [List.length_take, prs_length] at hj
    rw [List.getElem_take, prs_at]
    unfold hit hasL; rw [hl, Nat.zero_add, List.getElem?_append_left (by omega), List.getElem?_take, if_pos (by omega), List.getElem?_eq_getElem (by omega), bt_getElem l j (by omega)]; simp
  · have e3 : ((prs l).take i).length = i := by rw [List.length_take, prs_length]; omega
    rw [e3, Nat.zero_add]
    refine fm_stay _ _ _ i (fun x hx => ?_) ?_
    · obtain ⟨t, ht, e⟩ := List.getElem_of_mem hx
      rw [List.length_take, List.length_drop, prs_length] at ht
      rw [List.getElem_take, List.getElem_drop, prs_at] at e
      rw [← e]
      unfold stays anyA passA
      rcases hst (i + t) (by omega) (by omega) with h | h
      · split
        · exact hat _ (by rw [h]; rfl)
        · exact hat _ rfl
      · rw [if_neg h]; exact hat _ rfl
    · have e4 : (prs l).drop k = (prs l).drop k ++ [] := by rw [List.append_nil]
      rw [e4]
      refine fm_hits _ _ _ i (fun j hj => ?_) ?_
      · rw [List.length_drop, prs_length] at hj
        rw [List.getElem_drop, prs_at]
        unfold hit hasL; rw [hl, List.getElem?_append_right (by omega), hlen, show i + j - i = j by omega, List.getElem?_drop, List.getElem?_eq_getElem (by omega), bt_getElem l (k + j) (by omega)]; simp
      · rw [List.length_drop, prs_length]
        unfold fm; rw [hl, List.length_append, hlen, List.length_drop]; simp
theorem fm_bare (q : List UInt8) (h : bare q = true) (s : List (UInt8 × UInt8)) (hs : ∀ x, x ∈ s → x.1 = x.2) (j : Nat) (hj : j ≤ q.length) : fm q j s = (q.drop j == s.map Prod.fst) := by
  induction s generalizing j with
  | nil =>
    simp only [fm, ltr_bare q h, List.map_nil]
    rw [Bool.eq_iff_iff, beq_iff_eq, beq_iff_eq]
    constructor
    · intro e; rw [e]; exact List.drop_length
    · intro e
      have := congrArg List.length e
      rw [List.length_drop, List.length_nil] at this; omega
  | cons x s ih =>
    have hx := hs x (List.mem_cons_self ..)
    have h1 : stays q x.1 j = false := by unfold stays anyA passA; split <;> exact wAt_bare _ _ _ h
    have h2 : hit q x.1 x.2 j = (q[j]? == some x.1) := by unfold hit hasL; rw [ltr_bare q h, ← hx, Bool.or_self]
    simp only [fm, h1, h2, Bool.false_and, Bool.false_or, List.map_cons]
    by_cases e : j < q.length
    · rw [ih (fun y hy => hs y (List.mem_cons_of_mem _ hy)) (j + 1) (by omega), List.drop_eq_getElem_cons e, List.getElem?_eq_getElem e]
      rfl
    · rw [List.getElem?_eq_none (by omega), List.drop_eq_nil_of_le (by omega)]; rfl
theorem match_bare (q l : List UInt8) (h : bare q = true) (hf : foldN l = 0) : fm q 0 (prs l) = (q == l) := by
  rw [fm_bare q h (prs l) (fun x hx => by
    obtain ⟨i, _, e⟩ := List.mem_map.1 hx
    rw [← e]; show bt l i = oth l i
    unfold oth; rw [hf]; rfl) 0 (Nat.zero_le _), List.drop_zero]
  congr 1
  apply List.ext_getElem
  · rw [List.length_map, prs_length]
  · intro i h1 h2
    rw [List.getElem_map, prs_at]; exact bt_getElem l i h2

end Go.Proofs.Ytedegnngdlkbhaa
