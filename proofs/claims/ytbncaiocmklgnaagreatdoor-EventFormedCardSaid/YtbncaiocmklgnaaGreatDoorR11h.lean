/- EventFormed, plain: putting one by one: what stays, what is like what, which lists have one form. -/
import Derived.Test.YtbncaiocmklgnaaGreatDoorR11d
namespace Go.Proofs.YtbncaiocmklgnaaGreatDoor
open Go.RowKit Go.Lib

section
variable {α : Type} {lt sm : α → α → Bool}
theorem Ord.refl (h : Ord lt sm) (x : α) : sm x x = true := by
  rw [h.like]
  cases e : lt x x with
  | false => rfl
  | true => have := h.asym x x e; rw [e] at this; cases this
theorem pu_same (h : Ord lt sm) (x : α) (s : List α) (hs : Str lt s) (y : α) (hy : y ∈ s) (e : sm y x = true) : pu lt sm x s = s := by
  induction s with
  | nil => cases hy
  | cons z r ih =>
    obtain ⟨h1, h2⟩ := List.pairwise_cons.1 hs
    rw [pu]
    rcases List.mem_cons.1 hy with rfl | hy
    · have : lt x y = false := by
        cases q : lt x y with
        | false => rfl
        | true => rw [h.ne' q] at e; cases e
      rw [this, e]
      rfl
    · have : lt x z = false := by
        cases q : lt x z with
        | false => rfl
        | true => rw [h.ne' (h.tr q (h1 y hy))] at e; cases e
      rw [this, ih h2 hy]
      cases sm z x <;> rfl
theorem pu_new (x : α) (s : List α) (hn : ∀ y, y ∈ s → sm y x = false) : (pu lt sm x s).Perm (x :: s) := by
  induction s with
  | nil => exact List.Perm.refl _
  | cons y r ih =>
    rw [pu, hn y List.mem_cons_self]
    cases lt x y with
    | true => exact List.Perm.refl _
    | false => exact ((ih (fun z hz => hn z (List.mem_cons_of_mem _ hz))).cons y).trans (List.Perm.swap x y r)
theorem pu_sub (x : α) (s : List α) : ∀ y, y ∈ s → y ∈ pu lt sm x s := by
  induction s with
  | nil => intro y hy; cases hy
  | cons z r ih =>
    intro y hy
    rw [pu]
    cases lt x z with
    | true => exact List.mem_cons_of_mem _ hy
    | false =>
      cases sm z x with
      | true => exact hy
      | false =>
        rw [cond_false, cond_false]
        rcases List.mem_cons.1 hy with rfl | hy
        · exact List.mem_cons_self
        · exact List.mem_cons_of_mem _ (ih y hy)
theorem pu_has (h : Ord lt sm) (x : α) (s : List α) : ∃ y, y ∈ pu lt sm x s ∧ sm y x = true := by
  induction s with
  | nil => exact ⟨x, List.mem_cons_self, h.refl x⟩
  | cons z r ih =>
    rw [pu]
    cases lt x z with
    | true => exact ⟨x, List.mem_cons_self, h.refl x⟩
    | false =>
      cases e : sm z x with
      | true => exact ⟨z, List.mem_cons_self, e⟩
      | false =>
        obtain ⟨y, hy, h1⟩ := ih
        exact ⟨y, List.mem_cons_of_mem _ hy, h1⟩
theorem pu_end (h : Ord lt sm) (x : α) (s : List α) (hs : ∀ y, y ∈ s → lt y x = true) : pu lt sm x s = s ++ [x] := by
  induction s with
  | nil => rfl
  | cons z r ih =>
    have h1 := hs z List.mem_cons_self
    rw [pu, h.asym _ _ h1, h.ne h1, ih (fun y hy => hs y (List.mem_cons_of_mem _ hy))]
    rfl
variable (lt sm) in
def pf (l s : List α) : List α := l.foldl (fun c x => pu lt sm x c) s
theorem pf_str (h : Ord lt sm) (l : List α) : ∀ s, Str lt s → Str lt (pf lt sm l s) := by
  induction l with
  | nil => intro s hs; exact hs
  | cons x l ih => intro s hs; exact ih _ (pu_str h x s hs)
theorem pf_sub (l : List α) : ∀ s y, y ∈ s → y ∈ pf lt sm l s := by
  induction l with
  | nil => intro s y hy; exact hy
  | cons x l ih => intro s y hy; exact ih _ y (pu_sub x s y hy)
theorem pf_mem (l : List α) : ∀ s z, z ∈ pf lt sm l s → z ∈ s ∨ z ∈ l := by
  induction l with
  | nil => intro s z hz; exact .inl hz
  | cons x l ih =>
    intro s z hz
    rcases ih _ z hz with h | h
    · rcases pu_mem x z s h with h | h
      · exact .inr (by simp [h])
      · exact .inl h
    · exact .inr (by simp [h])
theorem pf_has (h : Ord lt sm) (l : List α) : ∀ s x, x ∈ l → ∃ y, y ∈ pf lt sm l s ∧ sm y x = true := by
  induction l with
  | nil => intro s x hx; cases hx
  | cons z l ih =>
    intro s x hx
    rcases List.mem_cons.1 hx with rfl | hx
    · obtain ⟨y, hy, e⟩ := pu_has h x s
      exact ⟨y, pf_sub l _ y hy, e⟩
    · exact ih _ x hx
theorem pf_same (h : Ord lt sm) (l : List α) : ∀ s, Str lt s → (∀ x, x ∈ l → ∃ y, y ∈ s ∧ sm y x = true) → pf lt sm l s = s := by
  induction l with
  | nil => intro s _ _; rfl
  | cons x l ih =>
    intro s hs hx
    obtain ⟨y, hy, e⟩ := hx x List.mem_cons_self
    show pf lt sm l (pu lt sm x s) = s
    rw [pu_same h x s hs y hy e]
    exact ih s hs (fun z hz => hx z (List.mem_cons_of_mem _ hz))
theorem pf_self (h : Ord lt sm) (l : List α) : ∀ s, Str lt (s ++ l) → pf lt sm l s = s ++ l := by
  induction l with
  | nil => intro s _; rw [List.append_nil]; rfl
  | cons x l ih =>
    intro s hs
    show pf lt sm l (pu lt sm x s) = s ++ x :: l
    have h1 := (List.pairwise_append.1 hs).2.2
    rw [pu_end h x s (fun y hy => h1 y hy x List.mem_cons_self)]
    have e : s ++ x :: l = (s ++ [x]) ++ l := by rw [List.append_assoc]; rfl
    rw [e] at hs ⊢
    exact ih _ hs
theorem pf_len (l : List α) : ∀ s : List α, (pf lt sm l s).length ≤ s.length + l.length := by
  induction l with
  | nil => intro s; exact Nat.le_refl _
  | cons x l ih =>
    intro s
    have h1 : (pf lt sm l (pu lt sm x s)).length ≤ _ := ih (pu lt sm x s)
    have h2 := pu_length (lt := lt) (sm := sm) x s
    show (pf lt sm l (pu lt sm x s)).length ≤ _
    rw [List.length_cons]
    omega
variable (sm) in
def Nd (l s : List α) : Prop := l.Pairwise (fun a b => sm a b = false) ∧ ∀ x, x ∈ l → ∀ y, y ∈ s → sm y x = false
theorem pf_nd (h : Ord lt sm) (l : List α) : ∀ s, Str lt s → s.length + l.length ≤ (pf lt sm l s).length → Nd sm l s := by
  induction l with
  | nil => intro s _ _; exact ⟨List.Pairwise.nil, fun x hx => by cases hx⟩
  | cons x l ih =>
    intro s hs hl
    have hl' : s.length + (l.length + 1) ≤ (pf lt sm l (pu lt sm x s)).length := hl
    have h1 := pf_len (lt := lt) (sm := sm) l (pu lt sm x s)
    have h2 := pu_length (lt := lt) (sm := sm) x s
    have hnew : ∀ y, y ∈ s → sm y x = false := by
      intro y hy
      cases e : sm y x with
      | false => rfl
      | true => rw [pu_same h x s hs y hy e] at h1 hl'; omega
    have hp := pu_new (lt := lt) x s hnew
    have hI := ih (pu lt sm x s) (pu_str h x s hs) (by omega)
    refine ⟨List.pairwise_cons.2 ⟨fun z hz => hI.2 z hz x (hp.mem_iff.2 List.mem_cons_self), hI.1⟩, fun z hz y hy => ?_⟩
    rcases List.mem_cons.1 hz with rfl | hz
    · exact hnew y hy
    · exact hI.2 z hz y (pu_sub x s y hy)
theorem pf_perm (l : List α) : ∀ s : List α, Nd sm l s → (pf lt sm l s).Perm (l ++ s) := by
  induction l with
  | nil => intro s _; exact List.Perm.refl _
  | cons x l ih =>
    intro s hn
    obtain ⟨h1, h2⟩ := List.pairwise_cons.1 hn.1
    have hp := pu_new (lt := lt) x s (hn.2 x List.mem_cons_self)
    have hI := ih (pu lt sm x s) ⟨h2, fun z hz y hy => by
      rcases List.mem_cons.1 (hp.mem_iff.1 hy) with rfl | hy
      · exact h1 z hz
      · exact hn.2 z (List.mem_cons_of_mem _ hz) y hy⟩
    show (pf lt sm l (pu lt sm x s)).Perm _
    exact hI.trans ((hp.append_left l).trans List.perm_middle)
theorem str_eq (h : Ord lt sm) : ∀ (a b : List α), Str lt a → Str lt b → a.Perm b → a = b := by
  intro a
  induction a with
  | nil => intro b _ _ hp; exact (List.Perm.nil_eq hp)
  | cons x r ih =>
    intro b ha hb hp
    cases b with
    | nil => exact absurd hp.length_eq (by simp)
    | cons y t =>
      obtain ⟨a1, a2⟩ := List.pairwise_cons.1 ha
      obtain ⟨b1, b2⟩ := List.pairwise_cons.1 hb
      have e : x = y := by
        rcases List.mem_cons.1 (hp.mem_iff.1 (List.mem_cons_self (a := x))) with e | hx
        · exact e
        · rcases List.mem_cons.1 (hp.mem_iff.2 (List.mem_cons_self (a := y))) with e | hy
          · exact e.symm
          · have q1 := b1 x hx
            have q2 := h.asym _ _ (a1 y hy)
            rw [q1] at q2
            cases q2
      subst e
      rw [ih t a2 b2 (List.Perm.cons_inv hp)]
theorem nd_perm (h : Ord lt sm) {a b : List α} (hp : a.Perm b) (hn : Nd sm a []) : Nd sm b [] :=
  ⟨(hp.pairwise_iff (fun {x y} (e : sm x y = false) => by rw [h.comm]; exact e)).1 hn.1, fun x _ y hy => by cases hy⟩
/-- Two lists of the same, where no two are alike, have one form. -/
theorem pf_turn (h : Ord lt sm) {a b : List α} (hp : a.Perm b) (hl : a.length ≤ (pf lt sm a []).length) : pf lt sm b [] = pf lt sm a [] := by
  have hn := pf_nd h a [] List.Pairwise.nil (by simpa using hl)
  have h1 := pf_perm (lt := lt) a [] hn
  have h2 := pf_perm (lt := lt) b [] (nd_perm h hp hn)
  rw [List.append_nil] at h1 h2
  exact str_eq h _ _ (pf_str h b [] List.Pairwise.nil) (pf_str h a [] List.Pairwise.nil) (h2.trans (hp.symm.trans h1.symm))
end
end Go.Proofs.YtbncaiocmklgnaaGreatDoor

/- EventFormed, plain: what the form of flags has. -/
namespace Go.Proofs.YtbncaiocmklgnaaGreatDoor
open Go.RowKit Go.Lib

theorem all256 (p : UInt8 → Bool) (h : ∀ n : Fin 256, p (UInt8.ofNat n.val) = true) (c : UInt8) : p c = true := by
  have := h ⟨c.toNat, c.toNat_lt⟩
  simpa using this
theorem sm_sm (c : UInt8) : sm (sm c) = sm c := by
  have := all256 (fun c => sm (sm c) == sm c) (by decide +kernel) c
  simpa using this
theorem atom_sm (c : UInt8) : atomC (sm c) = atomC c := by
  have := all256 (fun c => atomC (sm c) == atomC c) (by decide +kernel) c
  simpa using this
theorem lower_lower (l : List UInt8) : lower (lower l) = lower l := by
  unfold lower
  rw [List.map_map]
  exact List.map_congr_left (fun c _ => sm_sm c)
def lowB (f : ByteArray) : ByteArray := S (lower (L f))
theorem L_low (f : ByteArray) : L (lowB f) = lower (L f) := rfl
theorem key_low (l : List UInt8) : isKey (lower l) = isKey l := by
  have e1 : (lower l).length = l.length := List.length_map _
  have e2 : (lower l).isEmpty = l.isEmpty := by cases l <;> rfl
  have e3 : (lower l).all atomC = l.all atomC := by
    unfold lower
    rw [List.all_map]
    congr 1
    funext c
    exact atom_sm c
  unfold isKey isAtom
  rw [e1, e2, e3]
theorem same_low (a b : List UInt8) : same a (lower b) = same a b := by
  unfold same
  rw [lower_lower]
theorem which_low (l : List UInt8) : whichI (lower l) = whichI l := by
  unfold whichI
  simp only [same_low]
theorem sameB_iff (x y : ByteArray) : sameB x y = true ↔ lower (L x) = lower (L y) := by
  unfold sameB same
  exact beq_iff_eq
theorem which_sys (j : Nat) (hj : j < 5) : whichI (L (sysN j)) = (j : Int) := by
  match j, hj with
  | 0, _ => decide +kernel
  | 1, _ => decide +kernel
  | 2, _ => decide +kernel
  | 3, _ => decide +kernel
  | 4, _ => decide +kernel
theorem which_same (l : List UInt8) (j : Nat) (h : whichI l = (j : Int)) (hj : j < 5) : same (L (sysN j)) l = true := by
  unfold whichI at h
  repeat' split at h
  all_goals first
    | (rename_i q; match j, hj, h with
        | 0, _, _ => first | exact q | (exfalso; omega)
        | 1, _, _ => first | exact q | (exfalso; omega)
        | 2, _, _ => first | exact q | (exfalso; omega)
        | 3, _, _ => first | exact q | (exfalso; omega)
        | 4, _, _ => first | exact q | (exfalso; omega))
    | (exfalso; omega)
theorem which_or (l : List UInt8) : whichI l = -1 ∨ ∃ j : Nat, j < 5 ∧ whichI l = (j : Int) := by
  rcases which_bit l with ⟨_, h⟩ | ⟨j, hj, _, h⟩
  · exact .inl h
  · exact .inr ⟨j, hj, h⟩
def formL (ss : List ByteArray) : List ByteArray := seenTo ss 5 ++ wordsL ss
theorem form_ok (ss : List ByteArray) (hl : ss.length ≤ 16) (hk : ∀ f, f ∈ kwsL ss → isKey (L f) = true) : flagsE ss = 0 ∧ flagsL ss = formL ss := by
  have hk' := (kws_ok ss).2 hk
  have e : flagsE ss = 0 := by unfold flagsE; rw [if_neg (by omega), if_pos hk']
  exact ⟨e, by unfold flagsL; rw [if_pos e, form_words ss hk']; rfl⟩
theorem form_inv (ss : List ByteArray) (h : flagsE ss = 0) : (∀ f, f ∈ kwsL ss → isKey (L f) = true) ∧ flagsL ss = formL ss := by
  have hk : kwOK ss = true := by
    unfold flagsE at h
    split at h
    · cases h
    · split at h
      · assumption
      · cases h
  exact ⟨(kws_ok ss).1 hk, by unfold flagsL; rw [if_pos h, form_words ss hk]; rfl⟩
theorem words_pf (ss : List ByteArray) : wordsL ss = pf ltB sameB (kwsL ss) [] := putL_fold _ [] List.Pairwise.nil
theorem words_str (ss : List ByteArray) : Str ltB (wordsL ss) := by rw [words_pf]; exact pf_str ordB _ _ List.Pairwise.nil
theorem words_kws (ss : List ByteArray) (x : ByteArray) (h : x ∈ wordsL ss) : x ∈ kwsL ss := by
  rw [words_pf] at h
  rcases pf_mem _ _ _ h with h | h
  · cases h
  · exact h
theorem kws_iff (ss : List ByteArray) (x : ByteArray) : x ∈ kwsL ss ↔ x ∈ ss ∧ whichI (L x) = -1 := by
  unfold kwsL
  rw [List.mem_filter]
  exact and_congr_right (fun _ => beq_iff_eq)
theorem seen_iff (ss : List ByteArray) (j : Nat) : isSeen ss j = true ↔ ∃ f, f ∈ ss ∧ whichI (L f) = (j : Int) := by
  unfold isSeen
  rw [List.any_eq_true]
  exact exists_congr (fun f => and_congr_right (fun _ => beq_iff_eq))
theorem seenTo_mem (ss : List ByteArray) (k : Nat) (x : ByteArray) : x ∈ seenTo ss k ↔ ∃ j, j < k ∧ isSeen ss j = true ∧ x = sysN j := by
  induction k with
  | zero => simp [seenTo]
  | succ k ih =>
    rw [seenTo, List.mem_append, ih]
    constructor
    · rintro (⟨j, hj, h1, h2⟩ | h)
      · exact ⟨j, by omega, h1, h2⟩
      · split at h
        · rename_i hs
          exact ⟨k, by omega, hs, List.mem_singleton.1 h⟩
        · cases h
    · rintro ⟨j, hj, h1, h2⟩
      by_cases e : j = k
      · subst e
        right
        rw [if_pos h1, h2]
        exact List.mem_cons_self
      · exact .inl ⟨j, by omega, h1, h2⟩
theorem seenTo_congr (a b : List ByteArray) (h : ∀ j, j < 5 → isSeen a j = isSeen b j) : ∀ k, k ≤ 5 → seenTo a k = seenTo b k := by
  intro k
  induction k with
  | zero => intro _; rfl
  | succ k ih => intro hk; rw [seenTo, seenTo, ih (by omega), h k (by omega)]
theorem form_eq (a b : List ByteArray) (h : ∀ j, j < 5 → isSeen a j = isSeen b j) (hw : wordsL a = wordsL b) : formL a = formL b := by
  unfold formL
  rw [seenTo_congr a b h 5 (Nat.le_refl _), hw]
theorem form_len (ss : List ByteArray) : (formL ss).length ≤ 5 + ss.length := by
  unfold formL
  rw [List.length_append]
  have h1 := seenTo_len ss 5
  have h2 := wordsL_len ss
  omega
/-- The form's keywords. -/
theorem kws_form (ss : List ByteArray) : kwsL (formL ss) = wordsL ss := by
  unfold formL kwsL
  rw [List.filter_append]
  have h1 : (seenTo ss 5).filter (fun f => whichI (L f) == -1) = [] := by
    rw [List.filter_eq_nil_iff]
    intro x hx
    obtain ⟨j, hj, _, rfl⟩ := (seenTo_mem ss 5 x).1 hx
    rw [which_sys j hj]
    simp
  have h2 : (wordsL ss).filter (fun f => whichI (L f) == -1) = wordsL ss := by
    rw [List.filter_eq_self]
    intro x hx
    have := ((kws_iff ss x).1 (words_kws ss x hx)).2
    rw [this]
    rfl
  rw [h1, h2]
  rfl
theorem seen_form (ss : List ByteArray) (j : Nat) (hj : j < 5) : isSeen (formL ss) j = isSeen ss j := by
  have e : isSeen (formL ss) j = true ↔ isSeen ss j = true := by
    rw [seen_iff]
    constructor
    · rintro ⟨f, hf, hw⟩
      unfold formL at hf
      rcases List.mem_append.1 hf with hf | hf
      · obtain ⟨i, hi, h1, rfl⟩ := (seenTo_mem ss 5 f).1 hf
        rw [which_sys i hi] at hw
        have : i = j := by omega
        rw [← this]
        exact h1
      · have := ((kws_iff ss f).1 (words_kws ss f hf)).2
        omega
    · intro h
      exact ⟨sysN j, List.mem_append_left _ ((seenTo_mem ss 5 _).2 ⟨j, hj, h, rfl⟩), which_sys j hj⟩
  cases h1 : isSeen (formL ss) j <;> cases h2 : isSeen ss j <;> simp_all
/-- The form stays as it is. -/
theorem form_again (ss : List ByteArray) (hl : ss.length ≤ 8) (hk : ∀ f, f ∈ kwsL ss → isKey (L f) = true) : flagsE (formL ss) = 0 ∧ flagsL (formL ss) = formL ss := by
  have h := form_ok (formL ss) (by have := form_len ss; omega) (fun f hf => by rw [kws_form] at hf; exact hk f (words_kws ss f hf))
  refine ⟨h.1, h.2.trans (form_eq _ _ (fun j hj => seen_form ss j hj) ?_)⟩
  rw [words_pf (formL ss), kws_form]
  exact pf_self ordB _ [] (words_str ss)
theorem form_in (ss : List ByteArray) (x : ByteArray) (h : x ∈ formL ss) : ∃ f, f ∈ ss ∧ lower (L f) = lower (L x) := by
  unfold formL at h
  rcases List.mem_append.1 h with h | h
  · obtain ⟨j, hj, h1, rfl⟩ := (seenTo_mem ss 5 x).1 h
    obtain ⟨f, hf, hw⟩ := (seen_iff ss j).1 h1
    exact ⟨f, hf, ((sameB_iff (sysN j) f).1 (which_same (L f) j hw hj)).symm⟩
  · exact ⟨x, wordsL_mem ss x h, rfl⟩
theorem in_form (ss : List ByteArray) (f : ByteArray) (h : f ∈ ss) : ∃ x, x ∈ formL ss ∧ lower (L f) = lower (L x) := by
  rcases which_or (L f) with hw | ⟨j, hj, hw⟩
  · obtain ⟨y, hy, e⟩ := pf_has ordB (kwsL ss) [] f ((kws_iff ss f).2 ⟨h, hw⟩)
    rw [← words_pf] at hy
    exact ⟨y, List.mem_append_right _ hy, ((sameB_iff y f).1 e).symm⟩
  · exact ⟨sysN j, List.mem_append_left _ ((seenTo_mem ss 5 _).2 ⟨j, hj, (seen_iff ss j).2 ⟨f, h, hw⟩, rfl⟩), ((sameB_iff (sysN j) f).1 (which_same (L f) j hw hj)).symm⟩
theorem kws_append (a b : List ByteArray) : kwsL (a ++ b) = kwsL a ++ kwsL b := List.filter_append ..
theorem kws_low (ss : List ByteArray) : kwsL (ss.map lowB) = (kwsL ss).map lowB := by
  unfold kwsL
  rw [List.filter_map]
  congr 2
  funext f
  show (whichI (L (lowB f)) == -1) = _
  rw [L_low, which_low]
theorem form_more (ss : List ByteArray) (hl : ss.length ≤ 8) (hk : ∀ f, f ∈ kwsL ss → isKey (L f) = true) : flagsE (ss ++ ss.map lowB) = 0 ∧ flagsL (ss ++ ss.map lowB) = formL ss := by
  have h := form_ok (ss ++ ss.map lowB) (by rw [List.length_append, List.length_map]; omega) (fun f hf => by
    rw [kws_append, kws_low] at hf
    rcases List.mem_append.1 hf with hf | hf
    · exact hk f hf
    · obtain ⟨g, hg, rfl⟩ := List.mem_map.1 hf
      rw [L_low, key_low]
      exact hk g hg)
  refine ⟨h.1, h.2.trans (form_eq _ _ (fun j _ => ?_) ?_)⟩
  · have e : isSeen (ss ++ ss.map lowB) j = true ↔ isSeen ss j = true := by
      rw [seen_iff, seen_iff]
      constructor
      · rintro ⟨f, hf, hw⟩
        rcases List.mem_append.1 hf with hf | hf
        · exact ⟨f, hf, hw⟩
        · obtain ⟨g, hg, rfl⟩ := List.mem_map.1 hf
          rw [L_low, which_low] at hw
          exact ⟨g, hg, hw⟩
      · rintro ⟨f, hf, hw⟩
        exact ⟨f, List.mem_append_left _ hf, hw⟩
    cases h1 : isSeen (ss ++ ss.map lowB) j <;> cases h2 : isSeen ss j <;> simp_all
  · rw [words_pf, words_pf, kws_append, kws_low]
    unfold pf
    rw [List.foldl_append]
    refine pf_same ordB _ _ (pf_str ordB _ _ List.Pairwise.nil) (fun x hx => ?_)
    obtain ⟨g, hg, rfl⟩ := List.mem_map.1 hx
    obtain ⟨y, hy, e⟩ := pf_has ordB (kwsL ss) [] g hg
    refine ⟨y, hy, ?_⟩
    rw [sameB_iff] at e ⊢
    rw [L_low, lower_lower]
    exact e
/-- One of them is none by itself. -/
theorem mark_one (ss : List ByteArray) (hl : ss.length ≤ 8) (h : ¬ flagsE ss = 0) : flagsE ss = 127 ∧ flagsL ss = [] ∧ ∃ f, f ∈ ss ∧ flagsE [f] = 127 := by
  have hk : ¬ kwOK ss = true := by
    intro hk
    apply h
    unfold flagsE
    rw [if_neg (by omega), if_pos hk]
  have e : flagsE ss = 127 := by unfold flagsE; rw [if_neg (by omega), if_neg hk]
  refine ⟨e, by unfold flagsL; rw [e, if_neg (by decide)], ?_⟩
  have hex : ∃ f, f ∈ kwsL ss ∧ isKey (L f) = false := by
    apply Classical.byContradiction
    intro hne
    apply hk
    rw [kws_ok]
    intro f hf
    cases q : isKey (L f) with
    | true => rfl
    | false => exact absurd ⟨f, hf, q⟩ hne
  obtain ⟨f, hf, q⟩ := hex
  obtain ⟨h1, h2⟩ := (kws_iff ss f).1 hf
  refine ⟨f, h1, ?_⟩
  have hk1 : ¬ kwOK [f] = true := by
    rw [kws_ok]
    intro hh
    have := hh f ((kws_iff [f] f).2 ⟨List.mem_cons_self, h2⟩)
    rw [q] at this
    cases this
  unfold flagsE
  rw [if_neg (by simp), if_neg hk1]
end Go.Proofs.YtbncaiocmklgnaaGreatDoor

/- EventFormed, plain: the form of a list that is turned; the form rises. -/
namespace Go.Proofs.YtbncaiocmklgnaaGreatDoor
open Go.RowKit Go.Lib

def wI (ss : List ByteArray) : List Int := ss.map (fun f => whichI (L f))
def upTo (k : Nat) (l : List Int) : Nat := (l.filter (fun c => decide (0 ≤ c) && decide (c < (k : Int)))).length
theorem upTo_cons (k : Nat) (c : Int) (l : List Int) : upTo k (c :: l) = upTo k l + (if 0 ≤ c ∧ c < (k : Int) then 1 else 0) := by
  unfold upTo
  rw [List.filter_cons]
  by_cases h : 0 ≤ c ∧ c < (k : Int)
  · rw [if_pos h, if_pos (by simp [h.1, h.2])]
    rfl
  · rw [if_neg h, if_neg (by simpa using h)]
    rfl
theorem upTo_step (l : List Int) (k : Nat) : upTo k l + (if l.any (fun c => c == (k : Int)) = true then 1 else 0) ≤ upTo (k + 1) l := by
  induction l with
  | nil => simp [upTo]
  | cons c l ih =>
    rw [upTo_cons, upTo_cons, List.any_cons]
    by_cases h : c = (k : Int)
    · have e : (c == (k : Int)) = true := beq_iff_eq.2 h
      rw [e, Bool.true_or, if_pos rfl, if_neg (by omega), if_pos (by omega)]
      have : upTo k l ≤ upTo (k + 1) l := by
        refine Nat.le_trans (Nat.le_add_right _ _) ih
      omega
    · have e : (c == (k : Int)) = false := beq_eq_false_iff_ne.2 h
      rw [e, Bool.false_or]
      generalize (if l.any (fun c => c == (k : Int)) = true then 1 else 0) = d at ih ⊢
      by_cases h2 : 0 ≤ c ∧ c < (k : Int)
      · rw [if_pos h2, if_pos (by omega)]; omega
      · rw [if_neg h2, if_neg (by omega)]; omega
theorem seenTo_upTo (ss : List ByteArray) : ∀ k, (seenTo ss k).length ≤ upTo k (wI ss) := by
  intro k
  induction k with
  | zero => exact Nat.zero_le _
  | succ k ih =>
    have h := upTo_step (wI ss) k
    have e : (wI ss).any (fun c => c == (k : Int)) = isSeen ss k := by
      unfold wI isSeen
      rw [List.any_map]
      rfl
    rw [e] at h
    rw [seenTo, List.length_append]
    have : (if isSeen ss k = true then [sysN k] else []).length = if isSeen ss k = true then 1 else 0 := by split <;> rfl
    rw [this]
    omega
theorem upTo_kws (ss : List ByteArray) (k : Nat) : upTo k (wI ss) + (kwsL ss).length ≤ ss.length := by
  induction ss with
  | nil => exact Nat.le_refl _
  | cons f l ih =>
    have e : wI (f :: l) = whichI (L f) :: wI l := rfl
    have e2 : (kwsL (f :: l)).length = (kwsL l).length + (if whichI (L f) = -1 then 1 else 0) := by
      unfold kwsL
      rw [List.filter_cons]
      by_cases h : whichI (L f) = -1
      · rw [if_pos h, if_pos (by rw [h]; rfl)]; rfl
      · rw [if_neg h, if_neg (by simpa using h)]; rfl
    rw [e, upTo_cons, e2, List.length_cons]
    by_cases h : whichI (L f) = -1
    · rw [if_pos h, if_neg (by omega)]; omega
    · rw [if_neg h]
      split <;> omega
theorem form_turn (ss : List ByteArray) (hl : ss.length ≤ 8) (hk : ∀ f, f ∈ kwsL ss → isKey (L f) = true) (hf : ss.length ≤ (formL ss).length) (os : List ByteArray) (hp : os.Perm ss) : flagsE os = 0 ∧ flagsL os = formL ss := by
  have hkp : (kwsL os).Perm (kwsL ss) := hp.filter _
  have h := form_ok os (by rw [hp.length_eq]; omega) (fun f hf => hk f (hkp.mem_iff.1 hf))
  refine ⟨h.1, h.2.trans (form_eq _ _ (fun j _ => ?_) ?_)⟩
  · have e : isSeen os j = true ↔ isSeen ss j = true := by
      rw [seen_iff, seen_iff]
      exact exists_congr (fun f => and_congr_left (fun _ => hp.mem_iff))
    cases h1 : isSeen os j <;> cases h2 : isSeen ss j <;> simp_all
  · rw [words_pf, words_pf]
    refine pf_turn ordB hkp.symm ?_
    rw [← words_pf]
    unfold formL at hf
    rw [List.length_append] at hf
    have h1 := seenTo_upTo ss 5
    have h2 := upTo_kws ss 5
    omega
/-- Does a text begin with a backslash? -/
def bsl (x : ByteArray) : Bool := (L x).take 1 == [92]
inductive Rises (x y : ByteArray) : Prop
  | sys (hx : bsl x = true) (hy : bsl y = true) (h : Op.bytesLess x.toList y.toList = true)
  | mid (hx : bsl x = true) (hy : bsl y = false)
  | key (hx : bsl x = false) (hy : bsl y = false) (h : ltB x y = true)
theorem key_bsl (x : ByteArray) (h : isKey (L x) = true) : bsl x = false ∧ 1 ≤ x.size := by
  unfold isKey isAtom at h
  have hs : x.size = (L x).length := Lib.size_eq x
  rw [hs]
  unfold bsl
  cases e : L x with
  | nil => rw [e] at h; simp at h
  | cons c r =>
    rw [e] at h
    simp only [List.all_cons, Bool.and_eq_true] at h
    have hc : atomC c = true := h.2.2.1
    refine ⟨?_, by simp⟩
    rw [beq_eq_false_iff_ne]
    intro e2
    have : c = 92 := by simpa using e2
    rw [this] at hc
    exact absurd hc (by decide)
theorem sys_bsl (j : Nat) (hj : j < 5) : bsl (sysN j) = true ∧ 1 ≤ (sysN j).size := by
  match j, hj with
  | 0, _ => decide +kernel
  | 1, _ => decide +kernel
  | 2, _ => decide +kernel
  | 3, _ => decide +kernel
  | 4, _ => decide +kernel
theorem sys_riseF : ∀ i j : Fin 5, i < j → Op.bytesLess (sysN i.val).toList (sysN j.val).toList = true := by decide +kernel
theorem sys_rise (i j : Nat) (hij : i < j) (hj : j < 5) : Op.bytesLess (sysN i).toList (sysN j).toList = true := sys_riseF ⟨i, by omega⟩ ⟨j, hj⟩ hij
theorem seenTo_rises (ss : List ByteArray) : ∀ k, k ≤ 5 → (seenTo ss k).Pairwise Rises := by
  intro k
  induction k with
  | zero => intro _; exact List.Pairwise.nil
  | succ k ih =>
    intro hk
    rw [seenTo, List.pairwise_append]
    refine ⟨ih (by omega), ?_, ?_⟩
    · split
      · exact List.pairwise_singleton _ _
      · exact List.Pairwise.nil
    · intro x hx y hy
      obtain ⟨i, hi, _, rfl⟩ := (seenTo_mem ss k x).1 hx
      split at hy
      · rw [List.mem_singleton.1 hy]
        exact .sys (sys_bsl i (by omega)).1 (sys_bsl k (by omega)).1 (sys_rise i k hi (by omega))
      · cases hy
theorem form_rises (ss : List ByteArray) (hk : ∀ f, f ∈ kwsL ss → isKey (L f) = true) : (formL ss).Pairwise Rises := by
  unfold formL
  rw [List.pairwise_append]
  refine ⟨seenTo_rises ss 5 (Nat.le_refl _), ?_, ?_⟩
  · refine List.Pairwise.imp_of_mem ?_ (words_str ss)
    intro x y hx hy h
    exact .key (key_bsl x (hk x (words_kws ss x hx))).1 (key_bsl y (hk y (words_kws ss y hy))).1 h
  · intro x hx y hy
    obtain ⟨i, hi, _, rfl⟩ := (seenTo_mem ss 5 x).1 hx
    exact .mid (sys_bsl i hi).1 (key_bsl y (hk y (words_kws ss y hy))).1
theorem form_full (ss : List ByteArray) (hk : ∀ f, f ∈ kwsL ss → isKey (L f) = true) (x : ByteArray) (h : x ∈ formL ss) : 1 ≤ x.size := by
  unfold formL at h
  rcases List.mem_append.1 h with h | h
  · obtain ⟨i, hi, _, rfl⟩ := (seenTo_mem ss 5 x).1 h
    exact (sys_bsl i hi).2
  · exact (key_bsl x (hk x (words_kws ss x h))).2
end Go.Proofs.YtbncaiocmklgnaaGreatDoor
