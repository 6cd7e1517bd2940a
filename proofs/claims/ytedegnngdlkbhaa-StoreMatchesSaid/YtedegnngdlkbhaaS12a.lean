/- Patterns as plain mathematics: letters and places, walks forward and backward, the document's rows of places, words of 64 places. Nothing of the program. -/
namespace Go.Proofs.Ytedegnngdlkbhaa

def isW (c : UInt8) : Bool := c == 42 || c == 37
def ltr (p : List UInt8) : List UInt8 := p.filter (fun c => !isW c)
def wAt (f : UInt8 → Bool) : List UInt8 → Nat → Bool
  | [], _ => false
  | c :: p, j => if isW c then ((f c && j == 0) || wAt f p j) else (match j with | 0 => false | j + 1 => wAt f p j)
def anyA (p : List UInt8) (j : Nat) : Bool := wAt (fun c => c == 42) p j
def passA (p : List UInt8) (j : Nat) : Bool := wAt (fun _ => true) p j
def hasL (p : List UInt8) (c : UInt8) (j : Nat) : Bool := (ltr p)[j]? == some c

theorem ltr_snoc (p : List UInt8) (c : UInt8) : ltr (p ++ [c]) = if isW c then ltr p else ltr p ++ [c] := by
  unfold ltr; rw [List.filter_append]; cases h : isW c <;> simp [h]
theorem wAt_snoc (f : UInt8 → Bool) (p : List UInt8) (c : UInt8) (j : Nat) :
    wAt f (p ++ [c]) j = (wAt f p j || (isW c && f c && j == (ltr p).length)) := by
  induction p generalizing j with
  | nil =>
    simp only [List.nil_append, wAt, ltr, List.filter_nil, List.length_nil]
    cases h : isW c
    · simp; cases j <;> simp
    · simp
  | cons a p ih =>
    simp only [List.cons_append, wAt]
    cases h : isW a
    · have e : ltr (a :: p) = a :: ltr p := by simp [ltr, h]
      rw [e]
      cases j with
      | zero => simp
      | succ j => simp [ih]
    · have e : ltr (a :: p) = ltr p := by simp [ltr, h]
      rw [e]
      simp [ih, Bool.or_assoc]
theorem wAt_le (f : UInt8 → Bool) (p : List UInt8) (j : Nat) (h : wAt f p j = true) : j ≤ (ltr p).length := by
  induction p generalizing j with
  | nil => simp [wAt] at h
  | cons a p ih =>
    simp only [wAt] at h
    cases ha : isW a
    · have e : ltr (a :: p) = a :: ltr p := by simp [ltr, ha]
      rw [e]; simp only [ha] at h
      cases j with
      | zero => exact Nat.zero_le _
      | succ j => have := ih j (by simpa using h); simp; omega
    · have e : ltr (a :: p) = ltr p := by simp [ltr, ha]
      rw [e]; simp only [ha] at h
      simp at h
      rcases h with ⟨_, rfl⟩ | h
      · exact Nat.zero_le _
      · exact ih j h
theorem any_pass (p : List UInt8) (j : Nat) (h : anyA p j = true) : passA p j = true := by
  unfold anyA passA at *
  induction p generalizing j with
  | nil => simp [wAt] at h
  | cons a p ih =>
    simp only [wAt] at *
    cases ha : isW a
    · simp only [ha] at h ⊢
      cases j with
      | zero => simp at h
      | succ j => simpa using ih j (by simpa using h)
    · simp only [ha] at h ⊢
      simp at h ⊢
      rcases h with ⟨_, rfl⟩ | h
      · exact Or.inl rfl
      · exact Or.inr (ih j h)
def stays (p : List UInt8) (c : UInt8) (j : Nat) : Bool := if c = 47 then anyA p j else passA p j
theorem any_stays (p : List UInt8) (c : UInt8) (j : Nat) (h : anyA p j = true) : stays p c j = true := by
  unfold stays; split
  · exact h
  · exact any_pass p j h
def hit (p : List UInt8) (c o : UInt8) (j : Nat) : Bool := hasL p c j || hasL p o j
/-- From a place on: do these bytes lead to the end? -/
def fm (p : List UInt8) : Nat → List (UInt8 × UInt8) → Bool
  | j, [] => j == (ltr p).length
  | j, x :: s => (stays p x.1 j && fm p j s) || (hit p x.1 x.2 j && fm p (j + 1) s)
theorem hit_lt {p : List UInt8} {c o : UInt8} {j : Nat} (h : hit p c o j = true) : j < (ltr p).length := by
  unfold hit hasL at h
  by_cases e : j < (ltr p).length
  · exact e
  · rw [List.getElem?_eq_none (by omega)] at h; simp at h
theorem fm_any (p : List UInt8) (s : List (UInt8 × UInt8)) (j q : Nat) (hq : anyA p q = true) (hj : j ≤ q) (h : fm p j s = true) : fm p q s = true := by
  have hm := wAt_le _ p q hq
  induction s generalizing j with
  | nil => simp [fm] at *; omega
  | cons x s ih =>
    simp only [fm, Bool.or_eq_true, Bool.and_eq_true] at h
    simp only [fm, Bool.or_eq_true, Bool.and_eq_true]
    rcases h with ⟨_, h⟩ | ⟨h1, h⟩
    · exact Or.inl ⟨any_stays p _ q hq, ih j hj h⟩
    · by_cases e : j = q
      · subst e; exact Or.inr ⟨h1, h⟩
      · exact Or.inl ⟨any_stays p _ q hq, ih (j + 1) (by omega) h⟩
/-- What a step makes of places (those from `lo` on count). -/
def stp (p : List UInt8) (c o : UInt8) (lo : Nat) (f : Nat → Bool) (j : Nat) : Bool :=
  if j < lo then f j else (decide (lo < j) && (f (j - 1) && hit p c o (j - 1))) || (f j && stays p c j)
theorem stp_step (p : List UInt8) (c o : UInt8) (s : List (UInt8 × UInt8)) (lo lo' : Nat) (f : Nat → Bool) (hlo : lo ≤ lo')
    (hd : ∀ j, lo ≤ j → j < lo' → stp p c o lo f j = true → ∃ q, lo' ≤ q ∧ anyA p q = true ∧ stp p c o lo f q = true) :
    (∃ j, lo ≤ j ∧ f j = true ∧ fm p j ((c, o) :: s) = true) ↔ (∃ j, lo' ≤ j ∧ stp p c o lo f j = true ∧ fm p j s = true) := by
  constructor
  · rintro ⟨j, h1, h2, h3⟩
    have key : ∃ j', lo ≤ j' ∧ stp p c o lo f j' = true ∧ fm p j' s = true := by
      simp only [fm, Bool.or_eq_true, Bool.and_eq_true] at h3
      rcases h3 with ⟨h4, h5⟩ | ⟨h4, h5⟩
      · refine ⟨j, h1, ?_, h5⟩
        unfold stp; rw [if_neg (by omega)]; simp [h2, h4]
      · refine ⟨j + 1, by omega, ?_, h5⟩
        unfold stp; rw [if_neg (by omega)]
        have : decide (lo < j + 1) = true := by simp; omega
        simp [h2, h4, this]
    obtain ⟨j', k1, k2, k3⟩ := key
    by_cases e : lo' ≤ j'
    · exact ⟨j', e, k2, k3⟩
    · obtain ⟨q, q1, q2, q3⟩ := hd j' k1 (by omega) k2
      exact ⟨q, q1, q3, fm_any p s j' q q2 (by omega) k3⟩
  · rintro ⟨j, h1, h2, h3⟩
    unfold stp at h2; rw [if_neg (by omega)] at h2
    simp only [Bool.or_eq_true, Bool.and_eq_true, decide_eq_true_eq] at h2
    rcases h2 with ⟨h4, h5, h6⟩ | ⟨h4, h5⟩
    · refine ⟨j - 1, by omega, h5, ?_⟩
      simp only [fm, Bool.or_eq_true, Bool.and_eq_true]
      have : j - 1 + 1 = j := by omega
      rw [this]; exact Or.inr ⟨h6, h3⟩
    · refine ⟨j, by omega, h4, ?_⟩
      simp only [fm, Bool.or_eq_true, Bool.and_eq_true]
      exact Or.inl ⟨h5, h3⟩

/-- Forward: behind these bytes (the last one first), which places? -/
def fw (p : List UInt8) : List (UInt8 × UInt8) → Nat → Bool
  | [], j => j == 0
  | x :: r, j => (fw p r j && stays p x.1 j) || (decide (0 < j) && (fw p r (j - 1) && hit p x.1 x.2 (j - 1)))
theorem fw_fm (p : List UInt8) (r s : List (UInt8 × UInt8)) : (∃ j, fw p r j = true ∧ fm p j s = true) ↔ fm p 0 (r.reverse ++ s) = true := by
  induction r generalizing s with
  | nil => simp [fw]
  | cons x r ih =>
    rw [List.reverse_cons, List.append_assoc, List.singleton_append, ← ih (x :: s)]
    constructor
    · rintro ⟨j, h1, h2⟩
      simp only [fw, Bool.or_eq_true, Bool.and_eq_true, decide_eq_true_eq] at h1
      rcases h1 with ⟨h3, h4⟩ | ⟨h3, h4, h5⟩
      · exact ⟨j, h3, by simp only [fm, Bool.or_eq_true, Bool.and_eq_true]; exact Or.inl ⟨h4, h2⟩⟩
      · refine ⟨j - 1, h4, ?_⟩
        simp only [fm, Bool.or_eq_true, Bool.and_eq_true]
        have : j - 1 + 1 = j := by omega
        rw [this]; exact Or.inr ⟨h5, h2⟩
    · rintro ⟨j, h1, h2⟩
      simp only [fm, Bool.or_eq_true, Bool.and_eq_true] at h2
      rcases h2 with ⟨h3, h4⟩ | ⟨h3, h4⟩
      · exact ⟨j, by simp only [fw, Bool.or_eq_true, Bool.and_eq_true]; exact Or.inl ⟨h1, h3⟩, h4⟩
      · refine ⟨j + 1, ?_, h4⟩
        simp only [fw, Bool.or_eq_true, Bool.and_eq_true, decide_eq_true_eq, Nat.add_sub_cancel]
        exact Or.inr ⟨by omega, h1, h3⟩
theorem fm_fw (p : List UInt8) (s : List (UInt8 × UInt8)) : fm p 0 s = fw p s.reverse (ltr p).length := by
  have h := fw_fm p s.reverse []
  rw [List.reverse_reverse, List.append_nil] at h
  simp only [fm, beq_iff_eq] at h
  rw [Bool.eq_iff_iff, ← h]
  constructor
  · rintro ⟨j, h1, rfl⟩; exact h1
  · intro h1; exact ⟨_, h1, rfl⟩
theorem fw_le (p : List UInt8) (r : List (UInt8 × UInt8)) (j : Nat) (h : fw p r j = true) : j ≤ (ltr p).length := by
  induction r generalizing j with
  | nil => simp [fw] at h; omega
  | cons x r ih =>
    simp only [fw, Bool.or_eq_true, Bool.and_eq_true, decide_eq_true_eq] at h
    rcases h with ⟨h1, _⟩ | ⟨h1, _, h2⟩
    · exact ih j h1
    · have := hit_lt h2; omega

/-- Which rows of places the document's Match has: of the pattern so far, behind these bytes. -/
def rch (p : List UInt8) (r : List (UInt8 × UInt8)) : Bool := fw p r (ltr p).length
theorem rch_nil (r : List (UInt8 × UInt8)) : rch [] r = (match r with | [] => true | _ => false) := by
  cases r with
  | nil => rfl
  | cons x r => simp [rch, fw, ltr, stays, anyA, passA, wAt]
theorem hasL_snoc_lt (p : List UInt8) (c a : UInt8) (j : Nat) (h : j < (ltr p).length) : hasL (p ++ [c]) a j = hasL p a j := by
  unfold hasL; rw [ltr_snoc]; split
  · rfl
  · rw [List.getElem?_append_left h]
theorem hit_snoc_lt (p : List UInt8) (c a o : UInt8) (j : Nat) (h : j < (ltr p).length) : hit (p ++ [c]) a o j = hit p a o j := by
  unfold hit; rw [hasL_snoc_lt p c a j h, hasL_snoc_lt p c o j h]
theorem stays_snoc_lt (p : List UInt8) (c a : UInt8) (j : Nat) (h : j ≠ (ltr p).length) : stays (p ++ [c]) a j = stays p a j := by
  have h' : (j == (ltr p).length) = false := by simpa using h
  unfold stays anyA passA; rw [wAt_snoc, wAt_snoc, h']; simp
theorem fw_snoc_lt (p : List UInt8) (c : UInt8) (r : List (UInt8 × UInt8)) (j : Nat) (h : j < (ltr p).length) : fw (p ++ [c]) r j = fw p r j := by
  induction r generalizing j with
  | nil => rfl
  | cons x r ih =>
    simp only [fw]
    rw [ih j h, stays_snoc_lt p c _ j (by omega)]
    cases j with
    | zero => simp
    | succ j => rw [ih (j + 1 - 1) (by omega), hit_snoc_lt p c _ _ (j + 1 - 1) (by omega)]
theorem fw_snoc_letter (p : List UInt8) (c : UInt8) (hc : isW c = false) (r : List (UInt8 × UInt8)) (j : Nat) (h : j ≤ (ltr p).length) : fw (p ++ [c]) r j = fw p r j := by
  induction r generalizing j with
  | nil => rfl
  | cons x r ih =>
    simp only [fw]
    have e : stays (p ++ [c]) x.1 j = stays p x.1 j := by
      unfold stays anyA passA; rw [wAt_snoc, wAt_snoc]; simp [hc]
    rw [ih j h, e]
    cases j with
    | zero => simp
    | succ j => rw [ih (j + 1 - 1) (by omega), hit_snoc_lt p c _ _ (j + 1 - 1) (by omega)]
theorem rch_letter (p : List UInt8) (a : UInt8) (ha : isW a = false) (r : List (UInt8 × UInt8)) :
    rch (p ++ [a]) r = (match r with | [] => false | x :: r => rch p r && (a == x.1 || a == x.2)) := by
  have e : (ltr (p ++ [a])).length = (ltr p).length + 1 := by rw [ltr_snoc, ha]; simp
  unfold rch; rw [e]
  cases r with
  | nil => simp [fw]
  | cons x r =>
    simp only [fw, Nat.add_sub_cancel]
    have s0 : stays (p ++ [a]) x.1 ((ltr p).length + 1) = false := by
      cases hh : stays (p ++ [a]) x.1 ((ltr p).length + 1) with
      | false => rfl
      | true =>
        exfalso
        unfold stays anyA passA at hh
        rw [wAt_snoc, wAt_snoc] at hh
        simp only [ha, Bool.false_and, Bool.or_false] at hh
        split at hh
        · have := wAt_le _ p _ hh; omega
        · have := wAt_le _ p _ hh; omega
    have h0 : hit (p ++ [a]) x.1 x.2 (ltr p).length = (a == x.1 || a == x.2) := by
      unfold hit hasL; rw [ltr_snoc, ha]; simp
    rw [s0, h0, fw_snoc_letter p a ha r _ (Nat.le_refl _)]
    simp
theorem fw_wild_any (p : List UInt8) (c : UInt8) (r : List (UInt8 × UInt8)) (h : anyA p (ltr p).length = true) :
    fw (p ++ [c]) r (ltr p).length = fw p r (ltr p).length := by
  induction r with
  | nil => rfl
  | cons x r ih =>
    simp only [fw]
    have h1 : anyA (p ++ [c]) (ltr p).length = true := by
      have e := wAt_snoc (fun c => c == 42) p c (ltr p).length
      unfold anyA at *; rw [e, h]; rfl
    rw [ih, any_stays _ _ _ h, any_stays _ _ _ h1]
    cases e : (ltr p).length with
    | zero => simp
    | succ m =>
      rw [Nat.add_sub_cancel, fw_snoc_lt p c r m (by omega), hit_snoc_lt p c _ _ m (by omega)]
theorem rch_wild (p : List UInt8) (a : UInt8) (ha : isW a = true) (r : List (UInt8 × UInt8)) :
    rch (p ++ [a]) r = (rch p r || (match r with | [] => false | x :: r => rch (p ++ [a]) r && (a == 42 || !(x.1 == 47)))) := by
  have e : (ltr (p ++ [a])).length = (ltr p).length := by rw [ltr_snoc, ha]; simp
  unfold rch; rw [e]
  by_cases hA : anyA p (ltr p).length = true
  · rw [fw_wild_any p a r hA]
    cases r with
    | nil => simp
    | cons x r =>
      simp only
      rw [fw_wild_any p a r hA]
      cases h1 : fw p r (ltr p).length with
      | false => simp
      | true => simp only [fw]; rw [h1, any_stays p _ _ hA]; simp
  · have hA' : anyA p (ltr p).length = false := by simpa using hA
    cases r with
    | nil => simp [fw]
    | cons x r =>
      simp only [fw]
      have st : stays (p ++ [a]) x.1 (ltr p).length = (stays p x.1 (ltr p).length || (a == 42 || !(x.1 == 47))) := by
        have e1 := wAt_snoc (fun c => c == 42) p a (ltr p).length
        have e2 := wAt_snoc (fun _ => true) p a (ltr p).length
        unfold stays anyA passA; rw [e1, e2]
        by_cases h47 : x.1 = 47
        · rw [if_pos h47, if_pos h47]; simp [ha, h47]
        · rw [if_neg h47, if_neg h47]; simp [ha, h47]
      rw [st]
      have mono : fw p r (ltr p).length = true → fw (p ++ [a]) r (ltr p).length = true := by
        clear st
        induction r with
        | nil => simp [fw]
        | cons y r ih =>
          simp only [fw, Bool.or_eq_true, Bool.and_eq_true, decide_eq_true_eq]
          rintro (⟨h1, h2⟩ | ⟨h1, h2, h3⟩)
          · refine Or.inl ⟨ih h1, ?_⟩
            have e1 := wAt_snoc (fun c => c == 42) p a (ltr p).length
            have e2 := wAt_snoc (fun _ => true) p a (ltr p).length
            unfold stays anyA passA at *; rw [e1, e2]
            split
            · rw [if_pos (by assumption)] at h2; rw [h2]; rfl
            · rw [if_neg (by assumption)] at h2; rw [h2]; rfl
          · refine Or.inr ⟨h1, ?_, ?_⟩
            · rw [fw_snoc_lt p a r _ (by omega)]; exact h2
            · rw [hit_snoc_lt p a _ _ _ (by omega)]; exact h3
      have low : (decide (0 < (ltr p).length) && (fw (p ++ [a]) r ((ltr p).length - 1) && hit (p ++ [a]) x.1 x.2 ((ltr p).length - 1)))
          = (decide (0 < (ltr p).length) && (fw p r ((ltr p).length - 1) && hit p x.1 x.2 ((ltr p).length - 1))) := by
        by_cases h0 : 0 < (ltr p).length
        · rw [fw_snoc_lt p a r _ (by omega), hit_snoc_lt p a _ _ _ (by omega)]
        · simp [h0]
      rw [low]
      generalize (decide (0 < (ltr p).length) && (fw p r ((ltr p).length - 1) && hit p x.1 x.2 ((ltr p).length - 1))) = I
      -- where the pattern stays at a byte that the new sign does not take, it has no sign of all bytes at this place: so the sign is % and the byte /
      have key : stays p x.1 (ltr p).length = true → (a == 42 || !(x.1 == 47)) = false → False := by
        intro h1 h2
        simp at h2
        unfold stays at h1
        rw [if_pos h2.2] at h1
        rw [h1] at hA'; cases hA'
      cases h1 : fw (p ++ [a]) r (ltr p).length <;> cases h2 : fw p r (ltr p).length <;> cases h3 : stays p x.1 (ltr p).length <;> cases h4 : (a == 42 || !(x.1 == 47)) <;> cases I <;> simp_all

/-- A word of 64 places. -/
def mbits (f : Nat → Bool) : Nat → Nat
  | 0 => 0
  | n + 1 => mbits f n ||| (if f n then 1 <<< n else 0)
theorem mbits_testBit (f : Nat → Bool) (n b : Nat) : (mbits f n).testBit b = (decide (b < n) && f b) := by
  induction n with
  | zero => simp [mbits]
  | succ n ih =>
    rw [mbits, Nat.testBit_or, ih]
    by_cases hf : f n = true
    · rw [if_pos hf, Nat.testBit_shiftLeft]
      by_cases e : b = n
      · subst e; simp [hf]
      · by_cases h : b < n
        · simp [h, show b < n + 1 by omega, show ¬ n ≤ b by omega]
        · have : Nat.testBit 1 (b - n) = false := by
            cases hh : Nat.testBit 1 (b - n) with
            | false => rfl
            | true => exfalso; rw [Nat.testBit_one_eq_true_iff_self_eq_zero] at hh; omega
          simp [h, show ¬ b < n + 1 by omega, this]
    · rw [if_neg hf]
      by_cases e : b = n
      · subst e; simp [hf]
      · by_cases h : b < n
        · simp [h, show b < n + 1 by omega]
        · simp [h, show ¬ b < n + 1 by omega]
theorem mbits_lt (f : Nat → Bool) (n : Nat) : mbits f n < 2 ^ n := by
  apply Nat.lt_pow_two_of_testBit
  intro i hi
  rw [mbits_testBit]; simp; omega
def wd (f : Nat → Bool) (i : Nat) : Nat := mbits (fun b => f (64 * i + b)) 64
theorem wd_lt (f : Nat → Bool) (i : Nat) : wd f i < 2 ^ 64 := mbits_lt _ _
theorem wd_bit (f : Nat → Bool) (i b : Nat) : (wd f i).testBit b = (decide (b < 64) && f (64 * i + b)) := mbits_testBit _ _ _
theorem wd_eq (x : Nat) (f : Nat → Bool) (i : Nat) (hx : x < 2 ^ 64) (h : ∀ b, b < 64 → x.testBit b = f (64 * i + b)) : x = wd f i := by
  apply Nat.eq_of_testBit_eq
  intro b; rw [wd_bit]
  by_cases hb : b < 64
  · rw [h b hb]; simp [hb]
  · rw [Nat.testBit_lt_two_pow (Nat.lt_of_lt_of_le hx (Nat.pow_le_pow_right (by omega) (by omega)))]; simp [hb]
theorem wd_congr (f g : Nat → Bool) (i : Nat) (h : ∀ b, b < 64 → f (64 * i + b) = g (64 * i + b)) : wd f i = wd g i :=
  wd_eq _ g i (wd_lt f i) (fun b hb => by rw [wd_bit, h b hb]; simp [hb])
theorem wd_zero (f : Nat → Bool) (i : Nat) : wd f i = 0 ↔ ∀ b, b < 64 → f (64 * i + b) = false := by
  constructor
  · intro h b hb
    have := wd_bit f i b; rw [h] at this; simpa [hb] using this.symm
  · intro h
    exact (wd_eq 0 f i (by decide) (fun b hb => by rw [h b hb]; simp)).symm
theorem wd_and (f g : Nat → Bool) (i : Nat) : wd f i &&& wd g i = wd (fun j => f j && g j) i :=
  wd_eq _ _ i (Nat.lt_of_le_of_lt Nat.and_le_left (wd_lt f i)) (fun b hb => by rw [Nat.testBit_and, wd_bit, wd_bit]; simp [hb])
theorem wd_or (f g : Nat → Bool) (i : Nat) : wd f i ||| wd g i = wd (fun j => f j || g j) i :=
  wd_eq _ _ i (Nat.or_lt_two_pow (wd_lt f i) (wd_lt g i)) (fun b hb => by rw [Nat.testBit_or, wd_bit, wd_bit]; simp [hb])
theorem wd_add (f : Nat → Bool) (k : Nat) : wd f (k / 64) ||| 1 <<< (k % 64) = wd (fun j => f j || j == k) (k / 64) := by
  have hl : 1 <<< (k % 64) < 2 ^ 64 := by
    rw [Nat.shiftLeft_eq, Nat.one_mul]; exact Nat.pow_lt_pow_right (by omega) (Nat.mod_lt _ (by omega))
  refine wd_eq _ _ _ (Nat.or_lt_two_pow (wd_lt _ _) hl) (fun b hb => ?_)
  rw [Nat.testBit_or, wd_bit, Nat.testBit_shiftLeft]
  by_cases e : b = k % 64
  · simp [e, show 64 * (k / 64) + k % 64 = k by omega]
  · have h1 : (64 * (k / 64) + b == k) = false := by simp; omega
    rw [h1]
    by_cases h2 : k % 64 ≤ b
    · have : Nat.testBit 1 (b - k % 64) = false := by
        cases hh : Nat.testBit 1 (b - k % 64) with
        | false => rfl
        | true => exfalso; rw [Nat.testBit_one_eq_true_iff_self_eq_zero] at hh; omega
      simp [hb, this]
    · simp [hb, h2]
theorem wd_has (f : Nat → Bool) (k : Nat) : (wd f (k / 64) >>> (k % 64)) &&& 1 = if f k then 1 else 0 := by
  rw [Nat.and_one_is_mod]
  have h := wd_bit f (k / 64) (k % 64)
  rw [show 64 * (k / 64) + k % 64 = k by omega] at h
  have h' : decide (k % 64 < 64) = true := by simp; omega
  rw [h', Bool.true_and] at h
  rw [← h, Nat.testBit]
  simp only [Nat.and_comm 1, Nat.and_one_is_mod]
  rcases Nat.mod_two_eq_zero_or_one (wd f (k / 64) >>> (k % 64)) with e | e <;> simp [e]
theorem wd_top (f : Nat → Bool) (i : Nat) : wd f i >>> 63 = if f (64 * i + 63) then 1 else 0 := by
  have h := wd_has f (64 * i + 63)
  rw [show (64 * i + 63) / 64 = i by omega, show (64 * i + 63) % 64 = 63 by omega, Nat.and_one_is_mod] at h
  have h2 : wd f i >>> 63 < 2 := by
    rw [Nat.shiftRight_eq_div_pow]; have := wd_lt f i; omega
  omega
theorem wd_up (f : Nat → Bool) (i c : Nat) (cb : Bool) (hc : c = if cb then 1 else 0) :
    (wd f i <<< 1) % 2 ^ 64 ||| c = wd (fun j => if j = 64 * i then cb else f (j - 1)) i := by
  subst hc
  have h1 : (wd f i <<< 1) % 2 ^ 64 < 2 ^ 64 := Nat.mod_lt _ (by decide)
  have h2 : (if cb then 1 else 0) < 2 ^ 64 := by split <;> decide
  refine wd_eq _ _ _ (Nat.or_lt_two_pow h1 h2) (fun b hb => ?_)
  rw [Nat.testBit_or, Nat.testBit_mod_two_pow, Nat.testBit_shiftLeft]
  by_cases e : b = 0
  · subst e
    simp
    cases cb <;> simp
  · have h3 : Nat.testBit (if cb then 1 else 0) b = false := by
      cases cb
      · simp
      · simp only [if_true]
        cases hh : Nat.testBit 1 b with
        | false => rfl
        | true => exfalso; rw [Nat.testBit_one_eq_true_iff_self_eq_zero] at hh; omega
    have h4 : ¬ (64 * i + b = 64 * i) := by omega
    rw [h3, if_neg h4, wd_bit]
    have h5 : 64 * i + b - 1 = 64 * i + (b - 1) := by omega
    rw [h5]
    simp [hb, show 1 ≤ b by omega, show b - 1 < 64 by omega]

end Go.Proofs.Ytedegnngdlkbhaa
