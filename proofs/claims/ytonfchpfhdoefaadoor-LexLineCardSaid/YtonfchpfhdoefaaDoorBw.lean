/- lex, plain: announcements at the end of a line. -/
import Derived.Test.YtonfchpfhdoefaaDoorBt
namespace Go.Proofs.YtonfchpfhdoefaaDoor
open Go.RowKit

/-- Outside of quotes (0), in quotes (1), behind a \ in quotes (2). -/
def qstep (s : Nat) (c : UInt8) : Nat := if s = 0 then (if c = 34 then 1 else 0) else if s = 1 then (if c = 34 then 0 else if c = 92 then 2 else 1) else 1
def qst : List UInt8 → Nat → Nat
  | [], s => s
  | c :: r, s => qst r (qstep s c)
def endsQ (l : List UInt8) : Bool := !(qst l 0 == 0)
theorem qst_append (a b : List UInt8) (s : Nat) : qst (a ++ b) s = qst b (qst a s) := by
  induction a generalizing s with
  | nil => rfl
  | cons c a ih => exact ih _
/-- The place of the last brace. -/
def lastAt : List UInt8 → Option Nat
  | [] => none
  | c :: r => match lastAt r with
    | some k => some (k + 1)
    | none => if c = 123 then some 0 else none
theorem lastAt_none : ∀ (l : List UInt8), (∀ j, j < l.length → bt l j ≠ 123) → lastAt l = none
  | [], _ => rfl
  | c :: r, h => by
    have h1 := lastAt_none r (fun j hj => h (j + 1) (by simpa using hj))
    have h2 : c ≠ 123 := h 0 (by simp)
    simp only [lastAt, h1, if_neg h2]
theorem lastAt_some : ∀ (l : List UInt8) (k : Nat), k < l.length → bt l k = 123 → (∀ j, k < j → j < l.length → bt l j ≠ 123) → lastAt l = some k
  | [], _, h, _, _ => by simp at h
  | c :: r, 0, _, h, hj => by
    have h1 := lastAt_none r (fun j hj' => hj (j + 1) (by omega) (by simpa using hj'))
    have h2 : c = 123 := h
    simp only [lastAt, h1, if_pos h2]
  | c :: r, k + 1, hk, h, hj => by
    have h1 := lastAt_some r k (by simpa using hk) h (fun j h1 h2 => hj (j + 1) (by omega) (by simpa using h2))
    simp only [lastAt, h1]
theorem lastAt_lt : ∀ (l : List UInt8) (k : Nat), lastAt l = some k → k < l.length ∧ bt l k = 123
  | [], k, h => by simp [lastAt] at h
  | c :: r, k, h => by
    rw [lastAt] at h
    split at h
    · rename_i k' hk'
      obtain rfl := Option.some.inj h
      have := lastAt_lt r k' hk'
      exact ⟨by simpa using this.1, this.2⟩
    · split at h
      · rename_i hc
        obtain rfl := Option.some.inj h
        exact ⟨by simp, hc⟩
      · cases h
/-- What a line announces at its end. -/
def hitB (l : List UInt8) : Bool := l.head? == some 123 && annS l == l.length
def anced (l : List UInt8) : Option (Nat × Bool) := match lastAt l with
  | none => none
  | some k => if endsQ (l.take k) then none else if hitB (l.drop k) then some (annN (l.drop k), annQ (l.drop k)) else none
def refA : List UInt8 → Nat → Option (Nat × Bool)
  | [], _ => none
  | c :: r, s => if s = 0 ∧ hitB (c :: r) = true then some (annN (c :: r), annQ (c :: r)) else refA r (qstep s c)
theorem dig_ne {c : UInt8} (h : isDig c = true) : c ≠ 123 := by
  rintro rfl
  exact absurd h (by decide)
theorem tw_all {p : UInt8 → Bool} (r : List UInt8) : ∀ x ∈ r.takeWhile p, p x = true := by
  induction r with
  | nil => intro x hx; cases hx
  | cons a r ih =>
    intro x hx
    cases hp : p a with
    | false => rw [List.takeWhile_cons_of_neg (by simp [hp])] at hx; cases hx
    | true =>
      rw [List.takeWhile_cons_of_pos hp, List.mem_cons] at hx
      rcases hx with rfl | hx
      · exact hp
      · exact ih x hx
theorem tw_app (p : UInt8 → Bool) (r : List UInt8) : r = r.takeWhile p ++ r.drop (r.takeWhile p).length := by
  induction r with
  | nil => rfl
  | cons a r ih =>
    cases hp : p a with
    | false => rw [List.takeWhile_cons_of_neg (by simp [hp])]; rfl
    | true => rw [List.takeWhile_cons_of_pos hp]; simpa using ih
/-- An announcement that is all of a text has no brace further on. -/
theorem hit_parts {l : List UInt8} (h : hitB l = true) : ∃ d p, l = 123 :: (d ++ p ++ [125]) ∧ (∀ x ∈ d, isDig x = true) ∧ d ≠ [] ∧ (p = [] ∨ p = [43]) := by
  unfold hitB at h
  rw [Bool.and_eq_true, beq_iff_eq, beq_iff_eq] at h
  obtain ⟨h1, h2⟩ := h
  obtain ⟨r, rfl⟩ : ∃ r, l = 123 :: r := by
    cases l with
    | nil => cases h1
    | cons a r => simp at h1; exact ⟨r, by rw [h1]⟩
  have hB : annB (123 :: r) = true := by
    cases hb : annB (123 :: r) with
    | true => rfl
    | false => unfold annS at h2; rw [hb] at h2; simp at h2
  unfold annS at h2
  rw [if_pos hB] at h2
  have hE := annE_len (123 :: r)
  have hB2 := hB
  unfold annB at hB2
  rw [Bool.and_eq_true, beq_iff_eq] at hB2
  have hlen : (annE (123 :: r)).length = 1 := by
    cases he : annE (123 :: r) with
    | nil => rw [he] at hB2; cases hB2.2
    | cons a q =>
      rw [he] at hE h2
      simp only [List.length_cons] at *
      omega
  have hEE : annE (123 :: r) = [125] := by
    match hm : annE (123 :: r), hlen with
    | [x], _ =>
      rw [hm] at hB2
      simp at hB2
      rw [hB2.2]
  have hr : r = annD (123 :: r) ++ annR (123 :: r) := by
    have := tw_app isDig r
    unfold annR annD
    simp only [List.drop_succ_cons, List.drop_zero, Nat.add_comm 1]
    exact this
  have hd : annD (123 :: r) ≠ [] := by
    intro e
    rw [e] at hB2
    simp at hB2
  have hda : ∀ x ∈ annD (123 :: r), isDig x = true := by
    unfold annD
    exact tw_all _
  unfold annE at hEE
  split at hEE
  · rename_i hp
    unfold annP at hp
    rw [beq_iff_eq] at hp
    cases hR : annR (123 :: r) with
    | nil => rw [hR] at hp; cases hp
    | cons a q =>
      rw [hR] at hp hEE hr
      simp at hp hEE
      subst hp
      subst hEE
      exact ⟨_, [43], by rw [List.append_assoc]; exact congrArg _ hr, hda, hd, .inr rfl⟩
  · rw [hEE] at hr
    exact ⟨_, [], by rw [List.append_nil]; exact congrArg _ hr, hda, hd, .inl rfl⟩
theorem lastAt_mem : ∀ (l : List UInt8), 123 ∉ l → lastAt l = none
  | [], _ => rfl
  | c :: r, h => by
    rw [List.mem_cons, not_or] at h
    simp only [lastAt, lastAt_mem r h.2, if_neg (fun e => h.1 (Eq.symm e))]
theorem hit_last {c : UInt8} {r : List UInt8} (h : hitB (c :: r) = true) : lastAt r = none := by
  obtain ⟨d, p, hl, hd, _, hp⟩ := hit_parts h
  injection hl with _ hl
  apply lastAt_mem
  rw [hl]
  intro hm
  simp only [List.mem_append, List.mem_singleton] at hm
  rcases hm with (hm | hm) | hm
  · exact dig_ne (hd _ hm) rfl
  · rcases hp with rfl | rfl
    · cases hm
    · simp at hm
  · exact absurd hm (by decide)
theorem refA_eq : ∀ (l : List UInt8) (s : Nat), refA l s = match lastAt l with
    | none => none
    | some k => if qst (l.take k) s = 0 then (if hitB (l.drop k) then some (annN (l.drop k), annQ (l.drop k)) else none) else none
  | [], s => rfl
  | c :: r, s => by
    have ih := refA_eq r (qstep s c)
    rw [refA, lastAt]
    cases hl : lastAt r with
    | some k =>
      rw [hl] at ih
      have hno : ¬ (s = 0 ∧ hitB (c :: r) = true) := fun h => by
        rw [hit_last h.2] at hl
        cases hl
      rw [if_neg hno, ih]
      rfl
    | none =>
      rw [hl] at ih
      by_cases hc : c = 123
      · subst hc
        rw [if_pos rfl]
        simp only [List.take_zero, List.drop_zero, qst]
        by_cases hs : s = 0
        · by_cases hh : hitB (123 :: r) = true
          · rw [if_pos ⟨hs, hh⟩, if_pos hs, if_pos hh]
          · rw [if_neg (fun h => hh h.2), if_pos hs, if_neg hh, ih]
        · rw [if_neg (fun h => hs h.1), if_neg hs, ih]
      · have hno : ¬ (s = 0 ∧ hitB (c :: r) = true) := fun h => by
          obtain ⟨d, p, hl', _⟩ := hit_parts h.2
          injection hl' with e
          exact hc e
        rw [if_neg hno, if_neg hc, ih]
theorem refA_anced (l : List UInt8) : refA l 0 = anced l := by
  rw [refA_eq, anced]
  cases lastAt l with
  | none => rfl
  | some k =>
    show (if qst (l.take k) 0 = 0 then (if hitB (l.drop k) = true then some (annN (l.drop k), annQ (l.drop k)) else none) else none) = if endsQ (l.take k) = true then none else if hitB (l.drop k) = true then some (annN (l.drop k), annQ (l.drop k)) else none
    by_cases h : qst (l.take k) 0 = 0
    · have he : ¬ endsQ (l.take k) = true := by unfold endsQ; rw [h]; decide
      rw [if_pos h, if_neg he]
    · have he : endsQ (l.take k) = true := by unfold endsQ; simpa using h
      rw [if_neg h, if_pos he]
end Go.Proofs.YtonfchpfhdoefaaDoor

/- lex: Announced. -/
namespace Go.Proofs.YtonfchpfhdoefaaDoor
open Go.RowKit
end Go.Proofs.YtonfchpfhdoefaaDoor

/- lex, plain: a scanner's rounds, by what stands there; quotes in a line that is scanned. -/
namespace Go.Proofs.YtonfchpfhdoefaaDoor
open Go.RowKit

theorem sc_step {l : List UInt8} {s : Sc} (hI : SInv l.length s) (hf : s.fault l = 0) :
    (bt l s.pos = 32 ∧ s.pause l = true ∧ s.step l = .go { s with pos := s.pos + 1 }) ∨
    (openerB (bt l s.pos) = true ∧ s.begun < 512 ∧ s.under.length < 12 ∧ s.step l = .go { s with pos := s.pos + 1, begun := s.begun + 1, under := s.under ++ [s.top], top := ⟨kindC (bt l s.pos), s.word l, []⟩ }) ∨
    (closerB (bt l s.pos) = true ∧ s.top.kind = kindC (bt l s.pos) ∧ ∃ u f, s.under = u ++ [f] ∧ s.step l = .go { s with pos := s.pos + 1, under := u, top := { f with kids := f.kids ++ [Wd.mk s.top.kind (S []) s.top.kids s.top.glued] } }) ∨
    (bt l s.pos = 123 ∧ annB (l.drop s.pos) = true ∧ s.begun < 512 ∧ ∃ x r, s.lits = x :: r ∧ x.size = annN (l.drop s.pos) ∧ s.step l = .go ({ s with pos := s.pos + annS (l.drop s.pos), begun := s.begun + 1, lits := r }.add (Wd.mk 3 x [] (s.word l)))) ∨
    (bt l s.pos = 34 ∧ s.begun < 512 ∧ s.step l = match quo (l.drop (s.pos + 1)) false [] 0 with
      | .bad => .err 31
      | .cut => .cut { s with pos := l.length, begun := s.begun + 1 }
      | .done t n => .go ({ s with pos := s.pos + 1 + n, begun := s.begun + 1 }.add (Wd.mk 2 (S t) [] (s.word l)))) ∨
    (wordC (bt l s.pos) = true ∧ s.begun < 512 ∧ s.step l = .go ({ s with pos := s.pos + (atomL l s.pos).length, begun := s.begun + 1 }.add (Wd.mk 1 (S (atomL l s.pos)) [] (s.word l)))) := by
  rw [Sc.fault_eq] at hf
  obtain ⟨n1, n2, n3, n4, n5⟩ := no_fault hf
  have hb512 : begB l s.pos = true → s.begun < 512 := fun h => by
    have := n1 h
    rw [beq_eq_false_iff_ne] at this
    have := hI.begun
    omega
  have hbeg : begB l s.pos = if bt l s.pos == 123 then annB (l.drop s.pos) else bt l s.pos == 34 || openerB (bt l s.pos) || wordC (bt l s.pos) := rfl
  rcases step_class (bt l s.pos) with ⟨h1, _, h2, h3⟩ | ⟨h1, _, h2, h3, h4, h5, _⟩ | ⟨h1, _, h2, h3, _⟩ | ⟨h1, _, h2, h3, _, _, _, _, h4, _⟩ | ⟨h1, _, h2, h3, _, _, _, _, h4, _, h5, _⟩ | ⟨h1, _, h2, h3, _, _, _, _, h4, _, h5, _⟩
  · left
    have hc : bt l s.pos = 32 := by simpa using h1
    have hnb : begB l s.pos = false := by rw [hbeg, hc]; rfl
    refine ⟨hc, ?_, ?_⟩
    · rcases n5 with h | h | h
      · rw [hnb] at h; cases h
      · rw [h3] at h; cases h
      · exact h.2
    · unfold Sc.step
      simp only [h1, if_true]
  · right; left
    have hb : begB l s.pos = true := by rw [hbeg, h4]; exact h5
    refine ⟨h2, hb512 hb, ?_, ?_⟩
    · have := n2 h2
      rw [decide_eq_false_iff_not] at this
      omega
    · unfold Sc.step
      simp only [h1, h2, if_true, Bool.false_eq_true, if_false]
  · right; right; left
    have hk : s.top.kind = kindC (bt l s.pos) := by simpa using n3 h3
    obtain ⟨u, f, hu⟩ := hI.open hk
    refine ⟨h3, hk, u, f, hu, ?_⟩
    unfold Sc.step
    simp only [h1, h2, h3, if_true, Bool.false_eq_true, if_false, hu, List.getLast?_concat, List.dropLast_concat]
  · right; right; right; left
    have hc : bt l s.pos = 123 := by simpa using h4
    have hB : annB (l.drop s.pos) = true := by
      rcases n5 with h | h | h
      · rw [hbeg, h4] at h; exact h
      · rw [h3] at h; cases h
      · rw [h1] at h; cases h.1
    have hb : begB l s.pos = true := by rw [hbeg, h4]; exact hB
    have hfit := n4 h4 hb
    cases hl : s.lits with
    | nil => rw [hl] at hfit; cases hfit
    | cons x r =>
      rw [hl] at hfit
      refine ⟨hc, hB, hb512 hb, x, r, rfl, by simpa [fitB] using hfit, ?_⟩
      unfold Sc.step
      simp only [h1, h2, h3, h4, if_true, Bool.false_eq_true, if_false, hl, List.tail_cons, List.headD_cons]
  · right; right; right; right; left
    have hc : bt l s.pos = 34 := by simpa using h5
    have hb : begB l s.pos = true := by rw [hbeg, h4, h5]; rfl
    refine ⟨hc, hb512 hb, ?_⟩
    unfold Sc.step
    simp only [h1, h2, h3, h4, h5, if_true, Bool.false_eq_true, if_false]
    rfl
  · right; right; right; right; right
    have hw : begB l s.pos = true := by
      rcases n5 with h | h | h
      · exact h
      · rw [h3] at h; cases h
      · rw [h1] at h; cases h.1
    have hb := hb512 hw
    rw [hbeg, h4, h5, h2] at hw
    refine ⟨by simpa using hw, hb, ?_⟩
    unfold Sc.step
    simp only [h1, h2, h3, h4, h5, Bool.false_eq_true, if_false]
/-- Bytes that leave quotes alone. -/
theorem qst_plain : ∀ (a : List UInt8), (∀ x ∈ a, x ≠ 34) → qst a 0 = 0
  | [], _ => rfl
  | c :: r, h => by
    have hc : ¬ c = 34 := h c (by simp)
    show qst r (qstep 0 c) = 0
    rw [show qstep 0 c = 0 by simp [qstep, hc]]
    exact qst_plain r (fun x hx => h x (by simp [hx]))
/-- Quotes that end are behind themselves. -/
theorem quo_done : ∀ (r : List UInt8) (esc : Bool) (acc : List UInt8) (n : Nat) (t : List UInt8) (m : Nat), quo r esc acc n = .done t m → ∃ k, m = n + k ∧ 0 < k ∧ k ≤ r.length ∧ qst (r.take k) (if esc then 2 else 1) = 0
  | [], _, _, _, _, _, h => by simp [quo] at h
  | c :: r, esc, acc, n, t, m, h => by
    rw [quo] at h
    split at h
    · cases h
    · rename_i hq
      simp only [Bool.not_eq_true', Bool.not_eq_false] at hq
      split at h
      · rename_i h1
        rw [Bool.and_eq_true, beq_iff_eq] at h1
        injection h with _ hm
        obtain ⟨rfl, he⟩ := h1
        have he : esc = false := by simpa using he
        subst he
        exact ⟨1, hm.symm, by omega, by simp, rfl⟩
      · rename_i h1
        split at h
        · rename_i h2
          rw [Bool.and_eq_true, beq_iff_eq] at h2
          obtain ⟨rfl, he⟩ := h2
          have he : esc = false := by simpa using he
          subst he
          obtain ⟨k, hk, hk0, hkl, hq2⟩ := quo_done r true acc (n + 1) t m h
          refine ⟨k + 1, by omega, by omega, by simp; omega, ?_⟩
          rw [List.take_succ_cons]
          exact hq2
        · rename_i h2
          obtain ⟨k, hk, hk0, hkl, hq2⟩ := quo_done r false (acc ++ [c]) (n + 1) t m h
          refine ⟨k + 1, by omega, by omega, by simp; omega, ?_⟩
          rw [List.take_succ_cons]
          show qst (r.take k) (qstep _ c) = 0
          cases esc with
          | true => exact hq2
          | false =>
            have c1 : ¬ c = 34 := fun e => h1 (by rw [e]; rfl)
            have c2 : ¬ c = 92 := fun e => h2 (by rw [e]; rfl)
            rw [show qstep (if false = true then 2 else 1) c = 1 by simp [qstep, c1, c2]]
            exact hq2
theorem take_more (l : List UInt8) (p k : Nat) : l.take (p + k) = l.take p ++ (l.drop p).take k := by rw [List.take_add]
theorem annS_plain {l : List UInt8} (h1 : l.head? = some 123) (hB : annB l = true) : ∀ x ∈ l.take (annS l), x ≠ 34 := by
  obtain ⟨r, rfl⟩ : ∃ r, l = 123 :: r := by
    cases l with
    | nil => cases h1
    | cons a r => simp at h1; exact ⟨r, by rw [h1]⟩
  have hB2 := hB
  unfold annB at hB2
  rw [Bool.and_eq_true, beq_iff_eq] at hB2
  have hr : r = annD (123 :: r) ++ annR (123 :: r) := by
    have := tw_app isDig r
    unfold annR annD
    simp only [List.drop_succ_cons, List.drop_zero, Nat.add_comm 1]
    exact this
  have hda : ∀ x ∈ annD (123 :: r), isDig x = true := by
    unfold annD
    exact tw_all _
  have key : ∃ p q, 123 :: r = 123 :: (annD (123 :: r) ++ p ++ [125]) ++ q ∧ (p = [] ∨ p = [43]) ∧ annE (123 :: r) = 125 :: q := by
    have hE := hB2.2
    cases hee : annE (123 :: r) with
    | nil => rw [hee] at hE; cases hE
    | cons a q =>
      rw [hee] at hE
      simp at hE
      subst hE
      have hee2 := hee
      unfold annE at hee
      split at hee
      · rename_i hp
        unfold annP at hp
        rw [beq_iff_eq] at hp
        cases hR : annR (123 :: r) with
        | nil => rw [hR] at hp; cases hp
        | cons b z =>
          rw [hR] at hp hee hr
          simp at hp hee
          subst hp
          subst hee
          exact ⟨[43], q, by rw [List.cons_append]; congr 1; rw [hr]; simp [← hr], .inr rfl, rfl⟩
      · rw [hee] at hr
        exact ⟨[], q, by rw [List.cons_append]; congr 1; conv => lhs; rw [hr]
                         simp, .inl rfl, rfl⟩
  obtain ⟨p, q, hl, hp, hee⟩ := key
  have hS : annS (123 :: r) = (123 :: (annD (123 :: r) ++ p ++ [125])).length := by
    unfold annS
    rw [if_pos hB, hee]
    have := congrArg List.length hl
    simp only [List.length_append, List.length_cons, List.length_nil] at this ⊢
    omega
  rw [hS]
  intro x hx
  generalize annD (123 :: r) = d at *
  rw [hl, List.take_left] at hx
  simp only [List.mem_cons, List.mem_append] at hx
  rintro rfl
  rcases hx with hx | (hx | hx) | hx | hx
  · exact absurd hx (by decide)
  · exact absurd (hda _ hx) (by decide)
  · rcases hp with rfl | rfl
    · cases hx
    · simp at hx
  · exact absurd hx (by decide)
  · cases hx
theorem annS_fit (l : List UInt8) (hB : annB l = true) : annS l ≤ l.length ∧ 0 < annS l := by
  unfold annS
  rw [if_pos hB]
  unfold annB at hB
  rw [Bool.and_eq_true, beq_iff_eq] at hB
  have hE := annE_len l
  cases he : annE l with
  | nil => rw [he] at hB; cases hB.2
  | cons a q => rw [he] at hE; simp only [List.length_cons] at hE ⊢; omega
theorem atomL_pos {l : List UInt8} {k : Nat} (hk : k < l.length) (h : wordC (bt l k) = true) : 0 < (atomL l k).length ∧ k + (atomL l k).length ≤ l.length := by
  unfold atomL
  have h1 := tw_le wordC (l.drop k)
  rw [List.length_drop] at h1
  refine ⟨?_, by omega⟩
  rw [List.drop_eq_getElem_cons hk, List.takeWhile_cons_of_pos]
  · simp
  · unfold bt at h
    rw [List.getElem?_eq_getElem hk] at h
    exact h
theorem tw_front (p : UInt8 → Bool) (r : List UInt8) : r.take (r.takeWhile p).length = r.takeWhile p := by
  induction r with
  | nil => rfl
  | cons a r ih =>
    cases hp : p a with
    | false => rw [List.takeWhile_cons_of_neg (by simp [hp])]; rfl
    | true => rw [List.takeWhile_cons_of_pos hp]; simpa using ih
theorem word_ne34 {c : UInt8} (h : wordC c = true) : c ≠ 34 := by
  rintro rfl
  exact absurd h (by decide)
theorem one_at (l : List UInt8) (p : Nat) (hp : p < l.length) : l.take (p + 1) = l.take p ++ [bt l p] := by
  rw [← List.take_append_getElem hp]
  unfold bt
  rw [List.getElem?_eq_getElem hp]
  rfl
/-- A line that is scanned ends outside of quotes. -/
theorem run_out (l : List UInt8) : ∀ (n : Nat) (s : Sc), SInv l.length s → qst (l.take s.pos) 0 = 0 → l.length - s.pos ≤ n → (s.run l n).1 = 0 → qst l 0 = 0
  | 0, s, hI, hq, hn, _ => by rw [List.take_of_length_le (by omega)] at hq; exact hq
  | n + 1, s, hI, hq, hn, hr => by
    by_cases hp : s.pos < l.length
    · by_cases hf : s.fault l = 0
      · have step1 : ∀ c, bt l s.pos = c → c ≠ 34 → qst (l.take (s.pos + 1)) 0 = 0 := fun c hc h34 => by
          rw [one_at l s.pos hp, qst_append, hq, hc]
          show qstep 0 c = 0
          simp [qstep, h34]
        rcases sc_step hI hf with ⟨hc, _, hs⟩ | ⟨hc, hb, hu, hs⟩ | ⟨hc, hk, u, f, hu, hs⟩ | ⟨hc, hB, hb, x, r, hl, hx, hs⟩ | ⟨hc, hb, hs⟩ | ⟨hc, hb, hs⟩
        · rw [Sc.run_go rfl hp hf hs |>.symm] at hr
          exact run_out l n _ (hI.at (s.pos + 1) hp) (step1 _ hc (by decide)) (by show l.length - (s.pos + 1) ≤ n; omega) hr
        · rw [Sc.run_go rfl hp hf hs |>.symm] at hr
          exact run_out l n _ (hI.push (s.pos + 1) hp _ _ hb hu) (step1 _ rfl (by rintro e; rw [e] at hc; exact absurd hc (by decide))) (by show l.length - (s.pos + 1) ≤ n; omega) hr
        · rw [Sc.run_go rfl hp hf hs |>.symm] at hr
          exact run_out l n _ (hI.pop (s.pos + 1) hp u f hu _) (step1 _ rfl (by rintro e; rw [e] at hc; exact absurd hc (by decide))) (by show l.length - (s.pos + 1) ≤ n; omega) hr
        · rw [Sc.run_go rfl hp hf hs |>.symm] at hr
          have hle := annS_fit (l.drop s.pos) hB
          rw [List.length_drop] at hle
          refine run_out l n _ (hI.word (s.pos + annS (l.drop s.pos)) (by omega) r _ hb) ?_ (by show l.length - (s.pos + annS (l.drop s.pos)) ≤ n; omega) hr
          show qst (l.take (s.pos + annS (l.drop s.pos))) 0 = 0
          rw [take_more, qst_append, hq]
          exact qst_plain _ (annS_plain (by rw [List.drop_eq_getElem_cons hp]; unfold bt at hc; rw [List.getElem?_eq_getElem hp] at hc; exact congrArg some hc) hB)
        · cases hqu : quo (l.drop (s.pos + 1)) false [] 0 with
          | bad =>
            rw [hqu] at hs
            rw [Sc.run_err rfl hp hf hs] at hr
            exact absurd hr (by decide)
          | cut =>
            rw [hqu] at hs
            rw [Sc.run_cut rfl hp hf hs] at hr
            have hr2 : ({ s with pos := l.length, begun := s.begun + 1 } : Sc).endE l true = 0 := hr
            unfold Sc.endE at hr2
            split at hr2
            · exact absurd hr2 (by decide)
            · rw [if_pos rfl] at hr2
              exact absurd hr2 (by decide)
          | done t m =>
            rw [hqu] at hs
            obtain ⟨k, hk, hk0, hkl, hq2⟩ := quo_done _ _ _ _ _ _ hqu
            rw [List.length_drop] at hkl
            rw [Sc.run_go rfl hp hf hs |>.symm] at hr
            refine run_out l n _ (hI.word (s.pos + 1 + m) (by omega) s.lits _ hb) ?_ (by show l.length - (s.pos + 1 + m) ≤ n; omega) hr
            show qst (l.take (s.pos + 1 + m)) 0 = 0
            rw [take_more, qst_append, one_at l s.pos hp, qst_append, hq, hc]
            rw [show m = k by omega]
            exact hq2
        · rw [Sc.run_go rfl hp hf hs |>.symm] at hr
          obtain ⟨ha0, hal⟩ := atomL_pos hp hc
          refine run_out l n _ (hI.word (s.pos + (atomL l s.pos).length) (by omega) s.lits _ hb) ?_ (by show l.length - (s.pos + (atomL l s.pos).length) ≤ n; omega) hr
          show qst (l.take (s.pos + (atomL l s.pos).length)) 0 = 0
          rw [take_more, qst_append, hq]
          refine qst_plain _ (fun x hx => word_ne34 (tw_all (p := wordC) (l.drop s.pos) x ?_))
          unfold atomL at hx
          rw [tw_front] at hx
          exact hx
      · rw [Sc.run_fault rfl hp hf] at hr
        exact absurd hr hf
    · rw [List.take_of_length_le (by omega)] at hq
      exact hq
theorem scan_out {l : List UInt8} {lits : List ByteArray} (h : scanE l lits = 0) : qst l 0 = 0 := by
  unfold scanE at h
  split at h
  · exact absurd h (by decide)
  · exact run_out l l.length (Sc.new lits) (SInv.new _ _) rfl (by simp) h
end Go.Proofs.YtonfchpfhdoefaaDoor

/- lex, plain: lines of one word; announcements at the end. -/
namespace Go.Proofs.YtonfchpfhdoefaaDoor
open Go.RowKit

theorem dec_all (n : Nat) : ∀ x ∈ Lib.decDigits n, isDig x = true := by
  induction n using Nat.strongRecOn with
  | ind n ih =>
  have dig : ∀ r, r < 10 → isDig (UInt8.ofNat (48 + r)) = true := fun r hr => by
    rw [isDig_iff]
    have : (UInt8.ofNat (48 + r)).toNat = 48 + r := by rw [UInt8.toNat_ofNat']; omega
    omega
  rw [Lib.decDigits]
  split
  · intro x hx
    rw [List.mem_singleton] at hx
    rw [hx]
    exact dig _ (by assumption)
  · intro x hx
    rw [List.mem_append, List.mem_singleton] at hx
    rcases hx with hx | hx
    · exact ih (n / 10) (by omega) x hx
    · rw [hx]
      exact dig _ (by omega)
theorem dec_ne (n : Nat) : Lib.decDigits n ≠ [] := by
  rw [Lib.decDigits]
  split <;> simp
theorem dec_fold (n : Nat) (hn : n ≤ 4294967296) : (Lib.decDigits n).foldl capN 0 = n := by
  induction n using Nat.strongRecOn with
  | ind n ih =>
  have dig : ∀ r, r < 10 → (UInt8.ofNat (48 + r)).toNat - 48 = r := fun r hr => by
    have : (UInt8.ofNat (48 + r)).toNat = 48 + r := by rw [UInt8.toNat_ofNat']; omega
    omega
  rw [Lib.decDigits]
  split
  · rename_i h
    show capN 0 _ = n
    unfold capN
    rw [dig _ h]
    omega
  · rw [List.foldl_append, ih (n / 10) (by omega) (by omega)]
    show capN _ _ = n
    unfold capN
    rw [dig _ (by omega)]
    omega
theorem tw_of (d r : List UInt8) (hd : ∀ x ∈ d, isDig x = true) (hr : ∀ c q, r = c :: q → isDig c = false) : (d ++ r).takeWhile isDig = d := by
  induction d with
  | nil =>
    cases r with
    | nil => rfl
    | cons c q => rw [List.nil_append, List.takeWhile_cons_of_neg (by simp [hr c q rfl])]
  | cons a d ih =>
    rw [List.cons_append, List.takeWhile_cons_of_pos (hd a (by simp)), ih (fun x hx => hd x (by simp [hx]))]
theorem dec_small : ∀ (k n : Nat), n < 10 ^ (k + 1) → (Lib.decDigits n).length ≤ k + 1
  | 0, n, h => by rw [Lib.decDigits_one (by simpa using h)]; simp
  | k + 1, n, h => by
    rw [Lib.decDigits]
    split
    · simp
    · have := dec_small k (n / 10) (by rw [Nat.pow_succ] at h; omega)
      rw [List.length_append, List.length_singleton]
      omega
/-- A text that is just an announcement. -/
def annT (d : List UInt8) (pl : Bool) : List UInt8 := 123 :: (d ++ ((if pl then [43] else []) ++ [125]))
theorem annT_D {d : List UInt8} (pl : Bool) (hd : ∀ x ∈ d, isDig x = true) : annD (annT d pl) = d := by
  unfold annD annT
  show (d ++ _).takeWhile isDig = d
  refine tw_of d _ hd (fun c q h => ?_)
  cases pl <;> simp at h <;> rw [← h.1] <;> decide
theorem annT_R {d : List UInt8} (pl : Bool) (hd : ∀ x ∈ d, isDig x = true) : annR (annT d pl) = (if pl then [43] else []) ++ [125] := by
  unfold annR
  rw [annT_D pl hd]
  unfold annT
  rw [Nat.add_comm, List.drop_succ_cons, List.drop_left]
theorem annT_E {d : List UInt8} (pl : Bool) (hd : ∀ x ∈ d, isDig x = true) : annP (annT d pl) = pl ∧ annE (annT d pl) = [125] := by
  have h1 : annP (annT d pl) = pl := by
    unfold annP
    rw [annT_R pl hd]
    cases pl <;> rfl
  refine ⟨h1, ?_⟩
  unfold annE
  rw [h1, annT_R pl hd]
  cases pl <;> rfl
theorem annT_B {d : List UInt8} (pl : Bool) (hd : ∀ x ∈ d, isDig x = true) (h0 : d ≠ []) : annB (annT d pl) = true := by
  unfold annB
  rw [annT_D pl hd, (annT_E pl hd).2]
  cases d with
  | nil => exact absurd rfl h0
  | cons a r => rfl
theorem annT_all {d : List UInt8} (pl : Bool) (hd : ∀ x ∈ d, isDig x = true) (h0 : d ≠ []) : annN (annT d pl) = d.foldl capN 0 ∧ annQ (annT d pl) = pl ∧ annS (annT d pl) = (annT d pl).length ∧ hitB (annT d pl) = true := by
  have hB := annT_B pl hd h0
  have hE := annT_E pl hd
  have hS : annS (annT d pl) = (annT d pl).length := by
    unfold annS
    rw [if_pos hB, hE.2]
    have : 0 < (annT d pl).length := by unfold annT; simp
    simp only [List.length_singleton]
    omega
  refine ⟨?_, ?_, hS, ?_⟩
  · unfold annN annF
    rw [if_pos hB, annT_D pl hd]
  · unfold annQ
    rw [hB, hE.1, Bool.true_and]
  · unfold hitB
    rw [hS]
    show ((some 123 == some 123) && _) = true
    simp
theorem lastAt_app : ∀ (X r : List UInt8), 123 ∉ r → lastAt (X ++ 123 :: r) = some X.length
  | [], r, h => by
    show (match lastAt r with | some k => some (k + 1) | none => if (123 : UInt8) = 123 then some 0 else none) = some 0
    rw [lastAt_mem r h]
    rfl
  | c :: X, r, h => by
    show (match lastAt (X ++ 123 :: r) with | some k => some (k + 1) | none => if c = 123 then some 0 else none) = some (X.length + 1)
    rw [lastAt_app X r h]
theorem anced_app (X d : List UInt8) (pl : Bool) (hd : ∀ x ∈ d, isDig x = true) (h0 : d ≠ []) : anced (X ++ annT d pl) = if endsQ X then none else some (d.foldl capN 0, pl) := by
  obtain ⟨h1, h2, h3, h4⟩ := annT_all pl hd h0
  have hl : lastAt (X ++ annT d pl) = some X.length := by
    unfold annT
    refine lastAt_app X _ (fun hm => ?_)
    rw [List.mem_append] at hm
    rcases hm with hm | hm
    · exact dig_ne (hd _ hm) rfl
    · cases pl <;> simp at hm
  unfold anced
  rw [hl]
  show (if endsQ ((X ++ annT d pl).take X.length) = true then none else if hitB ((X ++ annT d pl).drop X.length) = true then some (annN ((X ++ annT d pl).drop X.length), annQ ((X ++ annT d pl).drop X.length)) else none) = _
  rw [List.take_left, List.drop_left, if_pos h4, h1, h2]
theorem annL_T (n : Nat) : annL n = annT (Lib.decDigits n) false := by
  unfold annL annT
  simp
theorem anced_ann (X : List UInt8) (n : Nat) (hn : n ≤ 4294967296) : anced (X ++ annL n) = if endsQ X then none else some (n, false) := by
  rw [annL_T, anced_app X _ false (dec_all n) (dec_ne n), dec_fold n hn]
/-- A line of one word. -/
theorem run_one {l : List UInt8} {lits : List ByteArray} {s' : Sc} (hl : 0 < l.length) (hf : (Sc.new lits).fault l = 0) (hs : (Sc.new lits).step l = .go s') (hp : s'.pos = l.length) (hu : s'.under = []) (hli : s'.lits = []) (hb : bt l (l.length - 1) ≠ 32) (hlong : longB l lits = false) :
    scanE l lits = 0 ∧ scanW l lits = s'.top.kids := by
  obtain ⟨n, hn⟩ : ∃ n, l.length = n + 1 := ⟨l.length - 1, by omega⟩
  have hrun : (Sc.new lits).run l l.length = (0, s'.top.kids) := by
    have h1 : s'.run l n = (Sc.new lits).run l l.length := by
      rw [hn]
      exact Sc.run_go rfl (by show 0 < l.length; omega) hf hs
    rw [← h1, Sc.run_end rfl (by rw [hp]; omega)]
    have he : s'.endE l false = 0 := by
      unfold Sc.endE blankB
      rw [hu, hli, hp]
      have : (bt l (l.length - 1) == 32) = false := by simpa using hb
      rw [this]
      simp
    rw [he]
  have hE : scanE l lits = 0 := by unfold scanE; rw [hlong, hrun]; rfl
  refine ⟨hE, ?_⟩
  unfold scanW
  rw [hlong, hE, hrun]
  rfl
theorem bt_last (l : List UInt8) (c : UInt8) : bt (l ++ [c]) ((l ++ [c]).length - 1) = c := by
  unfold bt
  rw [show (l ++ [c]).length - 1 = l.length by simp, List.getElem?_append_right (Nat.le_refl _)]
  simp
/-- A literal alone. -/
theorem scan_lit (t : ByteArray) (ht : t.size ≤ 16384) : scanE (annL t.size) [t] = 0 ∧ scanW (annL t.size) [t] = [.mk 3 t [] false] := by
  have hd := dec_all t.size
  have h0 := dec_ne t.size
  obtain ⟨h1, h2, h3, h4⟩ := annT_all false hd h0
  rw [dec_fold _ (by omega)] at h1
  have hB := annT_B false hd h0
  rw [annL_T]
  have hlen2 : (Lib.decDigits t.size).length ≤ 20 := by
    have := dec_small 4 t.size (by omega)
    omega
  have hl2 : (annT (Lib.decDigits t.size) false).length ≤ 4096 := by unfold annT; simp; omega
  have := run_one (l := annT (Lib.decDigits t.size) false) (lits := [t]) (s' := { Sc.new [t] with pos := (annT (Lib.decDigits t.size) false).length, begun := 1, lits := [] }.add (Wd.mk 3 t [] false)) (by unfold annT; simp) (by
      rw [Sc.fault_eq]
      have e1 : begB (annT (Lib.decDigits t.size) false) (Sc.new [t]).pos = true := hB
      have e2 : fitB (annT (Lib.decDigits t.size) false) (Sc.new [t]).pos (Sc.new [t]).lits = true := by
        show (t.size == annN (annT (Lib.decDigits t.size) false)) = true
        rw [h1]; simp
      rw [e1, e2]
      rfl) (by
      show Rd.go ({ Sc.new [t] with pos := 0 + annS (annT (Lib.decDigits t.size) false), begun := 1, lits := [] }.add (Wd.mk 3 t [] false)) = _
      rw [h3, Nat.zero_add]) rfl rfl rfl (by
      have := bt_last (123 :: (Lib.decDigits t.size)) 125
      rw [show annT (Lib.decDigits t.size) false = 123 :: (Lib.decDigits t.size) ++ [125] from rfl, this]
      decide) (by
      unfold longB
      simp only [List.length_singleton, List.any_cons, List.any_nil, Bool.or_false]
      rw [decide_eq_false (by omega), decide_eq_false (by omega), decide_eq_false (by omega)]
      rfl)
  exact this
/-- Quotes of bytes that may be quoted, behind the first of them. -/
theorem quo_quote : ∀ (x acc : List UInt8) (n : Nat), x.all quotC = true → quo (quoteB x ++ [34]) false acc n = .done (acc ++ x) (n + (quoteB x).length + 1)
  | [], acc, n, _ => by rw [List.append_nil]; rfl
  | c :: x, acc, n, h => by
    rw [List.all_cons, Bool.and_eq_true] at h
    have hb : quoteB (c :: x) = q1 c ++ quoteB x := by unfold quoteB; rw [List.flatMap_cons]
    have hc := h.1
    rw [hb]
    cases hs : slashB c with
    | true =>
      rw [show q1 c = [92, c] by unfold q1; rw [hs]; rfl]
      show quo (92 :: c :: (quoteB x ++ [34])) false acc n = _
      have e1 : quo (92 :: c :: (quoteB x ++ [34])) false acc n = quo (c :: (quoteB x ++ [34])) true acc (n + 1) := rfl
      have e2 : quo (c :: (quoteB x ++ [34])) true acc (n + 1) = quo (quoteB x ++ [34]) false (acc ++ [c]) (n + 1 + 1) := by
        rw [quo, hc, hs]
        simp
      rw [e1, e2, quo_quote x (acc ++ [c]) (n + 1 + 1) h.2]
      congr 1
      · simp
      · simp; omega
    | false =>
      rw [show q1 c = [c] by unfold q1; rw [hs]; rfl]
      show quo (c :: (quoteB x ++ [34])) false acc n = _
      have hn : (c == 34) = false ∧ (c == 92) = false := by
        unfold slashB at hs
        rw [Bool.or_eq_false_iff] at hs
        exact hs
      have e2 : quo (c :: (quoteB x ++ [34])) false acc n = quo (quoteB x ++ [34]) false (acc ++ [c]) (n + 1) := by
        rw [quo, hc, hn.1, hn.2]
        simp
      rw [e2, quo_quote x (acc ++ [c]) (n + 1) h.2]
      congr 1
      · simp
      · simp; omega
/-- A quoted word alone. -/
theorem scan_quote (x : List UInt8) (hx : x.all quotC = true) (hlen : x.length ≤ 2000) : scanE (quoteL x) [] = 0 ∧ scanW (quoteL x) [] = [.mk 2 (S x) [] false] := by
  have hq := quo_quote x [] 0 hx
  have hl := quoteL_len x
  have hl0 : (quoteL x).length = (quoteB x).length + 2 := by unfold quoteL; simp
  have := run_one (l := quoteL x) (lits := []) (s' := { Sc.new [] with pos := 0 + 1 + (0 + (quoteB x).length + 1), begun := 1 }.add (Wd.mk 2 (S ([] ++ x)) [] false)) (by omega) rfl (by
      have e : (Sc.new []).step (quoteL x) = match quo (quoteB x ++ [34]) false [] 0 with
        | .bad => .err 31
        | .cut => .cut { Sc.new [] with pos := (quoteL x).length, begun := 1 }
        | .done t n => .go ({ Sc.new [] with pos := 0 + 1 + n, begun := 1 }.add (Wd.mk 2 (S t) [] false)) := rfl
      rw [e, hq]) (by show 0 + 1 + (0 + (quoteB x).length + 1) = _; omega) rfl rfl (by
      have := bt_last (34 :: quoteB x) 34
      rw [show quoteL x = 34 :: quoteB x ++ [34] from rfl, this]
      decide) (by
      unfold longB
      rw [decide_eq_false (by omega)]
      rfl)
  exact this
theorem word_plain (c : UInt8) : wordC c = true → (c == 32) = false ∧ openerB c = false ∧ closerB c = false ∧ (c == 123) = false ∧ (c == 34) = false :=
  all_bytes (p := fun c => wordC c = true → (c == 32) = false ∧ openerB c = false ∧ closerB c = false ∧ (c == 123) = false ∧ (c == 34) = false) (by decide +kernel) c
theorem tw_id {p : UInt8 → Bool} (l : List UInt8) (h : l.all p = true) : l.takeWhile p = l := by
  induction l with
  | nil => rfl
  | cons a l ih =>
    rw [List.all_cons, Bool.and_eq_true] at h
    rw [List.takeWhile_cons_of_pos h.1, ih h.2]
/-- An atom alone. -/
theorem scan_atom (x : List UInt8) (h0 : x ≠ []) (hx : x.all wordC = true) (hlen : x.length ≤ 2000) : scanE x [] = 0 ∧ scanW x [] = [.mk 1 (S x) [] false] := by
  obtain ⟨c, r, rfl⟩ : ∃ c r, x = c :: r := by
    cases x with
    | nil => exact absurd rfl h0
    | cons c r => exact ⟨c, r, rfl⟩
  have hc : wordC c = true := by rw [List.all_cons, Bool.and_eq_true] at hx; exact hx.1
  obtain ⟨c1, c2, c3, c4, c5⟩ := word_plain c hc
  have ha : atomL (c :: r) 0 = c :: r := by
    unfold atomL
    rw [List.drop_zero]
    exact tw_id _ hx
  have hbt : bt (c :: r) (Sc.new []).pos = c := rfl
  have hlast : bt (c :: r) ((c :: r).length - 1) ≠ 32 := by
    have : wordC (bt (c :: r) ((c :: r).length - 1)) = true := by
      unfold bt
      rw [List.getElem?_eq_getElem (by simp)]
      exact List.all_eq_true.1 hx _ (List.getElem_mem _)
    intro e
    rw [e] at this
    exact absurd this (by decide)
  have := run_one (l := c :: r) (lits := []) (s' := { Sc.new [] with pos := 0 + (c :: r).length, begun := 1 }.add (Wd.mk 1 (S (c :: r)) [] false)) (by simp) (by
      have hbeg : begB (c :: r) (Sc.new []).pos = true := by
        show (if c == 123 then _ else (c == 34 || openerB c || wordC c)) = true
        rw [c4, hc]; simp
      rw [Sc.fault_eq, hbeg, hbt, c1, c2, c3, c4]
      rfl) (by
      have e : (Sc.new []).step (c :: r) = .go ({ Sc.new [] with pos := 0 + (atomL (c :: r) 0).length, begun := 1 }.add (Wd.mk 1 (S (atomL (c :: r) 0)) [] false)) := by
        unfold Sc.step
        rw [hbt]
        simp only [c1, c2, c3, c4, c5, Bool.false_eq_true, if_false]
        rfl
      rw [e, ha]) (by show 0 + (c :: r).length = _; omega) rfl rfl hlast (by
      unfold longB
      rw [decide_eq_false (by omega)]
      rfl)
  exact this
theorem tw13 (A r : List UInt8) (h : ∀ x ∈ A, x ≠ 13) : (A ++ 13 :: r).takeWhile (fun x => x != 13) = A := by
  induction A with
  | nil => rfl
  | cons a A ih =>
    have ha : (a != 13) = true := by simpa using h a (by simp)
    rw [List.cons_append, List.takeWhile_cons_of_pos (p := fun x => x != 13) ha, ih (fun x hx => h x (by simp [hx]))]
theorem annL_13 (n : Nat) : ∀ x ∈ annL n, x ≠ 13 := by
  intro x hx
  rw [annL_T] at hx
  unfold annT at hx
  simp only [List.mem_cons, List.mem_append] at hx
  rintro rfl
  rcases hx with hx | hx | hx | hx | hx
  · exact absurd hx (by decide)
  · exact absurd (dec_all n _ hx) (by decide)
  · cases hx
  · exact absurd hx (by decide)
  · cases hx
theorem quote_13 (x : List UInt8) (h : x.all quotC = true) : ∀ c ∈ quoteL x, c ≠ 13 := by
  intro c hc
  unfold quoteL quoteB at hc
  simp only [List.mem_cons, List.mem_append, List.mem_flatMap] at hc
  rintro rfl
  rcases hc with hc | ⟨a, ha, hc⟩ | hc | hc
  · exact absurd hc (by decide)
  · have hq := List.all_eq_true.1 h a ha
    unfold q1 at hc
    split at hc
    · simp only [List.mem_cons] at hc
      rcases hc with hc | hc | hc
      · exact absurd hc (by decide)
      · rw [← hc] at hq; exact absurd hq (by decide)
      · cases hc
    · rw [List.mem_singleton] at hc
      rw [← hc] at hq
      exact absurd hq (by decide)
  · exact absurd hc (by decide)
  · cases hc
theorem strL_inj {a b : List UInt8} (h : strL a = strL b) : a = b := by
  unfold strL at h
  split at h
  · rename_i ha
    split at h
    · rename_i hb
      unfold quoteL at h
      injection h with _ h
      have h1 := quo_quote a [] 0 ha
      have h2 := quo_quote b [] 0 hb
      rw [h, h2] at h1
      injection h1 with h1
      simpa using h1.symm
    · unfold quoteL annL at h
      simp at h
  · split at h
    · unfold quoteL annL at h
      simp at h
    · have h1 := tw13 (annL a.length) (10 :: a) (annL_13 _)
      have h2 := tw13 (annL b.length) (10 :: b) (annL_13 _)
      have e1 : annL a.length ++ [13, 10] ++ a = annL a.length ++ 13 :: 10 :: a := by simp
      have e2 : annL b.length ++ [13, 10] ++ b = annL b.length ++ 13 :: 10 :: b := by simp
      rw [e1, e2] at h
      rw [h, h2] at h1
      rw [h1] at h
      have := List.append_cancel_left h
      injection this with _ this
      injection this with _ this
theorem strL_head (a : List UInt8) : (strL a).head? = some 34 ∨ (strL a).head? = some 123 := by
  unfold strL
  split
  · exact .inl rfl
  · exact .inr rfl
theorem astr_head {a : List UInt8} (h : isAstr a = true) : ∃ c r, a = c :: r ∧ atomC c = true ∧ a.all wordC = true := by
  unfold isAstr isAtom at h
  rw [Bool.and_eq_true, Bool.and_eq_true] at h
  cases a with
  | nil => exact absurd h.1.1 (by decide)
  | cons c r =>
    have h2 := h.1.2
    have h3 := h2
    rw [List.all_cons, Bool.and_eq_true] at h3
    refine ⟨c, r, rfl, h3.1, ?_⟩
    rw [List.all_eq_true] at h2 ⊢
    intro x hx
    have := h2 x hx
    unfold atomC at this
    rw [Bool.and_eq_true, Bool.and_eq_true, Bool.and_eq_true] at this
    exact this.1.1.1
theorem astr_str {a b : List UInt8} (h : isAstr a = true) : a ≠ strL b := by
  obtain ⟨c, r, rfl, hc, _⟩ := astr_head h
  intro e
  rcases strL_head b with hb | hb
  · rw [← e] at hb
    simp at hb
    rw [hb] at hc
    exact absurd hc (by decide)
  · rw [← e] at hb
    simp at hb
    rw [hb] at hc
    exact absurd hc (by decide)
theorem putL_inj {a b : List UInt8} (h : putL a = putL b) : a = b := by
  unfold putL at h
  split at h
  · rename_i ha
    split at h
    · exact h
    · exact absurd h (astr_str ha)
  · split at h
    · rename_i hb
      exact absurd h.symm (astr_str hb)
    · exact strL_inj h
theorem putL_nil (a : List UInt8) : putL a ≠ [78, 73, 76] := by
  unfold putL
  split
  · rename_i h
    rintro rfl
    exact absurd h (by decide +kernel)
  · intro e
    rcases strL_head a with h | h <;> rw [e] at h <;> exact absurd h (by decide)
theorem wd_13 {a : List UInt8} (h : a.all wordC = true) : ∀ x ∈ a, x ≠ 13 := by
  rintro x hx rfl
  exact absurd (List.all_eq_true.1 h _ hx) (by decide)
end Go.Proofs.YtonfchpfhdoefaaDoor

/- lex, plain: a line with its announcements written in their one form is scanned as the line. -/
namespace Go.Proofs.YtonfchpfhdoefaaDoor
open Go.RowKit

/-- A line, outside of words, with its announcements in their one form. -/
def canon : List UInt8 → List UInt8
  | [] => []
  | c :: r => if c = 34 then (match quo r false [] 0 with
      | .done _ m => 34 :: (r.take m ++ canon (r.drop m))
      | _ => c :: r)
    else if c = 123 then annL (annN (c :: r)) ++ canon (r.drop (annS (c :: r) - 1))
    else c :: canon r
termination_by l => l.length
decreasing_by all_goals (simp only [List.length_drop, List.length_cons]; omega)
theorem canon_nil : canon [] = [] := by rw [canon]
theorem canon_other {c : UInt8} {r : List UInt8} (h1 : c ≠ 34) (h2 : c ≠ 123) : canon (c :: r) = c :: canon r := by rw [canon, if_neg h1, if_neg h2]
theorem canon_lit {r : List UInt8} : canon (123 :: r) = annL (annN (123 :: r)) ++ canon (r.drop (annS (123 :: r) - 1)) := by rw [canon, if_neg (by decide), if_pos rfl]
theorem canon_quo {r t : List UInt8} {m : Nat} (h : quo r false [] 0 = .done t m) : canon (34 :: r) = 34 :: (r.take m ++ canon (r.drop m)) := by rw [canon, if_pos rfl, h]
theorem canon_head (l : List UInt8) : (canon l).head? = l.head? := by
  cases l with
  | nil => rw [canon_nil]
  | cons c r =>
    rw [canon]
    split
    · rename_i h
      split
      · rw [h]; rfl
      · rfl
    · split
      · rename_i h
        rw [h]
        rfl
      · rfl
theorem canon_word (a : List UInt8) (h : ∀ x ∈ a, wordC x = true) (r : List UInt8) : canon (a ++ r) = a ++ canon r := by
  induction a with
  | nil => rfl
  | cons c a ih =>
    have hc := h c (by simp)
    rw [List.cons_append, canon_other (word_ne34 hc) (by rintro rfl; exact absurd hc (by decide)), ih (fun x hx => h x (by simp [hx]))]
    rfl
/-- An announcement ahead of a text. -/
theorem annL_ahead (n : Nat) (hn : n ≤ 4294967296) (Y : List UInt8) : annB (annL n ++ Y) = true ∧ annN (annL n ++ Y) = n ∧ annS (annL n ++ Y) = (annL n).length := by
  have e : annL n ++ Y = 123 :: (Lib.decDigits n ++ (125 :: Y)) := by unfold annL; simp
  have hD : annD (annL n ++ Y) = Lib.decDigits n := by
    rw [e]
    unfold annD
    exact tw_of _ _ (dec_all n) (fun c q h => by injection h with h _; rw [← h]; decide)
  have hR : annR (annL n ++ Y) = 125 :: Y := by
    unfold annR
    rw [hD, e, Nat.add_comm, List.drop_succ_cons, List.drop_left]
  have hP : annP (annL n ++ Y) = false := by unfold annP; rw [hR]; rfl
  have hE : annE (annL n ++ Y) = 125 :: Y := by unfold annE; rw [hP, hR]; rfl
  have hB : annB (annL n ++ Y) = true := by
    unfold annB
    rw [hD, hE]
    cases hd : Lib.decDigits n with
    | nil => exact absurd hd (dec_ne n)
    | cons a r => rfl
  refine ⟨hB, ?_, ?_⟩
  · unfold annN annF
    rw [if_pos hB, hD]
    exact dec_fold n hn
  · unfold annS
    rw [if_pos hB, hE, List.length_append]
    have : 0 < (annL n).length := by unfold annL; simp
    simp only [List.length_cons]
    omega
theorem quo_same : ∀ (r : List UInt8) (esc : Bool) (acc : List UInt8) (n : Nat) (t : List UInt8) (m : Nat), quo r esc acc n = .done t m → ∃ k, m = n + (k + 1) ∧ k < r.length ∧ bt r k = 34 ∧ ∀ Y, quo (r.take (k + 1) ++ Y) esc acc n = .done t m
  | [], _, _, _, _, _, h => by simp [quo] at h
  | c :: r, esc, acc, n, t, m, h => by
    have h0 := h
    rw [quo] at h
    split at h
    · cases h
    · rename_i hq
      split at h
      · rename_i h1
        injection h with ht hm
        refine ⟨0, hm.symm, by simp, ?_, fun Y => ?_⟩
        · rw [Bool.and_eq_true, beq_iff_eq] at h1
          exact h1.1
        · show quo (c :: Y) esc acc n = _
          rw [quo, if_neg hq, if_pos h1, ht, hm]
      · rename_i h1
        split at h
        · rename_i h2
          obtain ⟨k, hk, hkl, hb, hY⟩ := quo_same r true acc (n + 1) t m h
          refine ⟨k + 1, by omega, by simpa using hkl, hb, fun Y => ?_⟩
          rw [List.take_succ_cons, List.cons_append, quo, if_neg hq, if_neg h1, if_pos h2]
          exact hY Y
        · rename_i h2
          obtain ⟨k, hk, hkl, hb, hY⟩ := quo_same r false (acc ++ [c]) (n + 1) t m h
          refine ⟨k + 1, by omega, by simpa using hkl, hb, fun Y => ?_⟩
          rw [List.take_succ_cons, List.cons_append, quo, if_neg hq, if_neg h1, if_neg h2]
          exact hY Y
def lastB (P : List UInt8) : Bool := P.getLast? == some 32
theorem blank_app (P X : List UInt8) : blankB (P ++ X) P.length = lastB P := by
  unfold blankB lastB
  cases hP : P.reverse with
  | nil =>
    have : P = [] := by simpa using hP
    subst this
    rfl
  | cons a q =>
    have e : P = q.reverse ++ [a] := by rw [← List.reverse_reverse P, hP]; simp
    subst e
    unfold bt
    rw [List.append_assoc, show (q.reverse ++ [a]).length - 1 = q.reverse.length by simp, List.getElem?_append_right (Nat.le_refl _)]
    simp
theorem bt_app (P : List UInt8) (c : UInt8) (X : List UInt8) : bt (P ++ c :: X) P.length = c := by
  unfold bt
  rw [List.getElem?_append_right (Nat.le_refl _)]
  simp
end Go.Proofs.YtonfchpfhdoefaaDoor

/- lex, plain: the same words out of a line and out of its one form. -/
namespace Go.Proofs.YtonfchpfhdoefaaDoor
open Go.RowKit

def clsB (c : UInt8) : Nat := (if c = 32 then 1 else 0) + (if openerB c then 1 else 0) + (if closerB c then 1 else 0) + (if c = 123 then 1 else 0) + (if c = 34 then 1 else 0) + (if wordC c then 1 else 0)
theorem cls (c : UInt8) : clsB c ≤ 1 := all_bytes (p := fun c => clsB c ≤ 1) (by decide +kernel) c
theorem sc_blank {l : List UInt8} {s : Sc} (hI : SInv l.length s) (hf : s.fault l = 0) (hc : bt l s.pos = 32) : s.step l = .go { s with pos := s.pos + 1 } := by
  rcases sc_step hI hf with ⟨_, _, h⟩ | ⟨h, _⟩ | ⟨h, _⟩ | ⟨h, _⟩ | ⟨h, _⟩ | ⟨h, _⟩
  · exact h
  all_goals (rw [hc] at h; exact absurd h (by decide))
theorem sc_open {l : List UInt8} {s : Sc} (hI : SInv l.length s) (hf : s.fault l = 0) (hc : openerB (bt l s.pos) = true) : s.step l = .go { s with pos := s.pos + 1, begun := s.begun + 1, under := s.under ++ [s.top], top := ⟨kindC (bt l s.pos), s.word l, []⟩ } := by
  have hcl := cls (bt l s.pos)
  unfold clsB at hcl
  rw [if_pos hc] at hcl
  rcases sc_step hI hf with ⟨h, _⟩ | ⟨_, _, _, h⟩ | ⟨h, _⟩ | ⟨h, _⟩ | ⟨h, _⟩ | ⟨h, _⟩
  · exfalso; rw [if_pos h] at hcl; omega
  · exact h
  all_goals (exfalso; rw [if_pos h] at hcl; omega)
theorem sc_close {l : List UInt8} {s : Sc} (hI : SInv l.length s) (hf : s.fault l = 0) (hc : closerB (bt l s.pos) = true) (u : List Fr) (f : Fr) (hu : s.under = u ++ [f]) : s.step l = .go { s with pos := s.pos + 1, under := u, top := { f with kids := f.kids ++ [Wd.mk s.top.kind (S []) s.top.kids s.top.glued] } } := by
  have hcl := cls (bt l s.pos)
  unfold clsB at hcl
  rw [if_pos (c := closerB (bt l s.pos) = true) hc] at hcl
  rcases sc_step hI hf with ⟨h, _⟩ | ⟨h, _⟩ | ⟨_, _, u', f', hu', h⟩ | ⟨h, _⟩ | ⟨h, _⟩ | ⟨h, _⟩
  · exfalso; rw [if_pos h] at hcl; omega
  · exfalso; rw [if_pos h] at hcl; omega
  · rw [hu] at hu'
    have := List.append_inj' hu' rfl
    obtain ⟨rfl, h2⟩ := this
    injection h2 with h2
    subst h2
    exact h
  all_goals (exfalso; rw [if_pos h] at hcl; omega)
theorem sc_lit {l : List UInt8} {s : Sc} (hI : SInv l.length s) (hf : s.fault l = 0) (hc : bt l s.pos = 123) (x : ByteArray) (r : List ByteArray) (hl : s.lits = x :: r) : s.step l = .go ({ s with pos := s.pos + annS (l.drop s.pos), begun := s.begun + 1, lits := r }.add (Wd.mk 3 x [] (s.word l))) := by
  rcases sc_step hI hf with ⟨h, _⟩ | ⟨h, _⟩ | ⟨h, _⟩ | ⟨_, _, _, x', r', hl', _, h⟩ | ⟨h, _⟩ | ⟨h, _⟩
  · rw [hc] at h; exact absurd h (by decide)
  · rw [hc] at h; exact absurd h (by decide)
  · rw [hc] at h; exact absurd h (by decide)
  · rw [hl] at hl'
    injection hl' with h1 h2
    subst h1
    subst h2
    exact h
  all_goals (rw [hc] at h; exact absurd h (by decide))
theorem sc_quo {l : List UInt8} {s : Sc} (hI : SInv l.length s) (hf : s.fault l = 0) (hc : bt l s.pos = 34) (t : List UInt8) (n : Nat) (hq : quo (l.drop (s.pos + 1)) false [] 0 = .done t n) : s.step l = .go ({ s with pos := s.pos + 1 + n, begun := s.begun + 1 }.add (Wd.mk 2 (S t) [] (s.word l))) := by
  rcases sc_step hI hf with ⟨h, _⟩ | ⟨h, _⟩ | ⟨h, _⟩ | ⟨h, _⟩ | ⟨_, _, h⟩ | ⟨h, _⟩
  · rw [hc] at h; exact absurd h (by decide)
  · rw [hc] at h; exact absurd h (by decide)
  · rw [hc] at h; exact absurd h (by decide)
  · rw [hc] at h; exact absurd h (by decide)
  · rw [hq] at h; exact h
  · rw [hc] at h; exact absurd h (by decide)
theorem sc_atom {l : List UInt8} {s : Sc} (hI : SInv l.length s) (hf : s.fault l = 0) (hc : wordC (bt l s.pos) = true) : s.step l = .go ({ s with pos := s.pos + (atomL l s.pos).length, begun := s.begun + 1 }.add (Wd.mk 1 (S (atomL l s.pos)) [] (s.word l))) := by
  have hcl := cls (bt l s.pos)
  unfold clsB at hcl
  rw [if_pos (c := wordC (bt l s.pos) = true) hc] at hcl
  rcases sc_step hI hf with ⟨h, _⟩ | ⟨h, _⟩ | ⟨h, _⟩ | ⟨h, _⟩ | ⟨h, _⟩ | ⟨_, _, h⟩
  · exfalso; rw [if_pos h] at hcl; omega
  · exfalso; rw [if_pos h] at hcl; omega
  · exfalso; rw [if_pos h] at hcl; omega
  · exfalso; rw [if_pos h] at hcl; omega
  · exfalso; rw [if_pos h] at hcl; omega
  · exact h
theorem drop_at (l : List UInt8) (k : Nat) (hk : k < l.length) : l.drop k = bt l k :: l.drop (k + 1) := by
  rw [List.drop_eq_getElem_cons hk]
  unfold bt
  rw [List.getElem?_eq_getElem hk]
  rfl
/-- A scanner that stands at another place of another line. -/
theorem SInv.else {l l' : List UInt8} {s : Sc} (h : SInv l.length s) (p : Nat) (hp : p ≤ l'.length) : SInv l'.length { s with pos := p } := ⟨hp, h.under, h.begun, h.cnt, h.bot, h.bot2⟩
theorem word_else {l : List UInt8} {s : Sc} {P X : List UInt8} (hb : blankB l s.pos = lastB P) : ({ s with pos := P.length } : Sc).word (P ++ X) = s.word l := by
  unfold Sc.word
  show (!s.top.kids.isEmpty && !blankB (P ++ X) P.length) = _
  rw [blank_app, hb]
theorem fault_else {l : List UInt8} {s : Sc} {P : List UInt8} {c : UInt8} {X : List UInt8} (hb : blankB l s.pos = lastB P) (hc : bt l s.pos = c) (hlt : s.pos < l.length) (h1 : c = 123 → annB (c :: X) = annB (l.drop s.pos) ∧ annN (c :: X) = annN (l.drop s.pos)) (h2 : c = 32 → X.head? = (l.drop (s.pos + 1)).head?) :
    ({ s with pos := P.length } : Sc).fault (P ++ c :: X) = s.fault l := by
  have hd : (P ++ c :: X).drop P.length = c :: X := List.drop_left
  have hbt : bt (P ++ c :: X) P.length = c := bt_app P c X
  have hbeg : begB (P ++ c :: X) P.length = begB l s.pos := by
    unfold begB
    rw [hbt, hc, hd]
    by_cases h : c = 123
    · rw [(h1 h).1]
    · have : (c == 123) = false := by simpa using h
      rw [this]
      rfl
  rw [Sc.fault_eq, Sc.fault_eq]
  show faultV (begB (P ++ c :: X) P.length) (s.begun == 512) (openerB (bt (P ++ c :: X) P.length)) (decide (12 < s.under.length + 1)) (closerB (bt (P ++ c :: X) P.length)) (s.top.kind == kindC (bt (P ++ c :: X) P.length)) (bt (P ++ c :: X) P.length == 123) (fitB (P ++ c :: X) P.length s.lits) (bt (P ++ c :: X) P.length == 32) (({ s with pos := P.length } : Sc).pause (P ++ c :: X)) = _
  rw [hbeg, hbt, hc]
  by_cases h : c = 123
  · have hfit : fitB (P ++ c :: X) P.length s.lits = fitB l s.pos s.lits := by
      cases hl : s.lits with
      | nil => rfl
      | cons x r =>
        show (x.size == annN ((P ++ c :: X).drop P.length)) = (x.size == annN (l.drop s.pos))
        rw [hd, (h1 h).2]
    rw [hfit, h]
    show faultV _ _ _ _ _ _ _ _ false _ = faultV _ _ _ _ _ _ _ _ false _
    unfold faultV
    simp
  · have h123 : (c == 123) = false := by simpa using h
    rw [h123]
    by_cases h32 : c = 32
    · have hpa : ({ s with pos := P.length } : Sc).pause (P ++ c :: X) = s.pause l := by
        unfold Sc.pause
        rw [word_else hb]
        congr 1
        have hX := h2 h32
        show (decide (P.length + 1 = (P ++ c :: X).length) || !closerB (bt (P ++ c :: X) (P.length + 1))) = _
        have hb1 : bt (P ++ c :: X) (P.length + 1) = (X.head?).getD 0 := by
          unfold bt
          rw [List.getElem?_append_right (by omega)]
          cases X <;> simp
        have hb2 : bt l (s.pos + 1) = ((l.drop (s.pos + 1)).head?).getD 0 := by
          unfold bt
          rw [List.head?_drop]
        rw [hb1, hb2, hX]
        congr 1
        have e1 : (P.length + 1 = (P ++ c :: X).length) ↔ X = [] := by
          rw [List.length_append, List.length_cons]
          constructor
          · intro e; exact List.eq_nil_of_length_eq_zero (by omega)
          · rintro rfl; simp
        have e2 : (s.pos + 1 = l.length) ↔ l.drop (s.pos + 1) = [] := by
          rw [List.drop_eq_nil_iff]
          omega
        have e3 : X = [] ↔ l.drop (s.pos + 1) = [] := by
          rw [← List.head?_eq_none_iff, ← List.head?_eq_none_iff, hX]
        exact decide_eq_decide.2 (e1.trans (e3.trans e2.symm))
      rw [hpa]
      unfold faultV
      simp
    · have h32b : (c == 32) = false := by simpa using h32
      rw [h32b]
      unfold faultV
      simp
end Go.Proofs.YtonfchpfhdoefaaDoor

/- lex, plain: words as a text. -/
namespace Go.Proofs.YtonfchpfhdoefaaDoor
open Go.RowKit

def opc (k : Int) : UInt8 := if k = 4 then 40 else 91
def clc (k : Int) : UInt8 := if k = 4 then 41 else 93
mutual
def wl : Bool → List Wd → List UInt8
  | _, [] => []
  | first, d :: r => (if !first && !d.glued then [32] else []) ++ (w1 d ++ wl false r)
def w1 : Wd → List UInt8
  | .mk k t l _ => if k = 1 then L t else if k = 2 then quoteL (L t) else if k = 3 then annL t.size else if k = 4 then 40 :: (wl true l ++ [41]) else if k = 5 then 91 :: (wl true l ++ [93]) else []
end
mutual
def lt : List Wd → List ByteArray
  | [] => []
  | d :: r => l1 d ++ lt r
def l1 : Wd → List ByteArray
  | .mk k t l _ => if k = 3 then [t] else if k = 4 then lt l else if k = 5 then lt l else []
end
mutual
def nw : List Wd → Nat
  | [] => 0
  | d :: r => n1 d + nw r
def n1 : Wd → Nat
  | .mk k _ l _ => 1 + (if k = 4 then nw l else if k = 5 then nw l else 0)
end
mutual
def smL : List Wd → Bool
  | [] => true
  | d :: r => sm1 d && smL r
def sm1 : Wd → Bool
  | .mk k t l _ => decide (t.size ≤ 16384) && (if k = 4 then smL l else if k = 5 then smL l else true)
end
mutual
theorem jws_wl : ∀ (first : Bool) (ws : List Wd) (j : Jn), smL ws = true → j.words + nw ws ≤ 512 → jws first ws j = ⟨j.line ++ wl first ws, j.lits ++ lt ws, j.words + nw ws⟩
  | _, [], j, _, _ => by simp [jws, wl, lt, nw]
  | first, d :: r, j, hs, hn => by
    simp only [smL, Bool.and_eq_true] at hs
    simp only [nw] at hn
    have hd1 : 1 ≤ n1 d ∧ d.text.size ≤ 16384 := by
      obtain ⟨k, t, l, g⟩ := d
      have h := hs.1
      simp only [sm1, Bool.and_eq_true, decide_eq_true_eq] at h
      exact ⟨by simp only [n1]; omega, h.1⟩
    have hst : j.stops d = false := by
      unfold Jn.stops
      rw [decide_eq_false (by omega), decide_eq_false (by have := hd1.2; omega)]
      rfl
    have hb : j.blank first d = ⟨j.line ++ (if !first && !d.glued then [32] else []), j.lits, j.words + 1⟩ := by
      unfold Jn.blank
      split
      · rfl
      · simp [Jn.one]
    rw [jws_one _ _ _ _ hst, hb]
    have h1 := jw_w1 d ⟨j.line ++ (if !first && !d.glued then [32] else []), j.lits, j.words + 1⟩ hs.1 (by show j.words + 1 + n1 d ≤ 513; omega)
    rw [h1]
    have h2 := jws_wl false r ⟨j.line ++ (if !first && !d.glued then [32] else []) ++ w1 d, j.lits ++ l1 d, j.words + 1 + n1 d - 1⟩ hs.2 (by show j.words + 1 + n1 d - 1 + nw r ≤ 512; omega)
    rw [h2]
    have e : j.words + 1 + n1 d - 1 + nw r = j.words + nw (d :: r) := by simp only [nw]; omega
    simp only [e, wl, lt, List.append_assoc]
theorem jw_w1 : ∀ (d : Wd) (j : Jn), sm1 d = true → j.words + n1 d ≤ 513 → jw d j = ⟨j.line ++ w1 d, j.lits ++ l1 d, j.words + n1 d - 1⟩
  | .mk k t l g, j, hs, hn => by
    simp only [sm1, Bool.and_eq_true] at hs
    simp only [n1] at hn
    rw [jw]
    by_cases h1 : k = 1
    · subst h1
      simp [w1, l1, n1, Jn.put]
    · by_cases h2 : k = 2
      · subst h2
        simp [w1, l1, n1, Jn.put]
      · by_cases h3 : k = 3
        · subst h3
          simp [w1, l1, n1, Jn.lit]
        · by_cases h4 : k = 4
          · subst h4
            have hsl : smL l = true := by simpa using hs.2
            have h := jws_wl true l (j.put [40]) hsl (by
              show j.words + nw l ≤ 512
              simp at hn
              omega)
            simp only [show ¬ (4 : Int) = 1 by decide, show ¬ (4 : Int) = 2 by decide, show ¬ (4 : Int) = 3 by decide, if_false, if_true]
            rw [h]
            simp [w1, l1, n1, Jn.put]
            omega
          · by_cases h5 : k = 5
            · subst h5
              have hsl : smL l = true := by simpa using hs.2
              have h := jws_wl true l (j.put [91]) hsl (by
                show j.words + nw l ≤ 512
                simp at hn
                omega)
              simp only [show ¬ (5 : Int) = 1 by decide, show ¬ (5 : Int) = 2 by decide, show ¬ (5 : Int) = 3 by decide, show ¬ (5 : Int) = 4 by decide, if_false, if_true]
              rw [h]
              simp [w1, l1, n1, Jn.put]
              omega
            · simp [w1, l1, n1, h1, h2, h3, h4, h5]
end
theorem wl_snoc : ∀ (first : Bool) (a : List Wd) (d : Wd), wl first (a ++ [d]) = wl first a ++ ((if (!first || !a.isEmpty) && !d.glued then [32] else []) ++ w1 d)
  | first, [], d => by simp [wl]
  | first, b :: a, d => by
    have h := wl_snoc false a d
    simp only [List.cons_append, wl, h, List.append_assoc]
    simp
theorem lt_snoc (a : List Wd) (d : Wd) : lt (a ++ [d]) = lt a ++ l1 d := by
  induction a with
  | nil => simp [lt]
  | cons b a ih => simp only [List.cons_append, lt, ih, List.append_assoc]
theorem nw_snoc (a : List Wd) (d : Wd) : nw (a ++ [d]) = nw a + n1 d := by
  induction a with
  | nil => simp [nw]
  | cons b a ih => simp only [List.cons_append, nw, ih]; omega
theorem smL_snoc (a : List Wd) (d : Wd) : smL (a ++ [d]) = (smL a && sm1 d) := by
  induction a with
  | nil => simp [smL]
  | cons b a ih => simp only [List.cons_append, smL, ih, Bool.and_assoc]
theorem nw_len (a : List Wd) : a.length ≤ nw a := by
  induction a with
  | nil => simp
  | cons b a ih =>
    have : 1 ≤ n1 b := by cases b; simp only [n1]; omega
    simp only [List.length_cons, nw]
    omega
/-- The lists that have not ended, as a text; their literals; how many words. -/
def fw : List Fr → List UInt8
  | [] => []
  | f :: r => wl true f.kids ++ (match r with
    | [] => []
    | g :: _ => (if !f.kids.isEmpty && !g.glued then [32] else []) ++ [opc g.kind]) ++ fw r
def ft : List Fr → List ByteArray
  | [] => []
  | f :: r => lt f.kids ++ ft r
def fc : List Fr → Nat
  | [] => 0
  | f :: r => nw f.kids + 1 + fc r
def fs : List Fr → Bool
  | [] => true
  | f :: r => smL f.kids && fs r
theorem fw_word : ∀ (u : List Fr) (f : Fr) (d : Wd), fw (u ++ [{ f with kids := f.kids ++ [d] }]) = fw (u ++ [f]) ++ ((if !f.kids.isEmpty && !d.glued then [32] else []) ++ w1 d)
  | [], f, d => by
    show wl true (f.kids ++ [d]) ++ [] ++ [] = wl true f.kids ++ [] ++ [] ++ _
    rw [wl_snoc]
    simp
  | [g], f, d => by
    have h := fw_word [] f d
    simp only [List.nil_append] at h
    show wl true g.kids ++ _ ++ fw [{ f with kids := f.kids ++ [d] }] = wl true g.kids ++ _ ++ fw [f] ++ _
    rw [h]
    simp
  | g :: g2 :: u, f, d => by
    have h := fw_word (g2 :: u) f d
    show wl true g.kids ++ _ ++ fw (g2 :: u ++ [{ f with kids := f.kids ++ [d] }]) = wl true g.kids ++ _ ++ fw (g2 :: u ++ [f]) ++ _
    rw [h]
    simp
theorem fw_push : ∀ (u : List Fr) (f g : Fr), g.kids = [] → fw (u ++ [f] ++ [g]) = fw (u ++ [f]) ++ ((if !f.kids.isEmpty && !g.glued then [32] else []) ++ [opc g.kind])
  | [], f, g, hg => by
    show wl true f.kids ++ _ ++ (wl true g.kids ++ [] ++ []) = wl true f.kids ++ [] ++ [] ++ _
    rw [hg]
    simp [wl]
  | [a], f, g, hg => by
    have h := fw_push [] f g hg
    simp only [List.nil_append] at h
    show wl true a.kids ++ _ ++ fw ([f] ++ [g]) = wl true a.kids ++ _ ++ fw [f] ++ _
    rw [h]
    simp
  | a :: b :: u, f, g, hg => by
    have h := fw_push (b :: u) f g hg
    show wl true a.kids ++ _ ++ fw (b :: u ++ [f] ++ [g]) = wl true a.kids ++ _ ++ fw (b :: u ++ [f]) ++ _
    rw [h]
    simp
theorem fw_top : ∀ (u : List Fr) (f g : Fr), fw (u ++ [f] ++ [g]) = fw (u ++ [f]) ++ ((if !f.kids.isEmpty && !g.glued then [32] else []) ++ [opc g.kind]) ++ wl true g.kids
  | [], f, g => by
    show wl true f.kids ++ _ ++ (wl true g.kids ++ [] ++ []) = wl true f.kids ++ [] ++ [] ++ _ ++ _
    simp
  | [a], f, g => by
    have h := fw_top [] f g
    simp only [List.nil_append] at h
    show wl true a.kids ++ _ ++ fw ([f] ++ [g]) = wl true a.kids ++ _ ++ fw [f] ++ _ ++ _
    rw [h]
    simp
  | a :: b :: u, f, g => by
    have h := fw_top (b :: u) f g
    show wl true a.kids ++ _ ++ fw (b :: u ++ [f] ++ [g]) = wl true a.kids ++ _ ++ fw (b :: u ++ [f]) ++ _ ++ _
    rw [h]
    simp
theorem w1_nest (k : Int) (hk : k = 4 ∨ k = 5) (t : ByteArray) (l : List Wd) (g : Bool) : w1 (.mk k t l g) = opc k :: (wl true l ++ [clc k]) ∧ l1 (.mk k t l g) = lt l ∧ n1 (.mk k t l g) = 1 + nw l ∧ sm1 (.mk k t l g) = (decide (t.size ≤ 16384) && smL l) := by
  rcases hk with rfl | rfl
  · simp [w1, l1, n1, sm1, opc, clc]
  · simp [w1, l1, n1, sm1, opc, clc]
/-- A list ends. -/
theorem fw_pop (u : List Fr) (f g : Fr) (hk : g.kind = 4 ∨ g.kind = 5) : fw (u ++ [{ f with kids := f.kids ++ [Wd.mk g.kind (S []) g.kids g.glued] }]) = fw (u ++ [f] ++ [g]) ++ [clc g.kind] := by
  rw [fw_word, fw_top, (w1_nest g.kind hk _ _ _).1]
  simp [Wd.glued]
theorem ft_app (a b : List Fr) : ft (a ++ b) = ft a ++ ft b := by
  induction a with
  | nil => rfl
  | cons f a ih => simp only [List.cons_append, ft, ih, List.append_assoc]
theorem fc_app (a b : List Fr) : fc (a ++ b) = fc a + fc b := by
  induction a with
  | nil => simp [fc]
  | cons f a ih => simp only [List.cons_append, fc, ih]; omega
theorem fs_app (a b : List Fr) : fs (a ++ b) = (fs a && fs b) := by
  induction a with
  | nil => simp [fs]
  | cons f a ih => simp only [List.cons_append, fs, ih, Bool.and_assoc]
end Go.Proofs.YtonfchpfhdoefaaDoor

/- lex, plain: a line that is scanned, in its one form, is what its words are written as. -/
namespace Go.Proofs.YtonfchpfhdoefaaDoor
open Go.RowKit

theorem lastB_app (P t : List UInt8) (c : UInt8) (hc : c ≠ 32) : lastB (P ++ (t ++ [c])) = false := by
  unfold lastB
  rw [← List.append_assoc, List.getLast?_concat]
  simpa using hc
theorem lastB_32 (P : List UInt8) : lastB (P ++ [32]) = true := by
  unfold lastB
  rw [List.getLast?_concat]
  rfl
theorem quo_text : ∀ (r : List UInt8) (esc : Bool) (acc : List UInt8) (n : Nat) (t : List UInt8) (m : Nat), quo r esc acc n = .done t m → ∃ x, t = acc ++ x ∧ x.all quotC = true ∧ ((esc = false ∧ r.take (m - n) = quoteB x ++ [34]) ∨ (esc = true ∧ ∃ c y, x = c :: y ∧ slashB c = true ∧ r.take (m - n) = c :: (quoteB y ++ [34])))
  | [], _, _, _, _, _, h => by simp [quo] at h
  | c :: r, esc, acc, n, t, m, h => by
    obtain ⟨k, hk, _, _, _⟩ := quo_same _ _ _ _ _ _ h
    rw [quo] at h
    split at h
    · cases h
    · rename_i hq
      have hq2 : quotC c = true ∧ (esc = true → slashB c = true) := by
        simp only [Bool.not_eq_true', Bool.not_eq_false, Bool.and_eq_true, Bool.or_eq_true] at hq
        refine ⟨hq.1, fun he => ?_⟩
        rcases hq.2 with h1 | h1
        · rw [he] at h1; cases h1
        · exact h1
      split at h
      · rename_i h1
        rw [Bool.and_eq_true, beq_iff_eq] at h1
        injection h with ht hm
        have he : esc = false := by simpa using h1.2
        refine ⟨[], by rw [← ht]; simp, rfl, .inl ⟨he, ?_⟩⟩
        rw [show m - n = 1 by omega, h1.1]
        rfl
      · rename_i h1
        split at h
        · rename_i h2
          rw [Bool.and_eq_true, beq_iff_eq] at h2
          have he : esc = false := by simpa using h2.2
          obtain ⟨x, hx, hxa, hxe⟩ := quo_text r true acc (n + 1) t m h
          rcases hxe with ⟨e, _⟩ | ⟨_, c', y, hxc, hs, htk⟩
          · cases e
          · obtain ⟨k2, hk2, _, _, _⟩ := quo_same _ _ _ _ _ _ h
            refine ⟨x, hx, hxa, .inl ⟨he, ?_⟩⟩
            rw [show m - n = (m - (n + 1)) + 1 by omega, List.take_succ_cons, htk, hxc, h2.1]
            unfold quoteB
            rw [List.flatMap_cons, show q1 c' = [92, c'] by unfold q1; rw [hs]; rfl]
            rfl
        · rename_i h2
          obtain ⟨x, hx, hxa, hxe⟩ := quo_text r false (acc ++ [c]) (n + 1) t m h
          obtain ⟨k2, hk2, _, _, _⟩ := quo_same _ _ _ _ _ _ h
          rcases hxe with ⟨_, htk⟩ | ⟨e, _⟩
          · refine ⟨c :: x, by rw [hx]; simp, by rw [List.all_cons, hq2.1, hxa]; rfl, ?_⟩
            cases esc with
            | true =>
              refine .inr ⟨rfl, c, x, rfl, hq2.2 rfl, ?_⟩
              rw [show m - n = (m - (n + 1)) + 1 by omega, List.take_succ_cons, htk]
            | false =>
              refine .inl ⟨rfl, ?_⟩
              have hs : slashB c = false := by
                unfold slashB
                rw [Bool.or_eq_false_iff]
                constructor
                · cases hh : c == 34 with
                  | false => rfl
                  | true => exact absurd (by rw [hh]; rfl) h1
                · cases hh : c == 92 with
                  | false => rfl
                  | true => exact absurd (by rw [hh]; rfl) h2
              rw [show m - n = (m - (n + 1)) + 1 by omega, List.take_succ_cons, htk]
              unfold quoteB
              rw [List.flatMap_cons, show q1 c = [c] by unfold q1; rw [hs]; rfl]
              rfl
          · cases e
/-- What a scanner has behind it, as a text. -/
structure Wr (l : List UInt8) (lits0 : List ByteArray) (s : Sc) (P : List UInt8) : Prop where
  text : P = fw (s.under ++ [s.top]) ++ (if lastB P then [32] else [])
  kid : lastB P = true → s.top.kids.isEmpty = false
  cl : lastB P = true → s.pos < l.length → closerB (bt l s.pos) = false
  lits : lits0 = ft (s.under ++ [s.top]) ++ s.lits
  cnt : fc (s.under ++ [s.top]) = s.begun + 1
  sm : fs (s.under ++ [s.top]) = true
theorem sep_is {l : List UInt8} {s : Sc} {P : List UInt8} (hb : blankB l s.pos = lastB P) (hk : lastB P = true → s.top.kids.isEmpty = false) : (if !s.top.kids.isEmpty && !(s.word l) then ([32] : List UInt8) else []) = if lastB P then [32] else [] := by
  unfold Sc.word
  rw [hb]
  cases hp : lastB P with
  | true => rw [hk hp]; rfl
  | false => cases s.top.kids.isEmpty <;> rfl
theorem Wr.word {l : List UInt8} {lits0 : List ByteArray} {s : Sc} {P : List UInt8} (h : Wr l lits0 s P) (hb : blankB l s.pos = lastB P) (d : Wd) (hg : d.glued = s.word l) (k : Nat) (ls : List ByteArray) (hl : s.lits = l1 d ++ ls) (hn : n1 d = 1) (hs : sm1 d = true) (t : List UInt8) (c : UInt8) (hc : c ≠ 32) (hw : w1 d = t ++ [c]) :
    Wr l lits0 ({ s with pos := k, begun := s.begun + 1, lits := ls }.add d) (P ++ w1 d) := by
  have hlast : lastB (P ++ w1 d) = false := by rw [hw]; exact lastB_app P t c hc
  have hfs := h.sm
  rw [fs_app] at hfs
  rw [Bool.and_eq_true] at hfs
  have hft := h.lits
  rw [ft_app] at hft
  have hfc := h.cnt
  rw [fc_app] at hfc
  refine ⟨?_, fun e => (by rw [hlast] at e; cases e), fun e => (by rw [hlast] at e; cases e), ?_, ?_, ?_⟩
  · rw [hlast]
    show P ++ w1 d = fw (s.under ++ [{ s.top with kids := s.top.kids ++ [d] }]) ++ []
    rw [fw_word, hg, sep_is hb h.kid]
    conv => lhs; rw [h.text]
    simp
  · show lits0 = ft (s.under ++ [{ s.top with kids := s.top.kids ++ [d] }]) ++ ls
    rw [ft_app, hft, hl]
    simp [ft, lt_snoc]
  · show fc (s.under ++ [{ s.top with kids := s.top.kids ++ [d] }]) = s.begun + 1 + 1
    rw [fc_app]
    simp only [fc, nw_snoc, hn] at hfc ⊢
    omega
  · show fs (s.under ++ [{ s.top with kids := s.top.kids ++ [d] }]) = true
    rw [fs_app, hfs.1]
    have h2 := hfs.2
    simp only [fs, Bool.and_true] at h2 ⊢
    rw [smL_snoc, h2, hs]
    rfl
theorem Wr.blank {l : List UInt8} {lits0 : List ByteArray} {s : Sc} {P : List UInt8} (h : Wr l lits0 s P) (hb : blankB l s.pos = lastB P) (hp : s.pause l = true) : Wr l lits0 { s with pos := s.pos + 1 } (P ++ [32]) := by
  unfold Sc.pause Sc.word at hp
  rw [hb, Bool.and_eq_true, Bool.and_eq_true] at hp
  obtain ⟨⟨h1, h2⟩, h3⟩ := hp
  have hP : lastB P = false := by simpa using h2
  have ht := h.text
  rw [hP] at ht
  refine ⟨?_, fun _ => by simpa using h1, fun _ hlt => ?_, h.lits, h.cnt, h.sm⟩
  · rw [lastB_32]
    show P ++ [32] = fw (s.under ++ [s.top]) ++ [32]
    conv => lhs; rw [ht]
    simp
  · have hlt : s.pos + 1 < l.length := hlt
    show closerB (bt l (s.pos + 1)) = false
    rw [Bool.or_eq_true, decide_eq_true_eq] at h3
    rcases h3 with h3 | h3
    · omega
    · simpa using h3
theorem Wr.push {l : List UInt8} {lits0 : List ByteArray} {s : Sc} {P : List UInt8} (h : Wr l lits0 s P) (hb : blankB l s.pos = lastB P) (c : UInt8) (hc : openerB c = true) : Wr l lits0 { s with pos := s.pos + 1, begun := s.begun + 1, under := s.under ++ [s.top], top := ⟨kindC c, s.word l, []⟩ } (P ++ [c]) := by
  have hoc : opc (kindC c) = c ∧ c ≠ 32 := by
    unfold openerB at hc
    rw [Bool.or_eq_true, beq_iff_eq, beq_iff_eq] at hc
    rcases hc with rfl | rfl <;> decide
  have hlast : lastB (P ++ [c]) = false := lastB_app P [] c hoc.2
  refine ⟨?_, fun e => (by rw [hlast] at e; cases e), fun e => (by rw [hlast] at e; cases e), ?_, ?_, ?_⟩
  · rw [hlast]
    show P ++ [c] = fw (s.under ++ [s.top] ++ [⟨kindC c, s.word l, []⟩]) ++ []
    rw [fw_push _ _ _ rfl, sep_is hb h.kid]
    show P ++ [c] = fw (s.under ++ [s.top]) ++ ((if lastB P then [32] else []) ++ [opc (kindC c)]) ++ []
    rw [hoc.1]
    conv => lhs; rw [h.text]
    simp
  · show lits0 = ft (s.under ++ [s.top] ++ [⟨kindC c, s.word l, []⟩]) ++ s.lits
    rw [ft_app, show ft [⟨kindC c, s.word l, []⟩] = [] by simp [ft, lt], List.append_nil]
    exact h.lits
  · show fc (s.under ++ [s.top] ++ [⟨kindC c, s.word l, []⟩]) = s.begun + 1 + 1
    rw [fc_app, h.cnt]
    simp [fc, nw]
  · show fs (s.under ++ [s.top] ++ [⟨kindC c, s.word l, []⟩]) = true
    rw [fs_app, h.sm]
    simp [fs, smL]
theorem Wr.pop {l : List UInt8} {lits0 : List ByteArray} {s : Sc} {P : List UInt8} (h : Wr l lits0 s P) (hlt : s.pos < l.length) (c : UInt8) (hc : closerB c = true) (hbt : bt l s.pos = c) (hk : s.top.kind = kindC c) (u : List Fr) (f : Fr) (hu : s.under = u ++ [f]) :
    Wr l lits0 { s with pos := s.pos + 1, under := u, top := { f with kids := f.kids ++ [Wd.mk s.top.kind (S []) s.top.kids s.top.glued] } } (P ++ [c]) := by
  have hcc : clc (kindC c) = c ∧ c ≠ 32 ∧ (kindC c = 4 ∨ kindC c = 5) := by
    unfold closerB at hc
    rw [Bool.or_eq_true, beq_iff_eq, beq_iff_eq] at hc
    rcases hc with rfl | rfl <;> decide
  have hlast : lastB (P ++ [c]) = false := lastB_app P [] c hcc.2.1
  have hP : lastB P = false := by
    cases hp : lastB P with
    | false => rfl
    | true =>
      have := h.cl hp hlt
      rw [hbt, hc] at this
      cases this
  have ht := h.text
  rw [hP, hu] at ht
  have h45 : s.top.kind = 4 ∨ s.top.kind = 5 := by rw [hk]; exact hcc.2.2
  obtain ⟨_, e2, e3, e4⟩ := w1_nest s.top.kind h45 (S []) s.top.kids s.top.glued
  have hfs := h.sm
  rw [hu, fs_app, fs_app, Bool.and_eq_true, Bool.and_eq_true] at hfs
  have hft := h.lits
  rw [hu, ft_app, ft_app] at hft
  have hfc := h.cnt
  rw [hu, fc_app, fc_app] at hfc
  refine ⟨?_, fun e => (by rw [hlast] at e; cases e), fun e => (by rw [hlast] at e; cases e), ?_, ?_, ?_⟩
  · rw [hlast]
    show P ++ [c] = fw (u ++ [{ f with kids := f.kids ++ [Wd.mk s.top.kind (S []) s.top.kids s.top.glued] }]) ++ []
    rw [fw_pop u f s.top h45, hk, hcc.1]
    conv => lhs; rw [ht]
    simp
  · show lits0 = ft (u ++ [{ f with kids := f.kids ++ [Wd.mk s.top.kind (S []) s.top.kids s.top.glued] }]) ++ s.lits
    rw [ft_app, hft]
    simp [ft, lt_snoc, e2]
  · show fc (u ++ [{ f with kids := f.kids ++ [Wd.mk s.top.kind (S []) s.top.kids s.top.glued] }]) = s.begun + 1
    rw [fc_app]
    simp only [fc, nw_snoc, e3] at hfc ⊢
    omega
  · show fs (u ++ [{ f with kids := f.kids ++ [Wd.mk s.top.kind (S []) s.top.kids s.top.glued] }]) = true
    rw [fs_app, hfs.1.1]
    have h2 := hfs.1.2
    have h3 := hfs.2
    simp only [fs, Bool.and_true] at h2 h3 ⊢
    rw [smL_snoc, h2, e4, h3]
    rfl
end Go.Proofs.YtonfchpfhdoefaaDoor

/- lex, plain: a line and its one form are scanned alike; the one form is what the words are written as. -/
namespace Go.Proofs.YtonfchpfhdoefaaDoor
open Go.RowKit

structure SimR (l : List UInt8) (lits0 : List ByteArray) (s : Sc) (P : List UInt8) (R : Int × List Wd) : Prop where
  run : ∀ n', (canon (l.drop s.pos)).length ≤ n' → ({ s with pos := P.length } : Sc).run (P ++ canon (l.drop s.pos)) n' = R
  text : P ++ canon (l.drop s.pos) = wl true R.2
  lits : lt R.2 = lits0
  cnt : nw R.2 ≤ 512
  sm : smL R.2 = true
  len : (canon (l.drop s.pos)).length ≤ l.length - s.pos
theorem SimR.step {l : List UInt8} {lits0 : List ByteArray} {s s' : Sc} {P tok : List UInt8} {R : Int × List Wd} (h : SimR l lits0 s' (P ++ tok) R) (hcan : canon (l.drop s.pos) = tok ++ canon (l.drop s'.pos)) (h0 : 0 < tok.length) (hlen : s.pos + tok.length ≤ s'.pos) (hp' : s'.pos ≤ l.length)
    (hf : ({ s with pos := P.length } : Sc).fault (P ++ canon (l.drop s.pos)) = 0) (hs : ({ s with pos := P.length } : Sc).step (P ++ canon (l.drop s.pos)) = .go { s' with pos := (P ++ tok).length }) : SimR l lits0 s P R := by
  have hll : P ++ canon (l.drop s.pos) = (P ++ tok) ++ canon (l.drop s'.pos) := by rw [hcan, List.append_assoc]
  refine ⟨fun n' hn' => ?_, by rw [hll]; exact h.text, h.lits, h.cnt, h.sm, ?_⟩
  · rw [hcan, List.length_append] at hn'
    obtain ⟨k, rfl⟩ : ∃ k, n' = k + 1 := ⟨n' - 1, by omega⟩
    have h1 := Sc.run_go (n := k) rfl (by show P.length < (P ++ canon (l.drop s.pos)).length; rw [hcan]; simp; omega) hf hs
    rw [← h1, hll]
    exact h.run k (by omega)
  · have := h.len
    rw [hcan, List.length_append]
    omega
theorem fold_lt : ∀ (d : List UInt8) (a : Nat), (∀ x ∈ d, isDig x = true) → d.foldl capN a + 1 ≤ (a + 1) * 10 ^ d.length
  | [], a, _ => by simp
  | c :: d, a, h => by
    have hc := (isDig_iff c).1 (h c (by simp))
    have ih := fold_lt d (capN a c) (fun x hx => h x (by simp [hx]))
    have h1 : capN a c + 1 ≤ (a + 1) * 10 := by unfold capN; omega
    show d.foldl capN (capN a c) + 1 ≤ (a + 1) * 10 ^ (d.length + 1)
    rw [Nat.pow_succ, Nat.mul_comm (10 ^ d.length) 10, ← Nat.mul_assoc]
    exact Nat.le_trans ih (Nat.mul_le_mul_right _ h1)
theorem annE_suffix (l : List UInt8) (hB : annB l = true) : annE l = l.drop (annS l - 1) ∧ (annL (annN l)).length ≤ annS l ∧ annS l ≤ l.length ∧ 0 < annS l ∧ bt l (annS l - 1) = 125 := by
  have hB2 := hB
  unfold annB at hB2
  rw [Bool.and_eq_true, beq_iff_eq] at hB2
  obtain ⟨hfit, hpos⟩ := annS_fit l hB
  have hda : ∀ x ∈ annD l, isDig x = true := by unfold annD; exact tw_all _
  have hd0 : annD l ≠ [] := by
    intro e
    rw [e] at hB2
    simp at hB2
  obtain ⟨j, hj, hj2⟩ : ∃ j, annE l = l.drop j ∧ 1 + (annD l).length ≤ j := by
    unfold annE
    split
    · refine ⟨1 + (annD l).length + 1, ?_, by omega⟩
      unfold annR
      rw [List.tail_drop]
    · exact ⟨1 + (annD l).length, rfl, by omega⟩
  have hjl : j < l.length := by
    cases hh : Nat.decLt j l.length with
    | isTrue h => exact h
    | isFalse h =>
      rw [hj, List.drop_of_length_le (by omega)] at hB2
      cases hB2.2
  have hS : annS l = j + 1 := by
    unfold annS
    rw [if_pos hB, hj, List.length_drop]
    omega
  have hN : (annL (annN l)).length ≤ annS l := by
    have hdl : 0 < (annD l).length := List.length_pos_iff.2 hd0
    have h1 := fold_lt (annD l) 0 hda
    have h2 : annN l < 10 ^ ((annD l).length - 1 + 1) := by
      unfold annN annF
      rw [if_pos hB, show (annD l).length - 1 + 1 = (annD l).length by omega]
      omega
    have h3 := dec_small _ _ h2
    have h4 : (annL (annN l)).length = (Lib.decDigits (annN l)).length + 2 := by unfold annL; simp
    omega
  refine ⟨by rw [hS, hj]; rfl, hN, hfit, hpos, ?_⟩
  rw [hS]
  show bt l j = 125
  rw [hj, drop_at l j hjl] at hB2
  simpa using hB2.2
theorem tw_stop (p : UInt8 → Bool) (a Y : List UInt8) (ha : ∀ x ∈ a, p x = true) (hY : ∀ c, Y.head? = some c → p c = false) : (a ++ Y).takeWhile p = a := by
  induction a with
  | nil =>
    cases Y with
    | nil => rfl
    | cons c Y => rw [List.nil_append, List.takeWhile_cons_of_neg (by simp [hY c rfl])]
  | cons c a ih => rw [List.cons_append, List.takeWhile_cons_of_pos (ha c (by simp)), ih (fun x hx => ha x (by simp [hx]))]
theorem blank_at (l : List UInt8) (k : Nat) (c : UInt8) (hc : bt l (k - 1) = c) (h : c ≠ 32) : blankB l k = false := by
  unfold blankB
  rw [hc]
  have : (c == 32) = false := by simpa using h
  rw [this]
  simp
theorem quoteB_ge (t : List UInt8) : t.length ≤ (quoteB t).length := by
  unfold quoteB
  induction t with
  | nil => simp
  | cons a t ih =>
    rw [List.flatMap_cons, List.length_append, List.length_cons]
    have : 1 ≤ (q1 a).length := by unfold q1; split <;> simp
    omega
theorem simEnd {l : List UInt8} {lits0 : List ByteArray} (s : Sc) (P : List UInt8) (R : Int × List Wd) (n : Nat) (hI : SInv l.length s) (hp : ¬ s.pos < l.length) (hb : blankB l s.pos = lastB P) (hw : Wr l lits0 s P) (hr : s.run l n = R) (h0 : R.1 = 0) : SimR l lits0 s P R := by
  have hR := Sc.run_end hr hp
  have he : s.endE l false = 0 := by rw [hR] at h0; exact h0
  have hnil : canon (l.drop s.pos) = [] := by rw [List.drop_of_length_le (by omega), canon_nil]
  have hparts : s.under = [] ∧ blankB l s.pos = false ∧ s.lits = [] := by
    unfold Sc.endE at he
    cases hu : s.under with
    | cons a b => rw [hu] at he; simp at he
    | nil =>
      rw [hu] at he
      cases hbb : blankB l s.pos with
      | true => rw [hbb] at he; simp at he
      | false =>
        rw [hbb] at he
        cases hl : s.lits with
        | cons a b => rw [hl] at he; simp at he
        | nil => exact ⟨rfl, rfl, rfl⟩
  obtain ⟨hu, hbl, hli⟩ := hparts
  have ht := hw.text
  rw [hb] at hbl
  rw [hbl, hu] at ht
  have hlits := hw.lits
  rw [hu, hli] at hlits
  have hcnt := hw.cnt
  rw [hu] at hcnt
  have hsm := hw.sm
  rw [hu] at hsm
  have hbeg := hI.begun
  rw [hR]
  refine ⟨fun n' _ => ?_, ?_, ?_, ?_, ?_, by rw [hnil]; simp⟩
  · rw [hnil, List.append_nil]
    rw [Sc.run_end (s := { s with pos := P.length }) (l := P) rfl (by show ¬ P.length < P.length; omega)]
    have hb2 : blankB P P.length = lastB P := by
      have := blank_app P []
      rw [List.append_nil] at this
      exact this
    have : ({ s with pos := P.length } : Sc).endE P false = s.endE l false := by
      unfold Sc.endE
      show (if !s.under.isEmpty then (33 : Int) else if false = true then 31 else if blankB P P.length then 30 else if !s.lits.isEmpty then 32 else 0) = _
      rw [hb2, ← hb]
    rw [this]
  · rw [hnil, ht]
    simp [fw]
  · rw [hlits]
    simp [ft]
  · simp only [List.nil_append, fc] at hcnt
    show nw s.top.kids ≤ 512
    omega
  · simp only [List.nil_append, fs, Bool.and_true] at hsm
    exact hsm
theorem sim (l : List UInt8) (lits0 : List ByteArray) (hl : l.length ≤ 4096) (hx : ∀ x ∈ lits0, x.size ≤ 16384) : ∀ (n : Nat) (s : Sc) (P : List UInt8) (R : Int × List Wd), SInv l.length s → l.length - s.pos ≤ n → blankB l s.pos = lastB P → Wr l lits0 s P → s.run l n = R → R.1 = 0 → SimR l lits0 s P R := by
  intro n
  induction n with
  | zero =>
    intro s P R hI hn hb hw hr h0
    exact simEnd s P R 0 hI (by omega) hb hw hr h0
  | succ n ih =>
    intro s P R hI hn hb hw hr h0
    by_cases hp : s.pos < l.length
    · have hf : s.fault l = 0 := by
        apply Classical.byContradiction
        intro hf
        have := Sc.run_fault hr hp hf
        rw [this] at h0
        exact hf h0
      have hdr := drop_at l s.pos hp
      have hcls := cls (bt l s.pos)
      unfold clsB at hcls
      rcases sc_step hI hf with ⟨hc, hpa, hs⟩ | ⟨hc, hbg, hu, hs⟩ | ⟨hc, hk, u, f, hu, hs⟩ | ⟨hc, hB, hbg, x, r, hli, hxs, hs⟩ | ⟨hc, hbg, hs⟩ | ⟨hc, hbg, hs⟩
      · rw [hc] at hdr
        have hcan : canon (l.drop s.pos) = [32] ++ canon (l.drop (s.pos + 1)) := by rw [hdr, canon_other (by decide) (by decide)]; rfl
        have hfe := fault_else (l := l) (s := s) (P := P) (c := 32) (X := canon (l.drop (s.pos + 1))) hb hc hp (fun e => absurd e (by decide)) (fun _ => canon_head _)
        have hl' : P ++ canon (l.drop s.pos) = P ++ 32 :: canon (l.drop (s.pos + 1)) := by rw [hcan]; rfl
        refine SimR.step (s' := { s with pos := s.pos + 1 }) (tok := [32]) (ih _ _ R (hI.at (s.pos + 1) hp) (by show l.length - (s.pos + 1) ≤ n; omega) ?_ (hw.blank hb hpa) (Sc.run_go hr hp hf hs) h0) hcan (by simp) (by simp) hp (by rw [hl', hfe]; exact hf) ?_
        · rw [lastB_32]
          show blankB l (s.pos + 1) = true
          unfold blankB
          rw [show s.pos + 1 - 1 = s.pos from rfl, hc]
          simp
        · rw [hl']
          have := sc_blank (l := P ++ 32 :: canon (l.drop (s.pos + 1))) (s := { s with pos := P.length }) (hI.else P.length (by simp)) (by rw [hfe]; exact hf) (bt_app _ _ _)
          rw [this]
          simp
      · have hne : bt l s.pos ≠ 34 ∧ bt l s.pos ≠ 123 ∧ bt l s.pos ≠ 32 := by
          rw [if_pos (c := openerB (bt l s.pos) = true) hc] at hcls
          refine ⟨fun e => ?_, fun e => ?_, fun e => ?_⟩ <;> rw [if_pos e] at hcls <;> omega
        generalize hcc : bt l s.pos = c at *
        have hcan : canon (l.drop s.pos) = [c] ++ canon (l.drop (s.pos + 1)) := by rw [hdr, canon_other hne.1 hne.2.1]; rfl
        have hfe := fault_else (l := l) (s := s) (P := P) (c := c) (X := canon (l.drop (s.pos + 1))) hb hcc hp (fun e => absurd e hne.2.1) (fun e => absurd e hne.2.2)
        have hl' : P ++ canon (l.drop s.pos) = P ++ c :: canon (l.drop (s.pos + 1)) := by rw [hcan]; rfl
        refine SimR.step (tok := [c]) (ih _ _ R (hI.push (s.pos + 1) hp _ _ hbg hu) (by show l.length - (s.pos + 1) ≤ n; omega) ?_ (hw.push hb c hc) (Sc.run_go hr hp hf hs) h0) hcan (by simp) (by show s.pos + 1 ≤ s.pos + 1; omega) hp (by rw [hl', hfe]; exact hf) ?_
        · rw [show lastB (P ++ [c]) = false from lastB_app P [] c hne.2.2]
          exact blank_at l (s.pos + 1) c hcc hne.2.2
        · rw [hl']
          have := sc_open (l := P ++ c :: canon (l.drop (s.pos + 1))) (s := { s with pos := P.length }) (hI.else P.length (by simp)) (by rw [hfe]; exact hf) (by rw [bt_app]; exact hc)
          rw [this, bt_app, word_else hb]
          simp
      · have hne : bt l s.pos ≠ 34 ∧ bt l s.pos ≠ 123 ∧ bt l s.pos ≠ 32 := by
          rw [if_pos (c := closerB (bt l s.pos) = true) hc] at hcls
          refine ⟨fun e => ?_, fun e => ?_, fun e => ?_⟩ <;> rw [if_pos e] at hcls <;> omega
        generalize hcc : bt l s.pos = c at *
        have hcan : canon (l.drop s.pos) = [c] ++ canon (l.drop (s.pos + 1)) := by rw [hdr, canon_other hne.1 hne.2.1]; rfl
        have hfe := fault_else (l := l) (s := s) (P := P) (c := c) (X := canon (l.drop (s.pos + 1))) hb hcc hp (fun e => absurd e hne.2.1) (fun e => absurd e hne.2.2)
        have hl' : P ++ canon (l.drop s.pos) = P ++ c :: canon (l.drop (s.pos + 1)) := by rw [hcan]; rfl
        refine SimR.step (tok := [c]) (ih _ _ R (hI.pop (s.pos + 1) hp u f hu _) (by show l.length - (s.pos + 1) ≤ n; omega) ?_ (hw.pop hp c hc hcc hk u f hu) (Sc.run_go hr hp hf hs) h0) hcan (by simp) (by show s.pos + 1 ≤ s.pos + 1; omega) hp (by rw [hl', hfe]; exact hf) ?_
        · rw [show lastB (P ++ [c]) = false from lastB_app P [] c hne.2.2]
          exact blank_at l (s.pos + 1) c hcc hne.2.2
        · rw [hl']
          have := sc_close (l := P ++ c :: canon (l.drop (s.pos + 1))) (s := { s with pos := P.length }) (hI.else P.length (by simp)) (by rw [hfe]; exact hf) (by rw [bt_app]; exact hc) u f hu
          rw [this]
          simp
      · have hdr2 := hdr
        rw [hc] at hdr2
        obtain ⟨_, hNl, hfit, hpos, hb125⟩ := annE_suffix (l.drop s.pos) hB
        rw [List.length_drop] at hfit
        have hxm : x ∈ lits0 := by rw [hw.lits, hli]; simp
        have hx16 := hx x hxm
        have hcan : canon (l.drop s.pos) = annL x.size ++ canon (l.drop (s.pos + annS (l.drop s.pos))) := by
          conv => lhs; rw [hdr2, canon_lit]
          rw [← hdr2, ← hxs, List.drop_drop, show s.pos + 1 + (annS (l.drop s.pos) - 1) = s.pos + annS (l.drop s.pos) by omega]
        obtain ⟨a1, a2, a3⟩ := annL_ahead x.size (by omega) (canon (l.drop (s.pos + annS (l.drop s.pos))))
        have hX : annL x.size ++ canon (l.drop (s.pos + annS (l.drop s.pos))) = 123 :: (Lib.decDigits x.size ++ ([125] ++ canon (l.drop (s.pos + annS (l.drop s.pos))))) := by unfold annL; simp
        rw [hX] at a1 a2 a3
        have hl' : P ++ canon (l.drop s.pos) = P ++ 123 :: (Lib.decDigits x.size ++ ([125] ++ canon (l.drop (s.pos + annS (l.drop s.pos))))) := by rw [hcan, hX]
        have hfe := fault_else (l := l) (s := s) (P := P) (c := 123) (X := Lib.decDigits x.size ++ ([125] ++ canon (l.drop (s.pos + annS (l.drop s.pos))))) hb hc hp (fun _ => ⟨a1.trans hB.symm, a2.trans hxs⟩) (fun e => absurd e (by decide))
        have hwd : w1 (Wd.mk 3 x [] (s.word l)) = (123 :: Lib.decDigits x.size) ++ [125] := by simp [w1, annL]
        have hwa : w1 (Wd.mk 3 x [] (s.word l)) = annL x.size := by simp [w1]
        have hW := hw.word hb (Wd.mk 3 x [] (s.word l)) rfl (s.pos + annS (l.drop s.pos)) r (by rw [hli]; simp [l1]) (by simp [n1]) (by simp [sm1]; omega) (123 :: Lib.decDigits x.size) 125 (by decide) hwd
        have hlb : lastB (P ++ annL x.size) = false := by rw [← hwa, hwd]; exact lastB_app P _ 125 (by decide)
        rw [hwa] at hW
        refine SimR.step (tok := annL x.size) (ih _ _ R (hI.word (s.pos + annS (l.drop s.pos)) (by omega) r (Wd.mk 3 x [] (s.word l)) hbg) (by show l.length - (s.pos + annS (l.drop s.pos)) ≤ n; omega) ?_ hW (Sc.run_go hr hp hf hs) h0) hcan (by unfold annL; simp) (by show s.pos + (annL x.size).length ≤ s.pos + annS (l.drop s.pos); rw [← hxs] at hNl; omega) (by show s.pos + annS (l.drop s.pos) ≤ l.length; omega) (by rw [hl', hfe]; exact hf) ?_
        · rw [hlb]
          refine blank_at l (s.pos + annS (l.drop s.pos)) 125 ?_ (by decide)
          rw [bt_drop] at hb125
          rw [← hb125]
          congr 1
          omega
        · rw [hl']
          have := sc_lit (l := P ++ 123 :: (Lib.decDigits x.size ++ ([125] ++ canon (l.drop (s.pos + annS (l.drop s.pos)))))) (s := { s with pos := P.length }) (hI.else P.length (by simp)) (by rw [hfe]; exact hf) (bt_app _ _ _) x r hli
          rw [this, word_else hb]
          show Rd.go ({ s with pos := P.length + annS ((P ++ 123 :: (Lib.decDigits x.size ++ ([125] ++ canon (l.drop (s.pos + annS (l.drop s.pos)))))).drop P.length), begun := s.begun + 1, lits := r }.add (Wd.mk 3 x [] (s.word l))) = _
          rw [List.drop_left, a3, List.length_append]
          rfl
      · have hdr2 := hdr
        rw [hc] at hdr2
        cases hqu : quo (l.drop (s.pos + 1)) false [] 0 with
        | bad =>
          rw [hqu] at hs
          have := Sc.run_err hr hp hf hs
          rw [this] at h0
          exact absurd h0 (by decide)
        | cut =>
          rw [hqu] at hs
          have := Sc.run_cut hr hp hf hs
          rw [this] at h0
          have h00 : ({ s with pos := l.length, begun := s.begun + 1 } : Sc).endE l true = 0 := h0
          unfold Sc.endE at h00
          split at h00
          · exact absurd h00 (by decide)
          · rw [if_pos rfl] at h00
            exact absurd h00 (by decide)
        | done t m =>
          rw [hqu] at hs
          obtain ⟨k, hk, hkl, hb34, hY⟩ := quo_same _ _ _ _ _ _ hqu
          obtain ⟨xx, hxx, hxa, hxe⟩ := quo_text _ _ _ _ _ _ hqu
          have hm : m = k + 1 := by omega
          have htk : (l.drop (s.pos + 1)).take m = quoteB t ++ [34] := by
            rcases hxe with ⟨_, e⟩ | ⟨e, _⟩
            · rw [Nat.sub_zero] at e
              rw [e, hxx]
              rfl
            · cases e
          rw [List.length_drop] at hkl
          have hcan : canon (l.drop s.pos) = quoteL t ++ canon (l.drop (s.pos + 1 + m)) := by
            rw [hdr2, canon_quo hqu, htk, List.drop_drop]
            unfold quoteL
            simp
          have hql : (quoteL t).length = m + 1 := by
            have e : (quoteB t ++ [34]).length = m := by rw [← htk, List.length_take, List.length_drop]; omega
            unfold quoteL
            rw [List.length_cons, e]
          have ht16 : t.length ≤ 4096 := by
            have := quoteB_ge t
            have e : (quoteB t ++ [34]).length = m := by rw [← htk, List.length_take, List.length_drop]; omega
            rw [List.length_append, List.length_singleton] at e
            omega
          have hl' : P ++ canon (l.drop s.pos) = P ++ 34 :: (quoteB t ++ [34] ++ canon (l.drop (s.pos + 1 + m))) := by rw [hcan]; unfold quoteL; simp
          have hfe := fault_else (l := l) (s := s) (P := P) (c := 34) (X := quoteB t ++ [34] ++ canon (l.drop (s.pos + 1 + m))) hb hc hp (fun e => absurd e (by decide)) (fun e => absurd e (by decide))
          have hwa : w1 (Wd.mk 2 (S t) [] (s.word l)) = quoteL t := by simp [w1, L_S]
          have hwd : w1 (Wd.mk 2 (S t) [] (s.word l)) = (34 :: quoteB t) ++ [34] := by rw [hwa]; rfl
          have hsz : (S t).size ≤ 16384 := by rw [S_size]; omega
          have hW := hw.word hb (Wd.mk 2 (S t) [] (s.word l)) rfl (s.pos + 1 + m) s.lits (by simp [l1]) (by simp [n1]) (by simp [sm1, hsz]) (34 :: quoteB t) 34 (by decide) hwd
          have hlb : lastB (P ++ quoteL t) = false := by rw [← hwa, hwd]; exact lastB_app P _ 34 (by decide)
          rw [hwa] at hW
          refine SimR.step (tok := quoteL t) (ih _ _ R (hI.word (s.pos + 1 + m) (by omega) s.lits (Wd.mk 2 (S t) [] (s.word l)) hbg) (by show l.length - (s.pos + 1 + m) ≤ n; omega) ?_ hW (Sc.run_go hr hp hf hs) h0) hcan (by omega) (by show s.pos + (quoteL t).length ≤ s.pos + 1 + m; omega) (by show s.pos + 1 + m ≤ l.length; omega) (by rw [hl', hfe]; exact hf) ?_
          · rw [hlb]
            refine blank_at l (s.pos + 1 + m) 34 ?_ (by decide)
            rw [bt_drop] at hb34
            rw [← hb34]
            congr 1
            omega
          · rw [hl']
            have hq2 : quo ((P ++ 34 :: (quoteB t ++ [34] ++ canon (l.drop (s.pos + 1 + m)))).drop (P.length + 1)) false [] 0 = .done t m := by
              rw [show P ++ 34 :: (quoteB t ++ [34] ++ canon (l.drop (s.pos + 1 + m))) = (P ++ [34]) ++ (quoteB t ++ [34] ++ canon (l.drop (s.pos + 1 + m))) by simp, show P.length + 1 = (P ++ [34]).length by simp, List.drop_left, ← htk, hm]
              have := hY (canon (l.drop (s.pos + 1 + (k + 1))))
              rw [hm] at this
              exact this
            have := sc_quo (l := P ++ 34 :: (quoteB t ++ [34] ++ canon (l.drop (s.pos + 1 + m)))) (s := { s with pos := P.length }) (hI.else P.length (by simp)) (by rw [hfe]; exact hf) (bt_app _ _ _) t m hq2
            rw [this, word_else hb, List.length_append, hql]
            show Rd.go ({ s with pos := P.length + 1 + m, begun := s.begun + 1 }.add _) = Rd.go ({ s with pos := P.length + (m + 1), begun := s.begun + 1 }.add _)
            rw [show P.length + 1 + m = P.length + (m + 1) by omega]
      · obtain ⟨ha0, hal⟩ := atomL_pos hp hc
        have hsplit : l.drop s.pos = atomL l s.pos ++ l.drop (s.pos + (atomL l s.pos).length) := by
          have := tw_app wordC (l.drop s.pos)
          rw [List.drop_drop] at this
          exact this
        have hall : ∀ y ∈ atomL l s.pos, wordC y = true := tw_all _
        have hcan : canon (l.drop s.pos) = atomL l s.pos ++ canon (l.drop (s.pos + (atomL l s.pos).length)) := by
          conv => lhs; rw [hsplit]
          exact canon_word _ hall _
        have hne : bt l s.pos ≠ 123 ∧ bt l s.pos ≠ 32 := by
          rw [if_pos (c := wordC (bt l s.pos) = true) hc] at hcls
          refine ⟨fun e => ?_, fun e => ?_⟩ <;> rw [if_pos e] at hcls <;> omega
        obtain ⟨q, hq⟩ : ∃ q, atomL l s.pos = bt l s.pos :: q := by
          have e := hsplit
          rw [hdr] at e
          cases hA : atomL l s.pos with
          | nil => rw [hA] at ha0; simp at ha0
          | cons a q =>
            rw [hA] at e
            injection e with e1 _
            exact ⟨q, by rw [e1]⟩
        obtain ⟨t, c, htc⟩ : ∃ t c, atomL l s.pos = t ++ [c] := by
          refine ⟨(atomL l s.pos).dropLast, (atomL l s.pos).getLast (List.length_pos_iff.1 ha0), ?_⟩
          rw [List.dropLast_concat_getLast]
        have hcw : wordC c = true := hall c (by rw [htc]; simp)
        have hc32 : c ≠ 32 := by rintro rfl; exact absurd hcw (by decide)
        have hstop : ∀ y, (canon (l.drop (s.pos + (atomL l s.pos).length))).head? = some y → wordC y = false := by
          intro y hy
          rw [canon_head] at hy
          have hlt2 : s.pos + (atomL l s.pos).length < l.length := by
            apply Classical.byContradiction
            intro hh
            rw [List.drop_of_length_le (by omega)] at hy
            cases hy
          have ho := tw_out (p := wordC) (r := l.drop s.pos) (by show (atomL l s.pos).length < (l.drop s.pos).length; rw [List.length_drop]; omega)
          rw [bt_drop] at ho
          rw [drop_at l _ hlt2] at hy
          injection hy with hy
          rw [← hy]
          exact ho
        have hl' : P ++ canon (l.drop s.pos) = P ++ bt l s.pos :: (q ++ canon (l.drop (s.pos + (atomL l s.pos).length))) := by rw [hcan, hq]; rfl
        have hfe := fault_else (l := l) (s := s) (P := P) (c := bt l s.pos) (X := q ++ canon (l.drop (s.pos + (atomL l s.pos).length))) hb rfl hp (fun e => absurd e hne.1) (fun e => absurd e hne.2)
        have hwa : w1 (Wd.mk 1 (S (atomL l s.pos)) [] (s.word l)) = atomL l s.pos := by simp [w1, L_S]
        have hsz : (S (atomL l s.pos)).size ≤ 16384 := by rw [S_size]; omega
        have hW := hw.word hb (Wd.mk 1 (S (atomL l s.pos)) [] (s.word l)) rfl (s.pos + (atomL l s.pos).length) s.lits (by simp [l1]) (by simp [n1]) (by simp [sm1, hsz]) t c hc32 (by rw [hwa]; exact htc)
        rw [hwa] at hW
        have hlb : lastB (P ++ atomL l s.pos) = false := by rw [htc]; exact lastB_app P t c hc32
        refine SimR.step (tok := atomL l s.pos) (ih _ _ R (hI.word (s.pos + (atomL l s.pos).length) (by omega) s.lits (Wd.mk 1 (S (atomL l s.pos)) [] (s.word l)) hbg) (by show l.length - (s.pos + (atomL l s.pos).length) ≤ n; omega) ?_ hW (Sc.run_go hr hp hf hs) h0) hcan ha0 (Nat.le_refl _) hal (by rw [hl', hfe]; exact hf) ?_
        · rw [hlb]
          refine blank_at l (s.pos + (atomL l s.pos).length) c ?_ hc32
          have e : bt (l.drop s.pos) (t.length) = c := by
            rw [hsplit, htc, List.append_assoc]
            exact bt_app t c _
          rw [bt_drop] at e
          rw [← e]
          congr 1
          rw [htc, List.length_append, List.length_singleton]
          omega
        · rw [hl']
          have := sc_atom (l := P ++ bt l s.pos :: (q ++ canon (l.drop (s.pos + (atomL l s.pos).length)))) (s := { s with pos := P.length }) (hI.else P.length (by simp)) (by rw [hfe]; exact hf) (by rw [bt_app]; exact hc)
          have hA2 : atomL (P ++ bt l s.pos :: (q ++ canon (l.drop (s.pos + (atomL l s.pos).length)))) P.length = atomL l s.pos := by
            have e2 := tw_stop wordC (atomL l s.pos) (canon (l.drop (s.pos + (atomL l s.pos).length))) hall hstop
            have e0 : atomL (P ++ bt l s.pos :: (q ++ canon (l.drop (s.pos + (atomL l s.pos).length)))) P.length = ((P ++ bt l s.pos :: (q ++ canon (l.drop (s.pos + (atomL l s.pos).length)))).drop P.length).takeWhile wordC := rfl
            rw [e0, List.drop_left, ← List.cons_append, ← hq]
            exact e2
          rw [this, word_else hb]
          show Rd.go ({ s with pos := P.length + (atomL (P ++ bt l s.pos :: (q ++ canon (l.drop (s.pos + (atomL l s.pos).length)))) P.length).length, begun := s.begun + 1 }.add (Wd.mk 1 (S (atomL (P ++ bt l s.pos :: (q ++ canon (l.drop (s.pos + (atomL l s.pos).length)))) P.length)) [] (s.word l))) = _
          rw [hA2, List.length_append]
          rfl
    · exact simEnd s P R (n + 1) hI hp hb hw hr h0
theorem eqL_same : ∀ (l : List Wd), eqL l l = true
  | [] => rfl
  | .mk k t r g :: l => by
    have h1 := eqL_same r
    have h2 := eqL_same l
    simp [eqL, eqW, h1, h2]
theorem Wr.new (l : List UInt8) (lits : List ByteArray) : Wr l lits (Sc.new lits) [] := by
  refine ⟨rfl, fun e => (by cases e), fun e => (by cases e), rfl, rfl, rfl⟩
theorem long_no {l : List UInt8} {lits : List ByteArray} (h : longB l lits = false) : l.length ≤ 4096 ∧ lits.length ≤ 512 ∧ ∀ x ∈ lits, x.size ≤ 16384 := by
  unfold longB at h
  rw [Bool.or_eq_false_iff, Bool.or_eq_false_iff, decide_eq_false_iff_not, decide_eq_false_iff_not, List.any_eq_false] at h
  refine ⟨by omega, by omega, fun x hx => ?_⟩
  have := h.2 x hx
  simp at this
  omega
/-- A line that is scanned is joined to its one form, with the same literals. -/
theorem line_back {l : List UInt8} {lits : List ByteArray} (h : scanE l lits = 0) : joinE (scanW l lits) = 0 ∧ joinS (scanW l lits) = canon l ∧ joinT (scanW l lits) = lits := by
  have hlong : longB l lits = false := by
    cases hh : longB l lits with
    | false => rfl
    | true =>
      unfold scanE at h
      rw [hh, if_pos rfl] at h
      exact absurd h (by decide)
  obtain ⟨hl, hn, hx⟩ := long_no hlong
  have hr : ((Sc.new lits).run l l.length).1 = 0 := by
    unfold scanE at h
    rw [hlong] at h
    exact h
  have hW : scanW l lits = ((Sc.new lits).run l l.length).2 := by
    unfold scanW
    rw [hlong, h]
    rfl
  have hs := sim l lits hl hx l.length (Sc.new lits) [] _ (SInv.new _ _) (by simp) rfl (Wr.new l lits) rfl hr
  have h1 := hs.run
  have h2 := hs.text
  have h3 := hs.lits
  have h4 := hs.cnt
  have h5 := hs.sm
  have h6 := hs.len
  rw [← hW] at h2 h3 h4 h5
  simp only [show (Sc.new lits).pos = 0 from rfl, List.drop_zero, List.nil_append, List.length_nil, Nat.sub_zero] at h1 h2 h6
  have hj : jF (scanW l lits) = ⟨canon l, lits, nw (scanW l lits)⟩ := by
    unfold jF
    rw [jws_wl true _ _ h5 (by show 0 + nw (scanW l lits) ≤ 512; omega), h2, h3]
    simp
  have hlong2 : longB (canon l) lits = false := by
    unfold longB at hlong ⊢
    rw [Bool.or_eq_false_iff, Bool.or_eq_false_iff] at hlong
    rw [hlong.1.2, hlong.2, decide_eq_false (by omega)]
    rfl
  have hrun : (Sc.new lits).run (canon l) (canon l).length = (Sc.new lits).run l l.length := h1 _ (Nat.le_refl _)
  have hE2 : scanE (canon l) lits = 0 := by
    unfold scanE
    rw [hlong2, hrun]
    exact hr
  have hW2 : scanW (canon l) lits = scanW l lits := by
    rw [hW]
    unfold scanW
    rw [hlong2, hE2, hrun]
    rfl
  have hB : joinB (scanW l lits) = true := by
    unfold joinB
    rw [hj]
    show (decide (scanE (canon l) lits = 0) && eqL (scanW (canon l) lits) (scanW l lits)) = true
    rw [hE2, hW2, eqL_same]
    rfl
  have hJ : joinE (scanW l lits) = 0 := by
    unfold joinE
    have := nw_len (scanW l lits)
    rw [if_neg (by omega), hB]
    rfl
  refine ⟨hJ, ?_, ?_⟩
  · unfold joinS
    rw [hJ, hj]
    rfl
  · unfold joinT
    rw [hJ, hj]
    rfl
end Go.Proofs.YtonfchpfhdoefaaDoor

/- lex, plain: a line without + and noughts in its announcements, byte by byte, is its one form. -/
namespace Go.Proofs.YtonfchpfhdoefaaDoor
open Go.RowKit

def digO : Option UInt8 → Bool
  | some x => isDig x
  | none => false
def annedB (b : List UInt8) : Bool := !(b.reverse.takeWhile isDig).isEmpty && (b.reverse.dropWhile isDig).head? == some 123
def last123 (b : List UInt8) : Bool := b.getLast? == some 123
def pm (b : List UInt8) (q : Bool) (p : Option UInt8) : List UInt8 → List UInt8
  | [] => b
  | c :: r =>
    if q && c == 92 && !r.isEmpty then pm (b ++ [c, bt r 0]) q (some (bt r 0)) (r.drop 1)
    else if c == 34 then pm (b ++ [c]) (!q) (some c) r
    else if !q && c == 43 && digO p && annedB b then pm b q (some c) r
    else if !q && c == 48 && last123 b && digO r.head? then pm b q (some c) r
    else pm (b ++ [c]) q (some c) r
termination_by l => l.length
decreasing_by all_goals (simp only [List.length_drop, List.length_cons]; omega)
/-- No announcement is under way at the end of a text. -/
def NA (P : List UInt8) : Prop := (P.reverse.dropWhile isDig).head? ≠ some 123
theorem NA.snoc {P : List UInt8} (h : NA P) (c : UInt8) (hc : c ≠ 123) : NA (P ++ [c]) := by
  unfold NA at *
  rw [List.reverse_append, List.reverse_singleton, List.singleton_append]
  cases hd : isDig c with
  | true => rw [List.dropWhile_cons_of_pos hd]; exact h
  | false =>
    rw [List.dropWhile_cons_of_neg (by simp [hd])]
    simpa using hc
theorem NA.end (P : List UInt8) (c : UInt8) (hd : isDig c = false) (hc : c ≠ 123) : NA (P ++ [c]) := by
  unfold NA
  rw [List.reverse_append, List.reverse_singleton, List.singleton_append, List.dropWhile_cons_of_neg (by simp [hd])]
  simpa using hc
theorem NA.facts {P : List UInt8} (h : NA P) : annedB P = false ∧ last123 P = false := by
  constructor
  · unfold annedB
    unfold NA at h
    have : ((P.reverse.dropWhile isDig).head? == some 123) = false := by simpa using h
    rw [this, Bool.and_false]
  · unfold last123
    cases hP : P.reverse with
    | nil =>
      have : P = [] := by simpa using hP
      subst this
      rfl
    | cons a q =>
      have e : P = q.reverse ++ [a] := by rw [← List.reverse_reverse P, hP]; simp
      unfold NA at h
      rw [hP] at h
      rw [e, List.getLast?_concat]
      by_cases ha : a = 123
      · subst ha
        exfalso
        rw [List.dropWhile_cons_of_neg (by decide)] at h
        exact h rfl
      · simpa using ha
/-- A byte that is copied. -/
theorem pm_one {P : List UInt8} (h : NA P) (p : Option UInt8) (c : UInt8) (r : List UInt8) (hc : c ≠ 34) : pm P false p (c :: r) = pm (P ++ [c]) false (some c) r := by
  obtain ⟨h1, h2⟩ := h.facts
  rw [pm]
  have hc34 : (c == 34) = false := by simpa using hc
  rw [h1, h2, hc34]
  simp
theorem pm_word : ∀ (a : List UInt8) (P : List UInt8) (p : Option UInt8) (r : List UInt8), NA P → (∀ x ∈ a, wordC x = true) → ∃ p', pm P false p (a ++ r) = pm (P ++ a) false p' r ∧ NA (P ++ a)
  | [], P, p, r, h, _ => ⟨p, by simp, by simpa using h⟩
  | c :: a, P, p, r, h, ha => by
    have hc := ha c (by simp)
    have h2 := h.snoc c (by rintro rfl; exact absurd hc (by decide))
    obtain ⟨p', e, hn⟩ := pm_word a (P ++ [c]) (some c) r h2 (fun x hx => ha x (by simp [hx]))
    refine ⟨p', ?_, by simpa using hn⟩
    rw [List.cons_append, pm_one h p c _ (word_ne34 hc), e]
    simp
/-- Within quotes. -/
theorem pm_quo : ∀ (N : Nat) (r : List UInt8), r.length ≤ N → ∀ (B acc : List UInt8) (n : Nat) (p : Option UInt8) (t : List UInt8) (m : Nat), quo r false acc n = .done t m → ∃ p', pm B true p r = pm (B ++ r.take (m - n)) false p' (r.drop (m - n)) := by
  intro N
  induction N with
  | zero =>
    intro r hr B acc n p t m h
    have : r = [] := List.eq_nil_of_length_eq_zero (by omega)
    subst this
    simp [quo] at h
  | succ N ih =>
    intro r hr B acc n p t m h
    cases r with
    | nil => simp [quo] at h
    | cons c r =>
      obtain ⟨k, hk, _, _, _⟩ := quo_same _ _ _ _ _ _ h
      rw [quo] at h
      split at h
      · cases h
      · split at h
        · rename_i h1
          rw [Bool.and_eq_true, beq_iff_eq] at h1
          injection h with _ hm
          obtain ⟨rfl, _⟩ := h1
          refine ⟨some 34, ?_⟩
          rw [pm, show m - n = 1 by omega]
          simp
        · rename_i h1
          split at h
          · rename_i h2
            rw [Bool.and_eq_true, beq_iff_eq] at h2
            obtain ⟨rfl, _⟩ := h2
            cases r with
            | nil => simp [quo] at h
            | cons d r =>
              obtain ⟨k1, hk1, _, _, _⟩ := quo_same _ _ _ _ _ _ h
              rw [quo] at h
              split at h
              · cases h
              · split at h
                · rename_i h3
                  simp at h3
                · split at h
                  · rename_i h3
                    simp at h3
                  · obtain ⟨k2, hk2, _, _, _⟩ := quo_same _ _ _ _ _ _ h
                    obtain ⟨p', e⟩ := ih r (by simp only [List.length_cons] at hr; omega) (B ++ [92, d]) _ (n + 1 + 1) (some d) t m h
                    refine ⟨p', ?_⟩
                    rw [pm]
                    simp only [Bool.true_and, beq_self_eq_true, List.isEmpty_cons, Bool.not_false, if_true]
                    show pm (B ++ [92, d]) true (some d) r = _
                    rw [e, show m - n = (m - (n + 1 + 1)) + 1 + 1 by omega]
                    simp
          · rename_i h2
            obtain ⟨k2, hk2, _, _, _⟩ := quo_same _ _ _ _ _ _ h
            obtain ⟨p', e⟩ := ih r (by simp only [List.length_cons] at hr; omega) (B ++ [c]) _ (n + 1) (some c) t m h
            refine ⟨p', ?_⟩
            have hc34 : (c == 34) = false := by
              cases hh : c == 34 with
              | false => rfl
              | true => exact absurd (by rw [hh]; rfl) h1
            have hc92 : (c == 92) = false := by
              cases hh : c == 92 with
              | false => rfl
              | true => exact absurd (by rw [hh]; rfl) h2
            rw [pm, hc34, hc92]
            simp only [Bool.and_false, Bool.false_and, Bool.not_true, Bool.false_eq_true, if_false]
            rw [e, show m - n = (m - (n + 1)) + 1 by omega]
            simp
/-- Digits without noughts ahead. -/
def strip : List UInt8 → List UInt8
  | [] => []
  | c :: d => if c = 48 ∧ d ≠ [] then strip d else c :: d
theorem strip_fold : ∀ (d : List UInt8), (strip d).foldl capN 0 = d.foldl capN 0
  | [] => rfl
  | c :: d => by
    rw [strip]
    split
    · rename_i h
      rw [strip_fold d, h.1]
      rfl
    · rfl
theorem strip_form : ∀ (d : List UInt8), d ≠ [] → (∀ x ∈ d, isDig x = true) → strip d ≠ [] ∧ (∀ x ∈ strip d, isDig x = true) ∧ ((strip d).length = 1 ∨ (strip d).head? ≠ some 48)
  | [], h, _ => absurd rfl h
  | c :: d, _, hd => by
    rw [strip]
    split
    · rename_i h
      exact strip_form d h.2 (fun x hx => hd x (by simp [hx]))
    · rename_i h
      refine ⟨by simp, hd, ?_⟩
      by_cases hc : c = 48
      · left
        cases d with
        | nil => rfl
        | cons a d => exact absurd ⟨hc, by simp⟩ h
      · right
        simpa using hc
theorem dec_back : ∀ (N : Nat) (d : List UInt8), d.length ≤ N → d ≠ [] → (∀ x ∈ d, isDig x = true) → (d.length = 1 ∨ d.head? ≠ some 48) → d.foldl capN 0 < 4294967296 → Lib.decDigits (d.foldl capN 0) = d ∧ (d.head? ≠ some 48 → 0 < d.foldl capN 0) := by
  intro N
  induction N with
  | zero => intro d h h0; exact absurd (List.eq_nil_of_length_eq_zero (by omega)) h0
  | succ N ih =>
    intro d hl h0 hd hh hv
    obtain ⟨e, c, rfl⟩ : ∃ e c, d = e ++ [c] := ⟨d.dropLast, d.getLast h0, by rw [List.dropLast_concat_getLast]⟩
    have hc := (isDig_iff c).1 (hd c (by simp))
    rw [List.foldl_append] at hv ⊢
    have hcv : ([c].foldl capN (e.foldl capN 0)) = capN (e.foldl capN 0) c := rfl
    rw [hcv] at hv ⊢
    have hval : capN (e.foldl capN 0) c = e.foldl capN 0 * 10 + (c.toNat - 48) := by unfold capN at hv ⊢; omega
    rw [hval] at hv ⊢
    have hcc : UInt8.ofNat (48 + (c.toNat - 48)) = c := by
      rw [show 48 + (c.toNat - 48) = c.toNat by omega]
      simp
    cases e with
    | nil =>
      simp only [List.foldl_nil, Nat.zero_mul, Nat.zero_add, List.nil_append]
      refine ⟨by rw [Lib.decDigits_one (by omega), hcc], fun h => ?_⟩
      have : c ≠ 48 := by simpa using h
      have : c.toNat ≠ 48 := fun e => this (UInt8.toNat_inj.1 e)
      omega
    | cons a e =>
      have hne : (a :: e).head? ≠ some 48 := by
        rcases hh with hh | hh
        · simp at hh
        · simpa using hh
      obtain ⟨i1, i2⟩ := ih (a :: e) (by simp at hl ⊢; omega) (by simp) (fun x hx => hd x (by simp only [List.mem_append]; left; exact hx)) (.inr hne) (by omega)
      have hpos := i2 hne
      refine ⟨?_, fun _ => by omega⟩
      rw [Lib.decDigits, dif_neg (by omega), show ((a :: e).foldl capN 0 * 10 + (c.toNat - 48)) / 10 = (a :: e).foldl capN 0 by omega, show ((a :: e).foldl capN 0 * 10 + (c.toNat - 48)) % 10 = c.toNat - 48 by omega, i1, hcc]
theorem strip_dec (d : List UInt8) (h0 : d ≠ []) (hd : ∀ x ∈ d, isDig x = true) (hv : d.foldl capN 0 < 4294967296) : strip d = Lib.decDigits (d.foldl capN 0) := by
  obtain ⟨s1, s2, s3⟩ := strip_form d h0 hd
  have := (dec_back (strip d).length (strip d) (Nat.le_refl _) s1 s2 s3 (by rw [strip_fold]; exact hv)).1
  rw [strip_fold] at this
  exact this.symm
end Go.Proofs.YtonfchpfhdoefaaDoor

/- lex, plain: a line that is scanned, byte by byte. -/
namespace Go.Proofs.YtonfchpfhdoefaaDoor
open Go.RowKit

theorem dig_plain {c : UInt8} (h : isDig c = true) : (c == 34) = false ∧ (c == 43) = false ∧ c ≠ 123 := by
  refine ⟨?_, ?_, dig_ne h⟩
  · cases hh : c == 34 with
    | false => rfl
    | true => rw [beq_iff_eq] at hh; subst hh; exact absurd h (by decide)
  · cases hh : c == 43 with
    | false => rfl
    | true => rw [beq_iff_eq] at hh; subst hh; exact absurd h (by decide)
theorem last_snoc (b : List UInt8) (c : UInt8) : last123 (b ++ [c]) = (c == 123) := by
  unfold last123
  rw [List.getLast?_concat]
  rfl
theorem pm_more : ∀ (d b : List UInt8) (x : UInt8) (tl : List UInt8), last123 b = false → isDig x = true → (∀ y ∈ d, isDig y = true) → ∃ x', isDig x' = true ∧ pm b false (some x) (d ++ tl) = pm (b ++ d) false (some x') tl
  | [], b, x, tl, _, hx, _ => ⟨x, hx, by simp⟩
  | c :: d, b, x, tl, hb, hx, hd => by
    have hc := hd c (by simp)
    obtain ⟨c1, c2, c3⟩ := dig_plain hc
    have hl : last123 (b ++ [c]) = false := by rw [last_snoc]; simpa using c3
    obtain ⟨x', hx', e⟩ := pm_more d (b ++ [c]) c tl hl hc (fun y hy => hd y (by simp [hy]))
    refine ⟨x', hx', ?_⟩
    rw [List.cons_append, pm, c1, c2, hb]
    simp only [Bool.false_and, Bool.and_false, Bool.false_eq_true, if_false]
    rw [e]
    simp
theorem pm_digits : ∀ (d Q : List UInt8) (p : Option UInt8) (tl : List UInt8), last123 Q = true → d ≠ [] → (∀ y ∈ d, isDig y = true) → digO tl.head? = false → ∃ x, isDig x = true ∧ pm Q false p (d ++ tl) = pm (Q ++ strip d) false (some x) tl
  | [], _, _, _, _, h, _, _ => absurd rfl h
  | c :: d, Q, p, tl, hQ, _, hd, ht => by
    have hc := hd c (by simp)
    obtain ⟨c1, c2, c3⟩ := dig_plain hc
    have hl : last123 (Q ++ [c]) = false := by rw [last_snoc]; simpa using c3
    by_cases h48 : c = 48
    · cases d with
      | nil =>
        refine ⟨c, hc, ?_⟩
        rw [List.cons_append, pm, c1, c2]
        simp only [List.nil_append, ht, Bool.false_and, Bool.and_false, Bool.false_eq_true, if_false]
        rw [strip, if_neg (by simp)]
      | cons a d =>
        have ha := hd a (by simp)
        obtain ⟨x, hx, e⟩ := pm_digits (a :: d) Q (some c) tl hQ (by simp) (fun y hy => hd y (by simp only [List.mem_cons] at hy ⊢; right; exact hy)) ht
        refine ⟨x, hx, ?_⟩
        have hdo : digO ((a :: d) ++ tl).head? = true := ha
        rw [List.cons_append, pm, c1, c2, hQ, hdo, h48]
        simp only [Bool.false_and, Bool.and_false, Bool.false_eq_true, if_false, Bool.not_false, beq_self_eq_true, Bool.and_self, if_true]
        rw [strip, if_pos ⟨rfl, by simp⟩]
        rw [h48] at e
        exact e
    · have h48b : (c == 48) = false := by simpa using h48
      obtain ⟨x, hx, e⟩ := pm_more d (Q ++ [c]) c tl hl hc (fun y hy => hd y (by simp [hy]))
      refine ⟨x, hx, ?_⟩
      rw [List.cons_append, pm, c1, c2, h48b]
      simp only [Bool.false_and, Bool.and_false, Bool.false_eq_true, if_false]
      rw [e, strip, if_neg (fun h => h48 h.1)]
      simp
theorem anned_yes (P d : List UInt8) (h0 : d ≠ []) (hd : ∀ y ∈ d, isDig y = true) : annedB (P ++ [123] ++ d) = true := by
  unfold annedB
  have e : (P ++ [123] ++ d).reverse = d.reverse ++ 123 :: P.reverse := by simp
  have hr : ∀ y ∈ d.reverse, isDig y = true := fun y hy => hd y (by simpa using hy)
  have h1 : (d.reverse ++ 123 :: P.reverse).takeWhile isDig = d.reverse := tw_of _ _ hr (fun c q h => by injection h with h _; rw [← h]; decide)
  have h2 : (d.reverse ++ 123 :: P.reverse).dropWhile isDig = 123 :: P.reverse := by
    have := List.takeWhile_append_dropWhile (p := isDig) (l := d.reverse ++ 123 :: P.reverse)
    rw [h1] at this
    exact List.append_cancel_left this
  rw [e, h1, h2]
  cases hd : d.reverse with
  | nil => exact absurd (by simpa using hd) h0
  | cons a q => rfl
/-- An announcement, byte by byte. -/
theorem pm_ann (P : List UInt8) (hP : NA P) (p : Option UInt8) (d : List UInt8) (h0 : d ≠ []) (hd : ∀ y ∈ d, isDig y = true) (pl : Bool) (rest : List UInt8) (hv : d.foldl capN 0 < 4294967296) :
    pm P false p (123 :: (d ++ ((if pl then [43] else []) ++ 125 :: rest))) = pm (P ++ annL (d.foldl capN 0)) false (some 125) rest := by
  rw [pm_one hP p 123 _ (by decide)]
  have hQ : last123 (P ++ [123]) = true := by rw [last_snoc]; rfl
  have hs := strip_dec d h0 hd hv
  obtain ⟨s1, s2, _⟩ := strip_form d h0 hd
  obtain ⟨x, hx, e⟩ := pm_digits d (P ++ [123]) (some 123) ((if pl then [43] else []) ++ 125 :: rest) hQ h0 hd (by cases pl <;> rfl)
  rw [e]
  have hA := anned_yes P (strip d) s1 s2
  have hend : ∀ pp, pm (P ++ [123] ++ strip d) false pp (125 :: rest) = pm (P ++ [123] ++ strip d ++ [125]) false (some 125) rest := fun pp => by
    rw [pm]
    simp
  have hres : P ++ [123] ++ strip d ++ [125] = P ++ annL (d.foldl capN 0) := by rw [hs]; unfold annL; simp
  cases pl with
  | false =>
    show pm (P ++ [123] ++ strip d) false (some x) (125 :: rest) = _
    rw [hend, hres]
  | true =>
    show pm (P ++ [123] ++ strip d) false (some x) (43 :: 125 :: rest) = _
    rw [pm, hA, show digO (some x) = true from hx]
    simp only [Bool.false_and, Bool.false_eq_true, if_false, Bool.not_false, Bool.and_self, if_true, beq_self_eq_true, show ((43 : UInt8) == 34) = false from rfl]
    rw [hend, hres]
theorem ann_split {l : List UInt8} (h1 : l.head? = some 123) (hB : annB l = true) : ∃ (d : List UInt8) (pl : Bool), l = 123 :: (d ++ ((if pl then [43] else []) ++ 125 :: l.drop (annS l))) ∧ d ≠ [] ∧ (∀ y ∈ d, isDig y = true) ∧ annN l = d.foldl capN 0 := by
  obtain ⟨hE, _, hfit, hpos, h125⟩ := annE_suffix l hB
  obtain ⟨r, hr⟩ : ∃ r, l = 123 :: r := by
    cases l with
    | nil => cases h1
    | cons a r => simp at h1; exact ⟨r, by rw [h1]⟩
  have hB2 := hB
  unfold annB at hB2
  rw [Bool.and_eq_true, beq_iff_eq] at hB2
  have hE2 : annE l = 125 :: l.drop (annS l) := by
    rw [hE, drop_at l _ (by omega), h125, show annS l - 1 + 1 = annS l by omega]
  have hd0 : annD l ≠ [] := by
    intro e
    rw [e] at hB2
    simp at hB2
  have hda : ∀ x ∈ annD l, isDig x = true := by unfold annD; exact tw_all _
  have hr2 : r = annD l ++ annR l := by
    have := tw_app isDig r
    rw [hr]
    unfold annR annD
    simp only [List.drop_succ_cons, List.drop_zero, Nat.add_comm 1]
    exact this
  refine ⟨annD l, annP l, ?_, hd0, hda, by unfold annN annF; rw [if_pos hB]⟩
  have hR : annR l = (if annP l then [43] else []) ++ 125 :: l.drop (annS l) := by
    rw [← hE2]
    unfold annE
    cases hp : annP l with
    | false => rfl
    | true =>
      unfold annP at hp
      rw [beq_iff_eq] at hp
      cases hh : annR l with
      | nil => rw [hh] at hp; cases hp
      | cons a q =>
        rw [hh] at hp
        simp at hp
        rw [hp]
        rfl
  rw [← hR, ← hr2]
  exact hr
/-- A line that is scanned is made plain, byte by byte, as its one form. -/
theorem pm_canon (l : List UInt8) (lits0 : List ByteArray) (hx : ∀ x ∈ lits0, x.size ≤ 16384) : ∀ (n : Nat) (s : Sc), SInv l.length s → l.length - s.pos ≤ n → (∀ x ∈ s.lits, x.size ≤ 16384) → (s.run l n).1 = 0 → ∀ (P : List UInt8) (p : Option UInt8), NA P → pm P false p (l.drop s.pos) = P ++ canon (l.drop s.pos)
  | 0, s, hI, hn, _, _, P, p, hP => by
    rw [List.drop_of_length_le (by omega), pm, canon_nil, List.append_nil]
  | n + 1, s, hI, hn, hxs, hr, P, p, hP => by
    by_cases hp : s.pos < l.length
    · by_cases hf : s.fault l = 0
      · have hdr := drop_at l s.pos hp
        have hcls := cls (bt l s.pos)
        unfold clsB at hcls
        have copy : ∀ (s' : Sc) (c : UInt8), bt l s.pos = c → c ≠ 34 → c ≠ 123 → s'.pos = s.pos + 1 → SInv l.length s' → (∀ x ∈ s'.lits, x.size ≤ 16384) → (s'.run l n).1 = 0 → pm P false p (l.drop s.pos) = P ++ canon (l.drop s.pos) := fun s' c hc h34 h123 hpos hI' hx' hr' => by
          rw [hdr, hc, pm_one hP p c _ h34, canon_other h34 h123]
          have := pm_canon l lits0 hx n s' hI' (by omega) hx' hr' (P ++ [c]) (some c) (hP.snoc c h123)
          rw [hpos] at this
          rw [this]
          simp
        rcases sc_step hI hf with ⟨hc, _, hs⟩ | ⟨hc, hb, hu, hs⟩ | ⟨hc, hk, u, f, hu, hs⟩ | ⟨hc, hB, hb, x, r, hl, hxz, hs⟩ | ⟨hc, hb, hs⟩ | ⟨hc, hb, hs⟩
        · rw [Sc.run_go rfl hp hf hs |>.symm] at hr
          exact copy _ _ hc (by decide) (by decide) rfl (hI.at (s.pos + 1) hp) hxs hr
        · rw [Sc.run_go rfl hp hf hs |>.symm] at hr
          rw [if_pos (c := openerB (bt l s.pos) = true) hc] at hcls
          exact copy _ _ rfl (fun e => by rw [if_pos e] at hcls; omega) (fun e => by rw [if_pos e] at hcls; omega) rfl (hI.push (s.pos + 1) hp _ _ hb hu) hxs hr
        · rw [Sc.run_go rfl hp hf hs |>.symm] at hr
          rw [if_pos (c := closerB (bt l s.pos) = true) hc] at hcls
          exact copy _ _ rfl (fun e => by rw [if_pos e] at hcls; omega) (fun e => by rw [if_pos e] at hcls; omega) rfl (hI.pop (s.pos + 1) hp u f hu _) hxs hr
        · rw [Sc.run_go rfl hp hf hs |>.symm] at hr
          have hh : (l.drop s.pos).head? = some 123 := by rw [hdr, hc]; rfl
          obtain ⟨d, pl, hsp, hd0, hda, hN⟩ := ann_split hh hB
          obtain ⟨_, _, hfit, hpos, _⟩ := annE_suffix (l.drop s.pos) hB
          rw [List.length_drop] at hfit
          have hx16 := hxs x (by rw [hl]; simp)
          have hcan : canon (l.drop s.pos) = annL (annN (l.drop s.pos)) ++ canon (l.drop (s.pos + annS (l.drop s.pos))) := by
            conv => lhs; rw [hdr, hc, canon_lit]
            rw [hc] at hdr
            rw [← hdr, List.drop_drop, show s.pos + 1 + (annS (l.drop s.pos) - 1) = s.pos + annS (l.drop s.pos) by omega]
          have hpm : pm P false p (l.drop s.pos) = pm (P ++ annL (d.foldl capN 0)) false (some 125) ((l.drop s.pos).drop (annS (l.drop s.pos))) := by
            conv => lhs; rw [hsp]
            exact pm_ann P hP p d hd0 hda pl _ (by rw [← hN, ← hxz]; omega)
          rw [hpm, hcan, hN, List.drop_drop]
          have hNA : NA (P ++ annL (d.foldl capN 0)) := by
            have : P ++ annL (d.foldl capN 0) = (P ++ 123 :: Lib.decDigits (d.foldl capN 0)) ++ [125] := by unfold annL; simp
            rw [this]
            exact NA.end _ 125 (by decide) (by decide)
          have := pm_canon l lits0 hx n _ (hI.word (s.pos + annS (l.drop s.pos)) (by omega) r (Wd.mk 3 x [] (s.word l)) hb) (by show l.length - (s.pos + annS (l.drop s.pos)) ≤ n; omega) (fun y hy => hxs y (by rw [hl]; exact List.mem_cons_of_mem _ hy)) hr (P ++ annL (d.foldl capN 0)) (some 125) hNA
          rw [show (({ s with pos := s.pos + annS (l.drop s.pos), begun := s.begun + 1, lits := r } : Sc).add (Wd.mk 3 x [] (s.word l))).pos = s.pos + annS (l.drop s.pos) from rfl] at this
          rw [this, List.append_assoc]
        · cases hqu : quo (l.drop (s.pos + 1)) false [] 0 with
          | bad =>
            rw [hqu] at hs
            rw [Sc.run_err rfl hp hf hs] at hr
            exact absurd hr (by decide)
          | cut =>
            rw [hqu] at hs
            rw [Sc.run_cut rfl hp hf hs] at hr
            have hr2 : ({ s with pos := l.length, begun := s.begun + 1 } : Sc).endE l true = 0 := hr
            unfold Sc.endE at hr2
            split at hr2
            · exact absurd hr2 (by decide)
            · rw [if_pos rfl] at hr2
              exact absurd hr2 (by decide)
          | done t m =>
            rw [hqu] at hs
            obtain ⟨k, hk, hkl, hb34, _⟩ := quo_same _ _ _ _ _ _ hqu
            obtain ⟨xx, hxx, _, hxe⟩ := quo_text _ _ _ _ _ _ hqu
            have htk : (l.drop (s.pos + 1)).take m = quoteB t ++ [34] := by
              rcases hxe with ⟨_, e⟩ | ⟨e, _⟩
              · rw [Nat.sub_zero] at e
                rw [e, hxx]
                rfl
              · cases e
            rw [List.length_drop] at hkl
            rw [Sc.run_go rfl hp hf hs |>.symm] at hr
            rw [hdr, hc, canon_quo hqu]
            have e1 : pm P false p (34 :: l.drop (s.pos + 1)) = pm (P ++ [34]) true (some 34) (l.drop (s.pos + 1)) := by
              rw [pm]
              simp
            obtain ⟨p', e2⟩ := pm_quo _ (l.drop (s.pos + 1)) (Nat.le_refl _) (P ++ [34]) [] 0 (some 34) t m hqu
            rw [e1, e2, Nat.sub_zero, htk, List.drop_drop]
            have hNA : NA (P ++ [34] ++ (quoteB t ++ [34])) := by
              rw [← List.append_assoc]
              exact NA.end _ 34 (by decide) (by decide)
            have := pm_canon l lits0 hx n _ (hI.word (s.pos + 1 + m) (by omega) s.lits (Wd.mk 2 (S t) [] (s.word l)) hb) (by show l.length - (s.pos + 1 + m) ≤ n; omega) hxs hr (P ++ [34] ++ (quoteB t ++ [34])) p' hNA
            rw [show (({ s with pos := s.pos + 1 + m, begun := s.begun + 1, lits := s.lits } : Sc).add (Wd.mk 2 (S t) [] (s.word l))).pos = s.pos + 1 + m from rfl] at this
            rw [this]
            simp
        · rw [Sc.run_go rfl hp hf hs |>.symm] at hr
          obtain ⟨ha0, hal⟩ := atomL_pos hp hc
          have hsplit : l.drop s.pos = atomL l s.pos ++ l.drop (s.pos + (atomL l s.pos).length) := by
            have := tw_app wordC (l.drop s.pos)
            rw [List.drop_drop] at this
            exact this
          have hall : ∀ y ∈ atomL l s.pos, wordC y = true := tw_all _
          obtain ⟨p', e, hNA⟩ := pm_word (atomL l s.pos) P p (l.drop (s.pos + (atomL l s.pos).length)) hP hall
          have hcan : canon (l.drop s.pos) = atomL l s.pos ++ canon (l.drop (s.pos + (atomL l s.pos).length)) := by
            conv => lhs; rw [hsplit]
            exact canon_word _ hall _
          rw [hcan]
          conv => lhs; rw [hsplit]
          rw [e]
          have := pm_canon l lits0 hx n _ (hI.word (s.pos + (atomL l s.pos).length) (by omega) s.lits (Wd.mk 1 (S (atomL l s.pos)) [] (s.word l)) hb) (by show l.length - (s.pos + (atomL l s.pos).length) ≤ n; omega) hxs hr (P ++ atomL l s.pos) p' hNA
          rw [show (({ s with pos := s.pos + (atomL l s.pos).length, begun := s.begun + 1, lits := s.lits } : Sc).add (Wd.mk 1 (S (atomL l s.pos)) [] (s.word l))).pos = s.pos + (atomL l s.pos).length from rfl] at this
          rw [this, List.append_assoc]
      · rw [Sc.run_fault rfl hp hf] at hr
        exact absurd hr hf
    · rw [List.drop_of_length_le (by omega), pm, canon_nil, List.append_nil]
theorem plain_canon {l : List UInt8} {lits : List ByteArray} (h : scanE l lits = 0) : pm [] false none l = canon l := by
  have hlong : longB l lits = false := by
    cases hh : longB l lits with
    | false => rfl
    | true =>
      unfold scanE at h
      rw [hh, if_pos rfl] at h
      exact absurd h (by decide)
  obtain ⟨hl, hn, hx⟩ := long_no hlong
  have hr : ((Sc.new lits).run l l.length).1 = 0 := by
    unfold scanE at h
    rw [hlong] at h
    exact h
  have := pm_canon l lits hx l.length (Sc.new lits) (SInv.new _ _) (by simp) hx hr [] none (by unfold NA; simp)
  simpa [Sc.new] using this
end Go.Proofs.YtonfchpfhdoefaaDoor
