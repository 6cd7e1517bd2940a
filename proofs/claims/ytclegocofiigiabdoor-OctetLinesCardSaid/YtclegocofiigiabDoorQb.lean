/- Plain mathematics: quoted-printable there and back, with blanks that the way adds. -/
import Derived.Test.YtclegocofiigiabDoorQu
namespace Go.Proofs.YtclegocofiigiabDoor
open Go.RowKit

def pd (pad q : List UInt8) : List UInt8 := q.flatMap fun c => if c = 13 then pad ++ [c] else [c]
theorem pd_append (pad a b : List UInt8) : pd pad (a ++ b) = pd pad a ++ pd pad b := by simp [pd]
theorem pd_cons (pad : List UInt8) (c : UInt8) (b : List UInt8) (h : c ≠ 13) : pd pad (c :: b) = c :: pd pad b := by simp [pd, h]
theorem pd_cr (pad b : List UInt8) : pd pad (13 :: b) = pad ++ 13 :: pd pad b := by simp [pd]
def allBlank (l : List UInt8) : Prop := ∀ c ∈ l, blankI c.toNat = true
theorem blankI_eq (c : UInt8) (h : blankI c.toNat = true) : c = 32 ∨ c = 9 := by
  unfold blankI at h
  simp at h
  rcases h with h | h
  · left; apply UInt8.toNat_inj.1; show c.toNat = 32; omega
  · right; apply UInt8.toNat_inj.1; show c.toNat = 9; omega
theorem blanks_append (p : List UInt8) (c : UInt8) (r : List UInt8) (hp : allBlank p) (hc : blankI c.toNat = false) : blanks (p ++ c :: r) = p.length := by
  induction p with
  | nil => simp [blanks, hc]
  | cons a q ih =>
    rw [List.cons_append, blanks, if_pos (hp a (by simp)), ih (fun x hx => hp x (by simp [hx]))]
    rfl
theorem blanks_all (p : List UInt8) (hp : allBlank p) : blanks p = p.length := by
  induction p with
  | nil => rfl
  | cons a q ih =>
    rw [blanks, if_pos (hp a (by simp)), ih (fun x hx => hp x (by simp [hx]))]
    rfl
/-- Behind its blanks stands something that keeps them. -/
def good (x : List UInt8) : Prop := ∃ p c r, x = p ++ c :: r ∧ allBlank p ∧ blankI c.toNat = false ∧ c ≠ 13
theorem noBlank : allBlank [] := fun c hc => by cases hc
theorem good_cons (c : UInt8) (x : List UInt8) (hc : blankI c.toNat = true) (h : good x) : good (c :: x) := by
  obtain ⟨p, d, r, rfl, hp, hd, hn⟩ := h
  exact ⟨c :: p, d, r, rfl, fun y hy => by rcases List.mem_cons.1 hy with rfl | hy; exact hc; exact hp y hy, hd, hn⟩
theorem good_not (x : List UInt8) (h : good x) : ¬ (x.length ≤ blanks x ∨ Lib.hasPrefix (x.drop (blanks x)) [13, 10] = true) := by
  obtain ⟨p, d, r, rfl, hp, hd, hn⟩ := h
  rw [blanks_append p d r hp hd, List.drop_left]
  intro h
  rcases h with h | h
  · rw [List.length_append, List.length_cons] at h; omega
  · unfold Lib.hasPrefix at h
    have := List.isPrefixOf_iff_prefix.1 h
    rw [List.cons_prefix_cons] at this
    exact hn this.1.symm
theorem blank_ne (c : UInt8) (h : blankI c.toNat = true) : c ≠ 61 := by
  intro e; subst e; simp [blankI] at h
theorem fq_blank (c : UInt8) (x : List UInt8) (hc : blankI c.toNat = true) (h : good x) : fq (c :: x) 0 = c :: fq x 0 := by
  rw [fq, if_neg (blank_ne c hc), if_pos hc, if_neg (good_not x h)]
  congr 1
  have h' := h
  obtain ⟨p, d, r, hx, hp, hd, hn⟩ := h
  cases p with
  | nil =>
    have hb : blanks x = 0 := by rw [hx]; exact blanks_append [] d r hp hd
    rw [hb]; rfl
  | cons b q =>
    have hbb : blankI b.toNat = true := hp b (by simp)
    have hg : good (q ++ d :: r) := ⟨q, d, r, rfl, fun y hy => hp y (by simp [hy]), hd, hn⟩
    have hx2 : x = b :: (q ++ d :: r) := hx
    rw [hx2, fq, if_neg (blank_ne b hbb), if_pos hbb, if_neg (good_not _ hg), blanks, if_pos hbb, List.take_succ_cons, fq]
    rfl
theorem fq_plain (c : UInt8) (x : List UInt8) (h1 : c ≠ 61) (h2 : blankI c.toNat = false) : fq (c :: x) 0 = c :: fq x 0 := by
  rw [fq, if_neg h1, if_neg (by simp [h2])]
theorem fq_pad (p : List UInt8) (x : List UInt8) (hp : allBlank p) : fq (p ++ 13 :: 10 :: x) 0 = 13 :: 10 :: fq x 0 := by
  have h0 : fq (13 :: 10 :: x) 0 = 13 :: 10 :: fq x 0 := by
    rw [fq_plain 13 _ (by decide) (by decide), fq_plain 10 _ (by decide) (by decide)]
  cases p with
  | nil => exact h0
  | cons a q =>
    have ha : blankI a.toNat = true := hp a (by simp)
    have hq : allBlank q := fun y hy => hp y (by simp [hy])
    rw [List.cons_append, fq, if_neg (blank_ne a ha), if_pos ha, blanks_append q 13 _ hq (by decide), if_pos, fq_skip, List.drop_left]
    · exact h0
    · right; rw [List.drop_left]; rfl
theorem fq_end (p : List UInt8) (hp : allBlank p) : fq p 0 = [] := by
  cases p with
  | nil => rfl
  | cons a q =>
    have ha : blankI a.toNat = true := hp a (by simp)
    have hq : allBlank q := fun y hy => hp y (by simp [hy])
    rw [fq, if_neg (blank_ne a ha), if_pos ha, blanks_all q hq, if_pos (.inl (Nat.le_refl _)), fq_skip, List.drop_length]
    rfl
theorem hexI_blank (c : UInt8) (h : blankI c.toNat = true) : hexI c.toNat = -1 := by
  rcases blankI_eq c h with rfl | rfl <;> decide
theorem fq_soft (p : List UInt8) (x : List UInt8) (hp : allBlank p) : fq (61 :: (p ++ 13 :: 10 :: x)) 0 = fq x 0 := by
  have he : eqRead (p ++ 13 :: 10 :: x) = ([], p.length + 2) := by
    have hb := blanks_append p 13 (10 :: x) hp (by decide)
    unfold eqRead
    rw [if_neg, hb, if_neg, if_pos]
    · rw [List.drop_left]; rfl
    · rw [List.length_append, List.length_cons]; omega
    · intro h
      apply h.2.1
      cases p with
      | nil => exact (by decide : hexI ((13 : UInt8).toNat : Int) = -1)
      | cons a q => exact hexI_blank a (hp a (by simp))
  rw [fq, if_pos rfl, he, List.nil_append, fq_skip]
  congr 1
  rw [← List.drop_drop, List.drop_left]
  rfl
theorem hexI_digit : ∀ i, i < 16 → hexI (bt hexL i).toNat = (i : Int) := by
  have : ∀ i : Fin 16, hexI (bt hexL i.val).toNat = (i.val : Int) := by decide +kernel
  exact fun i hi => this ⟨i, hi⟩
theorem fq_coded (c : UInt8) (x : List UInt8) : fq (coded c ++ x) 0 = c :: fq x 0 := by
  have hc := c.toNat_lt
  have h1 := hexI_digit (c.toNat / 16) (by omega)
  have h2 := hexI_digit (c.toNat % 16) (by omega)
  have he : eqRead (bt hexL (c.toNat / 16) :: bt hexL (c.toNat % 16) :: x) = ([c], 2) := by
    unfold eqRead
    have e0 : bt (bt hexL (c.toNat / 16) :: bt hexL (c.toNat % 16) :: x) 0 = bt hexL (c.toNat / 16) := rfl
    have e1 : bt (bt hexL (c.toNat / 16) :: bt hexL (c.toNat % 16) :: x) 1 = bt hexL (c.toNat % 16) := rfl
    rw [e0, e1, h1, h2, if_pos]
    · have : ((c.toNat / 16 : Nat) : Int) * 16 + ((c.toNat % 16 : Nat) : Int) = (c.toNat : Int) := by omega
      rw [this]
      simp
    · exact ⟨by simp, by omega, by omega⟩
  show fq (61 :: bt hexL (c.toNat / 16) :: bt hexL (c.toNat % 16) :: x) 0 = _
  rw [fq, if_pos rfl, he, fq_skip]
  rfl
theorem pd_coded (pad : List UInt8) (c : UInt8) : pd pad (coded c) = coded c := by
  have hc := c.toNat_lt
  have h : ∀ i, i < 16 → bt hexL i ≠ 13 := by
    have : ∀ i : Fin 16, bt hexL i.val ≠ 13 := by decide +kernel
    exact fun i hi => this ⟨i, hi⟩
  unfold coded
  rw [pd_cons _ _ _ (by decide), pd_cons _ _ _ (h _ (by omega)), pd_cons _ _ _ (h _ (by omega))]
  rfl
theorem bare_facts (c : UInt8) (h : bareI c.toNat = true) : c ≠ 61 ∧ blankI c.toNat = false ∧ c ≠ 13 := by
  unfold bareI at h
  simp at h
  refine ⟨fun e => by subst e; simp at h, ?_, fun e => by subst e; simp at h⟩
  unfold blankI
  simp
  omega
theorem blank_ne13 (c : UInt8) (h : blankI c.toNat = true) : c ≠ 13 := by
  intro e; subst e; simp [blankI] at h
/-- What is written of a text that does not begin with a line's end keeps the blanks ahead of it. -/
theorem quo_good (pad : List UInt8) : ∀ (r : List UInt8) (n : Nat), r ≠ [] → Lib.hasPrefix r [13, 10] = false → good (pd pad (quo r false n) ++ pad) := by
  intro r
  induction r with
  | nil => intro n h; exact absurd rfl h
  | cons c r ih =>
    intro n _ hcr
    rw [quo, if_neg (by simp [hcr])]
    by_cases hl : 75 < n + (pieceOf c r).length
    · rw [if_pos hl]
      exact ⟨[], 61, _, by rw [pd_cons _ _ _ (by decide)]; rfl, noBlank, by decide, by decide⟩
    · rw [if_neg hl]
      cases hb : (bareI c.toNat || (blankI c.toNat && (!r.isEmpty && !Lib.hasPrefix r [13, 10]))) with
      | false =>
        have hp : pieceOf c r = coded c := by unfold pieceOf; rw [if_neg (by simp [hb])]
        rw [hp, pd_append, pd_coded]
        exact ⟨[], 61, _, rfl, noBlank, by decide, by decide⟩
      | true =>
        have hp : pieceOf c r = [c] := by unfold pieceOf; rw [if_pos hb]
        rw [hp]
        cases hba : bareI c.toNat with
        | true =>
          obtain ⟨h1, h2, h3⟩ := bare_facts c hba
          rw [pd_append, pd_cons _ _ _ h3]
          exact ⟨[], c, _, rfl, noBlank, h2, h3⟩
        | false =>
          rw [hba, Bool.false_or, Bool.and_eq_true, Bool.and_eq_true] at hb
          obtain ⟨h1, h2, h3⟩ := hb
          rw [pd_append, pd_cons _ _ _ (blank_ne13 c h1)]
          exact good_cons c _ h1 (ih _ (by simpa using h2) (by simpa using h3))
theorem quo_back (pad : List UInt8) (hp : allBlank pad) : ∀ (l : List UInt8) (n : Nat), fq (pd pad (quo l false n) ++ pad) 0 = l ∧ fq (pd pad (quo l true n) ++ pad) 0 = l.drop 1 := by
  intro l
  induction l with
  | nil => intro n; exact ⟨fq_end pad hp, fq_end pad hp⟩
  | cons c r ih =>
    intro n
    refine ⟨?_, (ih n).1⟩
    rw [quo]
    cases hcr : Lib.hasPrefix (c :: r) [13, 10] with
    | true =>
      rw [if_pos rfl]
      have h := List.isPrefixOf_iff_prefix.1 (show [13, 10].isPrefixOf (c :: r) = true from hcr)
      rw [List.cons_prefix_cons] at h
      obtain ⟨rfl, h⟩ := h
      cases r with
      | nil => simp at h
      | cons d r' =>
        rw [List.cons_prefix_cons] at h
        obtain ⟨rfl, _⟩ := h
        rw [pd_cr, pd_cons _ _ _ (by decide), List.append_assoc, List.cons_append, List.cons_append, fq_pad pad _ hp, (ih 0).2]
        rfl
    | false =>
      rw [if_neg (by simp)]
      have key : ∀ m, fq (pd pad (pieceOf c r ++ quo r false m) ++ pad) 0 = c :: r := by
        intro m
        cases hb : (bareI c.toNat || (blankI c.toNat && (!r.isEmpty && !Lib.hasPrefix r [13, 10]))) with
        | false =>
          have hpc : pieceOf c r = coded c := by unfold pieceOf; rw [if_neg (by simp [hb])]
          rw [hpc, pd_append, pd_coded, List.append_assoc, fq_coded, (ih m).1]
        | true =>
          have hpc : pieceOf c r = [c] := by unfold pieceOf; rw [if_pos hb]
          rw [hpc]
          cases hba : bareI c.toNat with
          | true =>
            obtain ⟨h1, h2, h3⟩ := bare_facts c hba
            show fq (pd pad (c :: quo r false m) ++ pad) 0 = _
            rw [pd_cons _ _ _ h3, List.cons_append, fq_plain c _ h1 h2, (ih m).1]
          | false =>
            rw [hba, Bool.false_or, Bool.and_eq_true, Bool.and_eq_true] at hb
            obtain ⟨h1, h2, h3⟩ := hb
            show fq (pd pad (c :: quo r false m) ++ pad) 0 = _
            rw [pd_cons _ _ _ (blank_ne13 c h1), List.cons_append, fq_blank c _ h1 (quo_good pad r m (by simpa using h2) (by simpa using h3)), (ih m).1]
      by_cases hl : 75 < n + (pieceOf c r).length
      · rw [if_pos hl, pd_cons _ _ _ (by decide), pd_cr, pd_cons _ _ _ (by decide)]
        rw [List.cons_append, List.append_assoc, List.cons_append, List.cons_append, fq_soft pad _ hp]
        exact key _
      · rw [if_neg hl]
        exact key _
theorem pad_back (pad l : List UInt8) (hp : allBlank pad) : fromQuoted (pd pad (quoted l) ++ pad) = l := (quo_back pad hp l 0).1
theorem pd_nil (q : List UInt8) : pd [] q = q := by
  unfold pd
  have : (fun c : UInt8 => if c = 13 then [] ++ [c] else [c]) = fun c => [c] := by funext c; split <;> rfl
  rw [this]
  simp
theorem quoted_back (l : List UInt8) : fromQuoted (quoted l) = l := by
  have h := pad_back [] l (fun c hc => by cases hc)
  rw [pd_nil, List.append_nil] at h
  exact h
end Go.Proofs.YtclegocofiigiabDoor
