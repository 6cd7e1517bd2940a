/- Plain mathematics: the lines of quoted-printable are short, printable, and end without blanks. -/
import Derived.Test.YtclegocofiigiabDoorQb
import Derived.Test.YtclegocofiigiabDoorPk
namespace Go.Proofs.YtclegocofiigiabDoor
open Go.RowKit

def prC (c : UInt8) : Bool := (decide (32 ≤ c.toNat) && decide (c.toNat ≤ 126)) || c.toNat == 9
def okS : List UInt8 → Bool → Nat → Bool → Prop
  | [], sk, n, b => sk = false ∧ n ≤ 76 ∧ b = false
  | c :: q, true, _, _ => c = 10 ∧ okS q false 0 false
  | c :: q, false, n, b => if c = 13 then n ≤ 76 ∧ b = false ∧ okS q true 0 false else prC c = true ∧ okS q false (n + 1) (blankI c.toNat)
theorem okS_cons (c : UInt8) (q : List UInt8) (n : Nat) (b : Bool) (h1 : c ≠ 13) (h2 : prC c = true) (h3 : okS q false (n + 1) (blankI c.toNat)) : okS (c :: q) false n b := by
  rw [okS, if_neg h1]; exact ⟨h2, h3⟩
theorem bare_pr (c : UInt8) (h : bareI c.toNat = true) : prC c = true := by
  unfold bareI at h; simp at h; unfold prC; simp; omega
theorem blank_pr (c : UInt8) (h : blankI c.toNat = true) : prC c = true := by
  rcases blankI_eq c h with rfl | rfl <;> decide
theorem hex_facts : ∀ i, i < 16 → bt hexL i ≠ 13 ∧ prC (bt hexL i) = true ∧ blankI (bt hexL i).toNat = false := by
  have : ∀ i : Fin 16, bt hexL i.val ≠ 13 ∧ prC (bt hexL i.val) = true ∧ blankI (bt hexL i.val).toNat = false := by decide +kernel
  exact fun i hi => this ⟨i, hi⟩
theorem quo_ok : ∀ l : List UInt8, (∀ n b, n ≤ 75 → (b = true → l ≠ [] ∧ Lib.hasPrefix l [13, 10] = false) → okS (quo l false n) false n b) ∧ okS (quo l true 0) false 0 false := by
  intro l
  induction l with
  | nil =>
    refine ⟨fun n b hn hb => ⟨rfl, by omega, ?_⟩, ⟨rfl, by omega, rfl⟩⟩
    cases b with
    | false => rfl
    | true => exact absurd rfl (hb rfl).1
  | cons c r ih =>
    refine ⟨fun n b hn hb => ?_, ih.1 0 false (by omega) (fun h => by cases h)⟩
    rw [quo]
    cases hcr : Lib.hasPrefix (c :: r) [13, 10] with
    | true =>
      rw [if_pos rfl]
      have hbf : b = false := by
        cases b with
        | false => rfl
        | true => have := (hb rfl).2; rw [hcr] at this; cases this
      rw [okS, if_pos rfl]
      exact ⟨by omega, hbf, rfl, ih.2⟩
    | false =>
      rw [if_neg (by simp)]
      have key : ∀ m b', m + (pieceOf c r).length ≤ 75 → okS (pieceOf c r ++ quo r false (m + (pieceOf c r).length)) false m b' := by
        intro m b' hm
        cases hbz : (bareI c.toNat || (blankI c.toNat && (!r.isEmpty && !Lib.hasPrefix r [13, 10]))) with
        | false =>
          have hpc : pieceOf c r = coded c := by unfold pieceOf; rw [if_neg (by simp [hbz])]
          rw [hpc] at hm ⊢
          have hc := c.toNat_lt
          obtain ⟨a1, a2, a3⟩ := hex_facts (c.toNat / 16) (by omega)
          obtain ⟨d1, d2, d3⟩ := hex_facts (c.toNat % 16) (by omega)
          have hl : (coded c).length = 3 := rfl
          rw [hl] at hm ⊢
          refine okS_cons 61 _ m b' (by decide) (by decide) ?_
          refine okS_cons _ _ _ _ a1 a2 ?_
          refine okS_cons _ _ _ _ d1 d2 ?_
          rw [d3]
          exact ih.1 (m + 3) false hm (fun h => by cases h)
        | true =>
          have hpc : pieceOf c r = [c] := by unfold pieceOf; rw [if_pos hbz]
          rw [hpc] at hm ⊢
          have hl : ([c] : List UInt8).length = 1 := rfl
          rw [hl] at hm ⊢
          cases hba : bareI c.toNat with
          | true =>
            obtain ⟨h1, h2, h3⟩ := bare_facts c hba
            refine okS_cons c _ m b' h3 (bare_pr c hba) ?_
            rw [h2]
            exact ih.1 (m + 1) false hm (fun h => by cases h)
          | false =>
            rw [hba, Bool.false_or, Bool.and_eq_true, Bool.and_eq_true] at hbz
            obtain ⟨h1, h2, h3⟩ := hbz
            refine okS_cons c _ m b' (blank_ne13 c h1) (blank_pr c h1) ?_
            exact ih.1 (m + 1) _ hm (fun _ => ⟨by simpa using h2, by simpa using h3⟩)
      by_cases hl : 75 < n + (pieceOf c r).length
      · rw [if_pos hl]
        refine okS_cons 61 _ n b (by decide) (by decide) ?_
        rw [okS, if_pos rfl]
        refine ⟨by omega, by decide, rfl, ?_⟩
        have hp3 : (pieceOf c r).length ≤ 3 := by unfold pieceOf coded; split <;> simp
        have := key 0 false (by omega)
        rw [Nat.zero_add] at this
        exact this
      · rw [if_neg hl]
        exact key n b (by omega)
theorem quoted_ok (l : List UInt8) : okS (quoted l) false 0 false := (quo_ok l).1 0 false (by omega) (fun h => by cases h)

def prB (l : List UInt8) : Prop := (∀ c ∈ l, prC c = true) ∧ l.length ≤ 76 ∧ (∀ h : l ≠ [], blankI (l.getLast h).toNat = false)
theorem cut_cons (c : UInt8) (q : List UInt8) : Lib.cut (c :: q) [13, 10] = if Lib.hasPrefix (c :: q) [13, 10] then ([], q.drop 1, true) else (c :: (Lib.cut q [13, 10]).1, (Lib.cut q [13, 10]).2.1, (Lib.cut q [13, 10]).2.2) := by
  have hge : ∀ l : List UInt8, -1 ≤ Lib.index l [13, 10] := by
    intro l
    induction l with
    | nil => simp [Lib.index]
    | cons a r ih => rw [Lib.index]; split; omega; split; omega; omega
  unfold Lib.cut
  rw [Lib.index]
  have hp : Lib.hasPrefix (c :: q) [13, 10] = [13, 10].isPrefixOf (c :: q) := rfl
  rw [hp]
  cases h : [13, 10].isPrefixOf (c :: q) with
  | true => simp
  | false =>
    simp only [Bool.false_eq_true, if_false]
    have hg := hge q
    generalize Lib.index q [13, 10] = i at *
    by_cases hi : i = -1
    · subst hi
      simp
    · have hb : (i == -1) = false := by simpa using hi
      simp only [hb, Bool.false_eq_true, if_false]
      rw [if_pos (by omega), if_pos (by omega)]
      have e : (i + 1).toNat = i.toNat + 1 := by omega
      rw [e, List.take_succ_cons]
      have e2 : i.toNat + 1 + ([13, 10] : List UInt8).length = (i.toNat + ([13, 10] : List UInt8).length) + 1 := by simp <;> omega
      rw [e2, List.drop_succ_cons]
theorem cut_ok : ∀ (q : List UInt8) (n : Nat) (b : Bool), okS q false n b →
    (∀ c ∈ (Lib.cut q [13, 10]).1, prC c = true) ∧ n + (Lib.cut q [13, 10]).1.length ≤ 76 ∧ (∀ h : (Lib.cut q [13, 10]).1 ≠ [], blankI (((Lib.cut q [13, 10]).1).getLast h).toNat = false) ∧ ((Lib.cut q [13, 10]).1 = [] → b = false) ∧ okS (Lib.cut q [13, 10]).2.1 false 0 false := by
  intro q
  induction q with
  | nil => intro n b h; exact ⟨fun c hc => (by cases hc), by simpa [Lib.cut, Lib.index] using h.2.1, fun h' => absurd rfl h', fun _ => h.2.2, ⟨rfl, by omega, rfl⟩⟩
  | cons c q ih =>
    intro n b h
    rw [okS] at h
    by_cases h13 : c = 13
    · rw [if_pos h13] at h
      obtain ⟨h1, h2, h3⟩ := h
      cases q with
      | nil => exact absurd h3.1 (by decide)
      | cons d q' =>
        rw [okS] at h3
        obtain ⟨rfl, h4⟩ := h3
        subst h13
        have e : Lib.cut (13 :: 10 :: q') [13, 10] = ([], q', true) := by rw [cut_cons]; rfl
        rw [e]
        exact ⟨fun c hc => (by cases hc), by simpa using h1, fun h' => absurd rfl h', fun _ => h2, h4⟩
    · rw [if_neg h13] at h
      obtain ⟨h1, h2⟩ := h
      have hp : Lib.hasPrefix (c :: q) [13, 10] = false := by
        unfold Lib.hasPrefix
        simp only [List.isPrefixOf]
        have : ((13 : UInt8) == c) = false := by simpa using fun e => h13 e.symm
        rw [this, Bool.false_and]
      obtain ⟨i1, i2, i3, i4, i5⟩ := ih _ _ h2
      rw [cut_cons, hp, if_neg (by simp)]
      refine ⟨fun d hd => ?_, by simp only [List.length_cons]; omega, fun h' => ?_, fun h' => (by cases h'), i5⟩
      · rcases List.mem_cons.1 hd with rfl | hd
        · exact h1
        · exact i1 d hd
      · by_cases hx : (Lib.cut q [13, 10]).1 = []
        · have := i4 hx
          simp only [hx, List.getLast_singleton]
          exact this
        · simp only
          rw [List.getLast_cons hx]
          exact i3 hx
theorem cut_line (q : List UInt8) (h : okS q false 0 false) : prB (Lib.cut q [13, 10]).1 ∧ okS (Lib.cut q [13, 10]).2.1 false 0 false := by
  obtain ⟨i1, i2, i3, _, i5⟩ := cut_ok q 0 false h
  exact ⟨⟨i1, by omega, i3⟩, i5⟩
theorem cut_less (q : List UInt8) (h : q ≠ []) : (Lib.cut q [13, 10]).2.1.length < q.length := by
  induction q with
  | nil => exact absurd rfl h
  | cons c q ih =>
    rw [cut_cons]
    split
    · simp only [List.length_drop, List.length_cons]; omega
    · by_cases hq : q = []
      · subst hq; simp [Lib.cut, Lib.index]
      · have := ih hq; simp only [List.length_cons]; omega
theorem whole_all (l : List UInt8) (h : ∀ k, k < l.length → okAt l k = true) : whole l = true := by
  unfold whole
  have : ∀ n, n ≤ l.length → wholeTo l n = true := by
    intro n
    induction n with
    | zero => intro _; rfl
    | succ n ih => intro hn; rw [wholeTo, ih (by omega), h n (by omega)]; rfl
  exact this _ (Nat.le_refl _)
theorem okS_at (q : List UInt8) (h : okS q false 0 false) : ∀ k, k ≤ q.length → ∃ sk n b, okS (q.drop k) sk n b ∧ (sk = true ↔ 0 < k ∧ bt q (k - 1) = 13) := by
  intro k
  induction k with
  | zero => intro _; exact ⟨false, 0, false, h, by simp⟩
  | succ k ih =>
    intro hk
    obtain ⟨sk, n, b, h1, h2⟩ := ih (by omega)
    rw [drop_cons q k (by omega)] at h1
    cases sk with
    | true =>
      rw [okS] at h1
      refine ⟨false, 0, false, h1.2, ?_⟩
      simp only [Nat.add_sub_cancel]
      rw [h1.1]; simp
    | false =>
      rw [okS] at h1
      by_cases h13 : bt q k = 13
      · rw [if_pos h13] at h1
        exact ⟨true, 0, false, h1.2.2, by simp [h13]⟩
      · rw [if_neg h13] at h1
        exact ⟨false, n + 1, _, h1.2, by simp [h13]⟩
theorem okS_whole (q : List UInt8) (h : okS q false 0 false) : whole q = true := by
  apply whole_all
  intro k hk
  obtain ⟨sk, n, b, h1, h2⟩ := okS_at q h k (by omega)
  rw [drop_cons q k hk] at h1
  unfold okAt
  cases sk with
  | true =>
    rw [okS] at h1
    obtain ⟨hk0, hp⟩ := h2.1 rfl
    have hkz : ((k : Int) == 0) = false := by simp <;> omega
    rw [h1.1, hp, hkz]
    rfl
  | false =>
    rw [okS] at h1
    by_cases h13 : bt q k = 13
    · rw [if_pos h13] at h1
      have h3 := h1.2.2
      have hk1 : k + 1 < q.length := by
        rcases Nat.lt_or_ge (k + 1) q.length with h | h
        · exact h
        · rw [List.drop_eq_nil_of_le h] at h3; exact absurd h3.1 (by decide)
      rw [drop_cons q (k + 1) hk1, okS] at h3
      have hcr : crlf q k = true := by
        unfold crlf
        rw [drop_cons q k hk, drop_cons q (k + 1) hk1, h13, h3.1]
        rfl
      rw [hcr, h13]
      rfl
    · rw [if_neg h13] at h1
      have hp := h1.1
      have n13 : (((bt q k).toNat : Int) == 13) = false := by
        rw [beq_eq_false_iff_ne]; intro e; exact h13 (UInt8.toNat_inj.1 (by have : (13 : UInt8).toNat = 13 := rfl
                                                                            omega))
      have n10 : (((bt q k).toNat : Int) == 10) = false := by
        rw [beq_eq_false_iff_ne]; intro e
        unfold prC at hp; simp at hp; omega
      rw [n13, n10]
      rfl
end Go.Proofs.YtclegocofiigiabDoor
