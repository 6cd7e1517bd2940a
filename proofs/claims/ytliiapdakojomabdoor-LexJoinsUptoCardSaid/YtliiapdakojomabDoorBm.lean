/- lex: the joiner's words, all kinds. -/
import Derived.Test.YtliiapdakojomabDoorBl
namespace Go.Proofs.YtliiapdakojomabDoor
open Go.RowKit

theorem writeWord_of {B P : Nat} {vl vt : Value} {j : Jn} {W0 w : World} (h : SmJ B P vl vt j W0 w) (he : Env w) (d : Wd) (ht : d.text.size ≤ 16384) (a : Option Addr) (n c : Nat) (hl : j.line.length ≤ 50000000) (hm : j.lits.length ≤ 1000)
    (hl2 : ∀ b, (jws true d.kids (j.put [b])).line.length ≤ 100000000)
    (hW : ∀ b vl' W, SmJ B P vl' vt (j.put [b]) W0 W → Calls Tryd.prog 37 #[.pointer (some ⟨P, 0, none⟩), .slice a n c] W fun e w' => e = .returned (.tuple #[]) ∧ ∃ vl2 vt2, SmJ B P vl2 vt2 (jws true d.kids (j.put [b])) W0 w') :
    Calls Tryd.prog 62 #[.pointer (some ⟨P, 0, none⟩), .agg #[.int .i64 d.kind, .string d.text, .slice a n c, .bool d.glued]] w fun e w' => e = .returned (.tuple #[]) ∧ ∃ vl2 vt2, SmJ B P vl2 vt2 (jw d j) W0 w' := by
  rw [jw_parts]
  by_cases h1 : d.kind = 1
  · rw [if_pos h1, h1]; exact writeWord_1 h d.text ht d.glued a n c hl
  by_cases h2 : d.kind = 2
  · rw [if_neg h1, if_pos h2, h2]; exact writeWord_2 h d.text ht d.glued a n c hl
  by_cases h3 : d.kind = 3
  · rw [if_neg h1, if_neg h2, if_pos h3, h3]; exact writeWord_3 h he d.text ht d.glued a n c hl hm
  by_cases h4 : d.kind = 4
  · rw [if_neg h1, if_neg h2, if_neg h3, if_pos h4, h4]; exact writeWord_4 h d.text d.glued a n c _ (by omega) (hl2 40) (hW 40)
  by_cases h5 : d.kind = 5
  · rw [if_neg h1, if_neg h2, if_neg h3, if_neg h4, if_pos h5, h5]; exact writeWord_5 h d.text d.glued a n c _ (by omega) (hl2 91) (hW 91)
  rw [if_neg h1, if_neg h2, if_neg h3, if_neg h4, if_neg h5]
  exact writeWord_none h d.kind ⟨h1, h2, h3, h4, h5⟩ d.text d.glued a n c
end Go.Proofs.YtliiapdakojomabDoor

/- lex, plain: what stays true of a joiner. -/
namespace Go.Proofs.YtliiapdakojomabDoor
open Go.RowKit

mutual
theorem jws_words : ∀ (first : Bool) (l : List Wd) (j : Jn), j.words ≤ 512 → (jws first l j).words ≤ 1025 - j.words
  | _, [], j, h => by simp [jws]; omega
  | first, d :: r, j, h => by
    cases hs : j.stops d with
    | true =>
      rw [jws_stop _ _ _ _ hs]
      simp only [Jn.one]
      omega
    | false =>
      rw [jws_one _ _ _ _ hs]
      simp only [Jn.stops, Bool.or_eq_false_iff, decide_eq_false_iff_not] at hs
      have hb : (j.blank first d).words = j.words + 1 := by
        unfold Jn.blank
        split <;> simp [Jn.put, Jn.one]
      have h1 := jw_words d (j.blank first d) (by omega)
      have h2 := (jw_len d (j.blank first d) (by omega)).1
      rw [hb] at h1 h2
      by_cases hw : (jw d (j.blank first d)).words ≤ 512
      · have := jws_words false r _ hw
        omega
      · cases r with
        | nil => simp only [jws]; omega
        | cons e r =>
          rw [jws_stop _ _ _ _ (by simp only [Jn.stops, Bool.or_eq_true, decide_eq_true_eq]; left; omega)]
          simp only [Jn.one]
          omega
theorem jw_words : ∀ (d : Wd) (j : Jn), j.words ≤ 512 → (jw d j).words ≤ 1025 - j.words
  | .mk k t l g, j, h => by
    have p := jws_words true l (j.put [40]) h
    have q := jws_words true l (j.put [91]) h
    simp only [jw]
    split
    · simp [Jn.put]; omega
    · split
      · simp [Jn.put]; omega
      · split
        · simp [Jn.lit]; omega
        · split
          · simp [Jn.put] at p ⊢; omega
          · split
            · simp [Jn.put] at q ⊢; omega
            · omega
end
/-- What is true of a joiner at each round. -/
structure Jok (j : Jn) : Prop where
  line : j.line.length ≤ 40000 * lid j.words
  lits : j.lits.length ≤ lid j.words
  words : j.words ≤ 1025
theorem lid_le (n : Nat) : lid n ≤ 512 := Nat.min_le_right _ _
theorem Jok.small {j : Jn} (h : Jok j) : j.line.length ≤ 20480000 ∧ j.lits.length ≤ 512 := by
  have := h.line
  have := h.lits
  have := lid_le j.words
  omega
theorem Jok.zero : Jok ⟨[], [], 0⟩ := ⟨by simp, by simp, by simp⟩
theorem blank_of (j : Jn) (first : Bool) (d : Wd) : (j.blank first d).words = j.words + 1 ∧ (j.blank first d).line.length ≤ j.line.length + 1 ∧ (j.blank first d).lits = j.lits := by
  unfold Jn.blank
  split <;> simp [Jn.put, Jn.one]
theorem stops_of {j : Jn} {d : Wd} (h : j.stops d = false) : j.words + 1 ≤ 512 ∧ d.text.size ≤ 16384 := by
  simp only [Jn.stops, Bool.or_eq_false_iff, decide_eq_false_iff_not] at h
  omega
theorem lid_up {n : Nat} (h : n + 1 ≤ 512) : lid (n + 1) = lid n + 1 := by simp only [lid]; omega
theorem Jok.word {j : Jn} (h : Jok j) (first : Bool) (d : Wd) (hs : j.stops d = false) : Jok (jw d (j.blank first d)) := by
  obtain ⟨s1, s2⟩ := stops_of hs
  obtain ⟨b1, b2, b3⟩ := blank_of j first d
  obtain ⟨g1, g2, g3⟩ := jw_len d (j.blank first d) s2
  have g4 := jw_words d (j.blank first d) (by omega)
  have := h.line
  have := h.lits
  rw [b1, lid_up s1] at g2 g3
  rw [b3] at g3
  exact ⟨by omega, by omega, by omega⟩
/-- A list's words are begun with room for what is ahead of them. -/
theorem Jok.nest {j : Jn} (h : Jok j) (first : Bool) (d : Wd) (hs : j.stops d = false) (b : UInt8) : Jok ((j.blank first d).put [b]) ∧ ((j.blank first d).put [b]).words ≤ 512 := by
  obtain ⟨s1, s2⟩ := stops_of hs
  obtain ⟨b1, b2, b3⟩ := blank_of j first d
  have := h.line
  have := h.lits
  have e : ((j.blank first d).put [b]).words = j.words + 1 := b1
  refine ⟨⟨?_, ?_, by omega⟩, by omega⟩
  · rw [e, lid_up s1]
    simp only [Jn.put, List.length_append, List.length_singleton]
    omega
  · rw [e, lid_up s1]
    show (j.blank first d).lits.length ≤ _
    rw [b3]
    omega
theorem Jok.run {j : Jn} (h : Jok j) (first : Bool) (l : List Wd) : (jws first l j).line.length ≤ 20480000 := by
  obtain ⟨g1, g2, g3⟩ := jws_len first l j
  have := h.line
  have := lid_le (jws first l j).words
  omega
end Go.Proofs.YtliiapdakojomabDoor
