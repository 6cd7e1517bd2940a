/- mirror: uids rise; what keeps rows. -/
import Derived.Test.YtlmlbcnjohjnlaaDoorN19a
namespace Go.Proofs.YtlmlbcnjohjnlaaDoor
open Go.RowKit

/-- Known uids rise, above a number; a row whose flags are not known has none. -/
def rise : Int → List PR → Prop
  | _, [] => True
  | last, r :: l => (r.uid ≠ 0 → last < r.uid) ∧ (r.kn = false → r.fl = []) ∧ rise (if r.uid = 0 then last else r.uid) l
theorem rise_low {a b : Int} (h : b ≤ a) : ∀ {l : List PR}, rise a l → rise b l
  | [], _ => trivial
  | r :: l, ⟨h1, h2, h3⟩ => ⟨fun e => Int.lt_of_le_of_lt h (h1 e), h2, by
    by_cases e : r.uid = 0
    · rw [if_pos e] at h3 ⊢; exact rise_low h h3
    · rw [if_neg e] at h3 ⊢; exact h3⟩
theorem rise_zeros (a : Int) : ∀ (n : Nat), rise a (List.replicate n PR0)
  | 0 => trivial
  | n + 1 => ⟨fun e => absurd rfl e, fun _ => rfl, by simpa [PR0] using rise_zeros a n⟩
theorem rise_app {a : Int} : ∀ {l : List PR} {n : Nat}, rise a l → rise a (l ++ List.replicate n PR0)
  | [], n, _ => rise_zeros a n
  | _ :: _, _, ⟨h1, h2, h3⟩ => ⟨h1, h2, rise_app h3⟩
theorem rise_erase {a : Int} : ∀ {l : List PR} (i : Nat), rise a l → rise a (l.eraseIdx i)
  | [], _, _ => trivial
  | r :: l, 0, ⟨h1, _, h3⟩ => by
    by_cases e : r.uid = 0
    · rw [if_pos e] at h3; exact h3
    · rw [if_neg e] at h3; exact rise_low (Int.le_of_lt (h1 e)) h3
  | _ :: _, i + 1, ⟨h1, h2, h3⟩ => ⟨h1, h2, rise_erase i h3⟩
theorem rise_forget (c : PA) : ∀ {l : List PR} {a : Int} (i : Nat), rise a l → rise a (forgetL c i l)
  | [], _, _, _ => trivial
  | r :: l, a, i, ⟨h1, h2, h3⟩ => by
    simp only [forgetL]
    split
    · exact ⟨h1, fun _ => rfl, rise_forget c (i + 1) h3⟩
    · exact ⟨h1, h2, rise_forget c (i + 1) h3⟩
/-- The last known uid before, the first one behind. -/
def lastU (a : Int) : List PR → Int
  | [] => a
  | r :: l => lastU (if r.uid = 0 then a else r.uid) l
theorem rise_split {a : Int} : ∀ {l m : List PR}, rise a (l ++ m) ↔ rise a l ∧ rise (lastU a l) m
  | [], m => by simp [rise, lastU]
  | r :: l, m => by
    simp only [List.cons_append, rise, lastU, rise_split (l := l) (m := m)]
    exact ⟨fun ⟨h1, h2, h3, h4⟩ => ⟨⟨h1, h2, h3⟩, h4⟩, fun ⟨⟨h1, h2, h3⟩, h4⟩ => ⟨h1, h2, h3, h4⟩⟩
theorem near_zero : ∀ {l : List PR} {a b : Int}, nearA l = 0 → (∀ r ∈ l, r.uid = 0 → True) → rise a l → rise b l
  | [], _, _, _, _, _ => trivial
  | r :: l, a, b, h, _, ⟨h1, h2, h3⟩ => by
    by_cases e : r.uid = 0
    · rw [if_pos e] at h3
      refine ⟨fun k => absurd e k, h2, ?_⟩
      rw [if_pos e]
      refine near_zero ?_ (fun _ _ _ => trivial) h3
      simpa [nearA, e] using h
    · exfalso
      simp [nearA, e] at h
theorem near_rise : ∀ {l : List PR} {a u : Int}, u < nearA l → rise a l → nearA l ≠ 0 → rise u l
  | [], _, _, _, _, _ => trivial
  | r :: l, a, u, h, ⟨h1, h2, h3⟩, h0 => by
    by_cases e : r.uid = 0
    · rw [if_pos e] at h3
      refine ⟨fun k => absurd e k, h2, ?_⟩
      rw [if_pos e]
      refine near_rise ?_ h3 ?_
      · simpa [nearA, e] using h
      · simpa [nearA, e] using h0
    · refine ⟨fun _ => ?_, h2, by rw [if_neg e] at h3 ⊢; exact h3⟩
      simpa [nearA, e] using h
theorem lastU_snoc (a : Int) : ∀ (l : List PR) (r : PR), lastU a (l ++ [r]) = if r.uid = 0 then lastU a l else r.uid
  | [], r => by simp [lastU]
  | x :: l, r => by simp only [List.cons_append, lastU]; exact lastU_snoc _ l r
theorem near_last : ∀ (l : List PR), nearA l = 0 ∧ lastU 0 l.reverse = 0 ∨ nearA l ≠ 0 ∧ lastU 0 l.reverse = nearA l
  | [] => .inl ⟨rfl, rfl⟩
  | r :: l => by
    rw [List.reverse_cons, lastU_snoc]
    by_cases e : r.uid = 0
    · rw [if_pos e]
      have := near_last l
      simpa [nearA, e] using this
    · rw [if_neg e]
      right
      simp [nearA, e]
theorem rise_put {M : PM} {i : Nat} {r : PR} (h : rise 0 M.rows) (hi : i < M.rows.length) (hk : r.kn = false → r.fl = []) (hu : r.uid = (M.rows.getD i PR0).uid ∨ (1 ≤ r.uid ∧ fitsM M.rows i r.uid = true)) : rise 0 (M.rows.set i r) := by
  have e0 : M.rows = M.rows.take i ++ (M.rows.getD i PR0 :: M.rows.drop (i + 1)) := by
    have hg : M.rows.getD i PR0 = M.rows[i] := by rw [List.getD_eq_getElem?_getD, List.getElem?_eq_getElem hi]; rfl
    rw [hg, ← List.drop_eq_getElem_cons hi, List.take_append_drop]
  have e1 : M.rows.set i r = M.rows.take i ++ (r :: M.rows.drop (i + 1)) := List.set_eq_take_append_cons_drop.trans (if_pos hi)
  rw [e0] at h
  obtain ⟨h1, h2, h3, h4⟩ := rise_split.1 h
  rw [e1]
  refine rise_split.2 ⟨h1, ?_⟩
  rcases hu with hu | ⟨hu1, hf⟩
  · exact ⟨fun k => by rw [hu] at k ⊢; exact h2 k, hk, by rw [hu]; exact h4⟩
  · unfold fitsM at hf
    simp only [Bool.and_eq_true, Bool.or_eq_true, decide_eq_true_eq, beq_iff_eq] at hf
    obtain ⟨f1, f2⟩ := hf
    have hl : lastU 0 (M.rows.take i) < r.uid := by
      have := near_last (M.rows.take i).reverse
      rw [List.reverse_reverse] at this
      rcases this with ⟨_, k⟩ | ⟨_, k⟩ <;> omega
    refine ⟨fun _ => hl, hk, ?_⟩
    rw [if_neg (by omega)]
    rcases f2 with f2 | f2
    · exact near_zero f2 (fun _ _ _ => trivial) h4
    · by_cases k : nearA (M.rows.drop (i + 1)) = 0
      · exact near_zero k (fun _ _ _ => trivial) h4
      · exact near_rise f2 h4 k
end Go.Proofs.YtlmlbcnjohjnlaaDoor
