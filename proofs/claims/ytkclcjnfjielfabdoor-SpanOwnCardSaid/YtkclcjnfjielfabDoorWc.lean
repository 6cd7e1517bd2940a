/- Plain: what several sets joined mean. -/
import Derived.Test.YtkclcjnfjielfabDoorVu
namespace Go.Proofs.YtkclcjnfjielfabDoor
open Go.RowKit

def plainO (p : Rg) : Option Rg := if pieceB p = true ∧ p.1 ≠ 0 ∧ p.2 ≠ 0 then some (min p.1 p.2, max p.1 p.2) else none
def besideO (p : Rg) : Option Int := if pieceB p = true ∧ ¬ (p.1 ≠ 0 ∧ p.2 ≠ 0) ∧ p.1 ≠ p.2 then some (max p.1 p.2) else none
def aloneB (p : Rg) : Bool := pieceB p && decide (p.1 = 0) && decide (p.2 = 0)
theorem jst_eq (st : JS) (p : Rg) : jst st p = (st.1 ++ (plainO p).toList, st.2.1 ++ (besideO p).toList, st.2.2 || aloneB p) := by
  by_cases h0 : pieceB p = true
  · have hn : ¬ pieceB p = false := by rw [h0]; simp
    by_cases h1 : p.1 ≠ 0 ∧ p.2 ≠ 0
    · have e1 : plainO p = some (min p.1 p.2, max p.1 p.2) := by unfold plainO; rw [if_pos ⟨h0, h1⟩]
      have e2 : besideO p = none := by unfold besideO; rw [if_neg (by intro h; exact h.2.1 h1)]
      have e3 : aloneB p = false := by unfold aloneB; simp [h1.1]
      have e4 : jst st p = (st.1 ++ [(min p.1 p.2, max p.1 p.2)], st.2.1, st.2.2) := by unfold jst; rw [if_neg hn, if_pos h1]
      rw [e1, e2, e3, e4]; simp
    · have e1 : plainO p = none := by unfold plainO; rw [if_neg (by intro h; exact h1 h.2)]
      by_cases h2 : p.1 = p.2
      · have hz : p.1 = 0 ∧ p.2 = 0 := by omega
        have e2 : besideO p = none := by unfold besideO; rw [if_neg (by intro h; exact h.2.2 h2)]
        have e3 : aloneB p = true := by unfold aloneB; simp [h0, hz.1, hz.2]
        have e4 : jst st p = (st.1, st.2.1, true) := by unfold jst; rw [if_neg hn, if_neg h1, if_neg (by intro h; exact h h2)]
        rw [e1, e2, e3, e4]; simp
      · have e2 : besideO p = some (max p.1 p.2) := by unfold besideO; rw [if_pos ⟨h0, h1, h2⟩]
        have e3 : aloneB p = false := by
          unfold aloneB
          by_cases h3 : p.1 = 0
          · have h4 : ¬ p.2 = 0 := by omega
            simp [h4]
          · simp [h3]
        have e4 : jst st p = (st.1, st.2.1 ++ [max p.1 p.2], st.2.2) := by unfold jst; rw [if_neg hn, if_neg h1, if_pos h2]
        rw [e1, e2, e3, e4]; simp
  · have e1 : plainO p = none := by unfold plainO; rw [if_neg (by intro h; exact h0 h.1)]
    have e2 : besideO p = none := by unfold besideO; rw [if_neg (by intro h; exact h0 h.1)]
    have e3 : aloneB p = false := by unfold aloneB; simp [h0]
    have e4 : jst st p = st := by unfold jst; rw [if_pos (by simpa using h0)]
    rw [e1, e2, e3, e4]; simp
theorem foldl_jst : ∀ (ps : List Rg) (st : JS), ps.foldl jst st = (st.1 ++ ps.filterMap plainO, st.2.1 ++ ps.filterMap besideO, st.2.2 || ps.any aloneB)
  | [], st => by simp
  | p :: r, st => by
    rw [List.foldl_cons, foldl_jst r, jst_eq]
    have e1 : (p :: r).filterMap plainO = (plainO p).toList ++ r.filterMap plainO := by
      cases h : plainO p <;> simp [h]
    have e2 : (p :: r).filterMap besideO = (besideO p).toList ++ r.filterMap besideO := by
      cases h : besideO p <;> simp [h]
    rw [e1, e2, List.any_cons]
    simp [Bool.or_assoc]
theorem jfold_eq (ps : List Rg) : jfold ps = (ps.filterMap plainO, ps.filterMap besideO, ps.any aloneB) := by
  unfold jfold; rw [foldl_jst]; simp

/-- What one piece has. -/
theorem hit_parts (p : Rg) (n g : Int) (hg : 1 ≤ g) : (pieceB p && inB (setl p g) n) = true ↔ (∃ q, plainO p = some q ∧ q.1 ≤ n ∧ n ≤ q.2) ∨ (∃ k, besideO p = some k ∧ (k ≤ n ∧ n ≤ g ∨ g ≤ n ∧ n ≤ k)) ∨ (aloneB p = true ∧ n = g) := by
  rw [Bool.and_eq_true]
  unfold inB setl
  rw [Bool.and_eq_true, decide_eq_true_iff, decide_eq_true_iff]
  show pieceB p = true ∧ min (starI p.1 g) (starI p.2 g) ≤ n ∧ n ≤ max (starI p.1 g) (starI p.2 g) ↔ _
  by_cases h0 : pieceB p = true
  · have hb := (pieceB_iff p).1 h0
    by_cases h1 : p.1 ≠ 0 ∧ p.2 ≠ 0
    · have e1 : plainO p = some (min p.1 p.2, max p.1 p.2) := by unfold plainO; rw [if_pos ⟨h0, h1⟩]
      have e2 : besideO p = none := by unfold besideO; rw [if_neg (by intro h; exact h.2.1 h1)]
      have e3 : aloneB p = false := by unfold aloneB; simp [h1.1]
      have s1 : starI p.1 g = p.1 := by unfold starI; rw [if_neg h1.1]
      have s2 : starI p.2 g = p.2 := by unfold starI; rw [if_neg h1.2]
      rw [e1, e2, e3, s1, s2]
      simp [h0]
    · have e1 : plainO p = none := by unfold plainO; rw [if_neg (by intro h; exact h1 h.2)]
      by_cases h2 : p.1 = p.2
      · have hz : p.1 = 0 ∧ p.2 = 0 := by omega
        have e2 : besideO p = none := by unfold besideO; rw [if_neg (by intro h; exact h.2.2 h2)]
        have e3 : aloneB p = true := by unfold aloneB; simp [h0, hz.1, hz.2]
        have s1 : starI p.1 g = g := by unfold starI; rw [if_pos hz.1]
        have s2 : starI p.2 g = g := by unfold starI; rw [if_pos hz.2]
        rw [e1, e2, e3, s1, s2]
        simp [h0]
        omega
      · have e2 : besideO p = some (max p.1 p.2) := by unfold besideO; rw [if_pos ⟨h0, h1, h2⟩]
        have e3 : aloneB p = false := by
          unfold aloneB
          by_cases h3 : p.1 = 0
          · have h4 : ¬ p.2 = 0 := by omega
            simp [h4]
          · simp [h3]
        rw [e1, e2, e3]
        simp only [h0, true_and, reduceCtorEq, false_and, exists_false, false_or, Option.some.injEq, exists_eq_left', Bool.false_eq_true, or_false]
        unfold starI
        by_cases h3 : p.1 = 0
        · have h4 : ¬ p.2 = 0 := by omega
          rw [if_pos h3, if_neg h4]; omega
        · have h4 : p.2 = 0 := by omega
          rw [if_neg h3, if_pos h4]; omega
  · have e1 : plainO p = none := by unfold plainO; rw [if_neg (by intro h; exact h0 h.1)]
    have e2 : besideO p = none := by unfold besideO; rw [if_neg (by intro h; exact h0 h.1)]
    have e3 : aloneB p = false := by unfold aloneB; simp [h0]
    rw [e1, e2, e3]
    simp [h0]
theorem has_parts (ps : List Rg) (n g : Int) (hg : 1 ≤ g) : hasB ps n g = true ↔ cov (ps.filterMap plainO) n ∨ (∃ k ∈ ps.filterMap besideO, k ≤ n ∧ n ≤ g ∨ g ≤ n ∧ n ≤ k) ∨ (ps.any aloneB = true ∧ n = g) := by
  unfold hasB
  rw [decide_eq_true hg, Bool.true_and, List.any_eq_true]
  constructor
  · rintro ⟨p, hp, h⟩
    rcases (hit_parts p n g hg).1 h with ⟨q, hq, hh⟩ | ⟨k, hk, hh⟩ | ⟨ha, hh⟩
    · exact .inl ⟨q, List.mem_filterMap.2 ⟨p, hp, hq⟩, hh⟩
    · exact .inr (.inl ⟨k, List.mem_filterMap.2 ⟨p, hp, hk⟩, hh⟩)
    · exact .inr (.inr ⟨List.any_eq_true.2 ⟨p, hp, ha⟩, hh⟩)
  · rintro (⟨q, hq, hh⟩ | ⟨k, hk, hh⟩ | ⟨ha, hh⟩)
    · obtain ⟨p, hp, he⟩ := List.mem_filterMap.1 hq
      exact ⟨p, hp, (hit_parts p n g hg).2 (.inl ⟨q, he, hh⟩)⟩
    · obtain ⟨p, hp, he⟩ := List.mem_filterMap.1 hk
      exact ⟨p, hp, (hit_parts p n g hg).2 (.inr (.inl ⟨k, he, hh⟩))⟩
    · obtain ⟨p, hp, he⟩ := List.any_eq_true.1 ha
      exact ⟨p, hp, (hit_parts p n g hg).2 (.inr (.inr ⟨he, hh⟩))⟩
/-- Pieces of the form, all between 1 and the greatest number. -/
def okC (l : List Rg) : Prop := canonF (-1) l ∧ ∀ p ∈ l, 1 ≤ p.1 ∧ p.1 ≤ p.2 ∧ p.2 ≤ 4294967295
theorem okC_tog {l : List Rg} (h : ∀ p ∈ l, 1 ≤ p.1 ∧ p.1 ≤ p.2 ∧ p.2 ≤ 4294967295) : okC (tog l) ∧ ∀ n, cov (tog l) n ↔ cov l n := by
  have hc := tog_canon (l := l) (m := -1) (fun p hp => by have := h p hp; omega)
  refine ⟨⟨hc.1, fun p hp => ?_⟩, hc.2⟩
  have hm := canonF_mem hc.1 hp
  obtain ⟨q, hq, hh⟩ := (hc.2 p.1).1 ⟨p, hp, by omega, hm.2⟩
  obtain ⟨q', hq', hh'⟩ := (hc.2 p.2).1 ⟨p, hp, hm.2, by omega⟩
  have := h q hq
  have := h q' hq'
  exact ⟨by omega, hm.2, by omega⟩
theorem okC_parts {l : List Rg} (h : ∀ p ∈ l, 1 ≤ p.1 ∧ p.1 ≤ p.2 ∧ p.2 ≤ 4294967295) : l.filterMap plainO = l ∧ l.filterMap besideO = [] ∧ l.any aloneB = false := by
  induction l with
  | nil => simp
  | cons p r ih =>
    have hp := h p List.mem_cons_self
    have ihr := ih (fun q hq => h q (List.mem_cons_of_mem _ hq))
    have h0 : pieceB p = true := (pieceB_iff p).2 (by omega)
    have e1 : plainO p = some p := by
      unfold plainO; rw [if_pos ⟨h0, by omega, by omega⟩, Int.min_eq_left hp.2.1, Int.max_eq_right hp.2.1]
    have e2 : besideO p = none := by unfold besideO; rw [if_neg (by intro hh; exact hh.2.1 ⟨by omega, by omega⟩)]
    have e3 : aloneB p = false := by unfold aloneB; simp; omega
    exact ⟨by rw [List.filterMap_cons_some e1, ihr.1], by rw [List.filterMap_cons_none e2, ihr.2.1], by rw [List.any_cons, e3, ihr.2.2]; rfl⟩
/-- The forms that Join has. -/
inductive JForm : List Rg → Prop
  | plain (c : List Rg) (h : okC c) : JForm c
  | star (c : List Rg) (h : okC c) : JForm (c ++ [(0, 0)])
  | beside (c : List Rg) (a : Int) (h : okC c) (h1 : 1 ≤ a) (h2 : a ≤ 4294967295) : JForm (c ++ [(a, 0)])
theorem parts_star : ([(0, 0)] : List Rg).filterMap plainO = [] ∧ ([(0, 0)] : List Rg).filterMap besideO = [] ∧ ([(0, 0)] : List Rg).any aloneB = true := by decide +kernel
theorem parts_beside (a : Int) (h1 : 1 ≤ a) (h2 : a ≤ 4294967295) : ([(a, 0)] : List Rg).filterMap plainO = [] ∧ ([(a, 0)] : List Rg).filterMap besideO = [a] ∧ ([(a, 0)] : List Rg).any aloneB = false := by
  have h0 : pieceB (a, 0) = true := (pieceB_iff (a, 0)).2 ⟨by show 0 ≤ a; omega, h2, by show (0 : Int) ≤ 0; omega, by show (0 : Int) ≤ 4294967295; omega⟩
  have e1 : plainO (a, 0) = none := by unfold plainO; rw [if_neg (by simp)]
  have e2 : besideO (a, 0) = some a := by
    unfold besideO; rw [if_pos ⟨h0, by simp, by show a ≠ 0; omega⟩]
    show some (max a 0) = some a
    rw [Int.max_eq_left (by omega)]
  have e3 : aloneB (a, 0) = false := by unfold aloneB; simp; omega
  exact ⟨List.filterMap_cons_none e1, List.filterMap_cons_some e2, by rw [List.any_cons, e3]; rfl⟩
theorem joinL_form (ll : List (List Rg)) : JForm (joinL ll) := by
  have ok := jfold_ok ll.flatten
  unfold joinL joinS
  generalize jfold ll.flatten = st at *
  by_cases h0 : st.2.1 = []
  · rw [if_pos h0]
    split
    · exact .star _ (okC_tog ok.1).1
    · exact .plain _ (okC_tog ok.1).1
  · rw [if_neg h0]
    have mn := minOf_mem st.2.1 h0
    have mx := maxOf_mem st.2.1 h0
    have k1 := ok.2 _ mn.1
    have k2 := ok.2 _ mx.1
    unfold starL
    refine .beside _ _ (okC_tog (fun p hp => ?_)).1 k1.1 k1.2
    split at hp
    · rcases List.mem_append.1 hp with hp | hp
      · exact ok.1 p hp
      · simp at hp; subst hp; exact ⟨k1.1, by show Lib.minOf _ ≤ Lib.maxOf _; omega, k2.2⟩
    · exact ok.1 p hp
theorem leastL_form (l : List Int) : okC (leastL l) := (okC_tog (fun p hp => by have := ones_mem hp; omega)).1
/-- Join has what one of the sets has. -/
theorem has_joinL (ll : List (List Rg)) (n g : Int) : hasB (joinL ll) n g = hasB ll.flatten n g := by
  by_cases hg : 1 ≤ g
  · rw [Bool.eq_iff_iff, has_parts _ n g hg, has_parts _ n g hg]
    have ok := jfold_ok ll.flatten
    rw [jfold_eq] at ok
    have hj : joinL ll = joinS (ll.flatten.filterMap plainO, ll.flatten.filterMap besideO, ll.flatten.any aloneB) := by unfold joinL; rw [jfold_eq]
    rw [hj]
    generalize ll.flatten.filterMap plainO = A at *
    generalize ll.flatten.filterMap besideO = Bs at *
    generalize ll.flatten.any aloneB = al at *
    unfold joinS
    simp only at ok ⊢
    by_cases h0 : Bs = []
    · rw [if_pos h0]
      subst h0
      have hA := okC_tog ok.1
      have hp := okC_parts hA.1.2
      cases al with
      | true =>
        simp only [if_true, List.filterMap_append, List.any_append, hp.1, hp.2.1, hp.2.2, parts_star.1, parts_star.2.1, parts_star.2.2, List.append_nil]
        rw [hA.2 n]
        simp
      | false =>
        simp only [Bool.false_eq_true, if_false, hp.1, hp.2.1, hp.2.2]
        rw [hA.2 n]
    · rw [if_neg h0]
      have mn := minOf_mem Bs h0
      have mx := maxOf_mem Bs h0
      have k1 := ok.2 _ mn.1
      have k2 := ok.2 _ mx.1
      have hX : ∀ p ∈ (if Lib.minOf Bs < Lib.maxOf Bs then A ++ [(Lib.minOf Bs, Lib.maxOf Bs)] else A), 1 ≤ p.1 ∧ p.1 ≤ p.2 ∧ p.2 ≤ 4294967295 := by
        intro p hp
        split at hp
        · rcases List.mem_append.1 hp with hp | hp
          · exact ok.1 p hp
          · simp at hp; subst hp; exact ⟨k1.1, by show Lib.minOf _ ≤ Lib.maxOf _; omega, k2.2⟩
        · exact ok.1 p hp
      have hA := okC_tog hX
      have hp := okC_parts hA.1.2
      have hb := parts_beside (Lib.minOf Bs) k1.1 k1.2
      unfold starL
      simp only [List.filterMap_append, List.any_append, hp.1, hp.2.1, hp.2.2, hb.1, hb.2.1, hb.2.2, List.append_nil, List.nil_append, Bool.or_false, Bool.false_eq_true, false_and, or_false]
      rw [hA.2 n]
      have hcov : cov (if Lib.minOf Bs < Lib.maxOf Bs then A ++ [(Lib.minOf Bs, Lib.maxOf Bs)] else A) n ↔ cov A n ∨ (Lib.minOf Bs < Lib.maxOf Bs ∧ Lib.minOf Bs ≤ n ∧ n ≤ Lib.maxOf Bs) := by
        split
        · rename_i hlt
          rw [cov_append, cov_cons]
          simp [cov_nil, hlt]
        · rename_i hlt
          simp [hlt]
      rw [hcov]
      constructor
      · rintro ((h | h) | ⟨k, hk, h⟩)
        · exact .inl h
        · right; left
          by_cases hng : n ≤ g
          · exact ⟨_, mn.1, .inl ⟨h.2.1, hng⟩⟩
          · exact ⟨_, mx.1, .inr ⟨by omega, h.2.2⟩⟩
        · simp at hk
          subst hk
          exact .inr (.inl ⟨_, mn.1, h⟩)
      · rintro (h | ⟨k, hk, h⟩ | ⟨_, h⟩)
        · exact .inl (.inl h)
        · have l1 := mn.2 k hk
          have l2 := mx.2 k hk
          by_cases hin : Lib.minOf Bs < Lib.maxOf Bs ∧ Lib.minOf Bs ≤ n ∧ n ≤ Lib.maxOf Bs
          · exact .inl (.inr hin)
          · exact .inr ⟨Lib.minOf Bs, by simp, by omega⟩
        · exact .inr ⟨Lib.minOf Bs, by simp, by omega⟩
  · unfold hasB
    rw [decide_eq_false hg]; simp
theorem hasB_flatten (ll : List (List Rg)) (n g : Int) : hasB ll.flatten n g = ll.any fun l => hasB l n g := by
  induction ll with
  | nil => unfold hasB; simp
  | cons a r ih => rw [List.flatten_cons, hasB_append', ih, List.any_cons]
where
  hasB_append' (a b : List Rg) : hasB (a ++ b) n g = (hasB a n g || hasB b n g) := by
    unfold hasB
    rw [List.any_append]
    cases decide (1 ≤ g) <;> simp
/-- What has one of the forms stays, joined in whatever parts. -/
theorem joinL_stays {r : List Rg} (hr : JForm r) {ll : List (List Rg)} (h1 : ∀ n, cov (ll.flatten.filterMap plainO) n ↔ cov (r.filterMap plainO) n) (h2 : ∀ k, k ∈ ll.flatten.filterMap besideO ↔ k ∈ r.filterMap besideO) (h3 : ll.flatten.any aloneB = r.any aloneB) : joinL ll = r := by
  unfold joinL
  have ok := jfold_ok ll.flatten
  rw [jfold_eq] at ok ⊢
  rw [h3]
  generalize ll.flatten.filterMap plainO = A at *
  generalize ll.flatten.filterMap besideO = Bs at *
  simp only at ok
  unfold joinS
  simp only
  cases hr with
  | plain _ hc =>
    have hp := okC_parts hc.2
    rw [hp.1] at h1
    have hB : Bs = [] := List.eq_nil_iff_forall_not_mem.2 (fun k hk => by have := (h2 k).1 hk; rw [hp.2.1] at this; cases this)
    rw [if_pos hB, hp.2.2]
    simp only [Bool.false_eq_true, if_false]
    exact (tog_eq (m := -1) (fun p hp => by have := ok.1 p hp; omega) hc.1 (fun n => (h1 n).symm)).symm
  | star c hc =>
    have hp := okC_parts hc.2
    simp only [List.filterMap_append, List.any_append, hp.1, hp.2.1, hp.2.2, parts_star.1, parts_star.2.1, parts_star.2.2, List.append_nil] at h1 h2 ⊢
    have hB : Bs = [] := List.eq_nil_iff_forall_not_mem.2 (fun k hk => by have := (h2 k).1 hk; cases this)
    rw [if_pos hB]
    simp only [Bool.or_true, if_true]
    rw [(tog_eq (m := -1) (fun p hp => by have := ok.1 p hp; omega) hc.1 (fun n => (h1 n).symm)).symm]
  | beside c a hc a1 a2 =>
    have hp := okC_parts hc.2
    have hb := parts_beside a a1 a2
    simp only [List.filterMap_append, hp.1, hp.2.1, hb.1, hb.2.1, List.append_nil, List.nil_append] at h1 h2
    have hB : Bs ≠ [] := fun e => by have := (h2 a).2 (by simp); rw [e] at this; cases this
    rw [if_neg hB]
    have mn := minOf_mem Bs hB
    have mx := maxOf_mem Bs hB
    have e1 : Lib.minOf Bs = a := by simpa using (h2 _).1 mn.1
    have e2 : Lib.maxOf Bs = a := by simpa using (h2 _).1 mx.1
    unfold starL
    rw [e1, e2, if_neg (by omega), (tog_eq (m := -1) (fun p hp => by have := ok.1 p hp; omega) hc.1 (fun n => (h1 n).symm)).symm]
end Go.Proofs.YtkclcjnfjielfabDoor
