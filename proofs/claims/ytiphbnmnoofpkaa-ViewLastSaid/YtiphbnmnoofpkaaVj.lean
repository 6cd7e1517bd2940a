/- span: several sets in memory; Join. -/
import Derived.Test.YtiphbnmnoofpkaaVi
namespace Go.Proofs.Ytiphbnmnoofpkaa
open Go.RowKit

/-- v is a list of lists of pieces, ll, in memory that is there. -/
def Sets (w : World) (v : Value) (ll : List (List Rg)) : Prop :=
  (ll = [] ∧ ∃ ao cap, v = .slice ao 0 cap ∧ (ao = none → cap = 0)) ∨ ∃ (b off cap : Nat) (f : Nat → Value), v = .slice (some ⟨b, off, none⟩) ll.length cap ∧ ll.length ≤ 5864062014805 ∧ b < w.heap.size ∧ ∀ i, i < ll.length → w.cell? ⟨b, off + i, none⟩ = some (f i) ∧ Rgs w (f i) (ll.getD i [])
theorem Sets.on {w w' : World} {v : Value} {ll : List (List Rg)} (h : Sets w v ll) (hb : Below w.heap.size w w') : Sets w' v ll := by
  rcases h with h | ⟨b, off, cap, f, rfl, h0, h1, h2⟩
  · exact .inl h
  · refine .inr ⟨b, off, cap, f, rfl, h0, Nat.lt_of_lt_of_le h1 hb.size, fun i hi => ?_⟩
    rw [hb.cell (p := ⟨b, off + i, none⟩) h1]
    exact ⟨(h2 i hi).1, (h2 i hi).2.on hb⟩
/-- The shape of a list that is there. -/
theorem Rgs.shape {w : World} {v : Value} {l : List Rg} (h : Rgs w v l) : ∃ ao cap, v = .slice ao l.length cap ∧ (0 < l.length → ∃ b off, ao = some ⟨b, off, none⟩ ∧ b < w.heap.size ∧ ∀ i, i < l.length → w.cell? ⟨b, off + i * 2, none⟩ = some (.int .i64 (l.getD i (0, 0)).1) ∧ w.cell? ⟨b, off + i * 2 + 1, none⟩ = some (.int .i64 (l.getD i (0, 0)).2)) := by
  rcases h with ⟨rfl, ao, cap, rfl, _⟩ | ⟨b, off, cap, rfl, _, h1, h2⟩
  · exact ⟨ao, cap, rfl, fun h => by simp at h⟩
  · exact ⟨_, _, rfl, fun _ => ⟨b, off, rfl, h1, h2⟩⟩

abbrev JS := List Rg × List Int × Bool
def jst (st : JS) (p : Rg) : JS :=
  if pieceB p = false then st
  else if p.1 ≠ 0 ∧ p.2 ≠ 0 then (st.1 ++ [(min p.1 p.2, max p.1 p.2)], st.2.1, st.2.2)
  else if p.1 ≠ p.2 then (st.1, st.2.1 ++ [max p.1 p.2], st.2.2)
  else (st.1, st.2.1, true)
def jfold (ps : List Rg) : JS := ps.foldl jst ([], [], false)
theorem jfold_snoc (ps : List Rg) (p : Rg) : jfold (ps ++ [p]) = jst (jfold ps) p := by simp [jfold]
theorem jst_length (st : JS) (p : Rg) : (jst st p).1.length ≤ st.1.length + 1 ∧ (jst st p).2.1.length ≤ st.2.1.length + 1 := by
  unfold jst
  repeat' split
  all_goals simp
theorem jfold_length (ps : List Rg) : (jfold ps).1.length ≤ ps.length ∧ (jfold ps).2.1.length ≤ ps.length := by
  have key : ∀ (ps : List Rg) (st : JS), (ps.foldl jst st).1.length ≤ st.1.length + ps.length ∧ (ps.foldl jst st).2.1.length ≤ st.2.1.length + ps.length := by
    intro ps
    induction ps with
    | nil => intro st; simp
    | cons p r ih =>
      intro st
      have h1 := ih (jst st p)
      have h2 := jst_length st p
      simp only [List.foldl_cons, List.length_cons]
      omega
  have := key ps ([], [], false)
  simpa [jfold] using this
theorem pieceB_iff (p : Rg) : pieceB p = true ↔ 0 ≤ p.1 ∧ p.1 ≤ 4294967295 ∧ 0 ≤ p.2 ∧ p.2 ≤ 4294967295 := by
  unfold pieceB endB; simp; omega
theorem jfold_ok (ps : List Rg) : (∀ p ∈ (jfold ps).1, 1 ≤ p.1 ∧ p.1 ≤ p.2 ∧ p.2 ≤ 4294967295) ∧ (∀ n ∈ (jfold ps).2.1, 1 ≤ n ∧ n ≤ 4294967295) := by
  have key : ∀ (ps : List Rg) (st : JS), ((∀ p ∈ st.1, 1 ≤ p.1 ∧ p.1 ≤ p.2 ∧ p.2 ≤ 4294967295) ∧ (∀ n ∈ st.2.1, 1 ≤ n ∧ n ≤ 4294967295)) → ((∀ p ∈ (ps.foldl jst st).1, 1 ≤ p.1 ∧ p.1 ≤ p.2 ∧ p.2 ≤ 4294967295) ∧ (∀ n ∈ (ps.foldl jst st).2.1, 1 ≤ n ∧ n ≤ 4294967295)) := by
    intro ps
    induction ps with
    | nil => intro st h; exact h
    | cons p r ih =>
      intro st h
      refine ih (jst st p) ?_
      unfold jst
      by_cases h0 : pieceB p = false
      · rw [if_pos h0]; exact h
      · rw [if_neg h0]
        have hp := (pieceB_iff p).1 (by simpa using h0)
        by_cases h1 : p.1 ≠ 0 ∧ p.2 ≠ 0
        · rw [if_pos h1]
          refine ⟨fun q hq => ?_, h.2⟩
          rcases List.mem_append.1 hq with hq | hq
          · exact h.1 q hq
          · simp at hq; subst hq; show 1 ≤ min p.1 p.2 ∧ min p.1 p.2 ≤ max p.1 p.2 ∧ max p.1 p.2 ≤ 4294967295; omega
        · rw [if_neg h1]
          by_cases h2 : p.1 ≠ p.2
          · rw [if_pos h2]
            refine ⟨h.1, fun n hn => ?_⟩
            rcases List.mem_append.1 hn with hn | hn
            · exact h.2 n hn
            · simp at hn; subst hn; omega
          · rw [if_neg h2]; exact h
  exact key ps ([], [], false) ⟨by simp, by simp⟩
theorem minOf_mem : ∀ (zs : List Int), zs ≠ [] → Lib.minOf zs ∈ zs ∧ ∀ z ∈ zs, Lib.minOf zs ≤ z := by
  have key : ∀ (zs : List Int) (a : Int), (zs.foldl min a = a ∨ zs.foldl min a ∈ zs) ∧ zs.foldl min a ≤ a ∧ ∀ z ∈ zs, zs.foldl min a ≤ z := by
    intro zs
    induction zs with
    | nil => intro a; simp
    | cons z r ih =>
      intro a
      have h := ih (min a z)
      simp only [List.foldl_cons]
      refine ⟨?_, by omega, fun y hy => ?_⟩
      · rcases h.1 with h1 | h1
        · rcases Int.le_total a z with h2 | h2
          · left; rw [h1]; omega
          · right; rw [h1, Int.min_eq_right h2]; exact List.mem_cons_self
        · right; exact List.mem_cons_of_mem _ h1
      · rcases List.mem_cons.1 hy with rfl | hy
        · omega
        · exact h.2.2 y hy
  intro zs hz
  cases zs with
  | nil => exact absurd rfl hz
  | cons a r =>
    have h := key (a :: r) a
    unfold Lib.minOf
    refine ⟨?_, h.2.2⟩
    rcases h.1 with h1 | h1
    · simp only [List.headD_cons]; rw [h1]; exact List.mem_cons_self
    · exact h1
theorem maxOf_mem : ∀ (zs : List Int), zs ≠ [] → Lib.maxOf zs ∈ zs ∧ ∀ z ∈ zs, z ≤ Lib.maxOf zs := by
  have key : ∀ (zs : List Int) (a : Int), (zs.foldl max a = a ∨ zs.foldl max a ∈ zs) ∧ a ≤ zs.foldl max a ∧ ∀ z ∈ zs, z ≤ zs.foldl max a := by
    intro zs
    induction zs with
    | nil => intro a; simp
    | cons z r ih =>
      intro a
      have h := ih (max a z)
      simp only [List.foldl_cons]
      refine ⟨?_, by omega, fun y hy => ?_⟩
      · rcases h.1 with h1 | h1
        · rcases Int.le_total a z with h2 | h2
          · right; rw [h1, Int.max_eq_right h2]; exact List.mem_cons_self
          · left; rw [h1]; omega
        · right; exact List.mem_cons_of_mem _ h1
      · rcases List.mem_cons.1 hy with rfl | hy
        · omega
        · exact h.2.2 y hy
  intro zs hz
  cases zs with
  | nil => exact absurd rfl hz
  | cons a r =>
    have h := key (a :: r) a
    unfold Lib.maxOf
    refine ⟨?_, h.2.2⟩
    rcases h.1 with h1 | h1
    · simp only [List.headD_cons]; rw [h1]; exact List.mem_cons_self
    · exact h1
def joinS (st : JS) : List Rg :=
  if st.2.1 = [] then (if st.2.2 = true then tog st.1 ++ [(0, 0)] else tog st.1) else starL st.1 (Lib.minOf st.2.1) (Lib.maxOf st.2.1)
def joinL (ll : List (List Rg)) : List Rg := joinS (jfold ll.flatten)
theorem flatten_take (ll : List (List Rg)) (i : Nat) (hi : i < ll.length) : (ll.take (i + 1)).flatten = (ll.take i).flatten ++ ll.getD i [] := by
  rw [List.take_succ_eq_append_getElem hi, List.flatten_append]; simp [hi]
theorem flatten_take_le (ll : List (List Rg)) (i : Nat) : (ll.take i).flatten.length ≤ ll.flatten.length := by
  conv => rhs; rw [← List.take_append_drop i ll, List.flatten_append, List.length_append]
  omega
theorem take_snocR (l : List Rg) (k : Nat) (hk : k < l.length) : l.take (k + 1) = l.take k ++ [l.getD k (0, 0)] := by
  rw [List.take_succ_eq_append_getElem hk]; simp [hk]
end Go.Proofs.Ytiphbnmnoofpkaa
