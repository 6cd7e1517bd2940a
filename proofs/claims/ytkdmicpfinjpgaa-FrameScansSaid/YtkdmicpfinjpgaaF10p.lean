/- frame, plain: what a scan tells; the rows of told as cells. -/
import Derived.Test.YtkdmicpfinjpgaaF10n
namespace Go.Proofs.Ytkdmicpfinjpgaa
open Go.RowKit

theorem scn_facts (l : List UInt8) (m : Nat) : ∀ (i a : Nat) (j : Nat) (f : Fr), (scn m l i a)[j]? = some f →
    isF (l.drop f.at') ∧ f = frAt l f.at' ∧ (j = 0 → f.at' = i ∧ (0 < i → f.num = a + 1)) ∧ (∀ p, 0 < j → (scn m l i a)[j - 1]? = some p → f.at' = p.ends ∧ f.num = p.num + 1) := by
  induction m with
  | zero => intro i a j f h; simp [scn] at h
  | succ m ih =>
    intro i a j f h
    simp only [scn] at h ⊢
    by_cases hc : isF (l.drop i) ∧ (0 < i → w4 l (i + 2) = a + 1)
    · rw [if_pos hc] at h ⊢
      cases j with
      | zero =>
        simp at h
        subst h
        exact ⟨hc.1, rfl, fun _ => ⟨rfl, hc.2⟩, fun p hp => absurd hp (Nat.lt_irrefl 0)⟩
      | succ j =>
        rw [List.getElem?_cons_succ] at h
        obtain ⟨h1, h2, h3, h4⟩ := ih _ _ j f h
        refine ⟨h1, h2, fun h0 => by omega, fun p _ hp => ?_⟩
        rw [Nat.add_sub_cancel] at hp
        cases j with
        | zero =>
          simp at hp
          subst hp
          obtain ⟨h5, h6⟩ := h3 rfl
          exact ⟨h5, h6 (by have := (frAt_ends hc.1).1; omega)⟩
        | succ j =>
          rw [List.getElem?_cons_succ] at hp
          exact h4 p (by omega) (by simpa using hp)
    · rw [if_neg hc] at h
      simp at h
theorem scan_facts {l : List UInt8} {i a j : Nat} {f : Fr} (h : (scan l i a)[j]? = some f) :
    isF (l.drop f.at') ∧ f = frAt l f.at' ∧ (j = 0 → f.at' = i ∧ (0 < i → f.num = a + 1)) ∧ (∀ p, 0 < j → (scan l i a)[j - 1]? = some p → f.at' = p.ends ∧ f.num = p.num + 1) := scn_facts l _ i a j f h
/-- The place behind the first so many. -/
def endsAt (F : List Fr) (k : Nat) : Nat := if k = 0 then 0 else ((F[k - 1]?).map Fr.ends).getD 0
theorem endsAt_succ {F : List Fr} {k : Nat} {f : Fr} (h : F[k]? = some f) : endsAt F (k + 1) = f.ends := by
  simp [endsAt, h]
theorem scan_at {l : List UInt8} {k : Nat} {f : Fr} (h : (scan l 0 0)[k]? = some f) : f.at' = endsAt (scan l 0 0) k := by
  obtain ⟨_, _, h3, h4⟩ := scan_facts h
  unfold endsAt
  by_cases hk : k = 0
  · rw [if_pos hk]; exact (h3 hk).1
  · rw [if_neg hk]
    have hlt : k < (scan l 0 0).length := (List.getElem?_eq_some_iff.1 h).1
    have hp : (scan l 0 0)[k - 1]? = some ((scan l 0 0)[k - 1]'(by omega)) := List.getElem?_eq_getElem (by omega)
    rw [hp]
    exact (h4 _ (by omega) hp).1
/-- A frame that is told, as bytes. -/
theorem told_frame {l : List UInt8} {k : Nat} {f : Fr} (h : (scan l 0 0)[k]? = some f) :
    okF f.kind f.num f.body ∧ (l.drop f.at').take (f.body.length + 18) = frm f.kind f.num f.body ∧ f.ends = f.at' + (f.body.length + 18) ∧ f.ends ≤ l.length := by
  obtain ⟨h1, h2, _, _⟩ := scan_facts h
  have hb := bodyF_length h1
  have ho := isF_ok h1
  have ht := isF_take h1
  obtain ⟨e1, e2⟩ := frAt_ends h1
  have ek : (bt (l.drop f.at') 1).toNat = f.kind := by rw [h2, bt_drop]; rfl
  have en : w4 (l.drop f.at') 2 = f.num := by rw [h2, w4_drop]; rfl
  have eb : bodyF (l.drop f.at') = f.body := by rw [h2]; rfl
  rw [ek, en, eb] at ho ht
  rw [eb] at hb
  rw [← hb] at ht
  refine ⟨ho, ht, by unfold Fr.ends; omega, ?_⟩
  rw [h2, e1]; exact e2
theorem endsAt_ge (l : List UInt8) : ∀ k, k ≤ (scan l 0 0).length → 18 * k ≤ endsAt (scan l 0 0) k ∧ endsAt (scan l 0 0) k ≤ l.length := by
  intro k
  induction k with
  | zero => intro _; simp [endsAt]
  | succ k ih =>
    intro hk
    obtain ⟨f, hf⟩ : ∃ f, (scan l 0 0)[k]? = some f := ⟨_, List.getElem?_eq_getElem (by omega)⟩
    have h1 := ih (by omega)
    have h2 := scan_at hf
    obtain ⟨_, _, h3, h4⟩ := told_frame hf
    rw [endsAt_succ hf]
    omega
theorem scan_len (l : List UInt8) : 18 * (scan l 0 0).length ≤ l.length := by
  have := endsAt_ge l _ (Nat.le_refl _)
  omega
theorem frCs_at {F : List Fr} : ∀ {j : Nat} {f : Fr}, F[j]? = some f → (frCs F)[4 * j]? = some (.int .i64 (f.kind : Int)) ∧ (frCs F)[4 * j + 1]? = some (.int .i64 (f.num : Int)) ∧ (frCs F)[4 * j + 2]? = some (.int .i64 (f.at' : Int)) ∧ (frCs F)[4 * j + 3]? = some (.string (S f.body)) := by
  induction F with
  | nil => intro j f h; simp at h
  | cons g F ih =>
    intro j f h
    have e : frCs (g :: F) = frC g ++ frCs F := by simp [frCs]
    rw [e]
    cases j with
    | zero => simp at h; subst h; exact ⟨rfl, rfl, rfl, rfl⟩
    | succ j =>
      rw [List.getElem?_cons_succ] at h
      obtain ⟨h0, h1, h2, h3⟩ := ih h
      have hl : (frC g).length = 4 := rfl
      refine ⟨?_, ?_, ?_, ?_⟩
      · rw [List.getElem?_append_right (by omega), show 4 * (j + 1) - (frC g).length = 4 * j by omega]; exact h0
      · rw [List.getElem?_append_right (by omega), show 4 * (j + 1) + 1 - (frC g).length = 4 * j + 1 by omega]; exact h1
      · rw [List.getElem?_append_right (by omega), show 4 * (j + 1) + 2 - (frC g).length = 4 * j + 2 by omega]; exact h2
      · rw [List.getElem?_append_right (by omega), show 4 * (j + 1) + 3 - (frC g).length = 4 * j + 3 by omega]; exact h3
theorem add_off (g j : Nat) : (⟨g, 0, none⟩ : Addr).add j = ⟨g, j, none⟩ := by
  unfold Addr.add; split
  · rename_i h; rw [h]
  · simp
/-- Rows that lie: the frames at g, the numbers at h. -/
structure Lay (g : Nat) (F : List Fr) (h : Nat) (N : List Nat) (w : World) : Prop where
  fr : ∀ j f, F[j]? = some f → w.cell? ⟨g, j * 4, none⟩ = some (.int .i64 (f.kind : Int)) ∧ w.cell? ⟨g, j * 4 + 1, none⟩ = some (.int .i64 (f.num : Int)) ∧ w.cell? ⟨g, j * 4 + 2, none⟩ = some (.int .i64 (f.at' : Int)) ∧ w.cell? ⟨g, j * 4 + 3, none⟩ = some (.string (S f.body))
  nu : ∀ (j n : Nat), N[j]? = some n → w.cell? ⟨h, j, none⟩ = some (.int .i64 (n : Int))
  lt1 : g < w.heap.size
  lt2 : h < w.heap.size
theorem Lay.on {g h : Nat} {F : List Fr} {N : List Nat} {w w' : World} (l : Lay g F h N w) (hb : Below w.heap.size w w') : Lay g F h N w' :=
  ⟨fun j f hf => by
    obtain ⟨h0, h1, h2, h3⟩ := l.fr j f hf
    rw [hb.cell (p := ⟨g, j * 4, none⟩) l.lt1, hb.cell (p := ⟨g, j * 4 + 1, none⟩) l.lt1, hb.cell (p := ⟨g, j * 4 + 2, none⟩) l.lt1, hb.cell (p := ⟨g, j * 4 + 3, none⟩) l.lt1]
    exact ⟨h0, h1, h2, h3⟩, fun j n hn => by rw [hb.cell (p := ⟨h, j, none⟩) l.lt2]; exact l.nu j n hn, Nat.lt_of_lt_of_le l.lt1 hb.size, Nat.lt_of_lt_of_le l.lt2 hb.size⟩
theorem Two.lay {B : Nat} {v3 v4 : Value} {F : List Fr} {N : List Nat} {w : World} (h : Two B v3 F v4 N w) (hF : F ≠ []) (hN : N ≠ []) :
    ∃ g h c d, v3 = .slice (some ⟨g, 0, none⟩) F.length c ∧ v4 = .slice (some ⟨h, 0, none⟩) N.length d ∧ Lay g F h N w := by
  rcases h.a.2 with ⟨rfl, h0⟩ | ⟨g, cap, cur, rfl, hg⟩
  · exact absurd (List.eq_nil_of_length_eq_zero h0) hF
  rcases h.b.2 with ⟨rfl, h0⟩ | ⟨g2, cap2, cur2, rfl, hg2⟩
  · exact absurd (List.eq_nil_of_length_eq_zero h0) hN
  refine ⟨g, g2, cap, cap2, rfl, rfl, fun j f hf => ?_, fun j n hn => ?_, (h.a.lt g rfl).2, (h.b.lt g2 rfl).2⟩
  · obtain ⟨h0, h1, h2, h3⟩ := frCs_at hf
    have c := h.a.cells (g := g) rfl
    rw [Nat.mul_comm j 4]
    refine ⟨?_, ?_, ?_, ?_⟩
    · rw [← add_off]; exact c _ _ h0
    · rw [← add_off]; exact c _ _ h1
    · rw [← add_off]; exact c _ _ h2
    · rw [← add_off]; exact c _ _ h3
  · have c := h.b.cells (g := g2) rfl
    rw [← add_off]
    exact c _ _ (by simp [inC, hn])
end Go.Proofs.Ytkdmicpfinjpgaa
