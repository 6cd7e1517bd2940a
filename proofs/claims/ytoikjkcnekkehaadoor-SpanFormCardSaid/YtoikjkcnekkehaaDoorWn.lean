/- Parts of a set; what SpanForm asks, plain. -/
import Derived.Test.YtoikjkcnekkehaaDoorWj
namespace Go.Proofs.YtoikjkcnekkehaaDoor
open Go.RowKit

theorem getD_take (l : List Rg) (k i : Nat) (hi : i < k) : (l.take k).getD i (0, 0) = l.getD i (0, 0) := by
  rw [List.getD_eq_getElem?_getD, List.getD_eq_getElem?_getD, List.getElem?_take_of_lt hi]
theorem getD_drop (l : List Rg) (k i : Nat) : (l.drop k).getD i (0, 0) = l.getD (k + i) (0, 0) := by
  rw [List.getD_eq_getElem?_getD, List.getD_eq_getElem?_getD, List.getElem?_drop]
/-- What lies of a set that Go code has made. -/
theorem OwnR.lies {B : Nat} {v : Value} {l : List Rg} {W0 w : World} (h : OwnR B v l W0 w) :
    (v = .slice none 0 0 ∧ l = []) ∨ ∃ g cap, v = .slice (some ⟨g, 0, none⟩) l.length cap ∧ l.length ≤ cap ∧ cap ≤ maxLen ∧ g < w.heap.size ∧ ∀ i, i < l.length → w.cell? ⟨g, i * 2, none⟩ = some (.int .i64 (l.getD i (0, 0)).1) ∧ w.cell? ⟨g, i * 2 + 1, none⟩ = some (.int .i64 (l.getD i (0, 0)).2) := by
  rcases h.row.2 with ⟨hv, h0⟩ | ⟨g, cap, cur, rfl, hB, hg, hc, hm, _⟩
  · exact .inl ⟨hv, List.eq_nil_of_length_eq_zero h0⟩
  · refine .inr ⟨g, cap, rfl, hc, hm, (Array.getElem?_eq_some_iff.1 hg).1, fun i hi => ?_⟩
    have := rc_at l i hi
    have c1 := h.row.cells (g := g) rfl (i * 2) _ this.1
    have c2 := h.row.cells (g := g) rfl (i * 2 + 1) _ this.2
    rw [Addr.add_lit, Nat.zero_add] at c1 c2
    exact ⟨c1, c2⟩
theorem Rgs.hi {w : World} {g cap k : Nat} {l : List Rg} (hg : g < w.heap.size) (hk : k ≤ l.length) (hl : l.length ≤ 8796093022208)
    (h : ∀ i, i < l.length → w.cell? ⟨g, i * 2, none⟩ = some (.int .i64 (l.getD i (0, 0)).1) ∧ w.cell? ⟨g, i * 2 + 1, none⟩ = some (.int .i64 (l.getD i (0, 0)).2)) :
    Rgs w (.slice (some ⟨g, 0, none⟩) k cap) (l.take k) := by
  have e : (l.take k).length = k := by rw [List.length_take]; omega
  refine .inr ⟨g, 0, cap, by rw [e], by omega, hg, fun i hi => ?_⟩
  rw [e] at hi
  rw [getD_take l k i hi]
  have := h i (by omega)
  rw [Nat.zero_add]
  exact this
theorem Rgs.lo {w : World} {g cap k N : Nat} {l : List Rg} (hg : g < w.heap.size) (hk : k ≤ l.length) (hl : l.length ≤ 8796093022208)
    (h : ∀ i, i < l.length → w.cell? ⟨g, i * 2, none⟩ = some (.int .i64 (l.getD i (0, 0)).1) ∧ w.cell? ⟨g, i * 2 + 1, none⟩ = some (.int .i64 (l.getD i (0, 0)).2)) (hN : N = l.length - k) :
    Rgs w (.slice (some ⟨g, k * 2, none⟩) N cap) (l.drop k) := by
  have e : (l.drop k).length = N := by rw [List.length_drop, hN]
  refine .inr ⟨g, k * 2, cap, by rw [e], by omega, hg, fun i hi => ?_⟩
  rw [e] at hi
  rw [getD_drop l k i]
  have := h (k + i) (by omega)
  have e1 : k * 2 + i * 2 = (k + i) * 2 := by omega
  rw [e1]
  exact this
theorem litS1 (w : World) (N : Nat) (v1 : Value) (l1 : List Rg) (t : TypeId) (h1 : Rgs w v1 l1) (hN : N = w.heap.size) : Sets (w.alloc (.cells #[v1] t)) (.slice (some ⟨N, 0, none⟩) 1 1) [l1] := by
  subst hN
  refine .inr ⟨w.heap.size, 0, 1, fun i => v1, rfl, by simp, by simp, fun i hi => ?_⟩
  have hb : Below w.heap.size w (w.alloc (.cells #[v1] t)) := (Below.refl _ _).alloc (Nat.le_refl _) _
  have : i = 0 := by simp at hi; omega
  subst this
  exact ⟨by simp, h1.on hb⟩
theorem litS3 (w : World) (N : Nat) (v1 v2 v3 : Value) (l1 l2 l3 : List Rg) (t : TypeId) (h1 : Rgs w v1 l1) (h2 : Rgs w v2 l2) (h3 : Rgs w v3 l3) (hN : N = w.heap.size) : Sets (w.alloc (.cells #[v1, v2, v3] t)) (.slice (some ⟨N, 0, none⟩) 3 3) [l1, l2, l3] := by
  subst hN
  refine .inr ⟨w.heap.size, 0, 3, fun i => if i = 0 then v1 else if i = 1 then v2 else v3, rfl, by simp, by simp, fun i hi => ?_⟩
  have hb : Below w.heap.size w (w.alloc (.cells #[v1, v2, v3] t)) := (Below.refl _ _).alloc (Nat.le_refl _) _
  have : i = 0 ∨ i = 1 ∨ i = 2 := by simp at hi; omega
  rcases this with rfl | rfl | rfl
  · exact ⟨by simp, h1.on hb⟩
  · exact ⟨by simp, h2.on hb⟩
  · exact ⟨by simp, h3.on hb⟩
theorem Rgs.zero {w : World} {a : Addr} {cap : Nat} {l : List Rg} (h : l = []) : Rgs w (.slice (some a) 0 cap) l := .inl ⟨h, some a, cap, rfl, fun h => by cases h⟩
theorem Rgs.nil (w : World) : Rgs w (.slice none 0 0) [] := .inl ⟨rfl, none, 0, rfl, fun _ => rfl⟩
theorem join_one {r : List Rg} (hr : JForm r) : joinL [r] = r :=
  joinL_stays hr (by simp) (by simp) (by simp)
theorem join_parts {r : List Rg} (hr : JForm r) (c : Nat) : joinL [r.drop c, [], r.take c] = r := by
  have e : ([r.drop c, [], r.take c] : List (List Rg)).flatten = r.drop c ++ r.take c := by simp
  have hm : ∀ p, p ∈ r.drop c ++ r.take c ↔ p ∈ r := fun p => by
    have h : p ∈ r.take c ++ r.drop c ↔ p ∈ r := by rw [List.take_append_drop]
    rw [← h, List.mem_append, List.mem_append, or_comm]
  have hf : ∀ {β : Type} (f : Rg → Option β) (b : β), b ∈ (r.drop c ++ r.take c).filterMap f ↔ b ∈ r.filterMap f := fun f b => by
    rw [List.mem_filterMap, List.mem_filterMap]
    constructor
    · rintro ⟨p, hp, h⟩; exact ⟨p, (hm p).1 hp, h⟩
    · rintro ⟨p, hp, h⟩; exact ⟨p, (hm p).2 hp, h⟩
  refine joinL_stays hr ?_ ?_ ?_
  · intro n; rw [e]; exact cov_mem (fun p => hf plainO p) n
  · intro k; rw [e]; exact hf besideO k
  · rw [e, Bool.eq_iff_iff, List.any_eq_true, List.any_eq_true]
    constructor
    · rintro ⟨p, hp, h⟩; exact ⟨p, (hm p).1 hp, h⟩
    · rintro ⟨p, hp, h⟩; exact ⟨p, (hm p).2 hp, h⟩
/-- A form, by its last piece. -/
theorem JForm.last {r : List Rg} (hr : JForm r) : okC r ∨ ∃ m, r.length = m + 1 ∧ (r.getD m (0, 0)).2 = 0 ∧ 0 ≤ (r.getD m (0, 0)).1 ∧ okC (r.take m) := by
  cases hr with
  | plain c h => exact .inl h
  | star c h => exact .inr ⟨c.length, by simp, by simp, by simp, by simpa using h⟩
  | beside c a h h1 h2 => exact .inr ⟨c.length, by simp, by simp, by simp; omega, by simpa using h⟩
theorem okC_nil : okC [] := ⟨by simp [canonF], by simp⟩
theorem okC.last {r : List Rg} (h : okC r) (m : Nat) (hm : m < r.length) : (r.getD m (0, 0)).2 ≠ 0 := by
  have : r.getD m (0, 0) ∈ r := by rw [List.getD_eq_getElem?_getD, List.getElem?_eq_getElem hm]; exact List.getElem_mem hm
  have := h.2 _ this
  omega
end Go.Proofs.YtoikjkcnekkehaaDoor
