/- Plain: how many numbers pieces have; SpanCounts. -/
import Derived.Test.YtoikjkcnekkehaaDoorWj
namespace Go.Proofs.YtoikjkcnekkehaaDoor
open Go.RowKit

def sumI : List Rg → Int
  | [] => 0
  | p :: r => (p.2 - p.1 + 1) + sumI r
theorem sumI_snoc (l : List Rg) (p : Rg) : sumI (l ++ [p]) = sumI l + (p.2 - p.1 + 1) := by
  induction l with
  | nil => simp [sumI]
  | cons q r ih => simp only [List.cons_append, sumI, ih]; omega
theorem sumI_take (l : List Rg) (k : Nat) (hk : k < l.length) : sumI (l.take (k + 1)) = sumI (l.take k) + ((l.getD k (0, 0)).2 - (l.getD k (0, 0)).1 + 1) := by
  rw [take_snocR l k hk, sumI_snoc]
/-- The numbers of a piece. -/
def numsP (p : Rg) : List Int := (List.range (p.2 - p.1 + 1).toNat).map fun i : Nat => p.1 + (i : Int)
theorem numsP_mem (p : Rg) (n : Int) : n ∈ numsP p ↔ p.1 ≤ n ∧ n ≤ p.2 := by
  unfold numsP
  constructor
  · intro h
    obtain ⟨i, hi, rfl⟩ := List.mem_map.1 h
    have := List.mem_range.1 hi
    omega
  · intro h
    exact List.mem_map.2 ⟨(n - p.1).toNat, List.mem_range.2 (by omega), by omega⟩
theorem nodup_map_inj {f : Nat → Int} (hf : ∀ a b, f a = f b → a = b) : ∀ {l : List Nat}, l.Nodup → (l.map f).Nodup
  | [], _ => by simp
  | a :: r, h => by
    rw [List.nodup_cons] at h
    rw [List.map_cons, List.nodup_cons]
    refine ⟨fun hm => ?_, nodup_map_inj hf h.2⟩
    obtain ⟨b, hb, e⟩ := List.mem_map.1 hm
    rw [hf b a e] at hb
    exact h.1 hb
theorem numsP_nodup (p : Rg) : (numsP p).Nodup := nodup_map_inj (fun a b h => by omega) List.nodup_range
def nums : List Rg → List Int
  | [] => []
  | p :: r => numsP p ++ nums r
theorem nums_mem : ∀ (l : List Rg) (n : Int), n ∈ nums l ↔ cov l n
  | [], n => by simp [nums, cov_nil]
  | p :: r, n => by rw [nums, List.mem_append, numsP_mem, nums_mem r n, cov_cons]
theorem nums_nodup : ∀ {l : List Rg} {m : Int}, canonF m l → (nums l).Nodup
  | [], _, _ => by simp [nums]
  | p :: r, m, ⟨a, b, c⟩ => by
    rw [nums, List.nodup_append]
    refine ⟨numsP_nodup p, nums_nodup c, fun x hx y hy e => ?_⟩
    subst e
    have h1 := (numsP_mem p x).1 hx
    have h2 := canonF_gt c ((nums_mem r x).1 hy)
    omega
theorem nums_length : ∀ {l : List Rg} {m : Int}, canonF m l → ((nums l).length : Int) = sumI l
  | [], _, _ => rfl
  | p :: r, m, ⟨a, b, c⟩ => by
    have := nums_length c
    rw [nums, List.length_append, sumI, ← this]
    unfold numsP
    rw [List.length_map, List.length_range]
    omega
theorem length_le_of_sub : ∀ {a b : List Int}, a.Nodup → (∀ x ∈ a, x ∈ b) → a.length ≤ b.length
  | [], _, _, _ => by simp
  | x :: r, b, hn, h => by
    rw [List.nodup_cons] at hn
    have hx := h x List.mem_cons_self
    obtain ⟨b1, b2, rfl⟩ := List.append_of_mem hx
    have ih := length_le_of_sub (a := r) (b := b1 ++ b2) hn.2 (fun y hy => by
      have := h y (List.mem_cons_of_mem _ hy)
      rcases List.mem_append.1 this with h1 | h1
      · exact List.mem_append_left _ h1
      · rcases List.mem_cons.1 h1 with h2 | h2
        · subst h2; exact absurd hy hn.1
        · exact List.mem_append_right _ h2)
    simp only [List.length_append, List.length_cons] at ih ⊢
    omega
theorem length_eq_of_mem {a b : List Int} (ha : a.Nodup) (hb : b.Nodup) (h : ∀ x, x ∈ a ↔ x ∈ b) : a.length = b.length :=
  Nat.le_antisymm (length_le_of_sub ha (fun x hx => (h x).1 hx)) (length_le_of_sub hb (fun x hx => (h x).2 hx))
theorem cov_ones (l : List Int) (n : Int) : cov (ones l) n ↔ n ∈ l ∧ okN n = true := by
  constructor
  · rintro ⟨p, hp, h⟩
    have := ones_mem hp
    have e : p.1 = n := by omega
    rw [← e]
    exact ⟨this.2.2.2, by unfold okN; simp; omega⟩
  · rintro ⟨h1, h2⟩
    exact ⟨(n, n), List.mem_map.2 ⟨n, List.mem_filter.2 ⟨h1, h2⟩, rfl⟩, Int.le_refl _, Int.le_refl _⟩
theorem cov_leastL (l : List Int) (n : Int) : cov (leastL l) n ↔ n ∈ l ∧ okN n = true := by
  unfold leastL
  rw [(okC_tog (fun p hp => by have := ones_mem hp; omega)).2 n, cov_ones]
theorem has_leastL (l : List Int) (n g : Int) (hg : 1 ≤ g) : hasB (leastL l) n g = true ↔ n ∈ l ∧ okN n = true := by
  have hf := leastL_form l
  have hp := okC_parts hf.2
  rw [has_parts _ n g hg, hp.1, hp.2.1, hp.2.2, cov_leastL]
  simp
theorem has_leastL_mem (l : List Int) (n g : Int) (hg : 1 ≤ g) (hn : n ∈ l) : hasB (leastL l) n g = okN n := by
  rw [Bool.eq_iff_iff, has_leastL l n g hg]
  simp [hn]
theorem of_leastL (l : List Int) (h : 1 ≤ lastI l) : ofL (leastL l) l = l.filter okN := by
  unfold ofL
  exact List.filter_congr (fun n hn => has_leastL_mem l n _ h hn)
theorem sum_leastL (l u : List Int) (hu : u.Nodup) (hm : ∀ x, x ∈ u ↔ x ∈ l ∧ okN x = true) : sumI (leastL l) = (u.length : Int) := by
  have hf := leastL_form l
  rw [← nums_length hf.1, length_eq_of_mem (nums_nodup hf.1) hu (fun x => by rw [nums_mem, cov_leastL, hm])]
theorem sumI_bound : ∀ {l : List Rg}, (∀ p ∈ l, 1 ≤ p.1 ∧ p.1 ≤ p.2 ∧ p.2 ≤ 4294967295) → 0 ≤ sumI l ∧ sumI l ≤ 4294967295 * l.length
  | [], _ => by simp [sumI]
  | p :: r, h => by
    have hp := h p List.mem_cons_self
    have ih := sumI_bound (l := r) (fun q hq => h q (List.mem_cons_of_mem _ hq))
    rw [sumI, List.length_cons]
    omega
end Go.Proofs.YtoikjkcnekkehaaDoor
