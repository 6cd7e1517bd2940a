/- Rows of sets and of lists of numbers that grow, and what is kept beside them, whatever is written over. -/
import Derived.Test.YtkclcjnfjielfabDoorZq
import Derived.Test.YtkclcjnfjielfabDoorYr
namespace Go.Proofs.YtkclcjnfjielfabDoor
open Go.RowKit

theorem Tryd.infoIns : (Tryd.prog.info? 26).map (fun i => (i.zero, i.size, i.bytes)) = some (some (.slice none 0 0), 1, 24) := by kernel_rfl
abbrev Fact := Value × (World → Prop)
/-- A fact hangs on its value's block alone. -/
def Stab (p : Fact) : Prop := ∀ w w' : World, w.heap.size ≤ w'.heap.size → (∀ k, p.1.ownBlock = some k → w'.heap[k]? = w.heap[k]?) → p.2 w → p.2 w'
structure Keep (B : Nat) (v3 v4 v5 : Value) (G N F : List Value) (K : List Fact) (w : World) : Prop where
  r3 : w.ownsRow B 25 1 v3 G.length G
  r4 : w.ownsRow B 26 1 v4 N.length N
  r5 : w.ownsRow B 25 1 v5 F.length F
  ap : ApartV v3 v5
  base : B ≤ w.heap.size
  k : ∀ p ∈ K, p.2 w ∧ (∀ k, p.1.ownBlock = some k → B ≤ k ∧ k < w.heap.size) ∧ Stab p
  ka : ∀ p ∈ K, ApartV p.1 v3 ∧ ApartV p.1 v4 ∧ ApartV p.1 v5
  kk : (K.map Prod.fst).Pairwise ApartV
theorem Keep.start {B : Nat} {w : World} (h : B ≤ w.heap.size) : Keep B (.slice none 0 0) (.slice none 0 0) (.slice none 0 0) [] [] [] [] w :=
  ⟨World.ownsRow_nil _ _ _ _, World.ownsRow_nil _ _ _ _, World.ownsRow_nil _ _ _ _, fun k h => by simp [Value.ownBlock] at h, h, fun p hp => (by cases hp), fun p hp => (by cases hp), List.Pairwise.nil⟩
theorem Keep.ap34 {B : Nat} {v3 v4 v5 : Value} {G N F : List Value} {K : List Fact} {w : World} (h : Keep B v3 v4 v5 G N F K w) : ApartV v3 v4 ∧ ApartV v5 v4 := ⟨fun k h1 h2 => type_apart h.r3 h.r4 (by decide) k h1 h2, fun k h1 h2 => type_apart h.r5 h.r4 (by decide) k h1 h2⟩
/-- All blocks of the rows and of what is kept are as they were. -/
theorem Keep.stay {B : Nat} {v3 v4 v5 : Value} {G N F : List Value} {K : List Fact} {w w' : World} (h : Keep B v3 v4 v5 G N F K w) (hs : w.heap.size ≤ w'.heap.size) (hb : ∀ k, B ≤ k → k < w.heap.size → (v3.ownBlock = some k ∨ v4.ownBlock = some k ∨ v5.ownBlock = some k ∨ ∃ p ∈ K, p.1.ownBlock = some k) → w'.heap[k]? = w.heap[k]?) : Keep B v3 v4 v5 G N F K w' := by
  refine ⟨row_on3 h.r3 (fun k hk => hb k (h.r3.lt k hk).1 (h.r3.lt k hk).2 (.inl hk)), row_on3 h.r4 (fun k hk => hb k (h.r4.lt k hk).1 (h.r4.lt k hk).2 (.inr (.inl hk))), row_on3 h.r5 (fun k hk => hb k (h.r5.lt k hk).1 (h.r5.lt k hk).2 (.inr (.inr (.inl hk)))), h.ap, Nat.le_trans h.base hs, fun p hp => ?_, h.ka, h.kk⟩
  obtain ⟨h1, h2, h3⟩ := h.k p hp
  exact ⟨h3 w w' hs (fun k hk => hb k (h2 k hk).1 (h2 k hk).2 (.inr (.inr (.inr ⟨p, hp, hk⟩)))) h1, fun k hk => ⟨(h2 k hk).1, Nat.lt_of_lt_of_le (h2 k hk).2 hs⟩, h3⟩
theorem Keep.on {B : Nat} {v3 v4 v5 : Value} {G N F : List Value} {K : List Fact} {w w' : World} (h : Keep B v3 v4 v5 G N F K w) (hb : Below w.heap.size w w') : Keep B v3 v4 v5 G N F K w' := h.stay hb.size (fun k _ hk _ => hb.block k hk)
/-- One thing more is kept, made behind all. -/
theorem Keep.add {B : Nat} {v3 v4 v5 : Value} {G N F : List Value} {K : List Fact} {w w' : World} (h : Keep B v3 v4 v5 G N F K w) (hb : Below w.heap.size w w') (p : Fact) (hp : p.2 w') (hl : ∀ k, p.1.ownBlock = some k → w.heap.size ≤ k ∧ k < w'.heap.size) (hst : Stab p) : Keep B v3 v4 v5 G N F (p :: K) w' := by
  have h2 := h.on hb
  have hB := h.base
  refine ⟨h2.r3, h2.r4, h2.r5, h2.ap, h2.base, fun q hq => ?_, fun q hq => ?_, ?_⟩
  · rcases List.mem_cons.1 hq with rfl | hq
    · exact ⟨hp, fun k hk => ⟨Nat.le_trans hB (hl k hk).1, (hl k hk).2⟩, hst⟩
    · exact h2.k q hq
  · rcases List.mem_cons.1 hq with rfl | hq
    · refine ⟨fun k h1 h3 => ?_, fun k h1 h3 => ?_, fun k h1 h3 => ?_⟩
      · have := (hl k h1).1; have := (h.r3.lt k h3).2; omega
      · have := (hl k h1).1; have := (h.r4.lt k h3).2; omega
      · have := (hl k h1).1; have := (h.r5.lt k h3).2; omega
    · exact h2.ka q hq
  · rw [List.map_cons, List.pairwise_cons]
    refine ⟨fun u hu k h1 h3 => ?_, h.kk⟩
    obtain ⟨q, hq, rfl⟩ := List.mem_map.1 hu
    have := (hl k h1).1
    have := ((h.k q hq).2.1 k h3).2
    omega
/-- What is kept is written over, and another fact holds of it. -/
theorem Keep.turn {B : Nat} {v3 v4 v5 v : Value} {G N F : List Value} {K1 K2 : List Fact} {R R' : World → Prop} {w w' : World} (h : Keep B v3 v4 v5 G N F (K1 ++ (v, R) :: K2) w) (hg : w.grownBy w' v.ownBlock) (hR : R' w') (hst : Stab (v, R')) : Keep B v3 v4 v5 G N F (K1 ++ (v, R') :: K2) w' := by
  have hmem : (v, R) ∈ K1 ++ (v, R) :: K2 := by simp
  have hpw := h.kk
  rw [List.map_append, List.map_cons, List.pairwise_append] at hpw
  obtain ⟨_, hp2, hp3⟩ := hpw
  rw [List.pairwise_cons] at hp2
  have far : ∀ k, k < w.heap.size → v.ownBlock ≠ some k → w'.heap[k]? = w.heap[k]? := fun k hk hn => hg.block k hk (fun e => hn e.symm)
  have hka := h.ka _ hmem
  have other : ∀ p ∈ K1 ++ K2, ApartV p.1 v := fun p hp => by
    rcases List.mem_append.1 hp with hp | hp
    · exact hp3 p.1 (List.mem_map.2 ⟨p, hp, rfl⟩) v (by simp)
    · exact ApartV.symm (hp2.1 p.1 (List.mem_map.2 ⟨p, hp, rfl⟩))
  have old : ∀ p ∈ K1 ++ K2, p.2 w' ∧ (∀ k, p.1.ownBlock = some k → B ≤ k ∧ k < w'.heap.size) ∧ Stab p := fun p hp => by
    have hp' : p ∈ K1 ++ (v, R) :: K2 := by
      rcases List.mem_append.1 hp with hp | hp
      · exact List.mem_append_left _ hp
      · exact List.mem_append_right _ (List.mem_cons_of_mem _ hp)
    obtain ⟨h1, h2, h3⟩ := h.k p hp'
    exact ⟨h3 w w' hg.size (fun k hk => far k (h2 k hk).2 (fun e => other p hp k hk e)) h1, fun k hk => ⟨(h2 k hk).1, Nat.lt_of_lt_of_le (h2 k hk).2 hg.size⟩, h3⟩
  have hown := (h.k _ hmem).2.1
  refine ⟨row_on3 h.r3 (fun k hk => far k (h.r3.lt k hk).2 (fun e => hka.1 k e hk)), row_on3 h.r4 (fun k hk => far k (h.r4.lt k hk).2 (fun e => hka.2.1 k e hk)), row_on3 h.r5 (fun k hk => far k (h.r5.lt k hk).2 (fun e => hka.2.2 k e hk)), h.ap, Nat.le_trans h.base hg.size, fun p hp => ?_, fun p hp => ?_, ?_⟩
  · rcases List.mem_append.1 hp with hp | hp
    · exact old p (List.mem_append_left _ hp)
    · rcases List.mem_cons.1 hp with rfl | hp
      · exact ⟨hR, fun k hk => ⟨(hown k hk).1, Nat.lt_of_lt_of_le (hown k hk).2 hg.size⟩, hst⟩
      · exact old p (List.mem_append_right _ hp)
  · rcases List.mem_append.1 hp with hp | hp
    · exact h.ka p (List.mem_append_left _ hp)
    · rcases List.mem_cons.1 hp with rfl | hp
      · exact hka
      · exact h.ka p (List.mem_append_right _ (List.mem_cons_of_mem _ hp))
  · have := h.kk
    rw [List.map_append, List.map_cons] at this ⊢
    exact this
/-- A row has grown. -/
theorem Keep.grew3 {B : Nat} {v3 v4 v5 v' : Value} {G G' N F : List Value} {K : List Fact} {w w' : World} (h : Keep B v3 v4 v5 G N F K w) (ho : w'.ownsRow B 25 1 v' G'.length G') (hg : w.grownBy w' v3.ownBlock) (hat : ∀ k, v'.ownBlock = some k → v3.ownBlock = some k ∨ w.heap.size ≤ k) : Keep B v' v4 v5 G' N F K w' := by
  have far : ∀ k, k < w.heap.size → v3.ownBlock ≠ some k → w'.heap[k]? = w.heap[k]? := fun k hk hn => hg.block k hk (fun e => hn e.symm)
  refine ⟨ho, row_on3 h.r4 (fun k hk => far k (h.r4.lt k hk).2 (fun e => h.ap34.1 k e hk)), row_on3 h.r5 (fun k hk => far k (h.r5.lt k hk).2 (fun e => h.ap k e hk)), fun k h1 h2 => ?_, Nat.le_trans h.base hg.size, fun p hp => ?_, fun p hp => ⟨fun k h1 h2 => ?_, (h.ka p hp).2⟩, h.kk⟩
  · rcases hat k h1 with h3 | h3
    · exact h.ap k h3 h2
    · have := (h.r5.lt k h2).2; omega
  · obtain ⟨h1, h2, h3⟩ := h.k p hp
    exact ⟨h3 w w' hg.size (fun k hk => far k (h2 k hk).2 (fun e => (h.ka p hp).1 k hk e)) h1, fun k hk => ⟨(h2 k hk).1, Nat.lt_of_lt_of_le (h2 k hk).2 hg.size⟩, h3⟩
  · rcases hat k h2 with h3 | h3
    · exact (h.ka p hp).1 k h1 h3
    · have := ((h.k p hp).2.1 k h1).2; omega
theorem Keep.swap {B : Nat} {v3 v4 v5 : Value} {G N F : List Value} {K : List Fact} {w : World} (h : Keep B v3 v4 v5 G N F K w) : Keep B v5 v4 v3 F N G K w := ⟨h.r5, h.r4, h.r3, ApartV.symm h.ap, h.base, h.k, fun p hp => ⟨(h.ka p hp).2.2, (h.ka p hp).2.1, (h.ka p hp).1⟩, h.kk⟩
theorem Keep.grew4 {B : Nat} {v3 v4 v5 v' : Value} {G N N' F : List Value} {K : List Fact} {w w' : World} (h : Keep B v3 v4 v5 G N F K w) (ho : w'.ownsRow B 26 1 v' N'.length N') (hg : w.grownBy w' v4.ownBlock) (hat : ∀ k, v'.ownBlock = some k → v4.ownBlock = some k ∨ w.heap.size ≤ k) : Keep B v3 v' v5 G N' F K w' := by
  have far : ∀ k, k < w.heap.size → v4.ownBlock ≠ some k → w'.heap[k]? = w.heap[k]? := fun k hk hn => hg.block k hk (fun e => hn e.symm)
  refine ⟨row_on3 h.r3 (fun k hk => far k (h.r3.lt k hk).2 (fun e => h.ap34.1 k hk e)), ho, row_on3 h.r5 (fun k hk => far k (h.r5.lt k hk).2 (fun e => h.ap34.2 k hk e)), h.ap, Nat.le_trans h.base hg.size, fun p hp => ?_, fun p hp => ⟨(h.ka p hp).1, fun k h1 h2 => ?_, (h.ka p hp).2.2⟩, h.kk⟩
  · obtain ⟨h1, h2, h3⟩ := h.k p hp
    exact ⟨h3 w w' hg.size (fun k hk => far k (h2 k hk).2 (fun e => (h.ka p hp).2.1 k hk e)) h1, fun k hk => ⟨(h2 k hk).1, Nat.lt_of_lt_of_le (h2 k hk).2 hg.size⟩, h3⟩
  · rcases hat k h2 with h3 | h3
    · exact (h.ka p hp).2.1 k h1 h3
    · have := ((h.k p hp).2.1 k h1).2; omega
/-- Facts that hang on their value's block. -/
def ownF (B : Nat) (v : Value) (l : List Rg) : World → Prop := fun w => w.ownsRow B 63 2 v l.length (rc l)
def ownIF (B : Nat) (v : Value) (l : List Int) : World → Prop := fun w => w.ownsRow B 3 1 v l.length (ic l)
theorem stab_own (B : Nat) (v : Value) (l : List Rg) : Stab (v, ownF B v l) := fun _ _ _ hb h => row_on3 h hb
theorem stab_ownI (B : Nat) (v : Value) (l : List Int) : Stab (v, ownIF B v l) := fun _ _ _ hb h => row_on3 h hb
theorem stab_mark (v : Value) (m : Int) : Stab (v, fun w => MarkR w v m) := fun w w' hs hb h => by
  rcases h with h | ⟨g, n, cap, rfl, h1, h2, h3, h4⟩
  · exact .inl h
  · refine .inr ⟨g, n, cap, rfl, h1, h2, Nat.lt_of_lt_of_le h3 hs, fun i hi hi4 => ?_⟩
    rw [heap_cell (hb g rfl), heap_cell (hb g rfl)]
    exact h4 i hi hi4
theorem stab_markI (v : Value) (m : Int) : Stab (v, fun w => MarkI w v m) := fun w w' hs hb h => by
  rcases h with h | ⟨g, n, cap, rfl, h1, h2, h3, h4⟩
  · exact .inl h
  · refine .inr ⟨g, n, cap, rfl, h1, h2, Nat.lt_of_lt_of_le h3 hs, fun i hi hi4 => ?_⟩
    rw [heap_cell (hb g rfl)]
    exact h4 i hi hi4
theorem Keep.addR {B : Nat} {v3 v4 v5 u : Value} {l : List Rg} {G N F : List Value} {K : List Fact} {w w' W1 : World} (h : Keep B v3 v4 v5 G N F K w) (hb : Below w.heap.size w w') (ho : OwnR w.heap.size u l W1 w') : Keep B v3 v4 v5 G N F ((u, ownF 0 u l) :: K) w' :=
  h.add hb _ (show w'.ownsRow 0 63 2 u l.length (rc l) from (ho.mono (Nat.zero_le _)).row) (fun k hk => ho.row.lt k hk) (stab_own 0 u l)
theorem Keep.addI {B : Nat} {v3 v4 v5 u : Value} {l : List Int} {G N F : List Value} {K : List Fact} {w w' W1 : World} (h : Keep B v3 v4 v5 G N F K w) (hb : Below w.heap.size w w') (ho : OwnI w.heap.size u l W1 w') : Keep B v3 v4 v5 G N F ((u, ownIF 0 u l) :: K) w' :=
  h.add hb _ (show w'.ownsRow 0 3 1 u l.length (ic l) from (ho.mono (Nat.zero_le _)).row) (fun k hk => ho.row.lt k hk) (stab_ownI 0 u l)
theorem ownF.rgs {v : Value} {l : List Rg} {w : World} (h : ownF 0 v l w) (hl : l.length ≤ 8796093022208) : Rgs w v l := row_rgs h rfl hl
theorem ownIF.ints {v : Value} {l : List Int} {w : World} (h : ownIF 0 v l w) (hl : l.length ≤ 17592186044416) : Ints w v l := row_ints h rfl hl
end Go.Proofs.YtkclcjnfjielfabDoor
