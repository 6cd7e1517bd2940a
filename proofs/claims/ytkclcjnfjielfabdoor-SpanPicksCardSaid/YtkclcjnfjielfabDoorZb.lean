/- Rows of lists of numbers that grow beside a desk with two places. -/
import Derived.Test.YtkclcjnfjielfabDoorYr
import Derived.Test.YtkclcjnfjielfabDoorYk
namespace Go.Proofs.YtkclcjnfjielfabDoor
open Go.RowKit

theorem Tryd.infoIns : (Tryd.prog.info? 26).map (fun i => (i.zero, i.size, i.bytes)) = some (some (.slice none 0 0), 1, 24) := by kernel_rfl
structure TwoJ (B : Nat) (v3 : Value) (G : List Value) (v4 : Value) (T : List Value) (K : List (Value × List Int)) (W0 w : World) : Prop where
  a : w.ownsRow B 26 1 v3 G.length G
  b : w.ownsRow B 26 1 v4 T.length T
  d : ApartV v3 v4
  below : Below B W0 w
  base : B ≤ w.heap.size
  k : ∀ p ∈ K, Ints w p.1 p.2 ∧ ApartV p.1 v3 ∧ ApartV p.1 v4 ∧ ∀ k, p.1.ownBlock = some k → k < w.heap.size
theorem TwoJ.swap {B : Nat} {v3 v4 : Value} {G T : List Value} {K : List (Value × List Int)} {W0 w : World} (h : TwoJ B v3 G v4 T K W0 w) : TwoJ B v4 T v3 G K W0 w :=
  ⟨h.b, h.a, h.d.symm, h.below, h.base, fun p hp => ⟨(h.k p hp).1, (h.k p hp).2.2.1, (h.k p hp).2.1, (h.k p hp).2.2.2⟩⟩
theorem row_onJ {B : Nat} {v : Value} {G : List Value} {n : Nat} {w w' : World} (h : w.ownsRow B 26 1 v n G) (hb : Below w.heap.size w w') : w'.ownsRow B 26 1 v n G := by
  refine ⟨h.1, ?_⟩
  rcases h.2 with hn | ⟨g, cap, cur, rfl, hB, hg, rest⟩
  · exact .inl hn
  · exact .inr ⟨g, cap, cur, rfl, hB, by rw [hb.block g (Array.getElem?_eq_some_iff.1 hg).1]; exact hg, rest⟩
theorem TwoJ.on {B : Nat} {v3 v4 : Value} {G T : List Value} {K : List (Value × List Int)} {W0 w w' : World} (h : TwoJ B v3 G v4 T K W0 w) (hb : Below w.heap.size w w') : TwoJ B v3 G v4 T K W0 w' :=
  ⟨row_onJ h.a hb, row_onJ h.b hb, h.d, h.below.trans (hb.mono h.base), Nat.le_trans h.base hb.size, fun p hp => ⟨(h.k p hp).1.on hb, (h.k p hp).2.1, (h.k p hp).2.2.1, fun k hk => Nat.lt_of_lt_of_le ((h.k p hp).2.2.2 k hk) hb.size⟩⟩
theorem TwoJ.nil {B : Nat} {W0 w : World} (h : Below B W0 w) (hB : B ≤ w.heap.size) : TwoJ B (.slice none 0 0) [] (.slice none 0 0) [] [] W0 w :=
  ⟨World.ownsRow_nil _ _ _ _, World.ownsRow_nil _ _ _ _, fun k h => by simp [Value.ownBlock] at h, h, hB, fun p hp => by cases hp⟩
/-- A set that was made behind the rows is kept. -/
theorem TwoJ.keep {B : Nat} {v3 v4 u : Value} {l : List Int} {G T : List Value} {K : List (Value × List Int)} {W0 w w' W1 : World} (h : TwoJ B v3 G v4 T K W0 w) (ho : OwnI w.heap.size u l W1 w') (hb : Below w.heap.size w w') (hl : l.length ≤ 17592186044416) : TwoJ B v3 G v4 T ((u, l) :: K) W0 w' := by
  have h2 := h.on hb
  refine ⟨h2.a, h2.b, h2.d, h2.below, h2.base, fun p hp => ?_⟩
  rcases List.mem_cons.1 hp with rfl | hp
  · refine ⟨ho.ints hl, fun k h1 h3 => ?_, fun k h1 h3 => ?_, fun k h1 => (ho.row.lt k h1).2⟩
    · have := (ho.row.lt k h1).1
      have := (h.a.lt k h3).2
      omega
    · have := (ho.row.lt k h1).1
      have := (h.b.lt k h3).2
      omega
  · exact h2.k p hp
theorem Ints.far {w w' : World} {u : Value} {l : List Int} {row : Option Nat} (h : Ints w u l) (hg : w.grownBy w' row) (hne : ∀ k, u.ownBlock = some k → row ≠ some k) : Ints w' u l := by
  rcases h with h | ⟨b, off, cap, rfl, h0, h1, h2⟩
  · exact .inl h
  · have hn : some b ≠ row := fun e => hne b rfl e.symm
    refine .inr ⟨b, off, cap, rfl, h0, Nat.lt_of_lt_of_le h1 hg.size, fun i hi => ?_⟩
    rw [hg.cell_far ⟨b, off + i, none⟩ h1 hn]
    exact h2 i hi
/-- Two rows of sets, sets kept beside them, and a desk's place (its block) that none of them is. -/
structure TwoE (D : Nat) (vs vd : Option Nat) (v4 : Value) (G : List Value) (v5 : Value) (T : List Value) (K : List (Value × List Int)) (w : World) : Prop where
  two : TwoJ (D + 1) v4 G v5 T K w w
  lo : ∀ p ∈ K, ∀ k, p.1.ownBlock = some k → D + 1 ≤ k
  pl : ∀ k, (vs = some k ∨ vd = some k) → (∃ p ∈ K, p.1.ownBlock = some k) ∧ ∀ p ∈ K, p.2 ≠ [] → p.1.ownBlock ≠ some k
theorem TwoJ.self {B : Nat} {v3 v4 : Value} {G T : List Value} {K : List (Value × List Int)} {W0 w : World} (h : TwoJ B v3 G v4 T K W0 w) : TwoJ B v3 G v4 T K w w := ⟨h.a, h.b, h.d, Below.refl _ _, h.base, h.k⟩
theorem TwoE.on {D : Nat} {vs vd : Option Nat} {v4 v5 : Value} {G T : List Value} {K : List (Value × List Int)} {w w' : World} (h : TwoE D vs vd v4 G v5 T K w) (hb : Below w.heap.size w w') : TwoE D vs vd v4 G v5 T K w' := ⟨(h.two.on hb).self, h.lo, h.pl⟩
theorem TwoE.start {D : Nat} {w : World} (hD : D < w.heap.size) : TwoE D none none (.slice none 0 0) [] (.slice none 0 0) [] [] w := ⟨TwoJ.nil (Below.refl _ _) hD, fun p hp => (by cases hp), fun k h => by rcases h with h | h <;> cases h⟩
theorem TwoE.keep {D : Nat} {vs vd : Option Nat} {v4 v5 u : Value} {l : List Int} {G T : List Value} {K : List (Value × List Int)} {w w' W1 : World} (h : TwoE D vs vd v4 G v5 T K w) (ho : OwnI w.heap.size u l W1 w') (hb : Below w.heap.size w w') (hl : l.length ≤ 17592186044416) : TwoE D vs vd v4 G v5 T ((u, l) :: K) w' := by
  refine ⟨(h.two.keep ho hb hl).self, fun p hp k hk => ?_, fun k hk => ?_⟩
  · rcases List.mem_cons.1 hp with rfl | hp
    · have := (ho.row.lt k hk).1
      have := h.two.base
      omega
    · exact h.lo p hp k hk
  · obtain ⟨⟨p, hp, hpk⟩, h2⟩ := h.pl k hk
    refine ⟨⟨p, List.mem_cons_of_mem _ hp, hpk⟩, fun q hq hne hqk => ?_⟩
    rcases List.mem_cons.1 hq with rfl | hq
    · have := (ho.row.lt k hqk).1
      have := (h.two.k p hp).2.2.2 k hpk
      omega
    · exact h2 q hq hne hqk
theorem Ints.empty {w w' : World} {u : Value} (h : Ints w u []) (hs : w.heap.size ≤ w'.heap.size) : Ints w' u [] := by
  rcases h with h | ⟨b, off, cap, rfl, h0, h1, _⟩
  · exact .inl h
  · exact .inr ⟨b, off, cap, rfl, h0, Nat.lt_of_lt_of_le h1 hs, fun i hi => by simp at hi⟩
theorem Ints.same {w w' : World} {u : Value} {l : List Int} (h : Ints w u l) (hs : w.heap.size ≤ w'.heap.size) (hb : ∀ k, u.ownBlock = some k → w'.heap[k]? = w.heap[k]?) : Ints w' u l := by
  rcases h with h | ⟨b, off, cap, rfl, h0, h1, h2⟩
  · exact .inl h
  · refine .inr ⟨b, off, cap, rfl, h0, Nat.lt_of_lt_of_le h1 hs, fun i hi => ?_⟩
    rw [heap_cell (hb b rfl)]
    exact h2 i hi
/-- The desk's place has been written to, or another one was made. -/
theorem TwoE.far {D g : Nat} {vs vd : Option Nat} {v4 v5 : Value} {G T : List Value} {K : List (Value × List Int)} {w w' : World} (h : TwoE D vs vd v4 G v5 T K w) (hsz : w.heap.size ≤ w'.heap.size) (hfa : ∀ k, k < w.heap.size → k ≠ D → vd ≠ some k → w'.heap[k]? = w.heap[k]?) (hat : vd = some g ∨ w.heap.size ≤ g) (hg : g < w'.heap.size) (hgD : D + 1 ≤ g) :
    TwoE D vs (some g) v4 G v5 T ((.slice (some ⟨g, 0, none⟩) 0 1, []) :: K) w' := by
  have row : ∀ v : Value, (∀ k, v.ownBlock = some k → D + 1 ≤ k ∧ k < w.heap.size) → (∀ k, vd = some k → v.ownBlock ≠ some k) → ∀ k, v.ownBlock = some k → w'.heap[k]? = w.heap[k]? := fun v h1 h2 k hk => by
    have := h1 k hk
    exact hfa k this.2 (by omega) (fun e => h2 k e hk)
  have ap4 : ∀ k, vd = some k → v4.ownBlock ≠ some k := fun k hk => by
    obtain ⟨⟨p, hp, hpk⟩, _⟩ := h.pl k (.inr hk)
    exact (h.two.k p hp).2.1 k hpk
  have ap5 : ∀ k, vd = some k → v5.ownBlock ≠ some k := fun k hk => by
    obtain ⟨⟨p, hp, hpk⟩, _⟩ := h.pl k (.inr hk)
    exact (h.two.k p hp).2.2.1 k hpk
  have g4 : v4.ownBlock ≠ some g := fun e => by
    rcases hat with h1 | h1
    · exact ap4 g h1 e
    · have := (h.two.a.lt g e).2; omega
  have g5 : v5.ownBlock ≠ some g := fun e => by
    rcases hat with h1 | h1
    · exact ap5 g h1 e
    · have := (h.two.b.lt g e).2; omega
  refine ⟨⟨row_on3 h.two.a (row v4 (fun k hk => h.two.a.lt k hk) ap4), row_on3 h.two.b (row v5 (fun k hk => h.two.b.lt k hk) ap5), h.two.d, Below.refl _ _, Nat.le_trans h.two.base hsz, fun p hp => ?_⟩, fun p hp k hk => ?_, fun k hk => ?_⟩
  · rcases List.mem_cons.1 hp with rfl | hp
    · have e : ∀ k, (Value.slice (some ⟨g, 0, none⟩) 0 1).ownBlock = some k → k = g := fun k hk => by simp [Value.ownBlock] at hk; exact hk.symm
      refine ⟨.inl ⟨rfl, _, _, rfl, fun h => by cases h⟩, fun k h1 h2 => ?_, fun k h1 h2 => ?_, fun k h1 => ?_⟩
      · exact g4 (by rw [← e k h1]; exact h2)
      · exact g5 (by rw [← e k h1]; exact h2)
      · rw [e k h1]; exact hg
    · obtain ⟨r1, r2, r3, r4⟩ := h.two.k p hp
      refine ⟨?_, r2, r3, fun k hk => Nat.lt_of_lt_of_le (r4 k hk) hsz⟩
      by_cases he : p.2 = []
      · rw [he] at r1 ⊢; exact r1.empty hsz
      · exact r1.same hsz (row p.1 (fun k hk => ⟨h.lo p hp k hk, r4 k hk⟩) (fun k hk => (h.pl k (.inr hk)).2 p hp he))
  · rcases List.mem_cons.1 hp with rfl | hp
    · simp [Value.ownBlock] at hk; omega
    · exact h.lo p hp k hk
  · rcases hk with hk | hk
    · obtain ⟨⟨p, hp, hpk⟩, h2⟩ := h.pl k (.inl hk)
      refine ⟨⟨p, List.mem_cons_of_mem _ hp, hpk⟩, fun q hq hne hqk => ?_⟩
      rcases List.mem_cons.1 hq with rfl | hq
      · exact hne rfl
      · exact h2 q hq hne hqk
    · have e : g = k := Option.some.inj hk
      subst e
      refine ⟨⟨_, List.mem_cons_self, rfl⟩, fun q hq hne hqk => ?_⟩
      rcases List.mem_cons.1 hq with rfl | hq
      · exact hne rfl
      · rcases hat with h1 | h1
        · exact (h.pl g (.inr h1)).2 q hq hne hqk
        · have := (h.two.k q hq).2.2.2 g hqk; omega
theorem TwoE.turn {D : Nat} {vs vd : Option Nat} {v4 v5 : Value} {G T : List Value} {K : List (Value × List Int)} {w : World} (h : TwoE D vs vd v4 G v5 T K w) : TwoE D vd vs v4 G v5 T K w := ⟨h.two, h.lo, fun k hk => h.pl k hk.symm⟩
/-- The second one grows by a set that is kept. -/
theorem appJ2 {ops : Array Oper} {rest : List Oper} {o : Oper} {a : Act} {Q : Exit → Act → World → Prop} (hgd : o.guard = none) (s x : Operand)
    (ho : o.op = .call { callee := .builtin .append, args := #[s, x], argTypes := #[50, 50] })
    {B : Nat} {v3 v4 : Value} {G T : List Value} {K : List (Value × List Int)} {W0 w : World} (ao : Option Addr) (n c : Nat) (h2 : TwoJ B v3 G v4 T K W0 w) (hs : a.eval s = v4) (hx : a.eval x = .slice (some ⟨w.heap.size, 0, none⟩) 1 1)
    (hlen : T.length + 1 ≤ 5864062014805)
    (h : ∀ v' w', TwoJ B v3 G v' (T ++ [.slice ao n c]) K W0 w' → w.grownBy w' v4.ownBlock → wpList Tryd.prog ops Q rest (a.put o.dst v') w') : wpList Tryd.prog ops Q (o :: rest) a (w.alloc (.cells #[.slice ao n c] 26)) := by
  obtain ⟨i0, hi, hz0, hz1, hz2⟩ := info_parts Tryd.infoIns
  have hbA : Below w.heap.size w (w.alloc (.cells #[.slice ao n c] 26)) := (Below.refl _ _).alloc (Nat.le_refl _) _
  have hA := h2.on hbA
  refine wpList_append_lies _ hgd s x 50 ho B 26 i0 (.slice none 0 0) 1 24 Tryd.underlying50 hi hz0 hz1 hz2 rfl (by decide) v4 T.length T hs hA.b ⟨w.heap.size, 0, none⟩ 1 1 [.slice ao n c] hx rfl ?_ ?_ (by decide) (by unfold maxLen; omega) (by omega) hA.base _ rfl ?_
  · intro j u hj
    match j, hj with
    | 0, hj => simp at hj; subst hj; simp [Addr.add]
    | (j + 1), hj => simp at hj
  · intro u hu; simp at hu; subst hu; rfl
  · intro g cap w' ho' hg hat _
    refine h _ w' ⟨hA.a.kept hg ?_, ?_, fun k h4 h5 => ?_, hA.below.grown hg hA.base (fun k hk => (hA.b.lt k hk).1), Nat.le_trans hA.base hg.size, fun p hp => ?_⟩ (gthen (World.grownBy_alloc w _ _) hg (fun j hj => .inr hj))
    · cases h4 : v3.ownBlock with
      | none => exact .inl rfl
      | some k => exact .inr (fun e => hA.d k h4 e.symm)
    · rw [List.length_append]
      exact ho'
    · have e : g = k := by simpa [Value.ownBlock] using h5
      subst e
      rcases hat with h6 | h6
      · exact hA.d g h4 h6
      · have := (hA.a.lt g h4).2
        omega
    · obtain ⟨r1, r2, r3, r4⟩ := hA.k p hp
      refine ⟨r1.far hg r3, r2, fun k h4 h5 => ?_, fun k h4 => Nat.lt_of_lt_of_le (r4 k h4) hg.size⟩
      have e : g = k := by simpa [Value.ownBlock] using h5
      subst e
      rcases hat with h6 | h6
      · exact r3 g h4 h6
      · have := r4 g h4
        omega
theorem TwoE.apart {D : Nat} {vs vd : Option Nat} {v4 v5 : Value} {G T : List Value} {K : List (Value × List Int)} {w : World} (h : TwoE D vs vd v4 G v5 T K w) : (∀ k, v4.ownBlock = some k → D + 1 ≤ k ∧ vs ≠ some k ∧ vd ≠ some k) ∧ (∀ k, v5.ownBlock = some k → D + 1 ≤ k ∧ vs ≠ some k ∧ vd ≠ some k) := by
  have a4 : ∀ k, (vs = some k ∨ vd = some k) → v4.ownBlock ≠ some k := fun k e hk => by
    obtain ⟨⟨p, hp, hpk⟩, _⟩ := h.pl k e
    exact (h.two.k p hp).2.1 k hpk hk
  have a5 : ∀ k, (vs = some k ∨ vd = some k) → v5.ownBlock ≠ some k := fun k e hk => by
    obtain ⟨⟨p, hp, hpk⟩, _⟩ := h.pl k e
    exact (h.two.k p hp).2.2.1 k hpk hk
  exact ⟨fun k hk => ⟨(h.two.a.lt k hk).1, fun e => a4 k (.inl e) hk, fun e => a4 k (.inr e) hk⟩, fun k hk => ⟨(h.two.b.lt k hk).1, fun e => a5 k (.inl e) hk, fun e => a5 k (.inr e) hk⟩⟩
/-- What stands in the rows is kept. -/
def KeptE (k : Nat) (G T : List Value) (K : List (Value × List Int)) : Prop := G.length = k ∧ T.length = k ∧ ∀ j, j < k → ∃ l, (G.getD j (.slice none 0 0), l) ∈ K ∧ (T.getD j (.slice none 0 0), l) ∈ K ∧ l.length ≤ 100000
theorem KeptE.next {k : Nat} {G T : List Value} {K K' : List (Value × List Int)} {x y : Value} {l : List Int} (h : KeptE k G T K) (hl : l.length ≤ 100000) (hx : (x, l) ∈ K') (hy : (y, l) ∈ K') (hK : ∀ p ∈ K, p ∈ K') : KeptE (k + 1) (G ++ [x]) (T ++ [y]) K' := by
  obtain ⟨h1, h2, h3⟩ := h
  refine ⟨by simp [h1], by simp [h2], fun j hj => ?_⟩
  by_cases hjk : j < k
  · obtain ⟨l', m1, m2, m3⟩ := h3 j hjk
    refine ⟨l', ?_, ?_, m3⟩
    · rw [getD_snocW G x j (by omega)]; exact hK _ m1
    · rw [getD_snocW T y j (by omega)]; exact hK _ m2
  · have : j = k := by omega
    subst this
    refine ⟨l, ?_, ?_, hl⟩
    · have := getD_lastW G x
      rw [h1] at this
      rw [this]; exact hx
    · have := getD_lastW T y
      rw [h2] at this
      rw [this]; exact hy
theorem KeptE.more {k : Nat} {G T : List Value} {K : List (Value × List Int)} (h : KeptE k G T K) (p : Value × List Int) : KeptE k G T (p :: K) :=
  ⟨h.1, h.2.1, fun j hj => by obtain ⟨l, m1, m2, m3⟩ := h.2.2 j hj; exact ⟨l, List.mem_cons_of_mem _ m1, List.mem_cons_of_mem _ m2, m3⟩⟩
theorem type_apart {B B' : Nat} {e e' : TypeId} {sz sz' n n' : Nat} {v v' : Value} {xs xs' : List Value} {w : World} (h : w.ownsRow B e sz v n xs) (h' : w.ownsRow B' e' sz' v' n' xs') (hne : e ≠ e') : ∀ k, v.ownBlock = some k → v'.ownBlock ≠ some k := by
  intro k hk hk'
  rcases h.2 with ⟨rfl, _⟩ | ⟨g, cap, cur, rfl, _, hg, _⟩
  · simp [Value.ownBlock] at hk
  · rcases h'.2 with ⟨rfl, _⟩ | ⟨g', cap', cur', rfl, _, hg', _⟩
    · simp [Value.ownBlock] at hk'
    · simp [Value.ownBlock] at hk hk'
      subst hk
      subst hk'
      rw [hg] at hg'
      have h3 := Option.some.inj hg'
      injection h3 with _ h4
      exact hne h4
theorem DeskR.grown {D : Nat} {v : Value} {m : List Rg} {W0 w w' : World} {r : Option Nat} (h : DeskR D v m W0 w) (hg : w.grownBy w' r) (hr : ∀ k, r = some k → D + 1 ≤ k ∧ v.ownBlock ≠ some k) : DeskR D v m W0 w' := by
  have hb := h.base
  have hfar : ∀ k, k < w.heap.size → r ≠ some k → w'.heap[k]? = w.heap[k]? := fun k hk hn => hg.block k hk (fun e => hn e.symm)
  have hD : r ≠ some D := fun e => by have := (hr D e).1; omega
  refine ⟨(heap_cell (hfar D hb hD)).trans h.c0, by rw [hg.frozen_far ⟨D, 0, none⟩ hb (fun e => hD e.symm)]; exact h.f0, row_on3 h.row (fun k hk => hfar k (h.row.lt k hk).2 (fun e => (hr k e).2 hk)), ?_, Nat.lt_of_lt_of_le hb hg.size, h.lm⟩
  exact ⟨hg.os.trans h.below.os, hg.tape.trans h.below.tape, hg.output.trans h.below.output, Nat.le_trans h.below.size hg.size, fun k hk => by
    rw [hfar k (by omega) (fun e => by have := (hr k e).1; omega)]
    exact h.below.block k hk⟩
/-- The other place of the desk stays. -/
theorem DeskI.ranged {D : Nat} {v vs : Value} {m : List Int} {ms l : List Rg} {g n cap : Nat} {W0 w w' : World} (h : DeskI D v m W0 w) (hs : DeskR D vs ms W0 w) (hr : Ranged D vs.ownBlock l g n cap w w') : DeskI D v m W0 w' := by
  have hb := h.base
  refine ⟨(hr.oth 1 (by omega)).trans h.c1, (hr.ofr 1).trans h.f1, row_on3 h.row (fun k hk => ?_), ?_, Nat.lt_of_lt_of_le hb hr.size, h.lm⟩
  · have := h.row.lt k hk
    exact hr.far k this.2 (by omega) (fun e => type_apart h.row hs.row (by decide) k hk e)
  · exact ⟨hr.os.trans h.below.os, hr.tape.trans h.below.tape, hr.output.trans h.below.output, Nat.le_trans h.below.size hr.size, fun k hk => by
      rw [hr.far k (by omega) (by omega) (fun e => by have := (hs.row.lt k e).1; omega)]
      exact h.below.block k hk⟩
theorem DeskR.numbered {D : Nat} {v vl : Value} {m : List Rg} {ml l : List Int} {g n cap : Nat} {W0 w w' : World} (h : DeskR D v m W0 w) (hs : DeskI D vl ml W0 w) (hr : Numbered D vl.ownBlock l g n cap w w') : DeskR D v m W0 w' := by
  have hb := h.base
  refine ⟨(hr.far.oth 0 (by omega)).trans h.c0, (hr.far.ofr 0).trans h.f0, row_on3 h.row (fun k hk => ?_), ?_, Nat.lt_of_lt_of_le hb hr.far.size, h.lm⟩
  · have := h.row.lt k hk
    exact hr.far.far k this.2 (by omega) (fun e => type_apart h.row hs.row (by decide) k hk e)
  · exact ⟨hr.far.os.trans h.below.os, hr.far.tape.trans h.below.tape, hr.far.output.trans h.below.output, Nat.le_trans h.below.size hr.far.size, fun k hk => by
      rw [hr.far.far k (by omega) (by omega) (fun e => by have := (hs.row.lt k e).1; omega)]
      exact h.below.block k hk⟩
theorem OwnI.shpI {B : Nat} {v : Value} {l : List Int} {W0 w : World} (h : OwnI B v l W0 w) : ∃ ao cap, v = .slice ao l.length cap := by
  rcases h.row.2 with ⟨rfl, h0⟩ | ⟨g, cap, cur, rfl, _⟩
  · exact ⟨none, 0, by rw [h0]⟩
  · exact ⟨_, _, rfl⟩
end Go.Proofs.YtkclcjnfjielfabDoor
