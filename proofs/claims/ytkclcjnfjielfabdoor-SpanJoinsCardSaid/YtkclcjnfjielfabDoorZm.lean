/- Rows of sets that grow beside a desk with places for several sets. -/
import Derived.Test.YtkclcjnfjielfabDoorZk
import Derived.Test.YtkclcjnfjielfabDoorYr
namespace Go.Proofs.YtkclcjnfjielfabDoor
open Go.RowKit

/-- The second one grows by a set that is kept. -/
theorem appS3 {ops : Array Oper} {rest : List Oper} {o : Oper} {a : Act} {Q : Exit → Act → World → Prop} (hgd : o.guard = none) (s x : Operand)
    (ho : o.op = .call { callee := .builtin .append, args := #[s, x], argTypes := #[27, 27] })
    {B : Nat} {v3 v4 : Value} {G T : List Value} {K : List (Value × List Rg)} {W0 w : World} (ao : Option Addr) (n c : Nat) (h2 : TwoS B v3 G v4 T K W0 w) (hs : a.eval s = v4) (hx : a.eval x = .slice (some ⟨w.heap.size, 0, none⟩) 1 1)
    (hlen : T.length + 1 ≤ 5864062014805)
    (h : ∀ v' w', TwoS B v3 G v' (T ++ [.slice ao n c]) K W0 w' → w.grownBy w' v4.ownBlock → (∀ k, v'.ownBlock = some k → v4.ownBlock = some k ∨ w.heap.size ≤ k) → wpList Tryd.prog ops Q rest (a.put o.dst v') w') : wpList Tryd.prog ops Q (o :: rest) a (w.alloc (.cells #[.slice ao n c] 25)) := by
  obtain ⟨i0, hi, hz0, hz1, hz2⟩ := info_parts Tryd.infoRgs
  have hbA : Below w.heap.size w (w.alloc (.cells #[.slice ao n c] 25)) := (Below.refl _ _).alloc (Nat.le_refl _) _
  have hA := h2.on hbA
  refine wpList_append_lies _ hgd s x 27 ho B 25 i0 (.slice none 0 0) 1 24 Tryd.underlying27 hi hz0 hz1 hz2 rfl (by decide) v4 T.length T hs hA.b ⟨w.heap.size, 0, none⟩ 1 1 [.slice ao n c] hx rfl ?_ ?_ (by decide) (by unfold maxLen; omega) (by omega) hA.base _ rfl ?_
  · intro j u hj
    match j, hj with
    | 0, hj => simp at hj; subst hj; simp [Addr.add]
    | (j + 1), hj => simp at hj
  · intro u hu; simp at hu; subst hu; rfl
  · intro g cap w' ho' hg hat _
    refine h _ w' ⟨hA.a.kept hg ?_, ?_, fun k h4 h5 => ?_, hA.below.grown hg hA.base (fun k hk => (hA.b.lt k hk).1), Nat.le_trans hA.base hg.size, fun p hp => ?_⟩ (gthen (World.grownBy_alloc w _ _) hg (fun j hj => .inr hj)) (fun k h5 => by
      have e : g = k := by simpa [Value.ownBlock] using h5
      subst e
      rcases hat with h6 | h6
      · exact .inl h6
      · exact .inr (by rw [h6]; simp))
    · cases h4 : v3.ownBlock with
      | none => exact .inl rfl
      | some k => exact .inr (fun e => hA.d k h4 e.symm)
    · rw [List.length_append]
      exact ho'
    · have e : g = k := by simpa [Value.ownBlock] using h5
      subst e
      rcases hat with h6 | h6
      · exact hA.d g h4 h6
      · have := (hA.a.lt g h4).2
        omega
    · obtain ⟨r1, r2, r3, r4⟩ := hA.k p hp
      refine ⟨r1.far hg r3, r2, fun k h4 h5 => ?_, fun k h4 => Nat.lt_of_lt_of_le (r4 k h4) hg.size⟩
      have e : g = k := by simpa [Value.ownBlock] using h5
      subst e
      rcases hat with h6 | h6
      · exact r3 g h4 h6
      · have := r4 g h4
        omega
structure TwoF (D : Nat) (Pl : Nat → Prop) (v4 : Value) (G : List Value) (v5 : Value) (T : List Value) (K : List (Value × List Rg)) (w : World) : Prop where
  two : TwoS (D + 1) v4 G v5 T K w w
  lo : ∀ p ∈ K, ∀ k, p.1.ownBlock = some k → D + 1 ≤ k
  pl : ∀ k, Pl k → k < w.heap.size ∧ v4.ownBlock ≠ some k ∧ v5.ownBlock ≠ some k ∧ ∀ p ∈ K, p.2 ≠ [] → p.1.ownBlock ≠ some k
theorem TwoF.swap {D : Nat} {Pl : Nat → Prop} {v4 v5 : Value} {G T : List Value} {K : List (Value × List Rg)} {w : World} (h : TwoF D Pl v4 G v5 T K w) : TwoF D Pl v5 T v4 G K w := ⟨h.two.swap, h.lo, fun k hk => ⟨(h.pl k hk).1, (h.pl k hk).2.2.1, (h.pl k hk).2.1, (h.pl k hk).2.2.2⟩⟩
theorem TwoF.on {D : Nat} {Pl : Nat → Prop} {v4 v5 : Value} {G T : List Value} {K : List (Value × List Rg)} {w w' : World} (h : TwoF D Pl v4 G v5 T K w) (hb : Below w.heap.size w w') : TwoF D Pl v4 G v5 T K w' := ⟨(h.two.on hb).self, h.lo, fun k hk => ⟨Nat.lt_of_lt_of_le (h.pl k hk).1 hb.size, (h.pl k hk).2⟩⟩
theorem TwoF.keep {D : Nat} {Pl : Nat → Prop} {v4 v5 u : Value} {l : List Rg} {G T : List Value} {K : List (Value × List Rg)} {w w' W1 : World} (h : TwoF D Pl v4 G v5 T K w) (ho : OwnR w.heap.size u l W1 w') (hb : Below w.heap.size w w') (hl : l.length ≤ 8796093022208) : TwoF D Pl v4 G v5 T ((u, l) :: K) w' := by
  refine ⟨(h.two.keep ho hb hl).self, fun p hp k hk => ?_, fun k hk => ?_⟩
  · rcases List.mem_cons.1 hp with rfl | hp
    · have := (ho.row.lt k hk).1
      have := h.two.base
      omega
    · exact h.lo p hp k hk
  · obtain ⟨h1, h2, h3, h4⟩ := h.pl k hk
    refine ⟨Nat.lt_of_lt_of_le h1 hb.size, h2, h3, fun q hq hne hqk => ?_⟩
    rcases List.mem_cons.1 hq with rfl | hq
    · have := (ho.row.lt k hqk).1
      omega
    · exact h4 q hq hne hqk
theorem TwoF.far {D : Nat} {Pl Pl' : Nat → Prop} {v4 v5 : Value} {G T : List Value} {K : List (Value × List Rg)} {w w' : World} (h : TwoF D Pl v4 G v5 T K w) (hf : FarS D Pl w w') (hn : ∀ k, Pl' k → k < w'.heap.size ∧ (Pl k ∨ w.heap.size ≤ k)) : TwoF D Pl' v4 G v5 T K w' := by
  have row : ∀ v : Value, (∀ k, v.ownBlock = some k → D + 1 ≤ k ∧ k < w.heap.size) → (∀ k, Pl k → v.ownBlock ≠ some k) → ∀ k, v.ownBlock = some k → w'.heap[k]? = w.heap[k]? := fun v h1 h2 k hk => by
    have := h1 k hk
    exact hf.far k this.2 (by omega) (fun e => h2 k e hk)
  refine ⟨⟨row_on3 h.two.a (row v4 (fun k hk => h.two.a.lt k hk) (fun k hk => (h.pl k hk).2.1)), row_on3 h.two.b (row v5 (fun k hk => h.two.b.lt k hk) (fun k hk => (h.pl k hk).2.2.1)), h.two.d, Below.refl _ _, Nat.le_trans h.two.base hf.size, fun p hp => ?_⟩, h.lo, fun k hk => ?_⟩
  · obtain ⟨r1, r2, r3, r4⟩ := h.two.k p hp
    refine ⟨?_, r2, r3, fun k hk => Nat.lt_of_lt_of_le (r4 k hk) hf.size⟩
    by_cases he : p.2 = []
    · rw [he] at r1 ⊢; exact r1.empty hf.size
    · exact r1.same hf.size (row p.1 (fun k hk => ⟨h.lo p hp k hk, r4 k hk⟩) (fun k hk => (h.pl k hk).2.2.2 p hp he))
  · obtain ⟨h1, h2⟩ := hn k hk
    rcases h2 with h2 | h2
    · exact ⟨h1, (h.pl k h2).2⟩
    · exact ⟨h1, fun e => by have := (h.two.a.lt k e).2; omega, fun e => by have := (h.two.b.lt k e).2; omega, fun p hp _ e => by have := (h.two.k p hp).2.2.2 k e; omega⟩
theorem TwoF.app {D : Nat} {Pl : Nat → Prop} {v4 v5 v' : Value} {G T T' : List Value} {K : List (Value × List Rg)} {w w' : World} (h : TwoF D Pl v4 G v5 T K w) (ht : TwoS (D + 1) v4 G v' T' K w w') (hg : w.grownBy w' v5.ownBlock) (hat : ∀ k, v'.ownBlock = some k → v5.ownBlock = some k ∨ w.heap.size ≤ k) : TwoF D Pl v4 G v' T' K w' := by
  refine ⟨ht.self, h.lo, fun k hk => ?_⟩
  obtain ⟨h1, h2, h3, h4⟩ := h.pl k hk
  refine ⟨Nat.lt_of_lt_of_le h1 hg.size, h2, fun e => ?_, h4⟩
  rcases hat k e with h5 | h5
  · exact h3 h5
  · omega
theorem DeskS.grown {D : Nat} {vin vset : Value} {I : List Value} {M : List (List Rg)} {Sx : List Value} {W0 w w' : World} {r : Option Nat} (h : DeskS D vin vset I M Sx W0 w) (hg : w.grownBy w' r) (hr : ∀ k, r = some k → D + 1 ≤ k ∧ ¬ PlS vin vset I k) : DeskS D vin vset I M Sx W0 w' := by
  have hD : r ≠ some D := fun e => by have := (hr D e).1; omega
  refine h.stay (fun k hk hp => hg.block k hk (fun e => ?_)) hg.size hg.os hg.tape hg.output (fun i => hg.frozen_far ⟨D, i, none⟩ h.base (fun e => hD e.symm))
  have := hr k e.symm
  rcases hp with hp | hp
  · omega
  · exact this.2 hp
theorem TwoF.fst {D : Nat} {vin vset : Value} {I : List Value} {v4 v5 : Value} {G T : List Value} {K : List (Value × List Rg)} {w : World} (h : TwoF D (PlS vin vset I) v4 G v5 T K w) : ∀ k, v4.ownBlock = some k → D + 1 ≤ k ∧ ¬ PlS vin vset I k := fun k hk => ⟨(h.two.a.lt k hk).1, fun hp => (h.pl k hp).2.1 hk⟩
theorem DeskS.start (w : World) (D : Nat) (hD : D = w.heap.size) (v1 v2 : Value) (t : TypeId) : DeskS D nilV nilV [] [] [] w (w.alloc (.cells #[v1, v2, .slice none 0 0, .slice none 0 0] t)) := by
  subst hD
  exact ⟨by simp, by simp, by simp [World.frozen?_alloc_mark], by simp [World.frozen?_alloc_mark], World.ownsRow_nil _ _ _ _, World.ownsRow_nil _ _ _ _, fun k h => by simp [Value.ownBlock] at h, rfl, fun j hj => by simp at hj, fun i j hi => by simp at hi, (Below.refl _ _).alloc (Nat.le_refl _) _, by simp⟩
theorem TwoF.start {D : Nat} {w : World} (hD : D < w.heap.size) : TwoF D (PlS nilV nilV []) (.slice none 0 0) [] (.slice none 0 0) [] [] w := by
  refine ⟨TwoS.nil (Below.refl _ _) hD, fun p hp => (by cases hp), ?_⟩
  rintro k (h | h | ⟨j, hj, h⟩)
  · simp [Value.ownBlock] at h
  · simp [Value.ownBlock] at h
  · simp at hj
theorem SevEnd.on {D : Nat} {Pl : Nat → Prop} {w0 : World} {ll : List (List Rg)} {vin : Value} {gs ns cs : Nat} {I : List Value} {M : List (List Rg)} {Sx : List Value} {W0 w w' : World} (h : SevEnd D Pl w0 ll vin gs ns cs I M Sx W0 w) (hb : Below w.heap.size w w') : SevEnd D Pl w0 ll vin gs ns cs I M Sx W0 w' := ⟨h.sev.on hb, h.done, h.lI, h.bI, h.lS, h.nS, h.bS, h.cS⟩
theorem len_flat (ll : List (List Rg)) (i : Nat) (hi : i < ll.length) : (ll.getD i []).length ≤ ll.flatten.length := by
  have h1 := flatten_take ll i hi
  have h2 := flatten_take_le ll (i + 1)
  rw [h1, List.length_append] at h2
  omega
theorem joinL_len (ll : List (List Rg)) : (joinL ll).length ≤ ll.flatten.length + 2 := by
  have hl := jfold_length ll.flatten
  unfold joinL joinS
  split
  · split
    · have := tog_length (l := (jfold ll.flatten).1)
      rw [List.length_append, List.length_singleton]; omega
    · have := tog_length (l := (jfold ll.flatten).1)
      omega
  · unfold starL
    rw [List.length_append, List.length_singleton]
    split
    · have := tog_length (l := (jfold ll.flatten).1 ++ [(Lib.minOf (jfold ll.flatten).2.1, Lib.maxOf (jfold ll.flatten).2.1)])
      rw [List.length_append, List.length_singleton] at this
      omega
    · have := tog_length (l := (jfold ll.flatten).1)
      omega
end Go.Proofs.YtkclcjnfjielfabDoor
