/- Two rows of sets that grow, and sets that are kept beside them. -/
import Derived.Test.YtkclcjnfjielfabDoorVu
import Derived.Deep.AppendLies
namespace Go.Proofs.YtkclcjnfjielfabDoor
open Go.RowKit

def ApartV (u v : Value) : Prop := ∀ k, u.ownBlock = some k → v.ownBlock ≠ some k
theorem Tryd.infoRgs : (Tryd.prog.info? 25).map (fun i => (i.zero, i.size, i.bytes)) = some (some (.slice none 0 0), 1, 24) := by kernel_rfl
structure TwoS (B : Nat) (v3 : Value) (G : List Value) (v4 : Value) (T : List Value) (K : List (Value × List Rg)) (W0 w : World) : Prop where
  a : w.ownsRow B 25 1 v3 G.length G
  b : w.ownsRow B 25 1 v4 T.length T
  d : ApartV v3 v4
  below : Below B W0 w
  base : B ≤ w.heap.size
  k : ∀ p ∈ K, Rgs w p.1 p.2 ∧ ApartV p.1 v3 ∧ ApartV p.1 v4 ∧ ∀ k, p.1.ownBlock = some k → k < w.heap.size
theorem ApartV.symm {u v : Value} (h : ApartV u v) : ApartV v u := fun k h1 h2 => h k h2 h1
theorem TwoS.swap {B : Nat} {v3 v4 : Value} {G T : List Value} {K : List (Value × List Rg)} {W0 w : World} (h : TwoS B v3 G v4 T K W0 w) : TwoS B v4 T v3 G K W0 w :=
  ⟨h.b, h.a, h.d.symm, h.below, h.base, fun p hp => ⟨(h.k p hp).1, (h.k p hp).2.2.1, (h.k p hp).2.1, (h.k p hp).2.2.2⟩⟩
theorem row_on {B : Nat} {v : Value} {G : List Value} {n : Nat} {w w' : World} (h : w.ownsRow B 25 1 v n G) (hb : Below w.heap.size w w') : w'.ownsRow B 25 1 v n G := by
  refine ⟨h.1, ?_⟩
  rcases h.2 with hn | ⟨g, cap, cur, rfl, hB, hg, rest⟩
  · exact .inl hn
  · exact .inr ⟨g, cap, cur, rfl, hB, by rw [hb.block g (Array.getElem?_eq_some_iff.1 hg).1]; exact hg, rest⟩
theorem TwoS.on {B : Nat} {v3 v4 : Value} {G T : List Value} {K : List (Value × List Rg)} {W0 w w' : World} (h : TwoS B v3 G v4 T K W0 w) (hb : Below w.heap.size w w') : TwoS B v3 G v4 T K W0 w' :=
  ⟨row_on h.a hb, row_on h.b hb, h.d, h.below.trans (hb.mono h.base), Nat.le_trans h.base hb.size, fun p hp => ⟨(h.k p hp).1.on hb, (h.k p hp).2.1, (h.k p hp).2.2.1, fun k hk => Nat.lt_of_lt_of_le ((h.k p hp).2.2.2 k hk) hb.size⟩⟩
theorem TwoS.nil {B : Nat} {W0 w : World} (h : Below B W0 w) (hB : B ≤ w.heap.size) : TwoS B (.slice none 0 0) [] (.slice none 0 0) [] [] W0 w :=
  ⟨World.ownsRow_nil _ _ _ _, World.ownsRow_nil _ _ _ _, fun k h => by simp [Value.ownBlock] at h, h, hB, fun p hp => by cases hp⟩
/-- A set that was made behind the rows is kept. -/
theorem TwoS.keep {B : Nat} {v3 v4 u : Value} {l : List Rg} {G T : List Value} {K : List (Value × List Rg)} {W0 w w' W1 : World} (h : TwoS B v3 G v4 T K W0 w) (ho : OwnR w.heap.size u l W1 w') (hb : Below w.heap.size w w') (hl : l.length ≤ 8796093022208) : TwoS B v3 G v4 T ((u, l) :: K) W0 w' := by
  have h2 := h.on hb
  refine ⟨h2.a, h2.b, h2.d, h2.below, h2.base, fun p hp => ?_⟩
  rcases List.mem_cons.1 hp with rfl | hp
  · refine ⟨ho.rgs hl, fun k h1 h3 => ?_, fun k h1 h3 => ?_, fun k h1 => (ho.row.lt k h1).2⟩
    · have := (ho.row.lt k h1).1
      have := (h.a.lt k h3).2
      omega
    · have := (ho.row.lt k h1).1
      have := (h.b.lt k h3).2
      omega
  · exact h2.k p hp
theorem Rgs.far {w w' : World} {u : Value} {l : List Rg} {row : Option Nat} (h : Rgs w u l) (hg : w.grownBy w' row) (hne : ∀ k, u.ownBlock = some k → row ≠ some k) : Rgs w' u l := by
  rcases h with h | ⟨b, off, cap, rfl, h0, h1, h2⟩
  · exact .inl h
  · have hn : some b ≠ row := fun e => hne b rfl e.symm
    refine .inr ⟨b, off, cap, rfl, h0, Nat.lt_of_lt_of_le h1 hg.size, fun i hi => ?_⟩
    rw [hg.cell_far ⟨b, off + i * 2, none⟩ h1 hn, hg.cell_far ⟨b, off + i * 2 + 1, none⟩ h1 hn]
    exact h2 i hi
/-- The second one grows by a set that is kept. -/
theorem appS {ops : Array Oper} {rest : List Oper} {o : Oper} {a : Act} {Q : Exit → Act → World → Prop} (hgd : o.guard = none) (s x : Operand)
    (ho : o.op = .call { callee := .builtin .append, args := #[s, x], argTypes := #[27, 27] })
    {B : Nat} {v3 v4 : Value} {G T : List Value} {K : List (Value × List Rg)} {W0 w : World} (ao : Option Addr) (n c : Nat) (h2 : TwoS B v3 G v4 T K W0 w) (hs : a.eval s = v4) (hx : a.eval x = .slice (some ⟨w.heap.size, 0, none⟩) 1 1)
    (hlen : T.length + 1 ≤ 5864062014805)
    (h : ∀ v' w', TwoS B v3 G v' (T ++ [.slice ao n c]) K W0 w' → wpList Tryd.prog ops Q rest (a.put o.dst v') w') : wpList Tryd.prog ops Q (o :: rest) a (w.alloc (.cells #[.slice ao n c] 25)) := by
  obtain ⟨i0, hi, hz0, hz1, hz2⟩ := info_parts Tryd.infoRgs
  have hbA : Below w.heap.size w (w.alloc (.cells #[.slice ao n c] 25)) := (Below.refl _ _).alloc (Nat.le_refl _) _
  have hA := h2.on hbA
  refine wpList_append_lies _ hgd s x 27 ho B 25 i0 (.slice none 0 0) 1 24 Tryd.underlying27 hi hz0 hz1 hz2 rfl (by decide) v4 T.length T hs hA.b ⟨w.heap.size, 0, none⟩ 1 1 [.slice ao n c] hx rfl ?_ ?_ (by decide) (by unfold maxLen; omega) (by omega) hA.base _ rfl ?_
  · intro j u hj
    match j, hj with
    | 0, hj => simp at hj; subst hj; simp [Addr.add]
    | (j + 1), hj => simp at hj
  · intro u hu; simp at hu; subst hu; rfl
  · intro g cap w' ho' hg hat _
    refine h _ w' ⟨hA.a.kept hg ?_, ?_, fun k h4 h5 => ?_, hA.below.grown hg hA.base (fun k hk => (hA.b.lt k hk).1), Nat.le_trans hA.base hg.size, fun p hp => ?_⟩
    · cases h4 : v3.ownBlock with
      | none => exact .inl rfl
      | some k => exact .inr (fun e => hA.d k h4 e.symm)
    · rw [List.length_append]
      exact ho'
    · have e : g = k := by simpa [Value.ownBlock] using h5
      subst e
      rcases hat with h6 | h6
      · exact hA.d g h4 h6
      · have := (hA.a.lt g h4).2
        omega
    · obtain ⟨r1, r2, r3, r4⟩ := hA.k p hp
      refine ⟨r1.far hg r3, r2, fun k h4 h5 => ?_, fun k h4 => Nat.lt_of_lt_of_le (r4 k h4) hg.size⟩
      have e : g = k := by simpa [Value.ownBlock] using h5
      subst e
      rcases hat with h6 | h6
      · exact r3 g h4 h6
      · have := r4 g h4
        omega
end Go.Proofs.YtkclcjnfjielfabDoor
