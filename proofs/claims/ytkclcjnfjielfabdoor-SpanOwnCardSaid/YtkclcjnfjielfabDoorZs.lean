/- SpanOwn: the walk. -/
import Derived.Test.YtkclcjnfjielfabDoorZr
import Derived.Test.YtkclcjnfjielfabDoorZa
import Derived.Test.YtkclcjnfjielfabDoorZe
import Derived.Test.YtkclcjnfjielfabDoorWu
import Derived.Deep.RegionHeld3
namespace Go.Proofs.YtkclcjnfjielfabDoor
open Go.RowKit

theorem joinL_len (ll : List (List Rg)) : (joinL ll).length ≤ ll.flatten.length + 2 := by
  have hl := jfold_length ll.flatten
  unfold joinL joinS
  split
  · split
    · have := tog_length (l := (jfold ll.flatten).1)
      rw [List.length_append, List.length_singleton]; omega
    · have := tog_length (l := (jfold ll.flatten).1)
      omega
  · unfold starL
    rw [List.length_append, List.length_singleton]
    split
    · have := tog_length (l := (jfold ll.flatten).1 ++ [(Lib.minOf (jfold ll.flatten).2.1, Lib.maxOf (jfold ll.flatten).2.1)])
      rw [List.length_append, List.length_singleton] at this
      omega
    · have := tog_length (l := (jfold ll.flatten).1)
      omega
theorem appK3 {ops : Array Oper} {rest : List Oper} {o : Oper} {a : Act} {Q : Exit → Act → World → Prop} (hgd : o.guard = none) (s x : Operand)
    (ho : o.op = .call { callee := .builtin .append, args := #[s, x], argTypes := #[27, 27] })
    {B : Nat} {v3 v4 v5 : Value} {G N F : List Value} {K : List Fact} {w : World} (a1 a2 a3 : Option Addr) (n1 c1 n2 c2 n3 c3 : Nat) (h : Keep B v3 v4 v5 G N F K w) (hs : a.eval s = v3) (hx : a.eval x = .slice (some ⟨w.heap.size, 0, none⟩) 3 3)
    (hlen : G.length + 3 ≤ 1000000)
    (hK : ∀ g c w', Keep B (.slice (some ⟨g, 0, none⟩) (G.length + 3) c) v4 v5 (G ++ [.slice a1 n1 c1, .slice a2 n2 c2, .slice a3 n3 c3]) N F K w' → w.grownBy w' v3.ownBlock → wpList Tryd.prog ops Q rest (a.put o.dst (.slice (some ⟨g, 0, none⟩) (G.length + 3) c)) w') : wpList Tryd.prog ops Q (o :: rest) a (w.alloc (.cells #[.slice a1 n1 c1, .slice a2 n2 c2, .slice a3 n3 c3] 25)) := by
  obtain ⟨i0, hi, hz0, hz1, hz2⟩ := info_parts Tryd.infoRgs
  have hA := h.on ((Below.refl _ _).alloc (Nat.le_refl _) (.cells #[.slice a1 n1 c1, .slice a2 n2 c2, .slice a3 n3 c3] 25))
  refine wpList_append_lies _ hgd s x 27 ho B 25 i0 (.slice none 0 0) 1 24 Tryd.underlying27 hi hz0 hz1 hz2 rfl (by decide) v3 G.length G hs hA.r3 ⟨w.heap.size, 0, none⟩ 3 3 [.slice a1 n1 c1, .slice a2 n2 c2, .slice a3 n3 c3] hx rfl ?_ ?_ (by decide) (by unfold maxLen; omega) (by omega) hA.base _ rfl ?_
  · intro j u hj
    match j, hj with
    | 0, hj => simp at hj; subst hj; simp [Addr.add]
    | 1, hj => simp at hj; subst hj; simp [Addr.add]
    | 2, hj => simp at hj; subst hj; simp [Addr.add]
    | (j + 3), hj => simp at hj
  · intro u hu; simp at hu; rcases hu with rfl | rfl | rfl <;> rfl
  · intro g cap w' ho' hg hat _
    exact hK g cap w' (hA.grew3 (by rw [List.length_append]; exact ho') hg (fun k h5 => by
      have e : g = k := by simpa [Value.ownBlock] using h5
      subst e
      rcases hat with h6 | h6
      · exact .inl h6
      · exact .inr (Nat.le_of_eq h6.symm))) (gthen (World.grownBy_alloc w _ _) hg (fun j hj => .inr hj))
theorem stepK3 {ops : Array Oper} {o : Oper} {a : Act} {K' : Act → World → Prop} {Q : Exit → Act → World → Prop} {E : Prop} (hgd : o.guard = none) (s x : Operand)
    (ho : o.op = .call { callee := .builtin .append, args := #[s, x], argTypes := #[27, 27] })
    {B : Nat} {v3 v4 v5 : Value} {G N F : List Value} {K : List Fact} {w : World} (a1 a2 a3 : Option Addr) (n1 c1 n2 c2 n3 c3 : Nat) (h : Keep B v3 v4 v5 G N F K w) (hs : a.eval s = v3) (hx : a.eval x = .slice (some ⟨w.heap.size, 0, none⟩) 3 3)
    (hlen : G.length + 3 ≤ 1000000)
    (hK : ∀ g c w', Keep B (.slice (some ⟨g, 0, none⟩) (G.length + 3) c) v4 v5 (G ++ [.slice a1 n1 c1, .slice a2 n2 c2, .slice a3 n3 c3]) N F K w' → w.grownBy w' v3.ownBlock → K' (a.put o.dst (.slice (some ⟨g, 0, none⟩) (G.length + 3) c)) w') : if Region.wanted o (yielded ops a.tmps) = true then Oper.wp Tryd.prog o a (w.alloc (.cells #[.slice a1 n1 c1, .slice a2 n2 c2, .slice a3 n3 c3] 25)) K' Q else E := by
  obtain ⟨i0, hi, hz0, hz1, hz2⟩ := info_parts Tryd.infoRgs
  have hA := h.on ((Below.refl _ _).alloc (Nat.le_refl _) (.cells #[.slice a1 n1 c1, .slice a2 n2 c2, .slice a3 n3 c3] 25))
  refine step_append_lies _ hgd s x 27 ho B 25 i0 (.slice none 0 0) 1 24 Tryd.underlying27 hi hz0 hz1 hz2 rfl (by decide) v3 G.length G hs hA.r3 ⟨w.heap.size, 0, none⟩ 3 3 [.slice a1 n1 c1, .slice a2 n2 c2, .slice a3 n3 c3] hx rfl ?_ ?_ (by decide) (by unfold maxLen; omega) (by omega) hA.base _ rfl ?_
  · intro j u hj
    match j, hj with
    | 0, hj => simp at hj; subst hj; simp [Addr.add]
    | 1, hj => simp at hj; subst hj; simp [Addr.add]
    | 2, hj => simp at hj; subst hj; simp [Addr.add]
    | (j + 3), hj => simp at hj
  · intro u hu; simp at hu; rcases hu with rfl | rfl | rfl <;> rfl
  · intro g cap w' ho' hg hat _
    exact hK g cap w' (hA.grew3 (by rw [List.length_append]; exact ho') hg (fun k h5 => by
      have e : g = k := by simpa [Value.ownBlock] using h5
      subst e
      rcases hat with h6 | h6
      · exact .inl h6
      · exact .inr (Nat.le_of_eq h6.symm))) (gthen (World.grownBy_alloc w _ _) hg (fun j hj => .inr hj))
theorem appK4 {ops : Array Oper} {rest : List Oper} {o : Oper} {a : Act} {Q : Exit → Act → World → Prop} (hgd : o.guard = none) (s x : Operand)
    (ho : o.op = .call { callee := .builtin .append, args := #[s, x], argTypes := #[50, 50] })
    {B : Nat} {v3 v4 v5 : Value} {G N F : List Value} {K : List Fact} {w : World} (a1 : Option Addr) (n1 c1 : Nat) (h : Keep B v3 v4 v5 G N F K w) (hs : a.eval s = v4) (hx : a.eval x = .slice (some ⟨w.heap.size, 0, none⟩) 1 1)
    (hlen : N.length + 1 ≤ 1000000)
    (hK : ∀ g c w', Keep B v3 (.slice (some ⟨g, 0, none⟩) (N.length + 1) c) v5 G (N ++ [.slice a1 n1 c1]) F K w' → w.grownBy w' v4.ownBlock → wpList Tryd.prog ops Q rest (a.put o.dst (.slice (some ⟨g, 0, none⟩) (N.length + 1) c)) w') : wpList Tryd.prog ops Q (o :: rest) a (w.alloc (.cells #[.slice a1 n1 c1] 26)) := by
  obtain ⟨i0, hi, hz0, hz1, hz2⟩ := info_parts Tryd.infoIns
  have hA := h.on ((Below.refl _ _).alloc (Nat.le_refl _) (.cells #[.slice a1 n1 c1] 26))
  refine wpList_append_lies _ hgd s x 50 ho B 26 i0 (.slice none 0 0) 1 24 Tryd.underlying50 hi hz0 hz1 hz2 rfl (by decide) v4 N.length N hs hA.r4 ⟨w.heap.size, 0, none⟩ 1 1 [.slice a1 n1 c1] hx rfl ?_ ?_ (by decide) (by unfold maxLen; omega) (by omega) hA.base _ rfl ?_
  · intro j u hj
    match j, hj with
    | 0, hj => simp at hj; subst hj; simp [Addr.add]
    | (j + 1), hj => simp at hj
  · intro u hu; simp at hu; subst hu; rfl
  · intro g cap w' ho' hg hat _
    exact hK g cap w' (hA.grew4 (by rw [List.length_append]; exact ho') hg (fun k h5 => by
      have e : g = k := by simpa [Value.ownBlock] using h5
      subst e
      rcases hat with h6 | h6
      · exact .inl h6
      · exact .inr (Nat.le_of_eq h6.symm))) (gthen (World.grownBy_alloc w _ _) hg (fun j hj => .inr hj))
end Go.Proofs.YtkclcjnfjielfabDoor
