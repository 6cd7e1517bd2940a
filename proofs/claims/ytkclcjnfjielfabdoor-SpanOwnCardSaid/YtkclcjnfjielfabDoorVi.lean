/- span: rows of numbers that the call has made; withStar. -/
import Derived.Test.YtkclcjnfjielfabDoorVh
namespace Go.Proofs.YtkclcjnfjielfabDoor
open Go.RowKit

def ic (l : List Int) : List Value := l.map fun n => Value.int .i64 n
theorem ic_length (l : List Int) : (ic l).length = l.length := by simp [ic]
theorem ic_append (a b : List Int) : ic (a ++ b) = ic a ++ ic b := by simp [ic]
theorem ic_one (l : List Int) : ∀ u ∈ ic l, u.oneCell' = true := by
  intro u hu; simp only [ic, List.mem_map] at hu; obtain ⟨b, _, rfl⟩ := hu; rfl
theorem ic_at (l : List Int) (i : Nat) (hi : i < l.length) : (ic l)[i]? = some (.int .i64 (l.getD i 0)) := by
  simp [ic, hi]
/-- v is a slice that the call made itself (blocks from B on), its numbers are l; below B nothing has turned since W0. -/
structure OwnI (B : Nat) (v : Value) (l : List Int) (W0 w : World) : Prop where
  row : w.ownsRow B 3 1 v l.length (ic l)
  below : Below B W0 w
  base : B ≤ w.heap.size
theorem OwnI.nil {B : Nat} {W0 w : World} (h : Below B W0 w) (hB : B ≤ w.heap.size) : OwnI B (.slice none 0 0) [] W0 w := ⟨World.ownsRow_nil _ _ _ _, h, hB⟩
theorem OwnI.drewN {B : Nat} {v : Value} {l : List Int} {W0 w : World} (h : OwnI B v l W0 w) (n : Nat) : OwnI B v l W0 (w.drewN n) := ⟨h.row, below_drewN h.below n, h.base⟩
theorem OwnI.alloc {B : Nat} {v : Value} {l : List Int} {W0 w : World} (h : OwnI B v l W0 w) (o : Obj) : OwnI B v l W0 (w.alloc o) :=
  ⟨h.row.alloc o, h.below.alloc h.base o, by have := h.base; simp; omega⟩
theorem OwnI.on {B : Nat} {v : Value} {l : List Int} {W0 w w' : World} (h : OwnI B v l W0 w) (hb : Below w.heap.size w w') : OwnI B v l W0 w' := by
  refine ⟨⟨h.row.1, ?_⟩, h.below.trans (hb.mono h.base), Nat.le_trans h.base hb.size⟩
  rcases h.row.2 with hn | ⟨g, cap, cur, rfl, hB, hg, rest⟩
  · exact .inl hn
  · exact .inr ⟨g, cap, cur, rfl, hB, by rw [hb.block g (Array.getElem?_eq_some_iff.1 hg).1]; exact hg, rest⟩
theorem OwnI.shift {B : Nat} {v : Value} {l : List Int} {W0 W1 w : World} (h : OwnI B v l W1 w) (hb : Below B W0 W1) : OwnI B v l W0 w := ⟨h.row, hb.trans h.below, h.base⟩
theorem OwnI.mono {B B' : Nat} {v : Value} {l : List Int} {W0 w : World} (h : OwnI B v l W0 w) (hB : B' ≤ B) : OwnI B' v l W0 w := by
  refine ⟨⟨h.row.1, ?_⟩, h.below.mono hB, Nat.le_trans hB h.base⟩
  rcases h.row.2 with hn | ⟨g, cap, cur, rfl, hg, rest⟩
  · exact .inl hn
  · exact .inr ⟨g, cap, cur, rfl, Nat.le_trans hB hg, rest⟩
theorem OwnI.ints {B : Nat} {v : Value} {l : List Int} {W0 w : World} (h : OwnI B v l W0 w) (hl : l.length ≤ 17592186044416) : Ints w v l := by
  rcases h.row.2 with ⟨rfl, h0⟩ | ⟨g, cap, cur, rfl, hB, hg, rest⟩
  · exact .inl ⟨List.eq_nil_of_length_eq_zero h0, none, 0, rfl, fun _ => rfl⟩
  · refine .inr ⟨g, 0, cap, rfl, hl, (Array.getElem?_eq_some_iff.1 hg).1, fun i hi => ?_⟩
    have c1 := h.row.cells (g := g) rfl i _ (ic_at l i hi)
    rw [Addr.add_lit] at c1
    exact c1
theorem own_apart {B B' : Nat} {v v2 : Value} {l : List Rg} {l2 : List Int} {W0 W2 w : World} (h : OwnR B v l W0 w) (h2 : OwnI B' v2 l2 W2 w) : v.ownBlock = none ∨ v.ownBlock ≠ v2.ownBlock := by
  rcases h.row.2 with ⟨rfl, _⟩ | ⟨g, cap, cur, rfl, _, hg, _⟩
  · exact .inl rfl
  · right
    rcases h2.row.2 with ⟨rfl, _⟩ | ⟨g', cap', cur', rfl, _, hg', _⟩
    · simp [Value.ownBlock]
    · intro e
      simp [Value.ownBlock] at e
      subst e
      rw [hg] at hg'
      have h3 := Option.some.inj hg'
      injection h3 with _ h4
      exact absurd h4 (by decide)
theorem own_apart' {B B' : Nat} {v v2 : Value} {l : List Rg} {l2 : List Int} {W0 W2 w : World} (h : OwnR B v l W0 w) (h2 : OwnI B' v2 l2 W2 w) : v2.ownBlock = none ∨ v2.ownBlock ≠ v.ownBlock := by
  rcases h2.row.2 with ⟨rfl, _⟩ | ⟨g', cap', cur', rfl, _, hg', _⟩
  · exact .inl rfl
  · rcases own_apart h h2 with e | e
    · right; rw [e]; simp [Value.ownBlock]
    · exact .inr (Ne.symm e)
theorem Tryd.infoInt : (Tryd.prog.info? 3).map (fun i => (i.zero, i.size, i.bytes)) = some (some (.int .i64 0), 1, 8) := by kernel_rfl

/-- plain = append(plain, piece), the row of numbers stays. -/
theorem appPk {ops : Array Oper} {rest : List Oper} {o : Oper} {a : Act} {Q : Exit → Act → World → Prop} (hgd : o.guard = none) (s x : Operand)
    (ho : o.op = .call { callee := .builtin .append, args := #[s, x], argTypes := #[25, 25] })
    {B : Nat} {v v2 : Value} {l : List Rg} {l2 : List Int} {W0 w : World} (p q : Int) (hown : OwnR B v l W0 w) (ho2 : OwnI B v2 l2 W0 w) (hs : a.eval s = v) (hx : a.eval x = .slice (some ⟨w.heap.size, 0, none⟩) 1 1)
    (hlen : l.length + 1 ≤ 8796093022208)
    (h : ∀ v' w', OwnR B v' (l ++ [(p, q)]) W0 w' → OwnI B v2 l2 W0 w' → wpList Tryd.prog ops Q rest (a.put o.dst v') w') : wpList Tryd.prog ops Q (o :: rest) a (w.alloc (.cells #[.int .i64 p, .int .i64 q] 63)) := by
  obtain ⟨i0, hi, hz0, hz1, hz2⟩ := info_parts Tryd.infoRange
  have ha := hown.alloc (.cells #[.int .i64 p, .int .i64 q] 63)
  have ha2 := ho2.alloc (.cells #[.int .i64 p, .int .i64 q] 63)
  refine wpList_append_own _ hgd s x 25 ho B 63 i0 (rgV 0 0) 2 16 Tryd.underlying25 hi hz0 hz1 hz2 rfl (by decide) v l.length (rc l) hs ha.row ⟨w.heap.size, 0, none⟩ 1 1 [.int .i64 p, .int .i64 q] hx rfl ?_ ?_ (by unfold maxLen; omega) (by omega) ha.base ?_
  · intro j u hj
    match j, hj with
    | 0, hj => simp at hj; subst hj; simp [Addr.add]
    | 1, hj => simp at hj; subst hj; simp [Addr.add]
    | (j + 2), hj => simp at hj
  · intro u hu; simp at hu; rcases hu with rfl | rfl <;> rfl
  · intro v' w' ho' hg _
    have hbb := ha.below.grown hg ha.base (fun k hk => (ha.row.lt k hk).1)
    refine h v' w' ⟨?_, hbb, Nat.le_trans ha.base hg.size⟩ ⟨ha2.row.kept hg (own_apart' ha ha2), hbb, Nat.le_trans ha.base hg.size⟩
    rw [List.length_append, rc_append]
    exact ho'
/-- beside = append(beside, n), the row of pieces stays. -/
theorem appIk {ops : Array Oper} {rest : List Oper} {o : Oper} {a : Act} {Q : Exit → Act → World → Prop} (hgd : o.guard = none) (s x : Operand)
    (ho : o.op = .call { callee := .builtin .append, args := #[s, x], argTypes := #[26, 26] })
    {B : Nat} {v v2 : Value} {l : List Rg} {l2 : List Int} {W0 w : World} (c : Int) (hown : OwnR B v l W0 w) (ho2 : OwnI B v2 l2 W0 w) (hs : a.eval s = v2) (hx : a.eval x = .slice (some ⟨w.heap.size, 0, none⟩) 1 1)
    (hlen : l2.length + 1 ≤ 17592186044416)
    (h : ∀ v' w', OwnR B v l W0 w' → OwnI B v' (l2 ++ [c]) W0 w' → wpList Tryd.prog ops Q rest (a.put o.dst v') w') : wpList Tryd.prog ops Q (o :: rest) a (w.alloc (.cells #[.int .i64 c] 3)) := by
  obtain ⟨i0, hi, hz0, hz1, hz2⟩ := info_parts Tryd.infoInt
  have ha := hown.alloc (.cells #[.int .i64 c] 3)
  have ha2 := ho2.alloc (.cells #[.int .i64 c] 3)
  refine wpList_append_own _ hgd s x 26 ho B 3 i0 (.int .i64 0) 1 8 Tryd.underlying26 hi hz0 hz1 hz2 rfl (by decide) v2 l2.length (ic l2) hs ha2.row ⟨w.heap.size, 0, none⟩ 1 1 [.int .i64 c] hx rfl ?_ ?_ (by unfold maxLen; omega) (by omega) ha2.base ?_
  · intro j u hj
    match j, hj with
    | 0, hj => simp at hj; subst hj; simp [Addr.add]
    | (j + 1), hj => simp at hj
  · intro u hu; simp at hu; subst hu; rfl
  · intro v' w' ho' hg _
    have hbb := ha2.below.grown hg ha2.base (fun k hk => (ha2.row.lt k hk).1)
    refine h v' w' ⟨ha.row.kept hg (own_apart ha ha2), hbb, Nat.le_trans ha.base hg.size⟩ ⟨?_, hbb, Nat.le_trans ha.base hg.size⟩
    rw [List.length_append, ic_append]
    exact ho'

def starL (l : List Rg) (a b : Int) : List Rg := tog (if a < b then l ++ [(a, b)] else l) ++ [(a, 0)]
theorem tog_length {l : List Rg} : (tog l).length ≤ l.length := by
  have key : ∀ (l acc : List Rg), (l.foldl (fun acc p => putR acc p) acc).length ≤ acc.length + l.length := by
    intro l
    induction l with
    | nil => intro acc; simp
    | cons p r ih =>
      intro acc
      have h1 := ih (putR acc p)
      have h2 : (putR acc p).length ≤ acc.length + 1 := by
        clear ih h1
        induction acc generalizing p with
        | nil => simp [putR]
        | cons q s ih =>
          unfold putR
          split
          · have := ih p; simp; omega
          · split
            · simp
            · have := ih (min p.1 q.1, max p.2 q.2); simp; omega
      simp only [List.foldl_cons, List.length_cons]
      omega
  have := key l []
  simpa [tog] using this
set_option maxRecDepth 100000 in
set_option maxHeartbeats 2000000 in
theorem withStar_any {B : Nat} {v : Value} {l : List Rg} {W0 w : World} (a b : Int) (h : OwnR B v l W0 w) (hl : l.length ≤ 1000000) (hp : ∀ p ∈ l, 1 ≤ p.1 ∧ p.1 ≤ p.2 ∧ p.1 ≤ 9223372036854775807) (ha : 1 ≤ a) (hb : b ≤ 4294967295) :
    Calls Tryd.prog 51 #[v, .int .i64 a, .int .i64 b] w fun e w' => ∃ v', e = .returned v' ∧ OwnR B v' (starL l a b) W0 w' := by
  have HG : Hid (∀ l4, (l4 = l ∨ a < b ∧ l4 = l ++ [(a, b)]) → ∀ v4 X, OwnR B v4 l4 W0 X → Calls Tryd.prog 38 #[v4] X fun e w' => ∃ v', e = .returned v' ∧ OwnR B v' (tog l4) W0 w') := Lib.hid (fun l4 h4 v4 X hX => by
    have h5 : l4.length ≤ 1000001 := by
      rcases h4 with rfl | ⟨_, rfl⟩
      · omega
      · rw [List.length_append, List.length_singleton]; omega
    refine (together_any v4 l4 X (hX.rgs (by omega)) (by omega) (fun p hp4 => ?_)).mono fun e w' ⟨v', he, ho⟩ => ⟨v', he, (ho.mono hX.base).shift hX.below⟩
    rcases h4 with rfl | ⟨hab, rfl⟩
    · exact hp p hp4
    · rcases List.mem_append.1 hp4 with h6 | h6
      · exact hp p h6
      · simp at h6; subst h6; show 1 ≤ a ∧ a ≤ b ∧ a ≤ 9223372036854775807; omega)
  have HO := Lib.hid h
  have HL := Lib.hid (fun l4 : List Rg => tog_length (l := l4))
  clear h hp
  unfold starL
  by_cases hab : a < b
  · rw [if_pos hab]
    go_enter Tryd.func51, Tryd.ntmps51
    go_wp2_with (at_builtin; refine appP rfl _ _ rfl a b HO.out rfl rfl (by omega) ?_)
    intro v5 w5 ho5
    have HO5 := Lib.hid ho5
    clear ho5
    go_wp2_with fail
    refine (HG.out _ (.inr ⟨hab, rfl⟩) _ _ HO5.out).mono ?_
    rintro e w1 ⟨v1, rfl, ho1⟩
    have HO1 := Lib.hid ho1
    clear ho1
    have hlen : (tog (l ++ [(a, b)])).length + 1 ≤ 8796093022208 := by (have := HL.out (l ++ [(a, b)]); simp at this; omega)
    go_wp2_with (at_builtin; refine appP rfl _ _ rfl a 0 HO1.out rfl rfl hlen ?_)
    intro v6 w6 ho6
    have HO6 := Lib.hid ho6
    clear ho6
    go_wp2_with fail
    go_ret
    exact ⟨_, rfl, HO6.out⟩
  · rw [if_neg hab]
    go_enter Tryd.func51, Tryd.ntmps51
    go_wp2_with fail
    refine (HG.out _ (.inl rfl) _ _ HO.out).mono ?_
    rintro e w1 ⟨v1, rfl, ho1⟩
    have HO1 := Lib.hid ho1
    clear ho1
    have hlen : (tog l).length + 1 ≤ 8796093022208 := by (have := HL.out l; omega)
    go_wp2_with (at_builtin; refine appP rfl _ _ rfl a 0 HO1.out rfl rfl hlen ?_)
    intro v6 w6 ho6
    have HO6 := Lib.hid ho6
    clear ho6
    go_wp2_with fail
    go_ret
    exact ⟨_, rfl, HO6.out⟩
end Go.Proofs.YtkclcjnfjielfabDoor
