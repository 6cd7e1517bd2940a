/- span: lists of numbers in memory, rows of numbers that the call has made. -/
import Derived.Test.YtiphbnmnoofpkaaVe
namespace Go.Proofs.Ytiphbnmnoofpkaa
open Go.RowKit

/-- v is a list of numbers, l, in memory that is there. -/
def Ints (w : World) (v : Value) (l : List Int) : Prop :=
  (l = [] ∧ ∃ ao cap, v = .slice ao 0 cap ∧ (ao = none → cap = 0)) ∨ ∃ b off cap, v = .slice (some ⟨b, off, none⟩) l.length cap ∧ l.length ≤ 17592186044416 ∧ b < w.heap.size ∧ ∀ i, i < l.length → w.cell? ⟨b, off + i, none⟩ = some (.int .i64 (l.getD i 0))
theorem Ints.on {w w' : World} {v : Value} {l : List Int} (h : Ints w v l) (hb : Below w.heap.size w w') : Ints w' v l := by
  rcases h with h | ⟨b, off, cap, rfl, h0, h1, h2⟩
  · exact .inl h
  · refine .inr ⟨b, off, cap, rfl, h0, Nat.lt_of_lt_of_le h1 hb.size, fun i hi => ?_⟩
    rw [hb.cell (p := ⟨b, off + i, none⟩) h1]
    exact h2 i hi
theorem take_snocI (l : List Int) (k : Nat) (hk : k < l.length) : l.take (k + 1) = l.take k ++ [l.getD k 0] := by
  rw [List.take_succ_eq_append_getElem hk]; simp [hk]

def ic (l : List Int) : List Value := l.map fun n => Value.int .i64 n
theorem ic_length (l : List Int) : (ic l).length = l.length := by simp [ic]
theorem ic_append (a b : List Int) : ic (a ++ b) = ic a ++ ic b := by simp [ic]
theorem ic_one (l : List Int) : ∀ u ∈ ic l, u.oneCell' = true := by
  intro u hu; simp only [ic, List.mem_map] at hu; obtain ⟨b, _, rfl⟩ := hu; rfl
theorem ic_at (l : List Int) (i : Nat) (hi : i < l.length) : (ic l)[i]? = some (.int .i64 (l.getD i 0)) := by
  simp [ic, hi]
/-- v is a slice that the call made itself (blocks from B on), its numbers are l; below B nothing has turned since W0. -/
structure OwnI (B : Nat) (v : Value) (l : List Int) (W0 w : World) : Prop where
  row : w.ownsRow B 3 1 v l.length (ic l)
  below : Below B W0 w
  base : B ≤ w.heap.size
theorem OwnI.nil {B : Nat} {W0 w : World} (h : Below B W0 w) (hB : B ≤ w.heap.size) : OwnI B (.slice none 0 0) [] W0 w := ⟨World.ownsRow_nil _ _ _ _, h, hB⟩
theorem OwnI.drewN {B : Nat} {v : Value} {l : List Int} {W0 w : World} (h : OwnI B v l W0 w) (n : Nat) : OwnI B v l W0 (w.drewN n) := ⟨h.row, below_drewN h.below n, h.base⟩
theorem OwnI.alloc {B : Nat} {v : Value} {l : List Int} {W0 w : World} (h : OwnI B v l W0 w) (o : Obj) : OwnI B v l W0 (w.alloc o) :=
  ⟨h.row.alloc o, h.below.alloc h.base o, by have := h.base; simp; omega⟩
theorem OwnI.on {B : Nat} {v : Value} {l : List Int} {W0 w w' : World} (h : OwnI B v l W0 w) (hb : Below w.heap.size w w') : OwnI B v l W0 w' := by
  refine ⟨⟨h.row.1, ?_⟩, h.below.trans (hb.mono h.base), Nat.le_trans h.base hb.size⟩
  rcases h.row.2 with hn | ⟨g, cap, cur, rfl, hB, hg, rest⟩
  · exact .inl hn
  · exact .inr ⟨g, cap, cur, rfl, hB, by rw [hb.block g (Array.getElem?_eq_some_iff.1 hg).1]; exact hg, rest⟩
theorem OwnI.shift {B : Nat} {v : Value} {l : List Int} {W0 W1 w : World} (h : OwnI B v l W1 w) (hb : Below B W0 W1) : OwnI B v l W0 w := ⟨h.row, hb.trans h.below, h.base⟩
theorem OwnI.mono {B B' : Nat} {v : Value} {l : List Int} {W0 w : World} (h : OwnI B v l W0 w) (hB : B' ≤ B) : OwnI B' v l W0 w := by
  refine ⟨⟨h.row.1, ?_⟩, h.below.mono hB, Nat.le_trans hB h.base⟩
  rcases h.row.2 with hn | ⟨g, cap, cur, rfl, hg, rest⟩
  · exact .inl hn
  · exact .inr ⟨g, cap, cur, rfl, Nat.le_trans hB hg, rest⟩
theorem OwnI.ints {B : Nat} {v : Value} {l : List Int} {W0 w : World} (h : OwnI B v l W0 w) (hl : l.length ≤ 17592186044416) : Ints w v l := by
  rcases h.row.2 with ⟨rfl, h0⟩ | ⟨g, cap, cur, rfl, hB, hg, rest⟩
  · exact .inl ⟨List.eq_nil_of_length_eq_zero h0, none, 0, rfl, fun _ => rfl⟩
  · refine .inr ⟨g, 0, cap, rfl, hl, (Array.getElem?_eq_some_iff.1 hg).1, fun i hi => ?_⟩
    have c1 := h.row.cells (g := g) rfl i _ (ic_at l i hi)
    rw [Addr.add_lit] at c1
    exact c1
theorem own_apart {B B' : Nat} {v v2 : Value} {l : List Rg} {l2 : List Int} {W0 W2 w : World} (h : OwnR B v l W0 w) (h2 : OwnI B' v2 l2 W2 w) : v.ownBlock = none ∨ v.ownBlock ≠ v2.ownBlock := by
  rcases h.row.2 with ⟨rfl, _⟩ | ⟨g, cap, cur, rfl, _, hg, _⟩
  · exact .inl rfl
  · right
    rcases h2.row.2 with ⟨rfl, _⟩ | ⟨g', cap', cur', rfl, _, hg', _⟩
    · simp [Value.ownBlock]
    · intro e
      simp [Value.ownBlock] at e
      subst e
      rw [hg] at hg'
      have h3 := Option.some.inj hg'
      injection h3 with _ h4
      exact absurd h4 (by decide)
theorem own_apart' {B B' : Nat} {v v2 : Value} {l : List Rg} {l2 : List Int} {W0 W2 w : World} (h : OwnR B v l W0 w) (h2 : OwnI B' v2 l2 W2 w) : v2.ownBlock = none ∨ v2.ownBlock ≠ v.ownBlock := by
  rcases h2.row.2 with ⟨rfl, _⟩ | ⟨g', cap', cur', rfl, _, hg', _⟩
  · exact .inl rfl
  · rcases own_apart h h2 with e | e
    · right; rw [e]; simp [Value.ownBlock]
    · exact .inr (Ne.symm e)
theorem Try.infoInt : (Try.prog.info? 3).map (fun i => (i.zero, i.size, i.bytes)) = some (some (.int .i64 0), 1, 8) := by kernel_rfl

/-- plain = append(plain, piece), the row of numbers stays. -/
theorem appPk {ops : Array Oper} {rest : List Oper} {o : Oper} {a : Act} {Q : Exit → Act → World → Prop} (hgd : o.guard = none) (s x : Operand)
    (ho : o.op = .call { callee := .builtin .append, args := #[s, x], argTypes := #[39, 39] })
    {B : Nat} {v v2 : Value} {l : List Rg} {l2 : List Int} {W0 w : World} (p q : Int) (hown : OwnR B v l W0 w) (ho2 : OwnI B v2 l2 W0 w) (hs : a.eval s = v) (hx : a.eval x = .slice (some ⟨w.heap.size, 0, none⟩) 1 1)
    (hlen : l.length + 1 ≤ 8796093022208)
    (h : ∀ v' w', OwnR B v' (l ++ [(p, q)]) W0 w' → OwnI B v2 l2 W0 w' → wpList Try.prog ops Q rest (a.put o.dst v') w') : wpList Try.prog ops Q (o :: rest) a (w.alloc (.cells #[.int .i64 p, .int .i64 q] 53)) := by
  obtain ⟨i0, hi, hz0, hz1, hz2⟩ := info_parts Try.infoRange
  have ha := hown.alloc (.cells #[.int .i64 p, .int .i64 q] 53)
  have ha2 := ho2.alloc (.cells #[.int .i64 p, .int .i64 q] 53)
  refine wpList_append_own _ hgd s x 39 ho B 53 i0 (rgV 0 0) 2 16 Try.underlying39 hi hz0 hz1 hz2 rfl (by decide) v l.length (rc l) hs ha.row ⟨w.heap.size, 0, none⟩ 1 1 [.int .i64 p, .int .i64 q] hx rfl ?_ ?_ (by unfold maxLen; omega) (by omega) ha.base ?_
  · intro j u hj
    match j, hj with
    | 0, hj => simp at hj; subst hj; simp [Addr.add]
    | 1, hj => simp at hj; subst hj; simp [Addr.add]
    | (j + 2), hj => simp at hj
  · intro u hu; simp at hu; rcases hu with rfl | rfl <;> rfl
  · intro v' w' ho' hg _
    have hbb := ha.below.grown hg ha.base (fun k hk => (ha.row.lt k hk).1)
    refine h v' w' ⟨?_, hbb, Nat.le_trans ha.base hg.size⟩ ⟨ha2.row.kept hg (own_apart' ha ha2), hbb, Nat.le_trans ha.base hg.size⟩
    rw [List.length_append, rc_append]
    exact ho'
/-- beside = append(beside, n), the row of pieces stays. -/
theorem appIk {ops : Array Oper} {rest : List Oper} {o : Oper} {a : Act} {Q : Exit → Act → World → Prop} (hgd : o.guard = none) (s x : Operand)
    (ho : o.op = .call { callee := .builtin .append, args := #[s, x], argTypes := #[30, 30] })
    {B : Nat} {v v2 : Value} {l : List Rg} {l2 : List Int} {W0 w : World} (c : Int) (hown : OwnR B v l W0 w) (ho2 : OwnI B v2 l2 W0 w) (hs : a.eval s = v2) (hx : a.eval x = .slice (some ⟨w.heap.size, 0, none⟩) 1 1)
    (hlen : l2.length + 1 ≤ 17592186044416)
    (h : ∀ v' w', OwnR B v l W0 w' → OwnI B v' (l2 ++ [c]) W0 w' → wpList Try.prog ops Q rest (a.put o.dst v') w') : wpList Try.prog ops Q (o :: rest) a (w.alloc (.cells #[.int .i64 c] 3)) := by
  obtain ⟨i0, hi, hz0, hz1, hz2⟩ := info_parts Try.infoInt
  have ha := hown.alloc (.cells #[.int .i64 c] 3)
  have ha2 := ho2.alloc (.cells #[.int .i64 c] 3)
  refine wpList_append_own _ hgd s x 30 ho B 3 i0 (.int .i64 0) 1 8 Try.underlying30 hi hz0 hz1 hz2 rfl (by decide) v2 l2.length (ic l2) hs ha2.row ⟨w.heap.size, 0, none⟩ 1 1 [.int .i64 c] hx rfl ?_ ?_ (by unfold maxLen; omega) (by omega) ha2.base ?_
  · intro j u hj
    match j, hj with
    | 0, hj => simp at hj; subst hj; simp [Addr.add]
    | (j + 1), hj => simp at hj
  · intro u hu; simp at hu; subst hu; rfl
  · intro v' w' ho' hg _
    have hbb := ha2.below.grown hg ha2.base (fun k hk => (ha2.row.lt k hk).1)
    refine h v' w' ⟨ha.row.kept hg (own_apart ha ha2), hbb, Nat.le_trans ha.base hg.size⟩ ⟨?_, hbb, Nat.le_trans ha.base hg.size⟩
    rw [List.length_append, ic_append]
    exact ho'

theorem appI {ops : Array Oper} {rest : List Oper} {o : Oper} {a : Act} {Q : Exit → Act → World → Prop} (hgd : o.guard = none) (s x : Operand)
    (ho : o.op = .call { callee := .builtin .append, args := #[s, x], argTypes := #[30, 30] })
    {B : Nat} {v2 : Value} {l2 : List Int} {W0 w : World} (c : Int) (ho2 : OwnI B v2 l2 W0 w) (hs : a.eval s = v2) (hx : a.eval x = .slice (some ⟨w.heap.size, 0, none⟩) 1 1)
    (hlen : l2.length + 1 ≤ 17592186044416)
    (h : ∀ v' w', OwnI B v' (l2 ++ [c]) W0 w' → wpList Try.prog ops Q rest (a.put o.dst v') w') : wpList Try.prog ops Q (o :: rest) a (w.alloc (.cells #[.int .i64 c] 3)) :=
  appIk hgd s x ho c (OwnR.nil ho2.below ho2.base) ho2 hs hx hlen (fun v' w' _ h2 => h v' w' h2)

def cmpI (a b : Int) : Int := if a < b then -1 else if b < a then 1 else 0
set_option maxHeartbeats 400000 in
theorem isNaN_any (x : Int) (w : World) : Calls Try.prog 57 #[.int .i64 x] w fun e w' => e = .returned (.bool false) ∧ w' = w := by
  have h : (x != x) = false := by simp
  go_enter Try.func57, Try.ntmps57
  go_wp2
  go_ret
  exact ⟨rfl, rfl⟩
set_option maxHeartbeats 400000 in
theorem compare_any (a b : Int) (w : World) : Calls Try.prog 49 #[.int .i64 a, .int .i64 b] w fun e w' => e = .returned (.int .i64 (cmpI a b)) ∧ w' = w := by
  unfold cmpI
  rcases Int.lt_trichotomy a b with h | h | h
  · go_enter Try.func49, Try.ntmps49
    go_wp2_with (go_at_call 57; refine (isNaN_any _ _).mono ?_; rintro e w' ⟨rfl, rfl⟩)
    go_ret
    exact ⟨rfl, rfl⟩
  · subst h
    have h1 : ¬ a < a := by omega
    go_enter Try.func49, Try.ntmps49
    go_wp2_with (go_at_call 57; refine (isNaN_any _ _).mono ?_; rintro e w' ⟨rfl, rfl⟩)
    go_ret
    exact ⟨by simp, rfl⟩
  · have h1 : ¬ a < b := by omega
    go_enter Try.func49, Try.ntmps49
    go_wp2_with (go_at_call 57; refine (isNaN_any _ _).mono ?_; rintro e w' ⟨rfl, rfl⟩)
    go_ret
    exact ⟨rfl, rfl⟩
end Go.Proofs.Ytiphbnmnoofpkaa
