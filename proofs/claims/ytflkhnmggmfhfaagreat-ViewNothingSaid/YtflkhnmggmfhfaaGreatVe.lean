/- span: rows of pieces that the call has made; Clone, the order, the sort. -/
import Derived.Test.YtflkhnmggmfhfaaGreatVd
import Derived.Laws.AppendOwnNone
import Derived.Lib.SliceRun
namespace Go.Proofs.YtflkhnmggmfhfaaGreat
open Go.RowKit

def encR (p : Rg) : List Value := [.int .i64 p.1, .int .i64 p.2]
def rc (l : List Rg) : List Value := l.flatMap encR
theorem rc_length (l : List Rg) : (rc l).length = l.length * 2 := by
  induction l with
  | nil => rfl
  | cons p r ih => simp only [rc, List.flatMap_cons, List.length_append, List.length_cons] at *; rw [ih]; simp [encR]; omega
theorem rc_append (a b : List Rg) : rc (a ++ b) = rc a ++ rc b := by simp [rc]
theorem rc_one (l : List Rg) : ∀ u ∈ rc l, u.oneCell' = true := by
  intro u hu
  simp only [rc, List.mem_flatMap, encR] at hu
  obtain ⟨p, _, hp⟩ := hu
  simp at hp
  rcases hp with rfl | rfl <;> rfl
theorem rc_at (l : List Rg) (i : Nat) (hi : i < l.length) : (rc l)[i * 2]? = some (.int .i64 (l.getD i (0, 0)).1) ∧ (rc l)[i * 2 + 1]? = some (.int .i64 (l.getD i (0, 0)).2) := by
  induction l generalizing i with
  | nil => simp at hi
  | cons p r ih =>
    cases i with
    | zero => exact ⟨rfl, rfl⟩
    | succ i =>
      have := ih i (by simpa using hi)
      have e : rc (p :: r) = .int .i64 p.1 :: .int .i64 p.2 :: rc r := by simp [rc, encR]
      rw [e, show (i + 1) * 2 = i * 2 + 1 + 1 by omega]
      simp only [List.getElem?_cons_succ, List.getD_cons_succ]
      exact this

/-- v is a slice that the call made itself (blocks from B on), its pieces are l; below B nothing has turned since W0. -/
structure OwnR (B : Nat) (v : Value) (l : List Rg) (W0 w : World) : Prop where
  row : w.ownsRow B 90 2 v l.length (rc l)
  below : Below B W0 w
  base : B ≤ w.heap.size
theorem OwnR.nil {B : Nat} {W0 w : World} (h : Below B W0 w) (hB : B ≤ w.heap.size) : OwnR B (.slice none 0 0) [] W0 w := ⟨World.ownsRow_nil _ _ _ _, h, hB⟩
theorem OwnR.drew {B : Nat} {v : Value} {l : List Rg} {W0 w : World} (h : OwnR B v l W0 w) : OwnR B v l W0 w.drew := ⟨h.row.drew, h.below.drew, h.base⟩
theorem OwnR.drewN {B : Nat} {v : Value} {l : List Rg} {W0 w : World} (h : OwnR B v l W0 w) (n : Nat) : OwnR B v l W0 (w.drewN n) := ⟨h.row, below_drewN h.below n, h.base⟩
theorem OwnR.alloc {B : Nat} {v : Value} {l : List Rg} {W0 w : World} (h : OwnR B v l W0 w) (o : Obj) : OwnR B v l W0 (w.alloc o) :=
  ⟨h.row.alloc o, h.below.alloc h.base o, by have := h.base; simp; omega⟩
theorem OwnR.on {B : Nat} {v : Value} {l : List Rg} {W0 w w' : World} (h : OwnR B v l W0 w) (hb : Below w.heap.size w w') : OwnR B v l W0 w' := by
  refine ⟨⟨h.row.1, ?_⟩, h.below.trans (hb.mono h.base), Nat.le_trans h.base hb.size⟩
  rcases h.row.2 with hn | ⟨g, cap, cur, rfl, hB, hg, rest⟩
  · exact .inl hn
  · exact .inr ⟨g, cap, cur, rfl, hB, by rw [hb.block g (Array.getElem?_eq_some_iff.1 hg).1]; exact hg, rest⟩
theorem OwnR.shift {B : Nat} {v : Value} {l : List Rg} {W0 W1 w : World} (h : OwnR B v l W1 w) (hb : Below B W0 W1) : OwnR B v l W0 w := ⟨h.row, hb.trans h.below, h.base⟩
theorem OwnR.mono {B B' : Nat} {v : Value} {l : List Rg} {W0 w : World} (h : OwnR B v l W0 w) (hB : B' ≤ B) : OwnR B' v l W0 w := by
  refine ⟨⟨h.row.1, ?_⟩, h.below.mono hB, Nat.le_trans hB h.base⟩
  rcases h.row.2 with hn | ⟨g, cap, cur, rfl, hg, rest⟩
  · exact .inl hn
  · exact .inr ⟨g, cap, cur, rfl, Nat.le_trans hB hg, rest⟩
theorem OwnR.rgs {B : Nat} {v : Value} {l : List Rg} {W0 w : World} (h : OwnR B v l W0 w) (hl : l.length ≤ 8796093022208) : Rgs w v l := by
  rcases h.row.2 with ⟨rfl, h0⟩ | ⟨g, cap, cur, rfl, hB, hg, rest⟩
  · exact .inl ⟨List.eq_nil_of_length_eq_zero h0, none, 0, rfl, fun _ => rfl⟩
  · refine .inr ⟨g, 0, cap, rfl, hl, (Array.getElem?_eq_some_iff.1 hg).1, fun i hi => ?_⟩
    have := rc_at l i hi
    have c1 := h.row.cells (g := g) rfl (i * 2) _ this.1
    have c2 := h.row.cells (g := g) rfl (i * 2 + 1) _ this.2
    rw [show ((⟨g, 0, none⟩ : Addr).add (i * 2)) = ⟨g, 0 + i * 2, none⟩ from by rw [Addr.add_lit]] at c1
    rw [show ((⟨g, 0, none⟩ : Addr).add (i * 2 + 1)) = ⟨g, 0 + i * 2 + 1, none⟩ from by rw [Addr.add_lit, Nat.add_assoc]] at c2
    exact ⟨c1, c2⟩

theorem Tryz.infoRange : (Tryz.prog.info? 90).map (fun i => (i.zero, i.size, i.bytes)) = some (some (rgV 0 0), 2, 16) := by kernel_rfl

/-- out = append(out, piece): the piece lies in a new block. -/
theorem appP {ops : Array Oper} {rest : List Oper} {o : Oper} {a : Act} {Q : Exit → Act → World → Prop} (hgd : o.guard = none) (s x : Operand)
    (ho : o.op = .call { callee := .builtin .append, args := #[s, x], argTypes := #[33, 33] })
    {B : Nat} {v : Value} {l : List Rg} {W0 w : World} (p q : Int) (hown : OwnR B v l W0 w) (hs : a.eval s = v) (hx : a.eval x = .slice (some ⟨w.heap.size, 0, none⟩) 1 1)
    (hlen : l.length + 1 ≤ 8796093022208)
    (h : ∀ v' w', OwnR B v' (l ++ [(p, q)]) W0 w' → wpList Tryz.prog ops Q rest (a.put o.dst v') w') : wpList Tryz.prog ops Q (o :: rest) a (w.alloc (.cells #[.int .i64 p, .int .i64 q] 90)) := by
  obtain ⟨i0, hi, hz0, hz1, hz2⟩ := info_parts Tryz.infoRange
  have ha := hown.alloc (.cells #[.int .i64 p, .int .i64 q] 90)
  refine wpList_append_own _ hgd s x 33 ho B 90 i0 (rgV 0 0) 2 16 Tryz.underlying33 hi hz0 hz1 hz2 rfl (by decide) v l.length (rc l) hs ha.row ⟨w.heap.size, 0, none⟩ 1 1 [.int .i64 p, .int .i64 q] hx rfl ?_ ?_ (by unfold maxLen; omega) (by omega) ha.base ?_
  · intro j u hj
    match j, hj with
    | 0, hj => simp at hj; subst hj; simp [Addr.add]
    | 1, hj => simp at hj; subst hj; simp [Addr.add]
    | (j + 2), hj => simp at hj
  · intro u hu; simp at hu; rcases hu with rfl | rfl <;> rfl
  · intro v' w' ho' hg _
    refine h v' w' ⟨?_, ha.below.grown hg ha.base (fun k hk => (ha.row.lt k hk).1), Nat.le_trans ha.base hg.size⟩
    rw [List.length_append, rc_append]
    exact ho'
/-- out = append(out, list...). -/
theorem appL {ops : Array Oper} {rest : List Oper} {o : Oper} {a : Act} {Q : Exit → Act → World → Prop} (hgd : o.guard = none) (s x : Operand)
    (ho : o.op = .call { callee := .builtin .append, args := #[s, x], argTypes := #[33, 33] })
    {B : Nat} {v : Value} {l : List Rg} {W0 w : World} {v2 : Value} {l2 : List Rg} (hown : OwnR B v l W0 w) (h2 : Rgs w v2 l2) (hs : a.eval s = v) (hx : a.eval x = v2)
    (hlen : l.length + l2.length ≤ 8796093022208)
    (h : ∀ v' w', OwnR B v' (l ++ l2) W0 w' → wpList Tryz.prog ops Q rest (a.put o.dst v') w') : wpList Tryz.prog ops Q (o :: rest) a w := by
  obtain ⟨i0, hi, hz0, hz1, hz2⟩ := info_parts Tryz.infoRange
  have go : ∀ (b off cap : Nat), v2 = .slice (some ⟨b, off, none⟩) l2.length cap → (∀ i, i < l2.length → w.cell? ⟨b, off + i * 2, none⟩ = some (.int .i64 (l2.getD i (0, 0)).1) ∧ w.cell? ⟨b, off + i * 2 + 1, none⟩ = some (.int .i64 (l2.getD i (0, 0)).2)) → wpList Tryz.prog ops Q (o :: rest) a w := by
    intro b off cap hv hc
    refine wpList_append_own _ hgd s x 33 ho B 90 i0 (rgV 0 0) 2 16 Tryz.underlying33 hi hz0 hz1 hz2 rfl (by decide) v l.length (rc l) hs hown.row ⟨b, off, none⟩ l2.length cap (rc l2) (hx.trans hv) (rc_length l2) ?_ (rc_one l2) (by unfold maxLen; omega) (by omega) hown.base ?_
    · intro j u hj
      have hj2 : j < l2.length * 2 := by rw [← rc_length]; exact (List.getElem?_eq_some_iff.1 hj).1
      have hc' := hc (j / 2) (by omega)
      have ha := rc_at l2 (j / 2) (by omega)
      rw [Addr.add_lit]
      rcases Nat.mod_two_eq_zero_or_one j with e | e
      · have ej : j / 2 * 2 = j := by omega
        rw [ej] at hc' ha
        rw [ha.1] at hj
        rw [hc'.1, hj]
      · have ej : j / 2 * 2 + 1 = j := by omega
        rw [ej] at ha
        rw [ha.2] at hj
        rw [show off + j = off + j / 2 * 2 + 1 by omega, hc'.2, hj]
    · intro v' w' ho' hg _
      refine h v' w' ⟨?_, hown.below.grown hg hown.base (fun k hk => (hown.row.lt k hk).1), Nat.le_trans hown.base hg.size⟩
      rw [List.length_append, rc_append]
      exact ho'
  rcases h2 with ⟨rfl, ao, cap, rfl, hn⟩ | ⟨b, off, cap, rfl, _, _, hc⟩
  · cases ao with
    | none =>
      rw [hn rfl] at hx
      exact wpList_append_own_none hgd s x 33 ho B 90 i0 2 Tryz.underlying33 hi v l.length (rc l) hs hown.row hx (h v w (by rw [List.append_nil]; exact hown))
    | some ad =>
      refine wpList_append_own _ hgd s x 33 ho B 90 i0 (rgV 0 0) 2 16 Tryz.underlying33 hi hz0 hz1 hz2 rfl (by decide) v l.length (rc l) hs hown.row ad 0 cap [] hx rfl (by intro j u hj; simp at hj) (by intro u hu; simp at hu) (by unfold maxLen; simp only [List.length_nil] at hlen; omega) (by simp only [List.length_nil] at hlen; omega) hown.base ?_
      intro v' w' ho' hg _
      refine h v' w' ⟨?_, hown.below.grown hg hown.base (fun k hk => (hown.row.lt k hk).1), Nat.le_trans hown.base hg.size⟩
      rw [List.length_append, rc_append]
      exact ho'
  · exact go b off cap rfl hc

set_option maxRecDepth 100000 in
set_option maxHeartbeats 1000000 in
theorem clone_any (v : Value) (l : List Rg) (w : World) (hr : Rgs w v l) :
    Calls Tryz.prog 90 #[v] w fun e w' => ∃ v', e = .returned v' ∧ OwnR w.heap.size v' l w w' := by
  have hlen : l.length ≤ 8796093022208 := by
    rcases hr with ⟨rfl, _⟩ | ⟨_, _, _, _, h, _⟩
    · simp
    · exact h
  by_cases hn : v = .slice none 0 0
  · subst hn
    have hl : l = [] := by
      rcases hr with ⟨rfl, _⟩ | ⟨_, _, _, h, _⟩
      · rfl
      · simp at h
    subst hl
    have q22 : ∀ (w : World) (a : Option Addr) (n c n' c' : Nat), (binOp .eql 33 (.slice a n c) (.slice none n' c')).run Tryz.prog w = .ok (.bool a.isNone) w := fun w a n c n' c' => Lib.run_eql_slice_nil w _ _ a n c n' c' Tryz.underlying33
    go_enter Tryz.func90, Tryz.ntmps90
    go_wp2
    go_ret
    exact ⟨_, rfl, OwnR.nil (Below.refl _ _) (Nat.le_refl _)⟩
  · obtain ⟨ad, n, c, rfl⟩ : ∃ ad n c, v = .slice (some ad) n c := by
      rcases hr with ⟨rfl, ao, cap, rfl, h⟩ | ⟨b, off, cap, rfl, _⟩
      · cases ao with
        | none => rw [h rfl] at hn; exact absurd rfl hn
        | some ad => exact ⟨_, _, _, rfl⟩
      · exact ⟨_, _, _, rfl⟩
    clear hn
    have HO : Hid (OwnR w.heap.size (.slice (some ⟨w.heap.size, 0, none⟩) 0 0) [] w (w.alloc (.cells #[] 90))) := Lib.hid ⟨World.ownsRow_made w #[] 0 (Nat.le_refl _) (Nat.zero_le _) (by simp), (Below.refl _ _).alloc (Nat.le_refl _) _, by simp⟩
    have HR : Hid (Rgs (w.alloc (.cells #[] 90)) (.slice (some ad) n c) l) := Lib.hid (hr.on ((Below.refl _ _).alloc (Nat.le_refl _) _))
    clear hr
    have q22 : ∀ (w : World) (a : Option Addr) (n c n' c' : Nat), (binOp .eql 33 (.slice a n c) (.slice none n' c')).run Tryz.prog w = .ok (.bool a.isNone) w := fun w a n c n' c' => Lib.run_eql_slice_nil w _ _ a n c n' c' Tryz.underlying33
    go_enter Tryz.func90, Tryz.ntmps90
    go_wp2_with (at_builtin; refine appL rfl _ _ rfl HO.out HR.out rfl rfl (by simpa using hlen) ?_)
    intro v' w' ho
    go_wp2
    go_ret
    exact ⟨_, rfl, by simpa using ho⟩
end Go.Proofs.YtflkhnmggmfhfaaGreat

/- span: lists of numbers in memory, rows of numbers that the call has made. -/
namespace Go.Proofs.YtflkhnmggmfhfaaGreat
open Go.RowKit

/-- v is a list of numbers, l, in memory that is there. -/
def Ints (w : World) (v : Value) (l : List Int) : Prop :=
  (l = [] ∧ ∃ ao cap, v = .slice ao 0 cap ∧ (ao = none → cap = 0)) ∨ ∃ b off cap, v = .slice (some ⟨b, off, none⟩) l.length cap ∧ l.length ≤ 17592186044416 ∧ b < w.heap.size ∧ ∀ i, i < l.length → w.cell? ⟨b, off + i, none⟩ = some (.int .i64 (l.getD i 0))
theorem Ints.on {w w' : World} {v : Value} {l : List Int} (h : Ints w v l) (hb : Below w.heap.size w w') : Ints w' v l := by
  rcases h with h | ⟨b, off, cap, rfl, h0, h1, h2⟩
  · exact .inl h
  · refine .inr ⟨b, off, cap, rfl, h0, Nat.lt_of_lt_of_le h1 hb.size, fun i hi => ?_⟩
    rw [hb.cell (p := ⟨b, off + i, none⟩) h1]
    exact h2 i hi
theorem take_snocI (l : List Int) (k : Nat) (hk : k < l.length) : l.take (k + 1) = l.take k ++ [l.getD k 0] := by
  rw [List.take_succ_eq_append_getElem hk]; simp [hk]

def ic (l : List Int) : List Value := l.map fun n => Value.int .i64 n
theorem ic_length (l : List Int) : (ic l).length = l.length := by simp [ic]
theorem ic_append (a b : List Int) : ic (a ++ b) = ic a ++ ic b := by simp [ic]
theorem ic_one (l : List Int) : ∀ u ∈ ic l, u.oneCell' = true := by
  intro u hu; simp only [ic, List.mem_map] at hu; obtain ⟨b, _, rfl⟩ := hu; rfl
theorem ic_at (l : List Int) (i : Nat) (hi : i < l.length) : (ic l)[i]? = some (.int .i64 (l.getD i 0)) := by
  simp [ic, hi]
/-- v is a slice that the call made itself (blocks from B on), its numbers are l; below B nothing has turned since W0. -/
structure OwnI (B : Nat) (v : Value) (l : List Int) (W0 w : World) : Prop where
  row : w.ownsRow B 3 1 v l.length (ic l)
  below : Below B W0 w
  base : B ≤ w.heap.size
theorem OwnI.nil {B : Nat} {W0 w : World} (h : Below B W0 w) (hB : B ≤ w.heap.size) : OwnI B (.slice none 0 0) [] W0 w := ⟨World.ownsRow_nil _ _ _ _, h, hB⟩
theorem OwnI.drewN {B : Nat} {v : Value} {l : List Int} {W0 w : World} (h : OwnI B v l W0 w) (n : Nat) : OwnI B v l W0 (w.drewN n) := ⟨h.row, below_drewN h.below n, h.base⟩
theorem OwnI.alloc {B : Nat} {v : Value} {l : List Int} {W0 w : World} (h : OwnI B v l W0 w) (o : Obj) : OwnI B v l W0 (w.alloc o) :=
  ⟨h.row.alloc o, h.below.alloc h.base o, by have := h.base; simp; omega⟩
theorem OwnI.on {B : Nat} {v : Value} {l : List Int} {W0 w w' : World} (h : OwnI B v l W0 w) (hb : Below w.heap.size w w') : OwnI B v l W0 w' := by
  refine ⟨⟨h.row.1, ?_⟩, h.below.trans (hb.mono h.base), Nat.le_trans h.base hb.size⟩
  rcases h.row.2 with hn | ⟨g, cap, cur, rfl, hB, hg, rest⟩
  · exact .inl hn
  · exact .inr ⟨g, cap, cur, rfl, hB, by rw [hb.block g (Array.getElem?_eq_some_iff.1 hg).1]; exact hg, rest⟩
theorem OwnI.shift {B : Nat} {v : Value} {l : List Int} {W0 W1 w : World} (h : OwnI B v l W1 w) (hb : Below B W0 W1) : OwnI B v l W0 w := ⟨h.row, hb.trans h.below, h.base⟩
theorem OwnI.mono {B B' : Nat} {v : Value} {l : List Int} {W0 w : World} (h : OwnI B v l W0 w) (hB : B' ≤ B) : OwnI B' v l W0 w := by
  refine ⟨⟨h.row.1, ?_⟩, h.below.mono hB, Nat.le_trans hB h.base⟩
  rcases h.row.2 with hn | ⟨g, cap, cur, rfl, hg, rest⟩
  · exact .inl hn
  · exact .inr ⟨g, cap, cur, rfl, Nat.le_trans hB hg, rest⟩
theorem OwnI.ints {B : Nat} {v : Value} {l : List Int} {W0 w : World} (h : OwnI B v l W0 w) (hl : l.length ≤ 17592186044416) : Ints w v l := by
  rcases h.row.2 with ⟨rfl, h0⟩ | ⟨g, cap, cur, rfl, hB, hg, rest⟩
  · exact .inl ⟨List.eq_nil_of_length_eq_zero h0, none, 0, rfl, fun _ => rfl⟩
  · refine .inr ⟨g, 0, cap, rfl, hl, (Array.getElem?_eq_some_iff.1 hg).1, fun i hi => ?_⟩
    have c1 := h.row.cells (g := g) rfl i _ (ic_at l i hi)
    rw [Addr.add_lit] at c1
    exact c1
theorem own_apart {B B' : Nat} {v v2 : Value} {l : List Rg} {l2 : List Int} {W0 W2 w : World} (h : OwnR B v l W0 w) (h2 : OwnI B' v2 l2 W2 w) : v.ownBlock = none ∨ v.ownBlock ≠ v2.ownBlock := by
  rcases h.row.2 with ⟨rfl, _⟩ | ⟨g, cap, cur, rfl, _, hg, _⟩
  · exact .inl rfl
  · right
    rcases h2.row.2 with ⟨rfl, _⟩ | ⟨g', cap', cur', rfl, _, hg', _⟩
    · simp [Value.ownBlock]
    · intro e
      simp [Value.ownBlock] at e
      subst e
      rw [hg] at hg'
      have h3 := Option.some.inj hg'
      injection h3 with _ h4
      exact absurd h4 (by decide)
theorem own_apart' {B B' : Nat} {v v2 : Value} {l : List Rg} {l2 : List Int} {W0 W2 w : World} (h : OwnR B v l W0 w) (h2 : OwnI B' v2 l2 W2 w) : v2.ownBlock = none ∨ v2.ownBlock ≠ v.ownBlock := by
  rcases h2.row.2 with ⟨rfl, _⟩ | ⟨g', cap', cur', rfl, _, hg', _⟩
  · exact .inl rfl
  · rcases own_apart h h2 with e | e
    · right; rw [e]; simp [Value.ownBlock]
    · exact .inr (Ne.symm e)
theorem Tryz.infoInt : (Tryz.prog.info? 3).map (fun i => (i.zero, i.size, i.bytes)) = some (some (.int .i64 0), 1, 8) := by kernel_rfl

/-- plain = append(plain, piece), the row of numbers stays. -/
theorem appPk {ops : Array Oper} {rest : List Oper} {o : Oper} {a : Act} {Q : Exit → Act → World → Prop} (hgd : o.guard = none) (s x : Operand)
    (ho : o.op = .call { callee := .builtin .append, args := #[s, x], argTypes := #[33, 33] })
    {B : Nat} {v v2 : Value} {l : List Rg} {l2 : List Int} {W0 w : World} (p q : Int) (hown : OwnR B v l W0 w) (ho2 : OwnI B v2 l2 W0 w) (hs : a.eval s = v) (hx : a.eval x = .slice (some ⟨w.heap.size, 0, none⟩) 1 1)
    (hlen : l.length + 1 ≤ 8796093022208)
    (h : ∀ v' w', OwnR B v' (l ++ [(p, q)]) W0 w' → OwnI B v2 l2 W0 w' → wpList Tryz.prog ops Q rest (a.put o.dst v') w') : wpList Tryz.prog ops Q (o :: rest) a (w.alloc (.cells #[.int .i64 p, .int .i64 q] 90)) := by
  obtain ⟨i0, hi, hz0, hz1, hz2⟩ := info_parts Tryz.infoRange
  have ha := hown.alloc (.cells #[.int .i64 p, .int .i64 q] 90)
  have ha2 := ho2.alloc (.cells #[.int .i64 p, .int .i64 q] 90)
  refine wpList_append_own _ hgd s x 33 ho B 90 i0 (rgV 0 0) 2 16 Tryz.underlying33 hi hz0 hz1 hz2 rfl (by decide) v l.length (rc l) hs ha.row ⟨w.heap.size, 0, none⟩ 1 1 [.int .i64 p, .int .i64 q] hx rfl ?_ ?_ (by unfold maxLen; omega) (by omega) ha.base ?_
  · intro j u hj
    match j, hj with
    | 0, hj => simp at hj; subst hj; simp [Addr.add]
    | 1, hj => simp at hj; subst hj; simp [Addr.add]
    | (j + 2), hj => simp at hj
  · intro u hu; simp at hu; rcases hu with rfl | rfl <;> rfl
  · intro v' w' ho' hg _
    have hbb := ha.below.grown hg ha.base (fun k hk => (ha.row.lt k hk).1)
    refine h v' w' ⟨?_, hbb, Nat.le_trans ha.base hg.size⟩ ⟨ha2.row.kept hg (own_apart' ha ha2), hbb, Nat.le_trans ha.base hg.size⟩
    rw [List.length_append, rc_append]
    exact ho'
/-- beside = append(beside, n), the row of pieces stays. -/
theorem appIk {ops : Array Oper} {rest : List Oper} {o : Oper} {a : Act} {Q : Exit → Act → World → Prop} (hgd : o.guard = none) (s x : Operand)
    (ho : o.op = .call { callee := .builtin .append, args := #[s, x], argTypes := #[26, 26] })
    {B : Nat} {v v2 : Value} {l : List Rg} {l2 : List Int} {W0 w : World} (c : Int) (hown : OwnR B v l W0 w) (ho2 : OwnI B v2 l2 W0 w) (hs : a.eval s = v2) (hx : a.eval x = .slice (some ⟨w.heap.size, 0, none⟩) 1 1)
    (hlen : l2.length + 1 ≤ 17592186044416)
    (h : ∀ v' w', OwnR B v l W0 w' → OwnI B v' (l2 ++ [c]) W0 w' → wpList Tryz.prog ops Q rest (a.put o.dst v') w') : wpList Tryz.prog ops Q (o :: rest) a (w.alloc (.cells #[.int .i64 c] 3)) := by
  obtain ⟨i0, hi, hz0, hz1, hz2⟩ := info_parts Tryz.infoInt
  have ha := hown.alloc (.cells #[.int .i64 c] 3)
  have ha2 := ho2.alloc (.cells #[.int .i64 c] 3)
  refine wpList_append_own _ hgd s x 26 ho B 3 i0 (.int .i64 0) 1 8 Tryz.underlying26 hi hz0 hz1 hz2 rfl (by decide) v2 l2.length (ic l2) hs ha2.row ⟨w.heap.size, 0, none⟩ 1 1 [.int .i64 c] hx rfl ?_ ?_ (by unfold maxLen; omega) (by omega) ha2.base ?_
  · intro j u hj
    match j, hj with
    | 0, hj => simp at hj; subst hj; simp [Addr.add]
    | (j + 1), hj => simp at hj
  · intro u hu; simp at hu; subst hu; rfl
  · intro v' w' ho' hg _
    have hbb := ha2.below.grown hg ha2.base (fun k hk => (ha2.row.lt k hk).1)
    refine h v' w' ⟨ha.row.kept hg (own_apart ha ha2), hbb, Nat.le_trans ha.base hg.size⟩ ⟨?_, hbb, Nat.le_trans ha.base hg.size⟩
    rw [List.length_append, ic_append]
    exact ho'

theorem appI {ops : Array Oper} {rest : List Oper} {o : Oper} {a : Act} {Q : Exit → Act → World → Prop} (hgd : o.guard = none) (s x : Operand)
    (ho : o.op = .call { callee := .builtin .append, args := #[s, x], argTypes := #[26, 26] })
    {B : Nat} {v2 : Value} {l2 : List Int} {W0 w : World} (c : Int) (ho2 : OwnI B v2 l2 W0 w) (hs : a.eval s = v2) (hx : a.eval x = .slice (some ⟨w.heap.size, 0, none⟩) 1 1)
    (hlen : l2.length + 1 ≤ 17592186044416)
    (h : ∀ v' w', OwnI B v' (l2 ++ [c]) W0 w' → wpList Tryz.prog ops Q rest (a.put o.dst v') w') : wpList Tryz.prog ops Q (o :: rest) a (w.alloc (.cells #[.int .i64 c] 3)) :=
  appIk hgd s x ho c (OwnR.nil ho2.below ho2.base) ho2 hs hx hlen (fun v' w' _ h2 => h v' w' h2)

def cmpI (a b : Int) : Int := if a < b then -1 else if b < a then 1 else 0
set_option maxHeartbeats 400000 in
theorem isNaN_any (x : Int) (w : World) : Calls Tryz.prog 85 #[.int .i64 x] w fun e w' => e = .returned (.bool false) ∧ w' = w := by
  have h : (x != x) = false := by simp
  go_enter Tryz.func85, Tryz.ntmps85
  go_wp2
  go_ret
  exact ⟨rfl, rfl⟩
set_option maxHeartbeats 400000 in
theorem compare_any (a b : Int) (w : World) : Calls Tryz.prog 76 #[.int .i64 a, .int .i64 b] w fun e w' => e = .returned (.int .i64 (cmpI a b)) ∧ w' = w := by
  unfold cmpI
  rcases Int.lt_trichotomy a b with h | h | h
  · go_enter Tryz.func76, Tryz.ntmps76
    go_wp2_with (go_at_call 85; refine (isNaN_any _ _).mono ?_; rintro e w' ⟨rfl, rfl⟩)
    go_ret
    exact ⟨rfl, rfl⟩
  · subst h
    have h1 : ¬ a < a := by omega
    go_enter Tryz.func76, Tryz.ntmps76
    go_wp2_with (go_at_call 85; refine (isNaN_any _ _).mono ?_; rintro e w' ⟨rfl, rfl⟩)
    go_ret
    exact ⟨by simp, rfl⟩
  · have h1 : ¬ a < b := by omega
    go_enter Tryz.func76, Tryz.ntmps76
    go_wp2_with (go_at_call 85; refine (isNaN_any _ _).mono ?_; rintro e w' ⟨rfl, rfl⟩)
    go_ret
    exact ⟨rfl, rfl⟩
end Go.Proofs.YtflkhnmggmfhfaaGreat
