/- A row of bytes that the call itself has made: what it is, and the laws of append and string() over it, at this program's own types. -/
import Derived.Test.YtbncaiocmklgnaaGreatDoorPc
import Derived.Lib.AppendStr
import Derived.Laws.AppendOwnNone
namespace Go.Proofs.YtbncaiocmklgnaaGreatDoor
open Go.RowKit

def bc (l : List UInt8) : List Value := l.map fun b => Value.int .u8 b.toNat
theorem bc_length (l : List UInt8) : (bc l).length = l.length := by simp [bc]
theorem bc_append (a b : List UInt8) : bc (a ++ b) = bc a ++ bc b := by simp [bc]
theorem bc_one (l : List UInt8) : ∀ u ∈ bc l, u.oneCell' = true := by
  intro u hu; simp only [bc, List.mem_map] at hu; obtain ⟨b, _, rfl⟩ := hu; rfl

/-- v is a slice that the call made itself (blocks from B on), its bytes are l; below B nothing has turned since W0. -/
structure Own (B : Nat) (v : Value) (l : List UInt8) (W0 w : World) : Prop where
  row : w.ownsRow B 5 1 v l.length (bc l)
  below : Below B W0 w
  base : B ≤ w.heap.size
theorem Own.nil {B : Nat} {W0 w : World} (h : Below B W0 w) (hB : B ≤ w.heap.size) : Own B (.slice none 0 0) [] W0 w := ⟨World.ownsRow_nil _ _ _ _, h, hB⟩
theorem Own.drewN {B : Nat} {v : Value} {l : List UInt8} {W0 w : World} (h : Own B v l W0 w) (n : Nat) : Own B v l W0 (w.drewN n) := ⟨h.row, below_drewN h.below n, h.base⟩
theorem Own.drew {B : Nat} {v : Value} {l : List UInt8} {W0 w : World} (h : Own B v l W0 w) : Own B v l W0 w.drew := ⟨h.row.drew, h.below.drew, h.base⟩
theorem Own.alloc {B : Nat} {v : Value} {l : List UInt8} {W0 w : World} (h : Own B v l W0 w) (o : Obj) : Own B v l W0 (w.alloc o) :=
  ⟨h.row.alloc o, h.below.alloc h.base o, by have := h.base; simp; omega⟩
/-- Behind a call that leaves alone what was there. -/
theorem Own.on {B : Nat} {v : Value} {l : List UInt8} {W0 w w' : World} (h : Own B v l W0 w) (hb : Below w.heap.size w w') : Own B v l W0 w' := by
  refine ⟨⟨h.row.1, ?_⟩, h.below.trans (hb.mono h.base), Nat.le_trans h.base hb.size⟩
  rcases h.row.2 with hn | ⟨g, cap, cur, rfl, hB, hg, rest⟩
  · exact .inl hn
  · exact .inr ⟨g, cap, cur, rfl, hB, by rw [hb.block g (Array.getElem?_eq_some_iff.1 hg).1]; exact hg, rest⟩
theorem Own.shift {B : Nat} {v : Value} {l : List UInt8} {W0 W1 w : World} (h : Own B v l W1 w) (hb : Below B W0 W1) : Own B v l W0 w := ⟨h.row, hb.trans h.below, h.base⟩

theorem Tryz.infoByte : (Tryz.prog.info? 5).map (fun i => (i.zero, i.size, i.bytes)) = some (some (.int .u8 0), 1, 1) := by kernel_rfl

/-- make([]byte, 0, n). -/
theorem mk0 {ops : Array Oper} {rest : List Oper} {o : Oper} {a : Act} {Q : Exit → Act → World → Prop} {w : World} (hg : o.guard = none) (l c : Operand) (hop : o.op = Op.makeSlice 58 l c)
    (C : Int) (n : Nat) (hC : C = (n : Int)) (hn : n ≤ 1099511627776) (hl : a.eval l = .int .i64 0) (hc : a.eval c = .int .i64 C)
    (hK : ∀ w', Own w.heap.size (.slice (some ⟨w.heap.size, 0, none⟩) 0 n) [] w w' → wpList Tryz.prog ops Q rest (a.put o.dst (.slice (some ⟨w.heap.size, 0, none⟩) 0 n)) w') :
    wpList Tryz.prog ops Q (o :: rest) a w := by
  obtain ⟨i0, hi, hz0, hz1, hz2⟩ := info_parts Tryz.infoByte
  refine wpList_make_own _ hg l c 58 hop w.heap.size 5 i0 (.int .u8 0) 1 Tryz.underlying58 hi hz0 hz1 .i64 .i64 C n hl hc hC (by rw [hz2]; omega) (by unfold maxLen; omega) (Nat.le_refl _) ?_
  intro w' h1 h2
  exact hK w' ⟨h1, (Below.refl _ _).grown h2 (Nat.le_refl _) (fun k hk => by cases hk), h2.size⟩

/-- string(out). -/
theorem Own.back {B : Nat} {v : Value} {l : List UInt8} {W0 w : World} (h : Own B v l W0 w) : (convert 58 9 v).run Tryz.prog w = .ok (.string (S l)) w := by
  rcases h.row.2 with ⟨rfl, h0⟩ | ⟨g, cap, cur, rfl, _⟩
  · have : l = [] := List.eq_nil_of_length_eq_zero h0
    subst this
    rw [run_convert_bytes_string w _ _ _ _ _ _ Tryz.underlying58 Tryz.underlying5 Tryz.underlying9]
    rfl
  · exact run_convert_bytes_back w 58 9 5 ⟨g, 0, none⟩ cap l Tryz.underlying58 Tryz.underlying5 Tryz.underlying9 (fun j hj => h.row.cells (g := g) rfl j _ (by simp [bc, hj]))

/-- out = append(out, c): the byte lies in a new block. -/
theorem app1 {ops : Array Oper} {rest : List Oper} {o : Oper} {a : Act} {Q : Exit → Act → World → Prop} (hgd : o.guard = none) (s x : Operand)
    (ho : o.op = .call { callee := .builtin .append, args := #[s, x], argTypes := #[58, 58] })
    {B : Nat} {v : Value} {l : List UInt8} {W0 w : World} (c : Int) (b : UInt8) (hown : Own B v l W0 w) (hcb : c = (b.toNat : Int)) (hs : a.eval s = v) (hx : a.eval x = .slice (some ⟨w.heap.size, 0, none⟩) 1 1)
    (hlen : l.length + 1 ≤ 140737488355328)
    (h : ∀ v' w', Own B v' (l ++ [b]) W0 w' → wpList Tryz.prog ops Q rest (a.put o.dst v') w') : wpList Tryz.prog ops Q (o :: rest) a (w.alloc (.cells #[.int .u8 c] 5)) := by
  subst hcb
  obtain ⟨i0, hi, hz0, hz1, hz2⟩ := info_parts Tryz.infoByte
  have ha := hown.alloc (.cells #[.int .u8 (b.toNat : Int)] 5)
  refine wpList_append_own _ hgd s x 58 ho B 5 i0 (.int .u8 0) 1 1 Tryz.underlying58 hi hz0 hz1 hz2 rfl (by decide) v l.length (bc l) hs ha.row ⟨w.heap.size, 0, none⟩ 1 1 [.int .u8 (b.toNat : Int)] hx rfl ?_ ?_ (by unfold maxLen; omega) (by omega) ha.base ?_
  · intro j u hj
    match j, hj with
    | 0, hj => simp at hj; subst hj; simp [Addr.add]
    | (j + 1), hj => simp at hj
  · intro u hu; simp at hu; subst hu; rfl
  · intro v' w' ho' hg _
    refine h v' w' ⟨?_, ha.below.grown hg ha.base (fun k hk => (ha.row.lt k hk).1), Nat.le_trans ha.base hg.size⟩
    rw [List.length_append, bc_append]
    exact ho'

/-- out = append(out, text...). -/
theorem appS {ops : Array Oper} {rest : List Oper} {o : Oper} {a : Act} {Q : Exit → Act → World → Prop} (hgd : o.guard = none) (sl x : Operand)
    (ho : o.op = .call { callee := .builtin .append, args := #[sl, x], argTypes := #[58, 9] })
    {B : Nat} {v : Value} {l : List UInt8} {W0 w : World} (s : ByteArray) (hown : Own B v l W0 w) (hs : a.eval sl = v) (hx : a.eval x = .string s)
    (hlen : l.length + s.size ≤ 140737488355328)
    (h : ∀ v' w', Own B v' (l ++ L s) W0 w' → wpList Tryz.prog ops Q rest (a.put o.dst v') w') : wpList Tryz.prog ops Q (o :: rest) a w := by
  obtain ⟨i0, hi, hz0, hz1, hz2⟩ := info_parts Tryz.infoByte
  refine Lib.wpList_append_own_string w hgd sl x 58 9 ho B 5 i0 Tryz.underlying58 Tryz.underlying9 hi hz0 hz1 hz2 v l.length (bc l) hs hown.row s hx (by unfold maxLen; omega) hlen hown.base ?_
  intro v' w' ho' hg _
  refine h v' w' ⟨?_, hown.below.grown hg hown.base (fun k hk => (hown.row.lt k hk).1), Nat.le_trans hown.base hg.size⟩
  rw [List.length_append, bc_append, L_length]
  exact ho'

/-- out = append(out, other...), the other a slice of the call's own too. -/
theorem appR {ops : Array Oper} {rest : List Oper} {o : Oper} {a : Act} {Q : Exit → Act → World → Prop} (hgd : o.guard = none) (sl x : Operand)
    (ho : o.op = .call { callee := .builtin .append, args := #[sl, x], argTypes := #[58, 58] })
    {B : Nat} {v : Value} {l : List UInt8} {W0 w : World} {B2 : Nat} {v2 : Value} {l2 : List UInt8} {W2 : World} (hown : Own B v l W0 w) (h2 : Own B2 v2 l2 W2 w) (hs : a.eval sl = v) (hx : a.eval x = v2)
    (hlen : l.length + l2.length ≤ 140737488355328)
    (h : ∀ v' w', Own B v' (l ++ l2) W0 w' → wpList Tryz.prog ops Q rest (a.put o.dst v') w') : wpList Tryz.prog ops Q (o :: rest) a w := by
  obtain ⟨i0, hi, hz0, hz1, hz2⟩ := info_parts Tryz.infoByte
  rcases h2.row.2 with ⟨rfl, h0⟩ | ⟨g, cap, cur, rfl, _⟩
  · have : l2 = [] := List.eq_nil_of_length_eq_zero h0
    subst this
    exact wpList_append_own_none hgd sl x 58 ho B 5 i0 1 Tryz.underlying58 hi v l.length (bc l) hs hown.row hx (h v w (by rw [List.append_nil]; exact hown))
  · refine wpList_append_own _ hgd sl x 58 ho B 5 i0 (.int .u8 0) 1 1 Tryz.underlying58 hi hz0 hz1 hz2 rfl (by decide) v l.length (bc l) hs hown.row ⟨g, 0, none⟩ l2.length cap (bc l2) hx (by rw [bc_length]; omega) (h2.row.cells rfl) (bc_one l2) (by unfold maxLen; omega) (by omega) hown.base ?_
    intro v' w' ho' hg _
    refine h v' w' ⟨?_, hown.below.grown hg hown.base (fun k hk => (hown.row.lt k hk).1), Nat.le_trans hown.base hg.size⟩
    rw [List.length_append, bc_append]
    exact ho'
end Go.Proofs.YtbncaiocmklgnaaGreatDoor
