/- frame: two rows that grow (frames, places); told. -/
import Derived.Test.YtllpejkfbgpobaaF10j
import Derived.Deep.AppendLies
namespace Go.Proofs.Ytllpejkfbgpobaa
open Go.RowKit

def frC (f : Fr) : List Value := [.int .i64 (f.kind : Int), .int .i64 (f.num : Int), .int .i64 (f.at' : Int), .string (S f.body)]
def frCs (l : List Fr) : List Value := l.flatMap frC
theorem frCs_append (a b : List Fr) : frCs (a ++ b) = frCs a ++ frCs b := by simp [frCs]
theorem frCs_length (l : List Fr) : (frCs l).length = 4 * l.length := by
  induction l with
  | nil => rfl
  | cons f l ih => simp [frCs, frC] at ih ⊢; omega
def inC (l : List Nat) : List Value := l.map fun n : Nat => Value.int .i64 (n : Int)
theorem inC_append (a b : List Nat) : inC (a ++ b) = inC a ++ inC b := by simp [inC]
theorem inC_length (l : List Nat) : (inC l).length = l.length := by simp [inC]
def ApartV (u v : Value) : Prop := ∀ k, u.ownBlock = some k → v.ownBlock ≠ some k
theorem ApartV.symm {u v : Value} (h : ApartV u v) : ApartV v u := fun k h1 h2 => h k h2 h1
theorem Try.infoFr : (Try.prog.info? 34).map (fun i => (i.zero, i.size, i.bytes)) = some (some (frV 0 0 0 ⟨#[]⟩), 4, 40) := by kernel_rfl
theorem Try.infoInt : (Try.prog.info? 3).map (fun i => (i.zero, i.size, i.bytes)) = some (some (.int .i64 0), 1, 8) := by kernel_rfl
/-- A row of frames and a row of numbers that the call made, in blocks of their own from B on. -/
structure Two (B : Nat) (v3 : Value) (F : List Fr) (v4 : Value) (N : List Nat) (w : World) : Prop where
  a : w.ownsRow B 34 4 v3 F.length (frCs F)
  b : w.ownsRow B 3 1 v4 N.length (inC N)
  d : ApartV v3 v4
  base : B ≤ w.heap.size
theorem row_on' {B : Nat} {v : Value} {G : List Value} {n z : Nat} {e : TypeId} {w w' : World} (h : w.ownsRow B e z v n G) (hb : ∀ g, B ≤ g → g < w.heap.size → w'.heap[g]? = w.heap[g]?) : w'.ownsRow B e z v n G := by
  refine ⟨h.1, ?_⟩
  rcases h.2 with hn | ⟨g, cap, cur, rfl, hB, hg, rest⟩
  · exact .inl hn
  · exact .inr ⟨g, cap, cur, rfl, hB, by rw [hb g hB (Array.getElem?_eq_some_iff.1 hg).1]; exact hg, rest⟩
theorem Two.on {B : Nat} {v3 v4 : Value} {F : List Fr} {N : List Nat} {w w' : World} (h : Two B v3 F v4 N w) (hb : Below w.heap.size w w') : Two B v3 F v4 N w' :=
  ⟨row_on' h.a (fun g _ hg => hb.block g hg), row_on' h.b (fun g _ hg => hb.block g hg), h.d, Nat.le_trans h.base hb.size⟩
theorem Two.set {B : Nat} {v3 v4 : Value} {F : List Fr} {N : List Nat} {w : World} (h : Two B v3 F v4 N w) {p : Nat} (hp : p < B) (u : Value) : Two B v3 F v4 N (w.setCell ⟨p, 0, none⟩ u) :=
  ⟨row_on' h.a (fun g hg _ => by rw [heap_setCell_other _ _ _ _ (by show g ≠ p; omega)]), row_on' h.b (fun g hg _ => by rw [heap_setCell_other _ _ _ _ (by show g ≠ p; omega)]), h.d, by simpa using h.base⟩
theorem Two.nil {B : Nat} {w : World} (hB : B ≤ w.heap.size) : Two B (.slice none 0 0) [] (.slice none 0 0) [] w :=
  ⟨World.ownsRow_nil _ _ _ _, World.ownsRow_nil _ _ _ _, fun k h => by simp [Value.ownBlock] at h, hB⟩
/-- A frame more. -/
theorem appF {ops : Array Oper} {rest : List Oper} {o : Oper} {a : Act} {Q : Exit → Act → World → Prop} (hgd : o.guard = none) (s x : Operand)
    (ho : o.op = .call { callee := .builtin .append, args := #[s, x], argTypes := #[26, 26] })
    {B : Nat} {v3 v4 : Value} {F : List Fr} {N : List Nat} {w : World} (f : Fr) (cs : Array Value) (hcs : cs = (frC f).toArray) (h2 : Two B v3 F v4 N w) (hs : a.eval s = v3) (g : Nat) (hgz : g = w.heap.size) (hx : a.eval x = .slice (some ⟨g, 0, none⟩) 1 1)
    (hlen : F.length + 1 ≤ 1099511627776)
    (h : ∀ v' w', Two B v' (F ++ [f]) v4 N w' → Below B (w.alloc (.cells cs 34)) w' → wpList Try.prog ops Q rest (a.put o.dst v') w') : wpList Try.prog ops Q (o :: rest) a (w.alloc (.cells cs 34)) := by
  subst hcs hgz
  obtain ⟨i0, hi, hz0, hz1, hz2⟩ := info_parts Try.infoFr
  have hbA : Below w.heap.size w (w.alloc (.cells (frC f).toArray 34)) := (Below.refl _ _).alloc (Nat.le_refl _) _
  have hA := h2.on hbA
  refine wpList_append_lies _ hgd s x 26 ho B 34 i0 (frV 0 0 0 ⟨#[]⟩) 4 40 Try.underlying26 hi hz0 hz1 hz2 rfl (by decide) v3 F.length (frCs F) hs hA.a ⟨w.heap.size, 0, none⟩ 1 1 (frC f) hx rfl ?_ ?_ (by decide) (by unfold maxLen; omega) (by omega) hA.base _ rfl ?_
  · intro j u hj
    have e : (⟨w.heap.size, 0, none⟩ : Addr).add j = ⟨w.heap.size, j, none⟩ := by
      unfold Addr.add; split
      · rename_i h; rw [h]
      · simp
    rw [e, cell_of_row _ _ j _ _ _ (heap_alloc_last w _)]
    simpa using hj
  · intro u hu; simp [frC] at hu; rcases hu with rfl | rfl | rfl | rfl <;> rfl
  · intro g cap w' ho' hg hat _
    refine h _ w' ⟨?_, hA.b.kept hg ?_, fun k h4 h5 => ?_, Nat.le_trans hA.base hg.size⟩ ((Below.refl _ _).grown hg hA.base (fun k hk => (hA.a.lt k hk).1))
    · rw [List.length_append, frCs_append]
      have : frCs [f] = frC f := by simp [frCs]
      rw [this]
      exact ho'
    · cases h4 : v4.ownBlock with
      | none => exact .inl rfl
      | some k => exact .inr (fun e => hA.d k e.symm h4)
    · have e : g = k := by simpa [Value.ownBlock] using h4
      subst e
      rcases hat with h6 | h6
      · exact hA.d g h6 h5
      · have := (hA.b.lt g h5).2
        omega
/-- A number more. -/
theorem appN {ops : Array Oper} {rest : List Oper} {o : Oper} {a : Act} {Q : Exit → Act → World → Prop} (hgd : o.guard = none) (s x : Operand)
    (ho : o.op = .call { callee := .builtin .append, args := #[s, x], argTypes := #[27, 27] })
    {B : Nat} {v3 v4 : Value} {F : List Fr} {N : List Nat} {w : World} (n : Nat) (c : Int) (hc : c = (n : Int)) (h2 : Two B v3 F v4 N w) (hs : a.eval s = v4) (g : Nat) (hgz : g = w.heap.size) (hx : a.eval x = .slice (some ⟨g, 0, none⟩) 1 1)
    (hlen : N.length + 1 ≤ 1099511627776)
    (h : ∀ v' w', Two B v3 F v' (N ++ [n]) w' → Below B (w.alloc (.cells #[.int .i64 c] 3)) w' → wpList Try.prog ops Q rest (a.put o.dst v') w') : wpList Try.prog ops Q (o :: rest) a (w.alloc (.cells #[.int .i64 c] 3)) := by
  subst hc hgz
  obtain ⟨i0, hi, hz0, hz1, hz2⟩ := info_parts Try.infoInt
  have hbA : Below w.heap.size w (w.alloc (.cells #[.int .i64 (n : Int)] 3)) := (Below.refl _ _).alloc (Nat.le_refl _) _
  have hA := h2.on hbA
  refine wpList_append_lies _ hgd s x 27 ho B 3 i0 (.int .i64 0) 1 8 Try.underlying27 hi hz0 hz1 hz2 rfl (by decide) v4 N.length (inC N) hs hA.b ⟨w.heap.size, 0, none⟩ 1 1 [.int .i64 (n : Int)] hx rfl ?_ ?_ (by decide) (by unfold maxLen; omega) (by omega) hA.base _ rfl ?_
  · intro j u hj
    match j, hj with
    | 0, hj => simp at hj; subst hj; simp [Addr.add]
    | (j + 1), hj => simp at hj
  · intro u hu; simp at hu; subst hu; rfl
  · intro g cap w' ho' hg hat _
    refine h _ w' ⟨hA.a.kept hg ?_, ?_, fun k h4 h5 => ?_, Nat.le_trans hA.base hg.size⟩ ((Below.refl _ _).grown hg hA.base (fun k hk => (hA.b.lt k hk).1))
    · cases h4 : v3.ownBlock with
      | none => exact .inl rfl
      | some k => exact .inr (fun e => hA.d k h4 e.symm)
    · rw [List.length_append, inC_append]
      exact ho'
    · have e : g = k := by simpa [Value.ownBlock] using h5
      subst e
      rcases hat with h6 | h6
      · exact hA.d g h4 h6
      · have := (hA.a.lt g h4).2
        omega
theorem Two.shape3 {B : Nat} {v3 v4 : Value} {F : List Fr} {N : List Nat} {w : World} (h : Two B v3 F v4 N w) : ∃ ao cap, v3 = .slice ao F.length cap := by
  rcases h.a.2 with ⟨rfl, h0⟩ | ⟨g, cap, cur, rfl, _⟩
  · exact ⟨none, 0, by rw [h0]⟩
  · exact ⟨_, cap, rfl⟩
theorem Two.shape4 {B : Nat} {v3 v4 : Value} {F : List Fr} {N : List Nat} {w : World} (h : Two B v3 F v4 N w) : ∃ ao cap, v4 = .slice ao N.length cap := by
  rcases h.b.2 with ⟨rfl, h0⟩ | ⟨g, cap, cur, rfl, _⟩
  · exact ⟨none, 0, by rw [h0]⟩
  · exact ⟨_, cap, rfl⟩
theorem Two.shape3s {B : Nat} {v3 v4 : Value} {F : List Fr} {f : Fr} {N : List Nat} {w : World} (h : Two B v3 (F ++ [f]) v4 N w) : ∃ ao cap, v3 = .slice ao (F.length + 1) cap := by
  obtain ⟨ao, cap, e⟩ := h.shape3
  exact ⟨ao, cap, by rw [e, List.length_append]; rfl⟩
theorem Two.shape4s {B : Nat} {v3 v4 : Value} {F : List Fr} {N : List Nat} {n : Nat} {w : World} (h : Two B v3 F v4 (N ++ [n]) w) : ∃ ao cap, v4 = .slice ao (N.length + 1) cap := by
  obtain ⟨ao, cap, e⟩ := h.shape4
  exact ⟨ao, cap, by rw [e, List.length_append]; rfl⟩
theorem keepsB {B b : Nat} {X Y : World} {o : Obj} (h : Below B X Y) (hb : b < B) (hX : X.heap[b]? = some o) : Y.heap[b]? = some o := by rw [h.block b hb]; exact hX
theorem alloc_keeps {X : World} {b : Nat} {o p : Obj} (h : X.heap[b]? = some o) : (X.alloc p).heap[b]? = some o := by rw [Below.heap_alloc _ _ _ (heap_lt h)]; exact h
/-- What told has in memory while its scan goes: the rows' variables at P + 1 and P + 2, the text at P. -/
structure Td (w0 : World) (B : Nat) (s : ByteArray) (F : List Fr) (N : List Nat) (W : World) : Prop where
  below : Below w0.heap.size w0 W
  rows : ∃ v3 v4, Two B v3 F v4 N W ∧ W.heap[w0.heap.size + 1]? = some (.cells #[v3] 26) ∧ W.heap[w0.heap.size + 2]? = some (.cells #[v4] 27)
  str : W.heap[w0.heap.size]? = some (.cells #[.string s] 9)
theorem Td.on {w0 : World} {B : Nat} {s : ByteArray} {F : List Fr} {N : List Nat} {W W' : World} (h : Td w0 B s F N W) (hb : Below W.heap.size W W') : Td w0 B s F N W' := by
  obtain ⟨v3, v4, h1, h2, h3⟩ := h.rows
  exact ⟨h.below.trans (hb.mono h.below.size), ⟨v3, v4, h1.on hb, keeps hb h2, keeps hb h3⟩, keeps hb h.str⟩
set_option maxHeartbeats 2000000 in
theorem told1 {w0 : World} {B : Nat} (f : Fr) (E : Nat) (s : ByteArray) (F : List Fr) (N : List Nat) (W : World) (hB : w0.heap.size + 3 ≤ B) (hs : s.size ≤ 140737488355328) (h : Td w0 B s F N W) (hF : F.length + 1 ≤ 1099511627776) (hN : N.length = F.length) :
    Calls Try.prog 23 #[.int .i64 (E : Int), frV f.kind f.num f.at' (S f.body), .pointer (some ⟨w0.heap.size + 1, 0, none⟩), .pointer (some ⟨w0.heap.size + 2, 0, none⟩), .pointer (some ⟨w0.heap.size, 0, none⟩)] W fun e W' =>
      e = .returned (.bool (decide (F.length + 1 ≤ s.size / 18))) ∧ Td w0 B s (F ++ [f]) (N ++ [E]) W' ∧ (∀ b, w0.heap.size + 3 ≤ b → b < B → W'.heap[b]? = W.heap[b]?) := by
  obtain ⟨v3, v4, h1, h2, h3⟩ := h.rows
  have hstr := h.str
  have hbel := h.below
  have q1 : w0.heap.size + 1 < B := by omega
  have q2 : w0.heap.size + 2 < B := by omega
  unfold frV
  have c1 : W.cell? ⟨w0.heap.size + 1, 0, none⟩ = some (v3) := cell_of_row _ _ 0 _ _ _ h2
  have c2 : W.cell? ⟨w0.heap.size + 2, 0, none⟩ = some (v4) := cell_of_row _ _ 0 _ _ _ h3
  have c3 : W.cell? ⟨w0.heap.size, 0, none⟩ = some (.string s) := cell_of_row _ _ 0 _ _ _ hstr
  have f1 := frozen_of_row _ _ 0 _ _ h2
  have f2 := frozen_of_row _ _ 0 _ _ h3
  have l1 := heap_lt h2
  have l2 := heap_lt h3
  have l3 := heap_lt hstr
  have H1 := Lib.hid h1
  have H2 := Lib.hid h2
  have H3 := Lib.hid h3
  have HS := Lib.hid hstr
  have HB := Lib.hid hbel
  clear h h1 h2 h3 hstr hbel
  go_enter Try.func23, Try.ntmps23
  go_wp2_with (first | (at_builtin; refine appF rfl (.tmp 8) (.tmp 10) rfl f _ rfl (H1.out.on ((Below.refl _ _).alloc (Nat.le_refl _) _)) rfl (W.heap.size + 1) (by simp) rfl hF ?_; intro v5 w5 t5 b5; obtain ⟨a5, k5, rfl⟩ := t5.shape3s; have e15 : w5.heap[w0.heap.size + 1]? = some (.cells #[v3] 26) := keepsB b5 (by omega) (alloc_keeps (alloc_keeps H2.out)); have e25 : w5.heap[w0.heap.size + 2]? = some (.cells #[v4] 27) := keepsB b5 (by omega) (alloc_keeps (alloc_keeps H3.out)); have e35 : w5.heap[w0.heap.size]? = some (.cells #[.string s] 9) := keepsB b5 (by omega) (alloc_keeps (alloc_keeps HS.out)); have c15 : w5.cell? ⟨w0.heap.size + 1, 0, none⟩ = some (v3) := cell_of_row _ _ 0 _ _ _ e15; have c25 : w5.cell? ⟨w0.heap.size + 2, 0, none⟩ = some (v4) := cell_of_row _ _ 0 _ _ _ e25; have c35 : w5.cell? ⟨w0.heap.size, 0, none⟩ = some (.string s) := cell_of_row _ _ 0 _ _ _ e35; have f15 := frozen_of_row _ _ 0 _ _ e15; have f25 := frozen_of_row _ _ 0 _ _ e25; have HE15 := Lib.hid e15; have HE25 := Lib.hid e25; have HE35 := Lib.hid e35; clear e15 e25 e35; have l5 := Nat.lt_of_lt_of_le q2 t5.base; have T5 := Lib.hid t5; have B5 := Lib.hid b5; clear t5 b5 c1 c2 c3 f1 f2) | (at_builtin; refine appN rfl (.tmp 12) (.tmp 14) rfl E _ rfl (T5.out.set q1 _) rfl w5.heap.size (by simp) rfl (by omega) ?_; intro v6 w6 t6 b6; obtain ⟨a6, k6, rfl⟩ := t6.shape4s; have e16 : w6.heap[w0.heap.size + 1]? = some (.cells #[.slice a5 (F.length + 1) k5] 26) := keepsB b6 (by omega) (alloc_keeps (by rw [heap_setCell_same _ _ 0 _ _ _ HE15.out]; rfl)); have e26 : w6.heap[w0.heap.size + 2]? = some (.cells #[v4] 27) := keepsB b6 (by omega) (alloc_keeps (by rw [heap_setCell_other _ _ _ _ (by simp)]; exact HE25.out)); have e36 : w6.heap[w0.heap.size]? = some (.cells #[.string s] 9) := keepsB b6 (by omega) (alloc_keeps (by rw [heap_setCell_other _ _ _ _ (by simp)]; exact HE35.out)); have c16 : w6.cell? ⟨w0.heap.size + 1, 0, none⟩ = some (.slice a5 (F.length + 1) k5) := cell_of_row _ _ 0 _ _ _ e16; have c26 : w6.cell? ⟨w0.heap.size + 2, 0, none⟩ = some (v4) := cell_of_row _ _ 0 _ _ _ e26; have c36 : w6.cell? ⟨w0.heap.size, 0, none⟩ = some (.string s) := cell_of_row _ _ 0 _ _ _ e36; have f16 := frozen_of_row _ _ 0 _ _ e16; have f26 := frozen_of_row _ _ 0 _ _ e26; have HE16 := Lib.hid e16; have HE26 := Lib.hid e26; have HE36 := Lib.hid e36; clear e16 e26 e36; have l6 := Nat.lt_of_lt_of_le q2 t6.base; have T6 := Lib.hid t6; have B6 := Lib.hid b6; clear t6 b6 c15 c25 c35 f15 f25))
  go_ret
  have hB1 := H1.out.base
  have hB5 := T5.out.base
  rw [hN] at T6
  refine ⟨ret_bool (by rw [decide_eq_decide]; omega), ⟨?_, ⟨_, _, T6.out.set q2 _, ?_, ?_⟩, ?_⟩, fun b h1 h2 => ?_⟩
  · have b1 := (HB.out.alloc HB.out.size (.cells #[.int .i64 (f.kind : Int), .int .i64 (f.num : Int), .int .i64 (f.at' : Int), .string (S f.body)] 34)).alloc (by have := HB.out.size; simp; omega) (.cells #[.int .i64 (f.kind : Int), .int .i64 (f.num : Int), .int .i64 (f.at' : Int), .string (S f.body)] 34)
    have b2 := b1.trans (B5.out.mono (by omega))
    have b3 := b2.setCell (p := ⟨w0.heap.size + 1, 0, none⟩) (by simp) (.slice a5 (F.length + 1) k5)
    have b4 := b3.alloc (by have := b3.size; exact this) (.cells #[.int .i64 (E : Int)] 3)
    have b5 := b4.trans (B6.out.mono (by omega))
    exact b5.setCell (p := ⟨w0.heap.size + 2, 0, none⟩) (by simp) _
  · rw [heap_setCell_other _ _ _ _ (by simp)]; exact HE16.out
  · rw [heap_setCell_same _ _ 0 _ _ _ HE26.out]; rfl
  · rw [heap_setCell_other _ _ _ _ (by simp)]; exact HE36.out
  · rw [heap_setCell_other _ _ _ _ (by show b ≠ w0.heap.size + 2; omega), B6.out.block b h2, Below.heap_alloc _ _ _ (by simp; omega), heap_setCell_other _ _ _ _ (by show b ≠ w0.heap.size + 1; omega), B5.out.block b h2, Below.heap_alloc _ _ _ (by simp; omega), Below.heap_alloc _ _ _ (by omega)]
end Go.Proofs.Ytllpejkfbgpobaa
