/- frame: rows of bytes that the call itself has made; word, appendWord, appendSum, Size, isKind, isNumber. -/
import Derived.Test.YtkdmicpfinjpgaaF10d
import Derived.Lib.AppendStr
import Derived.Laws.AppendOwnNone
namespace Go.Proofs.Ytkdmicpfinjpgaa
open Go.RowKit

def bc (l : List UInt8) : List Value := l.map fun b => Value.int .u8 b.toNat
theorem bc_length (l : List UInt8) : (bc l).length = l.length := by simp [bc]
theorem bc_append (a b : List UInt8) : bc (a ++ b) = bc a ++ bc b := by simp [bc]
theorem bc_one (l : List UInt8) : ∀ u ∈ bc l, u.oneCell' = true := by
  intro u hu; simp only [bc, List.mem_map] at hu; obtain ⟨b, _, rfl⟩ := hu; rfl

/-- v is a slice that the call made itself (blocks from B on), its bytes are l; below B nothing has turned since W0. -/
structure Own (B : Nat) (v : Value) (l : List UInt8) (W0 w : World) : Prop where
  row : w.ownsRow B 5 1 v l.length (bc l)
  below : Below B W0 w
  base : B ≤ w.heap.size
theorem Own.nil {B : Nat} {W0 w : World} (h : Below B W0 w) (hB : B ≤ w.heap.size) : Own B (.slice none 0 0) [] W0 w := ⟨World.ownsRow_nil _ _ _ _, h, hB⟩
theorem Own.drewN {B : Nat} {v : Value} {l : List UInt8} {W0 w : World} (h : Own B v l W0 w) (n : Nat) : Own B v l W0 (w.drewN n) := ⟨h.row, below_drewN h.below n, h.base⟩
theorem Own.drew {B : Nat} {v : Value} {l : List UInt8} {W0 w : World} (h : Own B v l W0 w) : Own B v l W0 w.drew := ⟨h.row.drew, h.below.drew, h.base⟩
theorem Own.alloc {B : Nat} {v : Value} {l : List UInt8} {W0 w : World} (h : Own B v l W0 w) (o : Obj) : Own B v l W0 (w.alloc o) :=
  ⟨h.row.alloc o, h.below.alloc h.base o, by have := h.base; simp; omega⟩
/-- Behind a call that leaves alone what was there. -/
theorem Own.on {B : Nat} {v : Value} {l : List UInt8} {W0 w w' : World} (h : Own B v l W0 w) (hb : Below w.heap.size w w') : Own B v l W0 w' := by
  refine ⟨⟨h.row.1, ?_⟩, h.below.trans (hb.mono h.base), Nat.le_trans h.base hb.size⟩
  rcases h.row.2 with hn | ⟨g, cap, cur, rfl, hB, hg, rest⟩
  · exact .inl hn
  · exact .inr ⟨g, cap, cur, rfl, hB, by rw [hb.block g (Array.getElem?_eq_some_iff.1 hg).1]; exact hg, rest⟩
theorem Own.shift {B : Nat} {v : Value} {l : List UInt8} {W0 W1 w : World} (h : Own B v l W1 w) (hb : Below B W0 W1) : Own B v l W0 w := ⟨h.row, hb.trans h.below, h.base⟩

theorem Try.infoByte : (Try.prog.info? 5).map (fun i => (i.zero, i.size, i.bytes)) = some (some (.int .u8 0), 1, 1) := by kernel_rfl

/-- make([]byte, 0, n). -/
theorem mk0 {ops : Array Oper} {rest : List Oper} {o : Oper} {a : Act} {Q : Exit → Act → World → Prop} {w : World} (hg : o.guard = none) (l c : Operand) (hop : o.op = Op.makeSlice 56 l c)
    (C : Int) (n : Nat) (hC : C = (n : Int)) (hn : n ≤ 1099511627776) (hl : a.eval l = .int .i64 0) (hc : a.eval c = .int .i64 C)
    (hK : ∀ w', Own w.heap.size (.slice (some ⟨w.heap.size, 0, none⟩) 0 n) [] w w' → wpList Try.prog ops Q rest (a.put o.dst (.slice (some ⟨w.heap.size, 0, none⟩) 0 n)) w') :
    wpList Try.prog ops Q (o :: rest) a w := by
  obtain ⟨i0, hi, hz0, hz1, hz2⟩ := info_parts Try.infoByte
  refine wpList_make_own _ hg l c 56 hop w.heap.size 5 i0 (.int .u8 0) 1 Try.underlying56 hi hz0 hz1 .i64 .i64 C n hl hc hC (by rw [hz2]; omega) (by unfold maxLen; omega) (Nat.le_refl _) ?_
  intro w' h1 h2
  exact hK w' ⟨h1, (Below.refl _ _).grown h2 (Nat.le_refl _) (fun k hk => by cases hk), h2.size⟩

/-- string(out). -/
theorem Own.back {B : Nat} {v : Value} {l : List UInt8} {W0 w : World} (h : Own B v l W0 w) : (convert 56 9 v).run Try.prog w = .ok (.string (S l)) w := by
  rcases h.row.2 with ⟨rfl, h0⟩ | ⟨g, cap, cur, rfl, _⟩
  · have : l = [] := List.eq_nil_of_length_eq_zero h0
    subst this
    rw [run_convert_bytes_string w _ _ _ _ _ _ Try.underlying56 Try.underlying5 Try.underlying9]
    rfl
  · exact run_convert_bytes_back w 56 9 5 ⟨g, 0, none⟩ cap l Try.underlying56 Try.underlying5 Try.underlying9 (fun j hj => h.row.cells (g := g) rfl j _ (by simp [bc, hj]))

/-- out = append(out, c): the byte lies in a new block. -/
theorem app1 {ops : Array Oper} {rest : List Oper} {o : Oper} {a : Act} {Q : Exit → Act → World → Prop} (hgd : o.guard = none) (s x : Operand)
    (ho : o.op = .call { callee := .builtin .append, args := #[s, x], argTypes := #[56, 56] })
    {B : Nat} {v : Value} {l : List UInt8} {W0 w : World} (c : Int) (b : UInt8) (hown : Own B v l W0 w) (hcb : c = (b.toNat : Int)) (hs : a.eval s = v) (hx : a.eval x = .slice (some ⟨w.heap.size, 0, none⟩) 1 1)
    (hlen : l.length + 1 ≤ 140737488355328)
    (h : ∀ v' w', Own B v' (l ++ [b]) W0 w' → wpList Try.prog ops Q rest (a.put o.dst v') w') : wpList Try.prog ops Q (o :: rest) a (w.alloc (.cells #[.int .u8 c] 5)) := by
  subst hcb
  obtain ⟨i0, hi, hz0, hz1, hz2⟩ := info_parts Try.infoByte
  have ha := hown.alloc (.cells #[.int .u8 (b.toNat : Int)] 5)
  refine wpList_append_own _ hgd s x 56 ho B 5 i0 (.int .u8 0) 1 1 Try.underlying56 hi hz0 hz1 hz2 rfl (by decide) v l.length (bc l) hs ha.row ⟨w.heap.size, 0, none⟩ 1 1 [.int .u8 (b.toNat : Int)] hx rfl ?_ ?_ (by unfold maxLen; omega) (by omega) ha.base ?_
  · intro j u hj
    match j, hj with
    | 0, hj => simp at hj; subst hj; simp [Addr.add]
    | (j + 1), hj => simp at hj
  · intro u hu; simp at hu; subst hu; rfl
  · intro v' w' ho' hg _
    refine h v' w' ⟨?_, ha.below.grown hg ha.base (fun k hk => (ha.row.lt k hk).1), Nat.le_trans ha.base hg.size⟩
    rw [List.length_append, bc_append]
    exact ho'

/-- out = append(out, text...). -/
theorem appS {ops : Array Oper} {rest : List Oper} {o : Oper} {a : Act} {Q : Exit → Act → World → Prop} (hgd : o.guard = none) (sl x : Operand)
    (ho : o.op = .call { callee := .builtin .append, args := #[sl, x], argTypes := #[56, 9] })
    {B : Nat} {v : Value} {l : List UInt8} {W0 w : World} (s : ByteArray) (hown : Own B v l W0 w) (hs : a.eval sl = v) (hx : a.eval x = .string s)
    (hlen : l.length + s.size ≤ 140737488355328)
    (h : ∀ v' w', Own B v' (l ++ L s) W0 w' → wpList Try.prog ops Q rest (a.put o.dst v') w') : wpList Try.prog ops Q (o :: rest) a w := by
  obtain ⟨i0, hi, hz0, hz1, hz2⟩ := info_parts Try.infoByte
  refine Lib.wpList_append_own_string w hgd sl x 56 9 ho B 5 i0 Try.underlying56 Try.underlying9 hi hz0 hz1 hz2 v l.length (bc l) hs hown.row s hx (by unfold maxLen; omega) hlen hown.base ?_
  intro v' w' ho' hg _
  refine h v' w' ⟨?_, hown.below.grown hg hown.base (fun k hk => (hown.row.lt k hk).1), Nat.le_trans hown.base hg.size⟩
  rw [List.length_append, bc_append, L_length]
  exact ho'

/-- out = append(out, some bytes): they lie in a new block. -/
theorem appK {ops : Array Oper} {rest : List Oper} {o : Oper} {a : Act} {Q : Exit → Act → World → Prop} (hgd : o.guard = none) (s x : Operand)
    (ho : o.op = .call { callee := .builtin .append, args := #[s, x], argTypes := #[56, 56] })
    {B : Nat} {v : Value} {l : List UInt8} {W0 w : World} (b : List UInt8) (cs : Array Value) (k : Nat) (hcs : cs = (bc b).toArray) (hk : k = b.length) (hown : Own B v l W0 w) (hs : a.eval s = v) (hx : a.eval x = .slice (some ⟨w.heap.size, 0, none⟩) k k)
    (hlen : l.length + b.length ≤ 140737488355328)
    (h : ∀ v' w', Own B v' (l ++ b) W0 w' → wpList Try.prog ops Q rest (a.put o.dst v') w') : wpList Try.prog ops Q (o :: rest) a (w.alloc (.cells cs 5)) := by
  subst hcs hk
  obtain ⟨i0, hi, hz0, hz1, hz2⟩ := info_parts Try.infoByte
  have ha := hown.alloc (.cells (bc b).toArray 5)
  refine wpList_append_own _ hgd s x 56 ho B 5 i0 (.int .u8 0) 1 1 Try.underlying56 hi hz0 hz1 hz2 rfl (by decide) v l.length (bc l) hs ha.row ⟨w.heap.size, 0, none⟩ b.length b.length (bc b) hx (by rw [bc_length]; omega) ?_ (bc_one b) (by unfold maxLen; omega) (by omega) ha.base ?_
  · intro j u hj
    have e : (⟨w.heap.size, 0, none⟩ : Addr).add j = ⟨w.heap.size, j, none⟩ := by
      unfold Addr.add; split
      · rename_i h; rw [h]
      · simp
    rw [e, cell_of_row _ _ j _ _ _ (heap_alloc_last w _)]
    simpa using hj
  · intro v' w' ho' hg _
    refine h v' w' ⟨?_, ha.below.grown hg ha.base (fun k hk => (ha.row.lt k hk).1), Nat.le_trans ha.base hg.size⟩
    rw [List.length_append, bc_append]
    exact ho'

/-- out = append(out, other...), the other a slice of the call's own too. -/
theorem appR {ops : Array Oper} {rest : List Oper} {o : Oper} {a : Act} {Q : Exit → Act → World → Prop} (hgd : o.guard = none) (sl x : Operand)
    (ho : o.op = .call { callee := .builtin .append, args := #[sl, x], argTypes := #[56, 56] })
    {B : Nat} {v : Value} {l : List UInt8} {W0 w : World} {B2 : Nat} {v2 : Value} {l2 : List UInt8} {W2 : World} (hown : Own B v l W0 w) (h2 : Own B2 v2 l2 W2 w) (hs : a.eval sl = v) (hx : a.eval x = v2)
    (hlen : l.length + l2.length ≤ 140737488355328)
    (h : ∀ v' w', Own B v' (l ++ l2) W0 w' → wpList Try.prog ops Q rest (a.put o.dst v') w') : wpList Try.prog ops Q (o :: rest) a w := by
  obtain ⟨i0, hi, hz0, hz1, hz2⟩ := info_parts Try.infoByte
  rcases h2.row.2 with ⟨rfl, h0⟩ | ⟨g, cap, cur, rfl, _⟩
  · have : l2 = [] := List.eq_nil_of_length_eq_zero h0
    subst this
    exact wpList_append_own_none hgd sl x 56 ho B 5 i0 1 Try.underlying56 hi v l.length (bc l) hs hown.row hx (h v w (by rw [List.append_nil]; exact hown))
  · refine wpList_append_own _ hgd sl x 56 ho B 5 i0 (.int .u8 0) 1 1 Try.underlying56 hi hz0 hz1 hz2 rfl (by decide) v l.length (bc l) hs hown.row ⟨g, 0, none⟩ l2.length cap (bc l2) hx (by rw [bc_length]; omega) (h2.row.cells rfl) (bc_one l2) (by unfold maxLen; omega) (by omega) hown.base ?_
    intro v' w' ho' hg _
    refine h v' w' ⟨?_, hown.below.grown hg hown.base (fun k hk => (hown.row.lt k hk).1), Nat.le_trans hown.base hg.size⟩
    rw [List.length_append, bc_append]
    exact ho'

theorem sh_int (n : Nat) (k : Nat) : ((n : Int) / (2 ^ k : Nat)) = ((n / 2 ^ k : Nat) : Int) := by simp
set_option maxHeartbeats 1000000 in
theorem appendWord_any {B : Nat} {v : Value} {l : List UInt8} {W0 w : World} (n : Nat) (hn : n < 4294967296) (hO : Own B v l W0 w) (hl : l.length ≤ 1099511627776) :
    Calls Try.prog 21 #[v, .int .i64 (n : Int)] w fun e w' => ∃ v', e = .returned v' ∧ Own B v' (l ++ be4 n) W0 w' := by
  have HO := Lib.hid hO
  clear hO
  have hcs : #[Value.int .u8 ((n : Int) / 16777216), .int .u8 ((n : Int) / 65536 % 256), .int .u8 ((n : Int) / 256 % 256), .int .u8 ((n : Int) % 256)] = (bc (be4 n)).toArray := by
    simp only [bc, be4, List.map_cons, List.map_nil, u8_toNat]
    have h0 : n / 16777216 % 256 = n / 16777216 := Nat.mod_eq_of_lt (by omega)
    rw [h0]
    rfl
  have HC := Lib.hid hcs
  clear hcs
  go_enter Try.func21, Try.ntmps21
  go_wp2_with (at_builtin; refine appK rfl (.tmp 5) (.tmp 17) rfl (be4 n) _ 4 HC.out rfl HO.out rfl rfl (by rw [be4_length]; omega) ?_; intro v' w2 hown2)
  go_ret
  exact ⟨_, rfl, hown2⟩
theorem or_step (i a b : Nat) (h : b < 2 ^ i) (ha : 2 ^ i * a < 4294967296) (hb : 2 ^ i * a + b < 4294967296) : bits .or .i64 ((2 ^ i * a : Nat) : Int) (b : Int) = ((2 ^ i * a + b : Nat) : Int) := by
  rw [i64_or _ _ ha (by omega), Nat.two_pow_add_eq_or_of_lt h]
theorem or_four (a b c d : Nat) (h0 : a < 2 ^ 8) (h1 : b < 2 ^ 8) (h2 : c < 2 ^ 8) (h3 : d < 2 ^ 8) :
    bits .or .i64 (bits .or .i64 (bits .or .i64 ((a : Int) * 16777216) ((b : Int) * 65536)) ((c : Int) * 256)) (d : Int) = ((a * 16777216 + b * 65536 + c * 256 + d : Nat) : Int) := by
  have e1 : bits .or .i64 ((a : Int) * 16777216) ((b : Int) * 65536) = ((2 ^ 16 * (a * 256 + b) : Nat) : Int) := by
    have := or_step 24 a (b * 65536) (by omega) (by omega) (by omega)
    rw [show ((a : Int) * 16777216) = ((2 ^ 24 * a : Nat) : Int) by omega, show ((b : Int) * 65536) = ((b * 65536 : Nat) : Int) by omega, this]
    omega
  have e2 : bits .or .i64 ((2 ^ 16 * (a * 256 + b) : Nat) : Int) ((c : Int) * 256) = ((2 ^ 8 * ((a * 256 + b) * 256 + c) : Nat) : Int) := by
    have := or_step 16 (a * 256 + b) (c * 256) (by omega) (by omega) (by omega)
    rw [show ((c : Int) * 256) = ((c * 256 : Nat) : Int) by omega, this]
    omega
  rw [e1, e2, or_step 8 ((a * 256 + b) * 256 + c) d (by omega) (by omega) (by omega)]
  omega
set_option maxHeartbeats 1000000 in
theorem word_any (s : ByteArray) (i : Nat) (w : World) (hi : i + 4 ≤ s.size) (hs : s.size ≤ 140737488355328) :
    Calls Try.prog 33 #[.string s, .int .i64 (i : Int)] w fun e w' => e = .returned (.int .i64 (w4 (L s) i : Nat)) ∧ ∃ n, w' = w.drewN n := by
  have e0 : bt (L s) i = s[i] := (bt_getElem (L s) i (by rw [L_length]; omega)).trans rfl
  have e1 : bt (L s) (i + 1) = s[i + 1] := (bt_getElem (L s) (i + 1) (by rw [L_length]; omega)).trans rfl
  have e2 : bt (L s) (i + 2) = s[i + 2] := (bt_getElem (L s) (i + 2) (by rw [L_length]; omega)).trans rfl
  have e3 : bt (L s) (i + 3) = s[i + 3] := (bt_getElem (L s) (i + 3) (by rw [L_length]; omega)).trans rfl
  unfold w4
  rw [e0, e1, e2, e3]
  clear e0 e1 e2 e3
  have b0 : i < s.size := by omega
  have b1 : i + 1 < s.size := by omega
  have b2 : i + 2 < s.size := by omega
  have b3 : i + 3 < s.size := by omega
  have k1 : (i : Int) + 1 < (s.size : Int) := by omega
  have z1 : (0 : Int) ≤ (i : Int) + 1 := by omega
  have n1 : ((i : Int) + 1).toNat = i + 1 := by omega
  have v1 : IntKind.i64.wrap ((i : Int) + 1) = (i : Int) + 1 := by rw [IntKind.wrap_i64]; omega
  have k2 : (i : Int) + 2 < (s.size : Int) := by omega
  have z2 : (0 : Int) ≤ (i : Int) + 2 := by omega
  have n2 : ((i : Int) + 2).toNat = i + 2 := by omega
  have v2 : IntKind.i64.wrap ((i : Int) + 2) = (i : Int) + 2 := by rw [IntKind.wrap_i64]; omega
  have k3 : (i : Int) + 3 < (s.size : Int) := by omega
  have z3 : (0 : Int) ≤ (i : Int) + 3 := by omega
  have n3 : ((i : Int) + 3).toNat = i + 3 := by omega
  have v3 : IntKind.i64.wrap ((i : Int) + 3) = (i : Int) + 3 := by rw [IntKind.wrap_i64]; omega
  have h0 := s[i].toNat_lt; have h1 := s[i + 1].toNat_lt; have h2 := s[i + 2].toNat_lt; have h3 := s[i + 3].toNat_lt
  go_enter Try.func33, Try.ntmps33
  go_wp2
  go_region
  go_wp2
  go_ret
  exact ⟨ret_int (or_four _ _ _ _ h0 h1 h2 h3), 1, rfl⟩
set_option maxHeartbeats 1000000 in
theorem appendSum_any {B T : Nat} {v : Value} {l : List UInt8} {W0 w : World} (hO : Own B v l W0 w) (hl : l.length ≤ 1099511627776) (hT : w.heap[T]? = some (.cells (tabC 256) 54)) :
    Calls Try.prog 22 #[v, .pointer (some ⟨T, 0, none⟩)] w fun e w' => ∃ v', e = .returned v' ∧ Own B v' (l ++ be4 (crc l)) W0 w' := by
  have hback := hO.back
  have HO := Lib.hid hO
  have HT := Lib.hid hT
  clear hO hT
  go_enter Try.func22, Try.ntmps22
  go_wp2_with fail
  refine (sum_any (S l) T _ (by rw [S_size]; omega) HT.out).mono ?_
  rintro e w1 ⟨rfl, n, rfl⟩
  rw [L_S]
  have hlt := crc_lt l
  go_wp2_with fail
  refine (appendWord_any (crc l) hlt (HO.out.drewN n) hl).mono ?_
  rintro e w2 ⟨v', rfl, h2⟩
  go_wp2_with fail
  go_ret
  exact ⟨_, rfl, h2⟩
theorem Size_any (n : Int) (w : World) :
    Calls Try.prog 10 #[.int .i64 n] w fun e w' => e = .returned (.int .i64 (if 0 ≤ n ∧ n ≤ 2097152 then n + 18 else 0)) ∧ w' = w := by
  by_cases h1 : n < 0
  · go_enter Try.func10, Try.ntmps10
    go_wp2
    go_ret
    exact ⟨rfl, rfl⟩
  by_cases h2 : n > 2097152
  · go_enter Try.func10, Try.ntmps10
    go_wp2
    go_ret
    exact ⟨rfl, rfl⟩
  · go_enter Try.func10, Try.ntmps10
    go_wp2
    go_ret
    exact ⟨rfl, rfl⟩
theorem isKind_any (n : Int) (w : World) :
    Calls Try.prog 18 #[.int .i64 n] w fun e w' => e = .returned (.bool (decide (n = 1 ∨ n = 2))) ∧ w' = w := by
  by_cases h1 : n = 1
  · subst h1
    go_enter Try.func18, Try.ntmps18
    go_wp2
    go_ret
    exact ⟨rfl, rfl⟩
  have h1' : (n == 1) = false := by simpa using h1
  go_enter Try.func18, Try.ntmps18
  go_wp2
  go_ret
  exact ⟨ret_bool (by simp [h1]; rfl), rfl⟩
theorem isNumber_any (n : Int) (w : World) :
    Calls Try.prog 19 #[.int .i64 n] w fun e w' => e = .returned (.bool (decide (1 ≤ n ∧ n < 4294967295))) ∧ w' = w := by
  by_cases h1 : n ≥ 1
  · go_enter Try.func19, Try.ntmps19
    go_wp2
    go_ret
    exact ⟨ret_bool (by simp; omega), rfl⟩
  · go_enter Try.func19, Try.ntmps19
    go_wp2
    go_ret
    exact ⟨ret_bool (by simp; omega), rfl⟩
end Go.Proofs.Ytkdmicpfinjpgaa
