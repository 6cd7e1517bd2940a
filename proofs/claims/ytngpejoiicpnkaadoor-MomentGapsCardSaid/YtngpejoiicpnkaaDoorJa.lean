/- The statement MomentGaps: its own small functions: two, inside. -/
import Derived.Test.YtngpejoiicpnkaaDoorHb
import Derived.Test.YtngpejoiicpnkaaDoorGo
import Derived.Lib.SlBytesConst
namespace Go.Proofs.YtngpejoiicpnkaaDoor
open Go.RowKit

/-- A slice of the call's own, or the row of a constant as the conversion left it. -/
def OwnM (B : Nat) (v : Value) (l : List UInt8) (W0 w : World) : Prop :=
  Own B v l W0 w ∨ (v = .slice (some ⟨B, 0, none⟩) 1 1 ∧ l = [40] ∧ w.heap[B]? = some (.cells #[.int .u8 40] 5 (1, 2)) ∧ Below B W0 w ∧ B < w.heap.size)
theorem appM {ops : Array Oper} {rest : List Oper} {o : Oper} {a : Act} {Q : Exit → Act → World → Prop} (hgd : o.guard = none) (s x : Operand)
    (ho : o.op = .call { callee := .builtin .append, args := #[s, x], argTypes := #[61, 61] })
    {B : Nat} {v : Value} {l : List UInt8} {W0 w : World} (c : Int) (b : UInt8) (hown : OwnM B v l W0 w) (hcb : c = (b.toNat : Int)) (hs : a.eval s = v) (hx : a.eval x = .slice (some ⟨w.heap.size, 0, none⟩) 1 1)
    (hlen : l.length + 1 ≤ 140737488355328)
    (h : ∀ v' w', Own B v' (l ++ [b]) W0 w' → wpList Tryd.prog ops Q rest (a.put o.dst v') w') : wpList Tryd.prog ops Q (o :: rest) a (w.alloc (.cells #[.int .u8 c] 5)) := by
  rcases hown with hown | ⟨rfl, rfl, hblk, hbel, hlt⟩
  · exact app1 hgd s x ho c b hown hcb hs hx hlen h
  subst hcb
  obtain ⟨i0, hi, hz0, hz1, hz2⟩ := info_parts Tryd.infoByte
  have hblk2 : (w.alloc (.cells #[.int .u8 (b.toNat : Int)] 5)).heap[B]? = some (.cells #[.int .u8 40] 5 (1, 2)) := (heap_alloc_old w _ hlt).trans hblk
  have hbel2 := hbel.alloc (Nat.le_of_lt hlt) (.cells #[.int .u8 (b.toNat : Int)] 5)
  have hlt2 : B < (w.alloc (.cells #[.int .u8 (b.toNat : Int)] 5)).heap.size := by simp; omega
  have hnew : (w.alloc (.cells #[.int .u8 (b.toNat : Int)] 5)).cell? ⟨w.heap.size, 0, none⟩ = some (.int .u8 (b.toNat : Int)) := by simp
  generalize w.alloc (.cells #[.int .u8 (b.toNat : Int)] 5) = W at *
  have hr := run_append_grow (P := Tryd.prog) W 61 o.type 5 i0 (.int .u8 0) Tryd.underlying61 hi hz0 ⟨B, 0, none⟩ 1 1 [.int .u8 40] (by rw [hz1]; rfl)
    (by
      intro j u hj
      match j, hj with
      | 0, hj => simp at hj; subst hj; simp [Addr.add, World.cell?, hblk2]
      | (j + 1), hj => simp at hj)
    ⟨w.heap.size, 0, none⟩ 1 1 [.int .u8 (b.toNat : Int)] (by rw [hz1]; rfl)
    (by
      intro j u hj
      match j, hj with
      | 0, hj => simp at hj; subst hj; simpa [Addr.add] using hnew
      | (j + 1), hj => simp at hj)
    (by omega) (by omega) (growslice_fits (by omega) (by rw [hz2]; omega))
  have hge := grownCap_ge W 2 1 5
  have hcm : grownCap W 2 1 5 ≤ maxLen := grownCap_le_maxLen W 2 1 5 (by unfold maxLen; omega)
  refine wpList_plain hgd fun K hK => ?_
  unfold Oper.wp execOp
  simp only [ho, resolve, invoke, builtin, Sem.run_bind, Sem.run_pure, Result.andThen_ok, List.map_toArray, List.map_cons, List.map_nil, hs, hx, hr]
  refine hK _ _ (h _ _ ⟨⟨rfl, .inr ⟨W.heap.size, _, _, rfl, Nat.le_of_lt hlt2, heap_alloc_new W.drew _, hge, hcm, ?_, ?_⟩⟩, (hbel2.drew).alloc (Nat.le_of_lt hlt2) _, ?_⟩)
  · have hz1 : (Value.int IntKind.u8 0).cells.size = 1 := rfl
    simp only [Array.size_append, List.size_toArray, size_zeroCells, hz1, List.length_cons, List.length_nil]
    show 0 + 1 + (0 + 1) + (grownCap W 2 1 5 - 2) * 1 = grownCap W 2 1 5 * 1
    omega
  · simp only [Array.toList_append, List.append_assoc]
    rfl
  · simp; omega
def brk (c : UInt8) : Bool := c == 40 || c == 41 || c == 92
def i1 (c : UInt8) : List UInt8 := if brk c then [92, c] else [c]
def inB (l : List UInt8) : List UInt8 := l.flatMap i1
def inL (l : List UInt8) : List UInt8 := 40 :: (inB (l.take 200) ++ [41])
theorem inB_snoc (l : List UInt8) (k : Nat) (hk : k < l.length) : inB (l.take (k + 1)) = inB (l.take k) ++ i1 (bt l k) := by
  unfold inB; rw [List.take_succ_eq_append_getElem hk, List.flatMap_append, bt_getElem l k hk]; simp
theorem inB_len (l : List UInt8) : (inB l).length ≤ 2 * l.length := by
  unfold inB
  induction l with
  | nil => simp
  | cons a l ih =>
    rw [List.flatMap_cons, List.length_append, List.length_cons]
    have : (i1 a).length ≤ 2 := by unfold i1; split <;> simp
    omega
theorem all_bytesJ {p : UInt8 → Prop} (h : ∀ c : Fin 256, p (UInt8.ofNat c.val)) (c : UInt8) : p c := by
  have := h ⟨c.toNat, c.toNat_lt⟩
  simpa using this
theorem brk_class (c : UInt8) : (c.toNat = 40 ∧ brk c = true) ∨ (c.toNat = 41 ∧ brk c = true) ∨ (c.toNat = 92 ∧ brk c = true) ∨ ((c.toNat ≠ 40 ∧ c.toNat ≠ 41 ∧ c.toNat ≠ 92) ∧ brk c = false) :=
  all_bytesJ (p := fun c => (c.toNat = 40 ∧ brk c = true) ∨ (c.toNat = 41 ∧ brk c = true) ∨ (c.toNat = 92 ∧ brk c = true) ∨ ((c.toNat ≠ 40 ∧ c.toNat ≠ 41 ∧ c.toNat ≠ 92) ∧ brk c = false)) (by decide +kernel) c
theorem beqI_noJ {n k : Int} (h : n ≠ k) : (n == k) = false := by rw [beq_eq_false_iff_ne]; exact h
set_option maxRecDepth 100000 in
set_option maxHeartbeats 4000000 in
theorem inside_any (s : ByteArray) (w : World) :
    Calls Tryd.prog 47 #[.string s] w fun e w' => e = .returned (.string (S (inL (L s)))) ∧ Below w.heap.size w w' := by
  have kc := fun (w : World) (C : Array Value) (n c : Nat) => Lib.run_convert_bytes_const (P := Tryd.prog) w 61 5 C n c Tryd.underlying61 Tryd.underlying5
  have hown0 : OwnM w.heap.size (.slice (some ⟨w.heap.size, 0, none⟩) 1 1) [40] w (w.alloc (.cells #[.int .u8 40] 5 (1, 2))) := .inr ⟨rfl, rfl, heap_alloc_new w _, (Below.refl _ _).alloc (Nat.le_refl _) _, by simp⟩
  go_enter Tryd.func47, Tryd.ntmps47
  go_wp2
  clear kc
  go_loopw [3, 4] (fun v i wr => ∃ k : Nat, k ≤ s.size ∧ k ≤ 200 ∧ i = .int .i64 k ∧ OwnM w.heap.size v ([40] ++ inB ((L s).take k)) w wr) (fun _ i _ => s.size - (intOf i).toNat)
  case atStart => exact ⟨0, Nat.zero_le _, Nat.zero_le _, rfl, hown0⟩
  case round =>
    clear hown0
    obtain ⟨k, hk, hk2, rfl, hown⟩ := hrel
    have HB : Hid (([40] ++ inB ((L s).take k)).length ≤ 3000000) := Lib.hid (by
      have h1 := inB_len ((L s).take k)
      have h2 : ((L s).take k).length ≤ k := by rw [List.length_take]; omega
      rw [List.length_append, List.length_singleton]; omega)
    by_cases hlt : k < s.size ∧ k < 200
    · obtain ⟨hl1, hl2⟩ := hlt
      have ea := get_bt s k hl1
      have c0 : (bt (L s) k).toNat < 256 := bt_lt _ _
      have HE : Hid ([40] ++ inB ((L s).take (k + 1)) = [40] ++ inB ((L s).take k) ++ i1 (bt (L s) k)) := Lib.hid (by rw [inB_snoc (L s) k hl1, List.append_assoc])
      rcases brk_class (bt (L s) k) with ⟨h, hq⟩ | ⟨h, hq⟩ | ⟨h, hq⟩ | ⟨⟨h, h', h''⟩, hq⟩
      · have HQ : Hid (i1 (bt (L s) k) = [92] ++ [bt (L s) k]) := Lib.hid (by unfold i1; rw [hq]; rfl)
        have b : (((bt (L s) k).toNat : Int) == 40) = true := by rw [h]; rfl
        clear h
        generalize [40] ++ inB ((L s).take k) = P at *
        go_wp2_with (at_builtin; first | (refine app1 rfl _ _ rfl _ (bt (L s) k) hown3 rfl rfl rfl (by have := HB.out; rw [List.length_append, List.length_singleton]; omega) ?_; intro v4 w4 hown4) | (refine appM rfl _ _ rfl 92 92 hown rfl rfl rfl (by have := HB.out; omega) ?_; intro v3 w3 hown3))
        go_roundw
        case rel => exact ⟨k + 1, by omega, by omega, by go_num, .inl (by rw [HE.out, HQ.out, ← List.append_assoc]; exact hown4)⟩
        case measure => simp [intOf]; omega
      · have HQ : Hid (i1 (bt (L s) k) = [92] ++ [bt (L s) k]) := Lib.hid (by unfold i1; rw [hq]; rfl)
        have b0 : (((bt (L s) k).toNat : Int) == 40) = false := by rw [h]; rfl
        have b : (((bt (L s) k).toNat : Int) == 41) = true := by rw [h]; rfl
        clear h
        generalize [40] ++ inB ((L s).take k) = P at *
        go_wp2_with (at_builtin; first | (refine app1 rfl _ _ rfl _ (bt (L s) k) hown3 rfl rfl rfl (by have := HB.out; rw [List.length_append, List.length_singleton]; omega) ?_; intro v4 w4 hown4) | (refine appM rfl _ _ rfl 92 92 hown rfl rfl rfl (by have := HB.out; omega) ?_; intro v3 w3 hown3))
        go_roundw
        case rel => exact ⟨k + 1, by omega, by omega, by go_num, .inl (by rw [HE.out, HQ.out, ← List.append_assoc]; exact hown4)⟩
        case measure => simp [intOf]; omega
      · have HQ : Hid (i1 (bt (L s) k) = [92] ++ [bt (L s) k]) := Lib.hid (by unfold i1; rw [hq]; rfl)
        have b0 : (((bt (L s) k).toNat : Int) == 40) = false := by rw [h]; rfl
        have b1 : (((bt (L s) k).toNat : Int) == 41) = false := by rw [h]; rfl
        have b : (((bt (L s) k).toNat : Int) == 92) = true := by rw [h]; rfl
        clear h
        generalize [40] ++ inB ((L s).take k) = P at *
        go_wp2_with (at_builtin; first | (refine app1 rfl _ _ rfl _ (bt (L s) k) hown3 rfl rfl rfl (by have := HB.out; rw [List.length_append, List.length_singleton]; omega) ?_; intro v4 w4 hown4) | (refine appM rfl _ _ rfl 92 92 hown rfl rfl rfl (by have := HB.out; omega) ?_; intro v3 w3 hown3))
        go_roundw
        case rel => exact ⟨k + 1, by omega, by omega, by go_num, .inl (by rw [HE.out, HQ.out, ← List.append_assoc]; exact hown4)⟩
        case measure => simp [intOf]; omega
      · have HQ : Hid (i1 (bt (L s) k) = [bt (L s) k]) := Lib.hid (by unfold i1; rw [hq]; rfl)
        have b0 := beqI_noJ (n := ((bt (L s) k).toNat : Int)) (k := 40) (by omega)
        have b1 := beqI_noJ (n := ((bt (L s) k).toNat : Int)) (k := 41) (by omega)
        have b := beqI_noJ (n := ((bt (L s) k).toNat : Int)) (k := 92) (by omega)
        generalize [40] ++ inB ((L s).take k) = P at *
        go_wp2_with (at_builtin; refine appM rfl _ _ rfl _ (bt (L s) k) hown rfl rfl rfl (by have := HB.out; omega) ?_; intro v4 w4 hown4)
        go_roundw
        case rel => exact ⟨k + 1, by omega, by omega, by go_num, .inl (by rw [HE.out, HQ.out]; exact hown4)⟩
        case measure => simp [intOf]; omega
    · have HE : Hid ([40] ++ inB ((L s).take k) ++ [41] = inL (L s)) := Lib.hid (by
        have : (L s).take 200 = (L s).take k := by
          rcases (by omega : s.size ≤ k ∨ k = 200) with h | h
          · rw [List.take_of_length_le (by rw [L_length]; omega), List.take_of_length_le (by rw [L_length]; omega)]
          · rw [h]
        unfold inL; rw [this]; simp)
      generalize [40] ++ inB ((L s).take k) = P at *
      rcases (by omega : ¬ k < s.size ∨ (k < s.size ∧ ¬ k < 200)) with hn | ⟨hn1, hn⟩
      all_goals (
        go_wp2_with (at_builtin; refine appM rfl _ _ rfl 41 41 hown rfl rfl rfl (by have := HB.out; omega) ?_; intro v3 w3 hown3; have hcv := hown3.back)
        go_ret
        exact ⟨ret_str (by rw [← HE.out]), hown3.below⟩)
theorem Own.lit2 (w : World) (b b' : UInt8) (c c' : Int) (hc : c = (b.toNat : Int)) (hc' : c' = (b'.toNat : Int)) : Own w.heap.size (.slice (some ⟨w.heap.size, 0, none⟩) 2 2) [b, b'] w (w.alloc (.cells #[.int .u8 c, .int .u8 c'] 5)) := by
  subst hc; subst hc'
  refine ⟨⟨rfl, .inr ⟨w.heap.size, 2, #[.int .u8 (b.toNat : Int), .int .u8 (b'.toNat : Int)], rfl, Nat.le_refl _, heap_alloc_new w _, Nat.le_refl _, by unfold maxLen; omega, rfl, rfl⟩⟩, (Below.refl _ _).alloc (Nat.le_refl _) _, by simp⟩
theorem dg_int (a : Nat) (h : a < 10) : ((dg a).toNat : Int) = 48 + (a : Int) := by
  unfold dg; simp; omega
set_option maxHeartbeats 1000000 in
theorem two_any (n : Nat) (w : World) (hn : n < 100) :
    Calls Tryd.prog 23 #[.int .i64 n] w fun e w' => e = .returned (.string (S (pad2 n))) ∧ Below w.heap.size w w' := by
  have hb0 := Own.lit2 w (dg (n / 10)) (dg (n % 10)) (48 + (n / 10 : Nat)) (48 + (n % 10 : Nat)) (dg_int _ (by omega)).symm (dg_int _ (by omega)).symm
  have hcv := hb0.back
  have q1 : Int.tdiv (n : Int) 10 = ((n / 10 : Nat) : Int) := by rw [Int.tdiv_eq_ediv_of_nonneg (by omega)]; omega
  have q2 : Int.tmod (n : Int) 10 = ((n % 10 : Nat) : Int) := by rw [Int.tmod_eq_emod_of_nonneg (by omega)]; omega
  have b1 : n / 10 < 10 := by omega
  have b2 : n % 10 < 10 := by omega
  have HR : Hid (S [dg (n / 10), dg (n % 10)] = S (pad2 n)) := Lib.hid rfl
  have hbl := Lib.hid hb0.below
  generalize pad2 n = r at *
  generalize [dg (n / 10), dg (n % 10)] = q at *
  generalize n / 10 = x at *
  generalize n % 10 = y at *
  clear hb0
  go_enter Tryd.func23, Tryd.ntmps23
  go_wp2
  go_ret
  exact ⟨ret_str HR.out, hbl.out⟩
end Go.Proofs.YtngpejoiicpnkaaDoor
