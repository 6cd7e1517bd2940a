/- lex: appendQuoted, and what it leaves alone. -/
import Derived.Test.YtliiapdakojomabDoorAw
import Derived.Maps.AppendAt
namespace Go.Proofs.YtliiapdakojomabDoor
open Go.RowKit

/-- v is a row of bytes that has grown out of v0's since W0: it lies in v0's block or in a new one, and all else that was there is as it was. -/
structure OwnG (B : Nat) (v0 v : Value) (l : List UInt8) (W0 w : World) : Prop where
  row : w.ownsRow B 5 1 v l.length (bc l)
  grown : W0.grownBy w v0.ownBlock
  lies : ∀ g, v.ownBlock = some g → v0.ownBlock = some g ∨ W0.heap.size ≤ g
  base : B ≤ W0.heap.size
theorem OwnG.start {B : Nat} {v : Value} {l : List UInt8} {w : World} (h : w.ownsRow B 5 1 v l.length (bc l)) (hB : B ≤ w.heap.size) : OwnG B v v l w w :=
  ⟨h, ⟨rfl, rfl, rfl, Nat.le_refl _, fun _ _ _ => rfl⟩, fun _ e => .inl e, hB⟩
theorem app1G {ops : Array Oper} {rest : List Oper} {o : Oper} {a : Act} {Q : Exit → Act → World → Prop} (hgd : o.guard = none) (s x : Operand)
    (ho : o.op = .call { callee := .builtin .append, args := #[s, x], argTypes := #[31, 31] })
    {B : Nat} {v0 v : Value} {l : List UInt8} {W0 w : World} (c : Int) (b : UInt8) (hown : OwnG B v0 v l W0 w) (hcb : c = (b.toNat : Int)) (hs : a.eval s = v) (hx : a.eval x = .slice (some ⟨w.heap.size, 0, none⟩) 1 1)
    (hlen : l.length + 1 ≤ 140737488355328)
    (h : ∀ v' w', OwnG B v0 v' (l ++ [b]) W0 w' → wpList Tryd.prog ops Q rest (a.put o.dst v') w') : wpList Tryd.prog ops Q (o :: rest) a (w.alloc (.cells #[.int .u8 c] 5)) := by
  subst hcb
  obtain ⟨i0, hi, hz0, hz1, hz2⟩ := info_parts Tryd.infoByte
  have hsz := hown.grown.size
  have hbs := hown.base
  refine wpList_append_own_at _ hgd s x 31 ho B 5 i0 (.int .u8 0) 1 1 Tryd.underlying31 hi hz0 hz1 hz2 rfl (by decide) v l.length (bc l) hs (hown.row.alloc _) ⟨w.heap.size, 0, none⟩ 1 1 [.int .u8 (b.toNat : Int)] hx rfl ?_ ?_ (by unfold maxLen; omega) (by omega) (by simp; omega) ?_
  · intro j u hj
    match j, hj with
    | 0, hj => simp at hj; subst hj; simp [Addr.add]
    | (j + 1), hj => simp at hj
  · intro u hu; simp at hu; subst hu; rfl
  · intro v' w' ho' hg _ hat
    refine h v' w' ⟨?_, ⟨?_, ?_, ?_, ?_, ?_⟩, ?_, hown.base⟩
    · rw [List.length_append, bc_append]
      exact ho'
    · rw [hg.os]; exact hown.grown.os
    · rw [hg.tape]; exact hown.grown.tape
    · rw [hg.output]; exact hown.grown.output
    · have := hg.size; simp at this; omega
    · intro k hk hne
      have hkv : some k ≠ v.ownBlock := fun e => by
        rcases hown.lies k e.symm with e' | e'
        · exact hne e'.symm
        · omega
      rw [hg.block k (by simp; omega) hkv, Below.heap_alloc _ _ _ (by omega)]
      exact hown.grown.block k hk hne
    · intro g e
      rcases hat with hat | hat
      · exact hown.lies g (by rw [← hat]; exact e)
      · right
        rw [hat] at e
        simp at e
        omega
set_option maxHeartbeats 1000000 in
theorem appendQuoted_lies (s : ByteArray) (B : Nat) (v0 v : Value) (o : List UInt8) (W0 w : World) (hown : OwnG B v0 v o W0 w) (hs : s.size ≤ 100000000) (ho : o.length ≤ 100000000) :
    Calls Tryd.prog 44 #[v, .string s] w fun e w' => ∃ v', e = .returned v' ∧ OwnG B v0 v' (o ++ quoteL (L s)) W0 w' := by
  go_enter Tryd.func44, Tryd.ntmps44
  go_wp2_with (at_builtin; refine app1G rfl _ _ rfl 34 34 hown rfl rfl rfl (by omega) ?_; intro v2 w2 hown2)
  have HO := Lib.hid ho
  clear hown ho
  go_loopw [0, 11] (fun v i wr => ∃ k : Nat, k ≤ s.size ∧ i = .int .i64 k ∧ OwnG B v0 v (o ++ [34] ++ quoteB ((L s).take k)) W0 wr) (fun _ i _ => s.size - (intOf i).toNat)
  case atStart => exact ⟨0, Nat.zero_le _, rfl, by simpa [quoteB] using hown2⟩
  case round =>
    clear hown2
    obtain ⟨k, hk, rfl, hown⟩ := hrel
    have HB : Hid ((o ++ [34] ++ quoteB ((L s).take k)).length ≤ 300000002) := Lib.hid (by
      have h1 := quoteB_len ((L s).take k)
      have h2 : ((L s).take k).length ≤ k := by rw [List.length_take]; omega
      have h3 := HO.out
      rw [List.length_append, List.length_append, List.length_singleton]; omega)
    by_cases hlt : k < s.size
    · have ea := get_btx s k hlt
      have c0 : (bt (L s) k).toNat < 256 := bt_lt _ _
      have hN := Lib.hid (fun W => needs_any (bt (L s) k) W)
      have HE : Hid (o ++ [34] ++ quoteB ((L s).take (k + 1)) = o ++ [34] ++ quoteB ((L s).take k) ++ q1 (bt (L s) k)) := Lib.hid (by rw [quoteB_snoc (L s) k hlt, List.append_assoc, List.append_assoc, List.append_assoc])
      cases hq : slashB (bt (L s) k) with
      | true =>
        have HQ : Hid (q1 (bt (L s) k) = [92] ++ [bt (L s) k]) := Lib.hid (by unfold q1; rw [hq]; rfl)
        rw [hq] at hN
        generalize o ++ [34] ++ quoteB ((L s).take k) = P at *
        go_wp2_with fail
        refine (hN.out _).mono ?_
        rintro e w3 ⟨rfl, rfl⟩
        go_wp2_with (at_builtin; first | (refine app1G rfl _ _ rfl _ (bt (L s) k) hown3 rfl rfl rfl (by have := HB.out; rw [List.length_append, List.length_singleton]; omega) ?_; intro v4 w4 hown4) | (refine app1G rfl _ _ rfl 92 92 hown rfl rfl rfl (by have := HB.out; omega) ?_; intro v3 w3 hown3))
        go_roundw
        case rel => exact ⟨k + 1, by omega, by go_num, by rw [HE.out, HQ.out, ← List.append_assoc]; exact hown4⟩
        case measure => simp [intOf]; omega
      | false =>
        have HQ : Hid (q1 (bt (L s) k) = [bt (L s) k]) := Lib.hid (by unfold q1; rw [hq]; rfl)
        rw [hq] at hN
        generalize o ++ [34] ++ quoteB ((L s).take k) = P at *
        go_wp2_with fail
        refine (hN.out _).mono ?_
        rintro e w3 ⟨rfl, rfl⟩
        go_wp2_with (at_builtin; refine app1G rfl _ _ rfl _ (bt (L s) k) hown rfl rfl rfl (by have := HB.out; omega) ?_; intro v4 w4 hown4)
        go_roundw
        case rel => exact ⟨k + 1, by omega, by go_num, by rw [HE.out, HQ.out]; exact hown4⟩
        case measure => simp [intOf]; omega
    · have HE : Hid (o ++ [34] ++ quoteB ((L s).take k) ++ [34] = o ++ quoteL (L s)) := Lib.hid (by
        rw [List.take_of_length_le (by rw [L_length]; omega)]; unfold quoteL; simp)
      generalize o ++ [34] ++ quoteB ((L s).take k) = P at *
      go_wp2_with (at_builtin; refine app1G rfl _ _ rfl 34 34 hown rfl rfl rfl (by have := HB.out; omega) ?_; intro v3 w3 hown3)
      go_ret
      exact ⟨_, rfl, by rw [← HE.out]; exact hown3⟩
end Go.Proofs.YtliiapdakojomabDoor
