/- lex: the tables, Itoa, needsBackslash, appendQuoted. -/
import Derived.Test.YtliiapdakojomabDoorXl
import Derived.Test.YtliiapdakojomabDoorXo
import Derived.Lib.ItoaNum
import Derived.Lib.AppendIntMem
namespace Go.Proofs.YtliiapdakojomabDoor
open Go.RowKit

structure Env (w : World) : Prop where
  pow : Lib.TabIs Tryd.prog w "internal/strconv.uint64pow10" .u64 Lib.pow10Tab
theorem Tryd.gPow : Tryd.prog.globalNamed "internal/strconv.uint64pow10" = some 1 := by kernel_rfl
theorem tab_on {n : String} {g : Nat} {k : IntKind} {zs : List Int} {w w' : World} (hg : Tryd.prog.globalNamed n = some g) (h : Lib.TabIs Tryd.prog w n k zs) (hb : Below w.heap.size w w') : Lib.TabIs Tryd.prog w' n k zs := by
  unfold Lib.TabIs World.var? at *
  rw [hg] at *
  simp only [Option.bind_some] at *
  have hlt : g < w.heap.size := by
    rcases Nat.lt_or_ge g w.heap.size with k | k
    · exact k
    · rw [Array.getElem?_eq_none k] at h; cases h
  rw [hb.block g hlt]
  exact h
theorem Env.on {w w' : World} (h : Env w) (hb : Below w.heap.size w w') : Env w' := ⟨tab_on Tryd.gPow h.pow hb⟩
theorem S_app (a b : List UInt8) : S a ++ S b = S (a ++ b) := by
  have h : (S a ++ S b).data = (S (a ++ b)).data := by simp [S]
  have e : S a ++ S b = ⟨(S a ++ S b).data⟩ := rfl
  rw [e, h]
theorem itoa_nat (n : Nat) : Lib.itoa n = Lib.decDigits n := by unfold Lib.itoa; rw [if_neg (by omega), Int.toNat_natCast]
theorem Itoa_any (n : Nat) (w : World) (he : Env w) (hn : n ≤ 140737488355328) :
    Calls Tryd.prog 69 #[.int .i64 n] w fun e w' => e = .returned (.string (S (Lib.decDigits n))) ∧ Below w.heap.size w w' := by
  refine (Tryd.strconv_Itoa n (by omega) (by omega) w he.pow).mono ?_
  rintro e w' ⟨rfl, k, os, rfl⟩
  exact ⟨by rw [itoa_nat]; rfl, Lib.below_grow _ w (Nat.le_refl _) k os⟩
def slashB (c : UInt8) : Bool := c == 34 || c == 92
theorem slash_class (c : UInt8) : (c.toNat = 34 ∧ slashB c = true) ∨ (c.toNat = 92 ∧ slashB c = true) ∨ ((c.toNat ≠ 34 ∧ c.toNat ≠ 92) ∧ slashB c = false) :=
  all_bytes (p := fun c => (c.toNat = 34 ∧ slashB c = true) ∨ (c.toNat = 92 ∧ slashB c = true) ∨ ((c.toNat ≠ 34 ∧ c.toNat ≠ 92) ∧ slashB c = false)) (by decide +kernel) c
set_option maxHeartbeats 400000 in
theorem needs_any (c : UInt8) (w : World) :
    Calls Tryd.prog 68 #[.int .u8 (c.toNat : Int)] w fun e w' => e = .returned (.bool (slashB c)) ∧ w' = w := by
  have h256 : c.toNat < 256 := c.toNat_lt
  rcases slash_class c with ⟨h, e⟩ | ⟨h, e⟩ | ⟨⟨h1, h2⟩, e⟩
  all_goals rw [e]
  all_goals clear e
  all_goals generalize c.toNat = n at *
  all_goals try subst h
  all_goals try have a0 := beqI_no (n := (n : Int)) (k := 34) (by omega)
  all_goals try have a1 := beqI_no (n := (n : Int)) (k := 92) (by omega)
  all_goals (
    go_enter Tryd.func68, Tryd.ntmps68
    go_wp2
    go_ret
    exact ⟨ret_bool (by first | rfl | simp_all), rfl⟩)
def q1 (c : UInt8) : List UInt8 := if slashB c then [92, c] else [c]
def quoteB (l : List UInt8) : List UInt8 := l.flatMap q1
def quoteL (l : List UInt8) : List UInt8 := 34 :: (quoteB l ++ [34])
theorem quoteB_snoc (l : List UInt8) (k : Nat) (hk : k < l.length) : quoteB (l.take (k + 1)) = quoteB (l.take k) ++ q1 (bt l k) := by
  unfold quoteB; rw [take_snoc l k hk, List.flatMap_append]; simp
theorem quoteB_len (l : List UInt8) : (quoteB l).length ≤ 2 * l.length := by
  unfold quoteB
  induction l with
  | nil => simp
  | cons a l ih =>
    rw [List.flatMap_cons, List.length_append, List.length_cons]
    have : (q1 a).length ≤ 2 := by unfold q1; split <;> simp
    omega
set_option maxHeartbeats 1000000 in
theorem appendQuoted_any (s : ByteArray) (B : Nat) (v : Value) (o : List UInt8) (W0 w : World) (hown : Own B v o W0 w) (hs : s.size ≤ 100000000) (ho : o.length ≤ 100000000) :
    Calls Tryd.prog 44 #[v, .string s] w fun e w' => ∃ v', e = .returned v' ∧ Own B v' (o ++ quoteL (L s)) W0 w' := by
  go_enter Tryd.func44, Tryd.ntmps44
  go_wp2_with (at_builtin; refine app1 rfl _ _ rfl 34 34 hown rfl rfl rfl (by omega) ?_; intro v2 w2 hown2)
  have HO := Lib.hid ho
  clear hown ho
  go_loopw [0, 11] (fun v i wr => ∃ k : Nat, k ≤ s.size ∧ i = .int .i64 k ∧ Own B v (o ++ [34] ++ quoteB ((L s).take k)) W0 wr) (fun _ i _ => s.size - (intOf i).toNat)
  case atStart => exact ⟨0, Nat.zero_le _, rfl, by simpa [quoteB] using hown2⟩
  case round =>
    clear hown2
    obtain ⟨k, hk, rfl, hown⟩ := hrel
    have HB : Hid ((o ++ [34] ++ quoteB ((L s).take k)).length ≤ 300000002) := Lib.hid (by
      have h1 := quoteB_len ((L s).take k)
      have h2 : ((L s).take k).length ≤ k := by rw [List.length_take]; omega
      have h3 := HO.out
      rw [List.length_append, List.length_append, List.length_singleton]; omega)
    by_cases hlt : k < s.size
    · have ea := get_btx s k hlt
      have c0 : (bt (L s) k).toNat < 256 := bt_lt _ _
      have hN := Lib.hid (fun W => needs_any (bt (L s) k) W)
      have HE : Hid (o ++ [34] ++ quoteB ((L s).take (k + 1)) = o ++ [34] ++ quoteB ((L s).take k) ++ q1 (bt (L s) k)) := Lib.hid (by rw [quoteB_snoc (L s) k hlt, List.append_assoc, List.append_assoc, List.append_assoc])
      cases hq : slashB (bt (L s) k) with
      | true =>
        have HQ : Hid (q1 (bt (L s) k) = [92] ++ [bt (L s) k]) := Lib.hid (by unfold q1; rw [hq]; rfl)
        rw [hq] at hN
        generalize o ++ [34] ++ quoteB ((L s).take k) = P at *
        go_wp2_with fail
        refine (hN.out _).mono ?_
        rintro e w3 ⟨rfl, rfl⟩
        go_wp2_with (at_builtin; first | (refine app1 rfl _ _ rfl _ (bt (L s) k) hown3 rfl rfl rfl (by have := HB.out; rw [List.length_append, List.length_singleton]; omega) ?_; intro v4 w4 hown4) | (refine app1 rfl _ _ rfl 92 92 hown rfl rfl rfl (by have := HB.out; omega) ?_; intro v3 w3 hown3))
        go_roundw
        case rel => exact ⟨k + 1, by omega, by go_num, by rw [HE.out, HQ.out, ← List.append_assoc]; exact hown4⟩
        case measure => simp [intOf]; omega
      | false =>
        have HQ : Hid (q1 (bt (L s) k) = [bt (L s) k]) := Lib.hid (by unfold q1; rw [hq]; rfl)
        rw [hq] at hN
        generalize o ++ [34] ++ quoteB ((L s).take k) = P at *
        go_wp2_with fail
        refine (hN.out _).mono ?_
        rintro e w3 ⟨rfl, rfl⟩
        go_wp2_with (at_builtin; refine app1 rfl _ _ rfl _ (bt (L s) k) hown rfl rfl rfl (by have := HB.out; omega) ?_; intro v4 w4 hown4)
        go_roundw
        case rel => exact ⟨k + 1, by omega, by go_num, by rw [HE.out, HQ.out]; exact hown4⟩
        case measure => simp [intOf]; omega
    · have HE : Hid (o ++ [34] ++ quoteB ((L s).take k) ++ [34] = o ++ quoteL (L s)) := Lib.hid (by
        rw [List.take_of_length_le (by rw [L_length]; omega)]; unfold quoteL; simp)
      generalize o ++ [34] ++ quoteB ((L s).take k) = P at *
      go_wp2_with (at_builtin; refine app1 rfl _ _ rfl 34 34 hown rfl rfl rfl (by have := HB.out; omega) ?_; intro v3 w3 hown3)
      go_ret
      exact ⟨_, rfl, by rw [← HE.out]; exact hown3⟩
end Go.Proofs.YtliiapdakojomabDoor
