/- The reference's decimal, quote, String, Put, Nstring. -/
import Derived.Test.YtmpbbkjdfneklaaDoorXq
namespace Go.Proofs.YtmpbbkjdfneklaaDoor
open Go.RowKit

theorem heap_new (w : World) (o : Obj) : (w.alloc o).heap[w.heap.size]? = some o := heap_alloc_new w o
/-- A row of one byte that was just written out. -/
theorem Own.lit1 (w : World) (b : UInt8) (c : Int) (hc : c = (b.toNat : Int)) : Own w.heap.size (.slice (some ⟨w.heap.size, 0, none⟩) 1 1) [b] w (w.alloc (.cells #[.int .u8 c] 5)) := by
  subst hc
  refine ⟨⟨rfl, .inr ⟨w.heap.size, 1, #[.int .u8 (b.toNat : Int)], rfl, Nat.le_refl _, heap_new w _, Nat.le_refl _, by unfold maxLen; omega, rfl, rfl⟩⟩, (Below.refl _ _).alloc (Nat.le_refl _) _, by simp⟩
theorem dec_small (n : Nat) (h : n < 10) : Lib.decDigits n = [UInt8.ofNat (48 + n)] := by rw [Lib.decDigits, dif_pos h]
theorem dec_more (n : Nat) (h : ¬ n < 10) : Lib.decDigits n = Lib.decDigits (n / 10) ++ Lib.decDigits (n % 10) := by
  rw [Lib.decDigits, dif_neg h, dec_small (n % 10) (by omega)]
set_option maxHeartbeats 1000000 in
theorem decimal_any (n : Nat) : ∀ (w : World), n ≤ 140737488355328 →
    Calls Tryd.prog 26 #[.int .i64 n] w fun e w' => e = .returned (.string (S (Lib.decDigits n))) ∧ Below w.heap.size w w' := by
  induction n using Nat.strongRecOn with
  | _ n ih =>
    intro w hn
    by_cases h : n < 10
    · obtain ⟨b, hb, hbn⟩ : ∃ b : UInt8, Lib.decDigits n = [b] ∧ b.toNat = 48 + n := ⟨_, dec_small n h, by simp; omega⟩
      have HR := Lib.hid hb
      have hb0 := Own.lit1 w b (48 + n) (by rw [hbn]; omega)
      clear hb hbn
      have hcv := hb0.back
      go_enter Tryd.func26, Tryd.ntmps26
      go_wp2
      go_ret
      exact ⟨ret_str (by rw [HR.out]), hb0.below⟩
    · have HR : Hid (S (Lib.decDigits (n / 10)) ++ S (Lib.decDigits (n % 10)) = S (Lib.decDigits n)) := Lib.hid (by rw [S_app, ← dec_more n h])
      have h1 := Lib.hid (fun W => ih (n / 10) (by omega) W (by omega))
      have h2 := Lib.hid (fun W => ih (n % 10) (by omega) W (by omega))
      have z1 : (S (Lib.decDigits (n / 10))).size ≤ 140737488355329 := by rw [S_size]; have := dec_len (n / 10); omega
      have z2 : (S (Lib.decDigits (n % 10))).size ≤ 140737488355329 := by rw [S_size]; have := dec_len (n % 10); omega
      generalize S (Lib.decDigits (n / 10)) = a at *
      generalize S (Lib.decDigits (n % 10)) = b at *
      have q1 : Int.tdiv (n : Int) 10 = ((n / 10 : Nat) : Int) := by rw [Int.tdiv_eq_ediv_of_nonneg (by omega)]; omega
      have q2 : Int.tmod (n : Int) 10 = ((n % 10 : Nat) : Int) := by rw [Int.tmod_eq_emod_of_nonneg (by omega)]; omega
      have b1 : n / 10 ≤ 140737488355328 := by omega
      have b2 : n % 10 ≤ 140737488355328 := by omega
      generalize n / 10 = x at *
      generalize n % 10 = y at *
      clear ih
      go_enter Tryd.func26, Tryd.ntmps26
      go_wp2_with fail
      refine (h1.out _).mono ?_
      rintro e w1 ⟨rfl, hb1⟩
      go_wp2_with fail
      refine (h2.out _).mono ?_
      rintro e w2 ⟨rfl, hb2⟩
      go_wp2
      go_ret
      exact ⟨ret_str HR.out, hb1.trans (hb2.mono hb1.size)⟩
end Go.Proofs.YtmpbbkjdfneklaaDoor
