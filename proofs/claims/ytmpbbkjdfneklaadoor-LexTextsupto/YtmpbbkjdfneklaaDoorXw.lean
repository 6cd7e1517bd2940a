/- The reference's quote, String, Put, Nstring. -/
import Derived.Test.YtmpbbkjdfneklaaDoorXv
namespace Go.Proofs.YtmpbbkjdfneklaaDoor
open Go.RowKit

set_option maxHeartbeats 1000000 in
theorem rquote_any (s : ByteArray) (w : World) (hs : s.size ≤ 1048576) :
    Calls Tryd.prog 27 #[.string s] w fun e w' => e = .returned (.string (S (quoteL (L s)))) ∧ Below w.heap.size w w' := by
  have hown0 := Own.lit1 w 34 34 rfl
  go_enter Tryd.func27, Tryd.ntmps27
  go_wp2
  go_loopw [3, 4] (fun v i wr => ∃ k : Nat, k ≤ s.size ∧ i = .int .i64 k ∧ Own w.heap.size v ([34] ++ quoteB ((L s).take k)) w wr) (fun _ i _ => s.size - (intOf i).toNat)
  case atStart => exact ⟨0, Nat.zero_le _, rfl, hown0⟩
  case round =>
    clear hown0
    obtain ⟨k, hk, rfl, hown⟩ := hrel
    have HB : Hid (([34] ++ quoteB ((L s).take k)).length ≤ 3000000) := Lib.hid (by
      have h1 := quoteB_len ((L s).take k)
      have h2 : ((L s).take k).length ≤ k := by rw [List.length_take]; omega
      rw [List.length_append, List.length_singleton]; omega)
    by_cases hlt : k < s.size
    · have ea := get_btx s k hlt
      have c0 : (bt (L s) k).toNat < 256 := bt_lt _ _
      have HE : Hid ([34] ++ quoteB ((L s).take (k + 1)) = [34] ++ quoteB ((L s).take k) ++ q1 (bt (L s) k)) := Lib.hid (by rw [quoteB_snoc (L s) k hlt, List.append_assoc])
      rcases slash_class (bt (L s) k) with ⟨h, hq⟩ | ⟨h, hq⟩ | ⟨⟨h, h'⟩, hq⟩
      · have HQ : Hid (q1 (bt (L s) k) = [92] ++ [bt (L s) k]) := Lib.hid (by unfold q1; rw [hq]; rfl)
        have b : (((bt (L s) k).toNat : Int) == 34) = true := by rw [h]; rfl
        clear h
        generalize [34] ++ quoteB ((L s).take k) = P at *
        go_wp2_with (at_builtin; first | (refine app1 rfl _ _ rfl _ (bt (L s) k) hown3 rfl rfl rfl (by have := HB.out; rw [List.length_append, List.length_singleton]; omega) ?_; intro v4 w4 hown4) | (refine app1 rfl _ _ rfl 92 92 hown rfl rfl rfl (by have := HB.out; omega) ?_; intro v3 w3 hown3))
        go_roundw
        case rel => exact ⟨k + 1, by omega, by go_num, by rw [HE.out, HQ.out, ← List.append_assoc]; exact hown4⟩
        case measure => simp [intOf]; omega
      · have HQ : Hid (q1 (bt (L s) k) = [92] ++ [bt (L s) k]) := Lib.hid (by unfold q1; rw [hq]; rfl)
        have b0 : (((bt (L s) k).toNat : Int) == 34) = false := by rw [h]; rfl
        have b : (((bt (L s) k).toNat : Int) == 92) = true := by rw [h]; rfl
        clear h
        generalize [34] ++ quoteB ((L s).take k) = P at *
        go_wp2_with (at_builtin; first | (refine app1 rfl _ _ rfl _ (bt (L s) k) hown3 rfl rfl rfl (by have := HB.out; rw [List.length_append, List.length_singleton]; omega) ?_; intro v4 w4 hown4) | (refine app1 rfl _ _ rfl 92 92 hown rfl rfl rfl (by have := HB.out; omega) ?_; intro v3 w3 hown3))
        go_roundw
        case rel => exact ⟨k + 1, by omega, by go_num, by rw [HE.out, HQ.out, ← List.append_assoc]; exact hown4⟩
        case measure => simp [intOf]; omega
      · have HQ : Hid (q1 (bt (L s) k) = [bt (L s) k]) := Lib.hid (by unfold q1; rw [hq]; rfl)
        have b0 := beqI_no (n := ((bt (L s) k).toNat : Int)) (k := 34) (by omega)
        have b := beqI_no (n := ((bt (L s) k).toNat : Int)) (k := 92) (by omega)
        generalize [34] ++ quoteB ((L s).take k) = P at *
        go_wp2_with (at_builtin; refine app1 rfl _ _ rfl _ (bt (L s) k) hown rfl rfl rfl (by have := HB.out; omega) ?_; intro v4 w4 hown4)
        go_roundw
        case rel => exact ⟨k + 1, by omega, by go_num, by rw [HE.out, HQ.out]; exact hown4⟩
        case measure => simp [intOf]; omega
    · have HE : Hid ([34] ++ quoteB ((L s).take k) ++ [34] = quoteL (L s)) := Lib.hid (by
        rw [List.take_of_length_le (by rw [L_length]; omega)]; unfold quoteL; simp)
      generalize [34] ++ quoteB ((L s).take k) = P at *
      go_wp2_with (at_builtin; refine app1 rfl _ _ rfl 34 34 hown rfl rfl rfl (by have := HB.out; omega) ?_; intro v3 w3 hown3; have hcv := hown3.back)
      go_ret
      exact ⟨ret_str (by rw [← HE.out]), hown3.below⟩
theorem quot_class (c : UInt8) : (c.toNat < 1 ∧ quotC c = false) ∨ (127 < c.toNat ∧ quotC c = false) ∨ (c.toNat = 10 ∧ quotC c = false) ∨ (c.toNat = 13 ∧ quotC c = false) ∨ ((1 ≤ c.toNat ∧ c.toNat ≤ 127 ∧ c.toNat ≠ 10 ∧ c.toNat ≠ 13) ∧ quotC c = true) :=
  all_bytes (p := fun c => (c.toNat < 1 ∧ quotC c = false) ∨ (127 < c.toNat ∧ quotC c = false) ∨ (c.toNat = 10 ∧ quotC c = false) ∨ (c.toNat = 13 ∧ quotC c = false) ∨ ((1 ≤ c.toNat ∧ c.toNat ≤ 127 ∧ c.toNat ≠ 10 ∧ c.toNat ≠ 13) ∧ quotC c = true)) (by decide +kernel) c
set_option maxHeartbeats 4000000 in
theorem rString_any (s : ByteArray) (w : World) (hs : s.size ≤ 1048576) :
    Calls Tryd.prog 10 #[.string s] w fun e w' => e = .returned (.string (S (strL (L s)))) ∧ Below w.heap.size w w' := by
  have hD := Lib.hid (fun W => decimal_any s.size W (by omega))
  have hQ := Lib.hid (fun W => rquote_any s W hs)
  have hd : (S (Lib.decDigits s.size)).size ≤ 2000000 := by rw [S_size]; have := dec_len s.size; omega
  have HR : Hid ((L s).all quotC = false → (⟨#[123]⟩ : ByteArray) ++ S (Lib.decDigits s.size) ++ ⟨#[125, 13, 10]⟩ ++ s = S (strL (L s))) := Lib.hid (fun hq => by
    show S [123] ++ S (Lib.decDigits s.size) ++ S [125, 13, 10] ++ S (L s) = _
    rw [S_app, S_app, S_app]; unfold strL; rw [hq]; unfold annL
    congr 1
    simp [L_length])
  generalize S (Lib.decDigits s.size) = d at *
  go_enter Tryd.func10, Tryd.ntmps10
  go_wp2
  go_loop [3] (fun i => ∃ k : Nat, k ≤ s.size ∧ i = .int .i64 k ∧ ((L s).take k).all quotC = true) (fun i => s.size - (intOf i).toNat)
  case atStart => exact ⟨0, Nat.zero_le _, rfl, by simp⟩
  case round =>
    obtain ⟨k, hk, rfl, hall⟩ := hrel
    by_cases hlt : k < s.size
    · have ea := get_btx s k hlt
      have c0 : (bt (L s) k).toNat < 256 := bt_lt _ _
      have HS := Lib.hid (all_snocP quotC (L s) k hlt hall)
      have HN := Lib.hid (all_noP quotC (L s) k hlt)
      clear hall
      rcases quot_class (bt (L s) k) with ⟨h, hq⟩ | ⟨h, hq⟩ | ⟨h, hq⟩ | ⟨h, hq⟩ | ⟨⟨h1, h2, h3, h4⟩, hq⟩
      · have HV := Lib.hid (HR.out (HN.out hq))
        clear HR HN HS
        go_wp2_with (go_at_call 26; refine (hD.out _).mono ?_; rintro e w1 ⟨rfl, hb1⟩)
        go_ret
        exact ⟨ret_str HV.out, hb1⟩
      · have HV := Lib.hid (HR.out (HN.out hq))
        clear HR HN HS
        go_wp2_with (go_at_call 26; refine (hD.out _).mono ?_; rintro e w1 ⟨rfl, hb1⟩)
        go_ret
        exact ⟨ret_str HV.out, hb1⟩
      · have HV := Lib.hid (HR.out (HN.out hq))
        have b0 : (((bt (L s) k).toNat : Int) == 10) = true := by rw [h]; rfl
        have g1 : 1 ≤ (bt (L s) k).toNat := by omega
        have g2 : (bt (L s) k).toNat ≤ 127 := by omega
        clear HR HN HS h
        go_wp2_with (go_at_call 26; refine (hD.out _).mono ?_; rintro e w1 ⟨rfl, hb1⟩)
        go_ret
        exact ⟨ret_str HV.out, hb1⟩
      · have HV := Lib.hid (HR.out (HN.out hq))
        have b0 : (((bt (L s) k).toNat : Int) == 10) = false := by rw [h]; rfl
        have b1 : (((bt (L s) k).toNat : Int) == 13) = true := by rw [h]; rfl
        have g1 : 1 ≤ (bt (L s) k).toNat := by omega
        have g2 : (bt (L s) k).toNat ≤ 127 := by omega
        clear HR HN HS h
        go_wp2_with (go_at_call 26; refine (hD.out _).mono ?_; rintro e w1 ⟨rfl, hb1⟩)
        go_ret
        exact ⟨ret_str HV.out, hb1⟩
      · have HS2 := Lib.hid (HS.out hq)
        have b0 := beqI_no (n := ((bt (L s) k).toNat : Int)) (k := 10) (by omega)
        have b1 := beqI_no (n := ((bt (L s) k).toNat : Int)) (k := 13) (by omega)
        clear HN HS
        go_wp2
        go_round
        case rel => exact ⟨k + 1, by omega, by go_num, HS2.out⟩
        case measure => simp [intOf]; omega
    · have HV : Hid (S (quoteL (L s)) = S (strL (L s))) := Lib.hid (by
        rw [List.take_of_length_le (by rw [L_length]; omega)] at hall
        unfold strL; rw [hall]; rfl)
      clear hall HR
      go_wp2_with (go_at_call 27; refine (hQ.out _).mono ?_; rintro e w1 ⟨rfl, hb1⟩)
      go_ret
      exact ⟨ret_str HV.out, hb1⟩
set_option maxHeartbeats 1000000 in
theorem rPut_any (s : ByteArray) (w : World) (hs : s.size ≤ 1048576) :
    Calls Tryd.prog 11 #[.string s] w fun e w' => e = .returned (.string (S (putL (L s)))) ∧ Below w.heap.size w w' := by
  have hA : Hid (∀ W, Calls Tryd.prog 28 #[.int .i64 2, .string s] W fun e w' => e = .returned (.bool (isAstr (L s))) ∧ w' = W) := Lib.hid (fun W => rIs_any 2 s W (by omega))
  cases hq : isAstr (L s) with
  | true =>
    rw [hq] at hA
    have HR : Hid (s = S (putL (L s))) := Lib.hid (by unfold putL; rw [hq]; rfl)
    go_enter Tryd.func11, Tryd.ntmps11
    go_wp2_with (go_at_call 28; refine (hA.out _).mono ?_; rintro e w' ⟨rfl, rfl⟩)
    go_ret
    exact ⟨ret_str HR.out, Below.refl _ _⟩
  | false =>
    rw [hq] at hA
    have HR : Hid (S (strL (L s)) = S (putL (L s))) := Lib.hid (by unfold putL; rw [hq]; rfl)
    have hN := Lib.hid (fun W => rString_any s W hs)
    go_enter Tryd.func11, Tryd.ntmps11
    go_wp2_with (first | (go_at_call 28; refine (hA.out _).mono ?_; rintro e w' ⟨rfl, rfl⟩) | (go_at_call 10; refine (hN.out _).mono ?_; rintro e w2 ⟨rfl, hb2⟩))
    go_ret
    exact ⟨ret_str HR.out, hb2⟩
set_option maxHeartbeats 1000000 in
theorem rNstring_any (b : Bool) (s : ByteArray) (w : World) (hs : s.size ≤ 1048576) :
    Calls Tryd.prog 13 #[.agg #[.bool b, .string s]] w fun e w' => e = .returned (.string (S (nstrL b (L s)))) ∧ Below w.heap.size w w' := by
  have hN := Lib.hid (fun W => rString_any s W hs)
  cases b with
  | false =>
    go_enter Tryd.func13, Tryd.ntmps13
    go_wp2
    go_ret
    exact ⟨rfl, (Below.refl _ _).alloc (Nat.le_refl _) _⟩
  | true =>
    have hb0 : Below w.heap.size w (w.alloc (.cells #[.bool true, .string s] 26)) := (Below.refl _ _).alloc (Nat.le_refl _) _
    go_enter Tryd.func13, Tryd.ntmps13
    go_wp2_with fail
    refine (hN.out _).mono ?_
    rintro e w2 ⟨rfl, hb2⟩
    go_wp2
    go_ret
    exact ⟨rfl, hb0.trans (hb2.mono hb0.size)⟩
end Go.Proofs.YtmpbbkjdfneklaaDoor
