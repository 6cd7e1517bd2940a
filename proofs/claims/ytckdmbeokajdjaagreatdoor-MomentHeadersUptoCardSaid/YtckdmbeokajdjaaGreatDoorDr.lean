/- moment: the cursor: skip, isLetter, run. -/
import Derived.Test.YtckdmbeokajdjaaGreatDoorDq
namespace Go.Proofs.YtckdmbeokajdjaaGreatDoor
open Go.RowKit

theorem sk_end (l : List UInt8) (i : Nat) (h : l.length ≤ i) : skD (l.drop i) 0 false = 0 := by rw [List.drop_eq_nil_of_le h, skD]
theorem sk_40 (l : List UInt8) (i : Nat) (h : i < l.length) (hb : bt l i = 40) : skD (l.drop i) 0 false = comD (l.drop i) 0 false + skD (l.drop (i + comD (l.drop i) 0 false)) 0 false := by
  have h1 : skD (l.drop i) 0 false = 1 + skD (l.drop (i + 1)) 1 false := by rw [drop_at l i h, skD, if_pos hb]
  rw [h1, com_40 l i 0 h hb, sk_com _ 1 false (by omega), List.drop_drop]
  have : i + 1 + comD (l.drop (i + 1)) 1 false = i + (1 + comD (l.drop (i + 1)) (0 + 1) false) := by rw [Nat.zero_add]; omega
  rw [this, Nat.zero_add]
  omega
theorem sk_blank (l : List UInt8) (i : Nat) (h : i < l.length) (h40 : bt l i ≠ 40) (hb : blankB (bt l i) = true) : skD (l.drop i) 0 false = 1 + skD (l.drop (i + 1)) 0 false := by
  rw [drop_at l i h, skD, if_neg h40, if_neg (by omega), if_pos hb]
theorem sk_stop (l : List UInt8) (i : Nat) (h : i < l.length) (h40 : bt l i ≠ 40) (hb : blankB (bt l i) = false) : skD (l.drop i) 0 false = 0 := by
  rw [drop_at l i h, skD, if_neg h40, if_neg (by omega), if_neg (by rw [hb]; decide)]
theorem blank_parts (c : UInt8) : blankB c = false ↔ (c ≠ 32 ∧ c ≠ 9 ∧ c ≠ 13 ∧ c ≠ 10) := by
  unfold blankB
  simp only [Bool.or_eq_false_iff, beq_eq_false_iff_ne, ne_eq]
  constructor
  · rintro ⟨⟨⟨a, b⟩, c⟩, d⟩; exact ⟨a, b, c, d⟩
  · rintro ⟨a, b, c, d⟩; exact ⟨⟨⟨a, b⟩, c⟩, d⟩

set_option maxRecDepth 100000 in
set_option maxHeartbeats 4000000 in
theorem skip_any (b : Nat) (s : ByteArray) (i k : Nat) (p : ByteArray) (w : World) (hs : s.size ≤ 140737488355328) (hx : Cu b s i k p w) (hi : i ≤ s.size) :
    Calls Tryz.prog 47 #[.pointer (some ⟨b, 0, none⟩)] w fun e w' => e = .returned (.tuple #[]) ∧ Only b w w' ∧ Cu b s (i + skD ((L s).drop i) 0 false) k p w' := by
  obtain ⟨E, hE⟩ : ∃ E, i + skD ((L s).drop i) 0 false = E := ⟨_, rfl⟩
  rw [hE]
  have HX := Lib.hid hx
  have HE := Lib.hid hE
  clear hE hx
  go_enter Tryz.func47, Tryz.ntmps47
  go_wp2
  go_step3
  go_wp2
  go_step3
  go_wp2
  go_loopw [11] (fun _ wr => ∃ j : Nat, j ≤ s.size ∧ j + skD ((L s).drop j) 0 false = E ∧ Cu b s j k p wr ∧ Only b w wr) (fun _ wr => s.size - cuAt b wr)
  case atStart => exact ⟨i, hi, HE.out, HX.out, Only.refl _ _⟩
  case round =>
    obtain ⟨j, hj, hEj, hx, hb⟩ := hrel
    clear HX HE hi
    obtain ⟨c0, c1, c2, c3⟩ := hx.cells
    have f1 := hx.free 1
    have X1 := Lib.hid hx
    have HB := Lib.hid hb
    have HAT := Lib.hid hx.at
    by_cases hlt : j < s.size
    · have ea := get_bt s j hlt
      have HEJ := Lib.hid hEj
      have hjl : j < (L s).length := by rw [L_length]; exact hlt
      clear hx hb hEj
      by_cases h40 : bt (L s) j = 40
      · have t1 := beq_u8 (bt (L s) j) 40 40 rfl h40
        have t2 := bne_u8 (bt (L s) j) 32 32 rfl (by rw [h40]; decide)
        have t3 := bne_u8 (bt (L s) j) 9 9 rfl (by rw [h40]; decide)
        have t4 := bne_u8 (bt (L s) j) 13 13 rfl (by rw [h40]; decide)
        have t5 := bne_u8 (bt (L s) j) 10 10 rfl (by rw [h40]; decide)
        have HC := Lib.hid (sk_40 (L s) j hjl h40)
        have HK := Lib.hid (fun W hW => comment_any b s j k p W hs hW hlt h40)
        have hle := comD_le ((L s).drop j) 0 false
        have hpos : 1 ≤ comD ((L s).drop j) 0 false := by rw [com_40 (L s) j 0 hjl h40]; omega
        rw [List.length_drop, L_length] at hle
        generalize comD ((L s).drop j) 0 false = n at *
        clear h40
        generalize bt (L s) j = B at *
        go_wp2
        go_region
        go_wp2
        go_region
        go_wp2_with fail
        refine (HK.out wr.drew.drew ⟨X1.out.blk⟩).mono ?_
        rintro e w1 ⟨rfl, hb1, hx1⟩
        have hb2 := HB.out.trans ⟨hb1.os, hb1.tape, hb1.output, hb1.size, hb1.block⟩
        go_wp2
        refine ⟨⟨j + n, by omega, by have := HEJ.out; have := HC.out; omega, hx1, hb2⟩, ?_⟩
        rw [hx1.at, HAT.out]
        omega
      · have t1 := bne_u8 (bt (L s) j) 40 40 rfl h40
        cases hbl : blankB (bt (L s) j) with
        | true =>
          have HC := Lib.hid (sk_blank (L s) j hjl h40 hbl)
          have x2 := X1.out.set1 (j + 1) ((j : Int) + 1) (by omega)
          have q2 := HB.out.setCell 1 (.int .i64 ((j : Int) + 1))
          have y2 : cuAt b (wr.setCell ⟨b, 1, none⟩ (.int .i64 ((j : Int) + 1))) = j + 1 := x2.at
          have X2 := Lib.hid x2
          have Q2 := Lib.hid q2
          have Y2 := Lib.hid y2
          clear x2 q2 y2
          have t2 := byte_test (bt (L s) j) 32 32 rfl
          have t3 := byte_test (bt (L s) j) 9 9 rfl
          have t4 := byte_test (bt (L s) j) 13 13 rfl
          have t5 := byte_test (bt (L s) j) 10 10 rfl
          unfold blankB at hbl
          generalize (bt (L s) j == 32) = p1 at *
          generalize (bt (L s) j == 9) = p2 at *
          generalize (bt (L s) j == 13) = p3 at *
          generalize (bt (L s) j == 10) = p4 at *
          clear h40
          generalize bt (L s) j = B at *
          rcases (by cases p1 <;> cases p2 <;> cases p3 <;> cases p4 <;> simp_all : p1 = true ∨ (p1 = false ∧ p2 = true) ∨ (p1 = false ∧ p2 = false ∧ p3 = true) ∨ (p1 = false ∧ p2 = false ∧ p3 = false ∧ p4 = true)) with rfl | ⟨rfl, rfl⟩ | ⟨rfl, rfl, rfl⟩ | ⟨rfl, rfl, rfl, rfl⟩
          all_goals (
            clear hbl
            go_wp2
            go_region
            go_wp2
            go_region
            go_wp2
            refine ⟨⟨j + 1, by omega, by have := HEJ.out; have := HC.out; omega, ⟨X2.out.blk⟩, ⟨Q2.out.os, Q2.out.tape, Q2.out.output, Q2.out.size, Q2.out.block⟩⟩, ?_⟩
            have e1 := HAT.out
            show s.size - cuAt b (wr.setCell ⟨b, 1, none⟩ (.int .i64 ((j : Int) + 1))) < _
            rw [Y2.out, e1]
            omega)
        | false =>
          obtain ⟨n1, n2, n3, n4⟩ := (blank_parts _).1 hbl
          have t2 := bne_u8 (bt (L s) j) 32 32 rfl n1
          have t3 := bne_u8 (bt (L s) j) 9 9 rfl n2
          have t4 := bne_u8 (bt (L s) j) 13 13 rfl n3
          have t5 := bne_u8 (bt (L s) j) 10 10 rfl n4
          have hE2 : E = j := by have := HEJ.out; have := sk_stop (L s) j hjl h40 hbl; omega
          subst hE2
          clear h40 hbl n1 n2 n3 n4 HEJ
          generalize bt (L s) E = B at *
          go_wp2
          go_region
          go_wp2
          go_region
          go_wp2
          rw [Exit.noGoto_normal]
          exact bodyPost_end (results_none rfl _ _ _) rfl ⟨rfl, ⟨HB.out.os, HB.out.tape, HB.out.output, HB.out.size, HB.out.block⟩, ⟨X1.out.blk⟩⟩
    · have hE2 : E = j := by rw [sk_end _ _ (by rw [L_length]; omega)] at hEj; omega
      subst hE2
      clear hx hb hEj
      go_wp2
      go_region
      go_wp2
      rw [Exit.noGoto_normal]
      exact bodyPost_end (results_none rfl _ _ _) rfl ⟨rfl, ⟨HB.out.os, HB.out.tape, HB.out.output, HB.out.size, HB.out.block⟩, ⟨X1.out.blk⟩⟩

theorem isLet_wi (c : UInt8) : wi (smI c.toNat) 97 122 = isLet c := rfl
set_option maxHeartbeats 400000 in
theorem isLetter_any (c : UInt8) (w : World) :
    Calls Tryz.prog 75 #[.int .u8 (c.toNat : Int)] w fun e w' => e = .returned (.bool (isLet c)) ∧ w' = w := by
  have h256 : c.toNat < 256 := c.toNat_lt
  have hS := Lib.hid (fun W => small_any (c.toNat : Int) W (by omega) (by omega))
  have hW := Lib.hid (fun W => within_any (smI c.toNat) 97 122 W)
  rw [isLet_wi] at hW
  have g1 := smI_lo (c.toNat : Int) (by omega)
  have g2 := smI_hi (c.toNat : Int) (by omega)
  generalize smI (c.toNat : Int) = x at *
  go_enter Tryz.func75, Tryz.ntmps75
  go_wp2_with (first | (go_at_call 92; refine (hS.out _).mono ?_; rintro e w' ⟨rfl, hw'⟩; subst w') | (go_at_call 32; refine (hW.out _).mono ?_; rintro e w' ⟨rfl, hw'⟩; subst w'))
  go_ret
  exact ⟨rfl, rfl⟩

theorem tw_yes (f : UInt8 → Bool) (l : List UInt8) (i : Nat) (h : i < l.length) (hp : f (bt l i) = true) : ((l.drop i).takeWhile f).length = 1 + ((l.drop (i + 1)).takeWhile f).length := by
  rw [drop_at l i h, List.takeWhile_cons, hp]; simp; omega
theorem tw_no (f : UInt8 → Bool) (l : List UInt8) (i : Nat) (h : i < l.length) (hp : f (bt l i) = false) : ((l.drop i).takeWhile f).length = 0 := by
  rw [drop_at l i h, List.takeWhile_cons, hp]; simp
theorem tw_end (f : UInt8 → Bool) (l : List UInt8) (i : Nat) (h : l.length ≤ i) : ((l.drop i).takeWhile f).length = 0 := by
  rw [List.drop_eq_nil_of_le h]; rfl
set_option maxRecDepth 100000 in
set_option maxHeartbeats 4000000 in
theorem run_go (fn : Nat) (f : UInt8 → Bool) (hfn : fn = 75 ∨ fn = 72) (hF : ∀ (c : UInt8) (W : World), Calls Tryz.prog fn #[.int .u8 (c.toNat : Int)] W fun e w' => e = .returned (.bool (f c)) ∧ w' = W) (b : Nat) (s : ByteArray) (i k : Nat) (p : ByteArray) (w : World) (hs : s.size ≤ 140737488355328) (hx : Cu b s i k p w) (hi : i ≤ s.size) :
    Calls Tryz.prog 76 #[.pointer (some ⟨b, 0, none⟩), .func (.func fn) #[] #[]] w fun e w' => e = .returned (.bool (decide (0 < (((L s).drop i).takeWhile f).length))) ∧ Only b w w' ∧ Cu b s (i + (((L s).drop i).takeWhile f).length) k p w' := by
  obtain ⟨E, hE⟩ : ∃ E, i + (((L s).drop i).takeWhile f).length = E := ⟨_, rfl⟩
  have hR : decide (0 < (((L s).drop i).takeWhile f).length) = decide (i < E) := by rw [decide_eq_decide]; omega
  rw [hE, hR]
  have HX := Lib.hid hx
  have HE := Lib.hid hE
  have hiE : i ≤ E := by omega
  obtain ⟨c0, c1, c2, c3⟩ := hx.cells
  clear hE hR hx
  rcases hfn with rfl | rfl
  all_goals (
    have HF := Lib.hid hF
    clear hF
    go_enter Tryz.func76, Tryz.ntmps76
    go_wp2
    clear c0 c1 c2 c3
    go_loopw [32] (fun _ wr => ∃ j : Nat, j ≤ s.size ∧ j + (((L s).drop j).takeWhile f).length = E ∧ Cu b s j k p wr ∧ Only b w wr) (fun _ wr => s.size - cuAt b wr)
    case atStart => exact ⟨i, hi, HE.out, HX.out, Only.refl _ _⟩
    case round =>
      obtain ⟨j, hj, hEj, hx, hb⟩ := hrel
      clear HX HE hi
      obtain ⟨c0, c1, c2, c3⟩ := hx.cells
      have f1 := hx.free 1
      have X1 := Lib.hid hx
      have HB := Lib.hid hb
      have HAT := Lib.hid hx.at
      have HEJ := Lib.hid hEj
      clear hx hb hEj
      by_cases hlt : j < s.size
      · have ea := get_bt s j hlt
        have hjl : j < (L s).length := by rw [L_length]; exact hlt
        have hCf := Lib.hid (HF.out (bt (L s) j))
        cases hf : f (bt (L s) j) with
        | true =>
          rw [hf] at hCf
          have HC := Lib.hid (tw_yes f (L s) j hjl hf)
          clear hf HF
          generalize bt (L s) j = B at *
          go_wp2
          go_quiet (exact Calls.quiet_of_same (hCf.out _))
          go_wp2
          have x1 : Cu b s j k p (wr.drewN nq) := ⟨X1.out.blk⟩
          have x2 := x1.set1 (j + 1) ((j : Int) + 1) (by omega)
          have q2 := (only_drewN HB.out nq).setCell 1 (.int .i64 ((j : Int) + 1))
          refine ⟨⟨j + 1, by omega, by have := HEJ.out; have := HC.out; omega, x2, q2⟩, ?_⟩
          rw [x2.at, HAT.out]
          omega
        | false =>
          rw [hf] at hCf
          have hE2 : E = j := by have := HEJ.out; have := tw_no f (L s) j hjl hf; omega
          subst hE2
          clear hf HF HEJ
          generalize bt (L s) E = B at *
          go_wp2
          go_quiet (exact Calls.quiet_of_same (hCf.out _))
          go_wp2
          go_ret
          exact ⟨ret_bool (by first | rfl | (rw [decide_eq_decide]; omega)), only_drewN HB.out nq, ⟨X1.out.blk⟩⟩
      · have hE2 : E = j := by have := HEJ.out; have := tw_end f (L s) j (by rw [L_length]; omega); omega
        subst hE2
        clear HF HEJ
        go_wp2
        go_quiet (fail)
        go_wp2
        go_ret
        exact ⟨ret_bool (by first | rfl | (rw [decide_eq_decide]; omega)), only_drewN HB.out nq, ⟨X1.out.blk⟩⟩)
theorem run_let (b : Nat) (s : ByteArray) (i k : Nat) (p : ByteArray) (w : World) (hs : s.size ≤ 140737488355328) (hx : Cu b s i k p w) (hi : i ≤ s.size) :
    Calls Tryz.prog 76 #[.pointer (some ⟨b, 0, none⟩), .func (.func 75) #[] #[]] w fun e w' => e = .returned (.bool (decide (0 < (((L s).drop i).takeWhile isLet).length))) ∧ Only b w w' ∧ Cu b s (i + (((L s).drop i).takeWhile isLet).length) k p w' :=
  run_go 75 isLet (.inl rfl) isLetter_any b s i k p w hs hx hi
theorem run_dig (b : Nat) (s : ByteArray) (i k : Nat) (p : ByteArray) (w : World) (hs : s.size ≤ 140737488355328) (hx : Cu b s i k p w) (hi : i ≤ s.size) :
    Calls Tryz.prog 76 #[.pointer (some ⟨b, 0, none⟩), .func (.func 72) #[] #[]] w fun e w' => e = .returned (.bool (decide (0 < (((L s).drop i).takeWhile isDig).length))) ∧ Only b w w' ∧ Cu b s (i + (((L s).drop i).takeWhile isDig).length) k p w' :=
  run_go 72 isDig (.inr rfl) isDigit_any b s i k p w hs hx hi
end Go.Proofs.YtckdmbeokajdjaaGreatDoor
