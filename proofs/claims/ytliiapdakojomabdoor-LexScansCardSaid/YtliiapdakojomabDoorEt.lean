/- lex: the document's words: the walk. -/
import Derived.Test.YtliiapdakojomabDoorEj
namespace Go.Proofs.YtliiapdakojomabDoor
open Go.RowKit

set_option maxRecDepth 100000 in
set_option maxHeartbeats 16000000 in
theorem words_step (line : ByteArray) (vl : Value) (lits : List ByteArray) (hs : line.size ≤ 4096) (N : Nat) (ih : ∀ M, M < N → WordsOK line vl lits M) : WordsOK line vl lits N := by
  intro d e c0 w hl hc hN hd
  obtain ⟨a, lc, rfl, hz, _⟩ := hl.shape
  obtain ⟨p0, i0, n0⟩ := c0
  have hll := L_length line
  have HLL := Lib.hid hll
  have hc1 : p0 ≤ line.size := by have := hc.pos; rw [hll] at this; exact this
  have hc2 : i0 ≤ lits.length := hc.lit
  have hc3 : n0 ≤ 512 := hc.cnt
  have hN0 : line.size - p0 < N := hN
  generalize hR : rws (L line) lits N d e [] false ⟨p0, i0, n0⟩ = R
  have HRR := Lib.hid hR
  have HL := Lib.hid hl
  have HIH := Lib.hid ih
  clear hR hl hc hN ih hll
  have h256 : e.toNat < 256 := e.toNat_lt
  unfold cuV
  dsimp only
  go_enter Tryd.func48, Tryd.ntmps48
  go_wp2_with fail
  go_loopg [9, 10] line.size (fun gg s9 s10 wr => ∃ (M : Nat) (acc : List Wd) (bl : Bool) (p i n : Nat) (ka : Option Addr) (kn kc : Nat) (D : Nat → Prop) (X : World), X = wr ∧ s9 = .slice ka kn kc ∧ s10 = .bool bl ∧ M ≤ N ∧ line.size - p < M ∧ p ≤ line.size ∧ line.size - p ≤ gg ∧ kn ≤ p ∧ n ≤ 512 ∧ i ≤ lits.length ∧ Hid (kn = acc.length) ∧ Hid (Ww w line (.slice a lits.length lc) p i n ka kn kc acc D X) ∧ Hid (rws (L line) lits M d e acc bl ⟨p, i, n⟩ = R))
  case atStart => exact ⟨N, [], false, p0, i0, n0, none, 0, 0, _, _, rfl, rfl, rfl, Nat.le_refl _, hN0, hc1, by omega, Nat.zero_le _, hc3, hc2, Lib.hid rfl, Lib.hid (ww_start w line (.slice a lits.length lc) p0 i0 n0), HRR⟩
  case round =>
    clear HRR hc1 hc2 hc3 hN0
    obtain ⟨M, acc, bl, p, i, n, ka, kn, kc, D, X, hX, hs9, hs10, hMN, hM, hpl, hgg, hap, hn, hi, HK, HX, HR⟩ := hrel
    subst hX
    subst hs9
    subst hs10
    obtain ⟨q0, q1, q2, q3, q4⟩ := HX.out.cells
    obtain ⟨M, rfl⟩ : ∃ k, M = k + 1 := ⟨M - 1, by omega⟩
    by_cases hlt : p < line.size
    · have hpz : (p : Int) < (line.size : Int) := by omega
      have hp0 : (0 : Int) ≤ (p : Int) := by omega
      have HP : Hid (p < (L line).length) := Lib.hid (by rw [HLL.out]; exact hlt)
      have ea := get_btx line p hlt
      by_cases h32 : bt (L line) p = 32
      · have eb : (line[p]'hlt).toNat = 32 := by rw [ea, h32]; rfl
        have H32 := Lib.hid h32
        clear ea h32 HIH HL
        by_cases h2 : p + 1 < line.size
        · have hz2 : (p : Int) + 1 < (line.size : Int) := by omega
          have hz1 : (0 : Int) ≤ (p : Int) + 1 := by omega
          have ea2 := get_btx line (p + 1) h2
          have h25 := bt_lt (L line) (p + 1)
          have HN : Hid (nextB (L line) p = bt (L line) (p + 1)) := Lib.hid (next_in (by rw [HLL.out]; exact h2))
          generalize bt (L line) (p + 1) = y at *
          cases bl with
          | true =>
            have HB : Hid (Out.err 30 = R) := Lib.hid ((rws_blank_bad HP.out H32.out (rfl)).symm.trans HR.out)
            clear HR HN H32
            have h2 := HX.out.cu2
            have c20 := cell_of_row _ _ 0 _ _ _ h2
            have c21 := cell_of_row _ _ 1 _ _ _ h2
            have c22 := cell_of_row _ _ 2 _ _ _ h2
            have c23 := cell_of_row _ _ 3 _ _ _ h2
            have c24 := cell_of_row _ _ 4 _ _ _ h2
            have f2 : ∀ j, X.frozen? ⟨w.heap.size + 1, j, none⟩ = false := fun j => frozen_of_row _ _ _ _ _ h2
            clear h2
            have HD := Lib.hid (HX.out.done (.string line) (.slice a lits.length lc) (.int .i64 (p : Int)) (.int .i64 (i : Int)) (.int .i64 (n : Int)))
            go_upto_region 10 with fail
            go_region
            all_goals (go_wp2_with fail; (try simp only [Exit.inBlock, Exit.then]); refine wsret (w := w) (.slice none 0 0) (.string line) (.slice a lits.length lc) (.int .i64 (p : Int)) (.int .i64 (i : Int)) (.int .i64 (n : Int)) _ HD.out.1 rfl rfl rfl ?_; (refine ⟨⟨none, 0, 0, p, i, n, 30, rfl, ?_⟩, HD.out.2.1.drew⟩; rw [← HB.out]; exact rfl))
          | false =>
            by_cases hk0 : kn = 0
            · subst hk0
              have hac : acc = [] := List.eq_nil_of_length_eq_zero HK.out.symm
              subst hac
              have HB : Hid (Out.err 30 = R) := Lib.hid ((rws_blank_bad HP.out H32.out (by simp)).symm.trans HR.out)
              clear HR HN H32
              have h2 := HX.out.cu2
              have c20 := cell_of_row _ _ 0 _ _ _ h2
              have c21 := cell_of_row _ _ 1 _ _ _ h2
              have c22 := cell_of_row _ _ 2 _ _ _ h2
              have c23 := cell_of_row _ _ 3 _ _ _ h2
              have c24 := cell_of_row _ _ 4 _ _ _ h2
              have f2 : ∀ j, X.frozen? ⟨w.heap.size + 1, j, none⟩ = false := fun j => frozen_of_row _ _ _ _ _ h2
              clear h2
              have HD := Lib.hid (HX.out.done (.string line) (.slice a lits.length lc) (.int .i64 (p : Int)) (.int .i64 (i : Int)) (.int .i64 (n : Int)))
              go_upto_region 10 with fail
              go_region
              all_goals (go_wp2_with fail; (try simp only [Exit.inBlock, Exit.then]); refine wsret (w := w) (.slice none 0 0) (.string line) (.slice a lits.length lc) (.int .i64 (p : Int)) (.int .i64 (i : Int)) (.int .i64 (n : Int)) _ HD.out.1 rfl rfl rfl ?_; (refine ⟨⟨none, 0, 0, p, i, n, 30, rfl, ?_⟩, HD.out.2.1.drew⟩; rw [← HB.out]; exact rfl))
            · have hkz : ((kn : Int) == 0) = false := beq_eq_false_iff_ne.2 (by omega)
              have hae : acc.isEmpty = false := by
                cases acc with
                | nil => exact absurd HK.out hk0
                | cons _ _ => rfl
              have HAE := Lib.hid hae
              clear hae
              by_cases y1 : y = 41
              · subst y1
                have HB : Hid (Out.err 30 = R) := Lib.hid ((rws_blank_bad HP.out H32.out (by rw [HN.out]; simp [closerB])).symm.trans HR.out)
                clear HR HN H32
                have h2 := HX.out.cu2
                have c20 := cell_of_row _ _ 0 _ _ _ h2
                have c21 := cell_of_row _ _ 1 _ _ _ h2
                have c22 := cell_of_row _ _ 2 _ _ _ h2
                have c23 := cell_of_row _ _ 3 _ _ _ h2
                have c24 := cell_of_row _ _ 4 _ _ _ h2
                have f2 : ∀ j, X.frozen? ⟨w.heap.size + 1, j, none⟩ = false := fun j => frozen_of_row _ _ _ _ _ h2
                clear h2
                have HD := Lib.hid (HX.out.done (.string line) (.slice a lits.length lc) (.int .i64 (p : Int)) (.int .i64 (i : Int)) (.int .i64 (n : Int)))
                go_upto_region 10 with fail
                go_region
                all_goals (go_wp2_with fail; (try simp only [Exit.inBlock, Exit.then]); refine wsret (w := w) (.slice none 0 0) (.string line) (.slice a lits.length lc) (.int .i64 (p : Int)) (.int .i64 (i : Int)) (.int .i64 (n : Int)) _ HD.out.1 rfl rfl rfl ?_; (refine ⟨⟨none, 0, 0, p, i, n, 30, rfl, ?_⟩, HD.out.2.1.drew⟩; rw [← HB.out]; exact rfl))
              · have y1z : (((y.toNat : Nat) : Int) == 41) = false := beq_eq_false_iff_ne.2 (int_ne y1 41 rfl)
                by_cases y2 : y = 93
                · subst y2
                  have HB : Hid (Out.err 30 = R) := Lib.hid ((rws_blank_bad HP.out H32.out (by rw [HN.out]; simp [closerB])).symm.trans HR.out)
                  clear HR HN H32
                  have h2 := HX.out.cu2
                  have c20 := cell_of_row _ _ 0 _ _ _ h2
                  have c21 := cell_of_row _ _ 1 _ _ _ h2
                  have c22 := cell_of_row _ _ 2 _ _ _ h2
                  have c23 := cell_of_row _ _ 3 _ _ _ h2
                  have c24 := cell_of_row _ _ 4 _ _ _ h2
                  have f2 : ∀ j, X.frozen? ⟨w.heap.size + 1, j, none⟩ = false := fun j => frozen_of_row _ _ _ _ _ h2
                  clear h2
                  have HD := Lib.hid (HX.out.done (.string line) (.slice a lits.length lc) (.int .i64 (p : Int)) (.int .i64 (i : Int)) (.int .i64 (n : Int)))
                  go_upto_region 10 with fail
                  go_region
                  all_goals (go_wp2_with fail; (try simp only [Exit.inBlock, Exit.then]); refine wsret (w := w) (.slice none 0 0) (.string line) (.slice a lits.length lc) (.int .i64 (p : Int)) (.int .i64 (i : Int)) (.int .i64 (n : Int)) _ HD.out.1 rfl rfl rfl ?_; (refine ⟨⟨none, 0, 0, p, i, n, 30, rfl, ?_⟩, HD.out.2.1.drew⟩; rw [← HB.out]; exact rfl))
                · have y2z : (((y.toNat : Nat) : Int) == 93) = false := beq_eq_false_iff_ne.2 (int_ne y2 93 rfl)
                  have HB : Hid (rws (L line) lits M d e acc true ⟨p + 1, i, n⟩ = R) := Lib.hid ((rws_blank HP.out H32.out (by rw [HAE.out, HN.out]; unfold closerB; rw [beq_eq_false_iff_ne.2 y1, beq_eq_false_iff_ne.2 y2]; rfl)).symm.trans HR.out)
                  clear HR HN H32 y1 y2
                  obtain ⟨fz, HQ3⟩ := HX.out.move (p + 1) ((p : Int) + 1) (by omega)
                  replace HQ3 := Lib.hid HQ3
                  go_wp2_with fail
                  go_roundg (line.size - (p + 1))
                  case measure => omega
                  case rel => exact ⟨M, acc, true, p + 1, i, n, ka, kn, kc, D, _, rfl, rfl, rfl, by omega, by omega, by omega, Nat.le_refl _, by omega, hn, hi, HK, HQ3, HB⟩
        · have hz2 : ¬ (p : Int) + 1 < (line.size : Int) := by omega
          have HN : Hid (nextB (L line) p = 0) := Lib.hid (next_out (by rw [HLL.out]; exact h2))
          cases bl with
          | true =>
            have HB : Hid (Out.err 30 = R) := Lib.hid ((rws_blank_bad HP.out H32.out (rfl)).symm.trans HR.out)
            clear HR HN H32
            have h2 := HX.out.cu2
            have c20 := cell_of_row _ _ 0 _ _ _ h2
            have c21 := cell_of_row _ _ 1 _ _ _ h2
            have c22 := cell_of_row _ _ 2 _ _ _ h2
            have c23 := cell_of_row _ _ 3 _ _ _ h2
            have c24 := cell_of_row _ _ 4 _ _ _ h2
            have f2 : ∀ j, X.frozen? ⟨w.heap.size + 1, j, none⟩ = false := fun j => frozen_of_row _ _ _ _ _ h2
            clear h2
            have HD := Lib.hid (HX.out.done (.string line) (.slice a lits.length lc) (.int .i64 (p : Int)) (.int .i64 (i : Int)) (.int .i64 (n : Int)))
            go_upto_region 10 with fail
            go_region
            all_goals (go_wp2_with fail; (try simp only [Exit.inBlock, Exit.then]); refine wsret (w := w) (.slice none 0 0) (.string line) (.slice a lits.length lc) (.int .i64 (p : Int)) (.int .i64 (i : Int)) (.int .i64 (n : Int)) _ HD.out.1 rfl rfl rfl ?_; (refine ⟨⟨none, 0, 0, p, i, n, 30, rfl, ?_⟩, HD.out.2.1.drew⟩; rw [← HB.out]; exact rfl))
          | false =>
            by_cases hk0 : kn = 0
            · subst hk0
              have hac : acc = [] := List.eq_nil_of_length_eq_zero HK.out.symm
              subst hac
              have HB : Hid (Out.err 30 = R) := Lib.hid ((rws_blank_bad HP.out H32.out (by simp)).symm.trans HR.out)
              clear HR HN H32
              have h2 := HX.out.cu2
              have c20 := cell_of_row _ _ 0 _ _ _ h2
              have c21 := cell_of_row _ _ 1 _ _ _ h2
              have c22 := cell_of_row _ _ 2 _ _ _ h2
              have c23 := cell_of_row _ _ 3 _ _ _ h2
              have c24 := cell_of_row _ _ 4 _ _ _ h2
              have f2 : ∀ j, X.frozen? ⟨w.heap.size + 1, j, none⟩ = false := fun j => frozen_of_row _ _ _ _ _ h2
              clear h2
              have HD := Lib.hid (HX.out.done (.string line) (.slice a lits.length lc) (.int .i64 (p : Int)) (.int .i64 (i : Int)) (.int .i64 (n : Int)))
              go_upto_region 10 with fail
              go_region
              all_goals (go_wp2_with fail; (try simp only [Exit.inBlock, Exit.then]); refine wsret (w := w) (.slice none 0 0) (.string line) (.slice a lits.length lc) (.int .i64 (p : Int)) (.int .i64 (i : Int)) (.int .i64 (n : Int)) _ HD.out.1 rfl rfl rfl ?_; (refine ⟨⟨none, 0, 0, p, i, n, 30, rfl, ?_⟩, HD.out.2.1.drew⟩; rw [← HB.out]; exact rfl))
            · have hkz : ((kn : Int) == 0) = false := beq_eq_false_iff_ne.2 (by omega)
              have hae : acc.isEmpty = false := by
                cases acc with
                | nil => exact absurd HK.out hk0
                | cons _ _ => rfl
              have HB : Hid (rws (L line) lits M d e acc true ⟨p + 1, i, n⟩ = R) := Lib.hid ((rws_blank HP.out H32.out (by rw [hae, HN.out]; rfl)).symm.trans HR.out)
              clear HR HN H32 hae
              obtain ⟨fz, HQ3⟩ := HX.out.move (p + 1) ((p : Int) + 1) (by omega)
              replace HQ3 := Lib.hid HQ3
              go_wp2_with fail
              go_roundg (line.size - (p + 1))
              case measure => omega
              case rel => exact ⟨M, acc, true, p + 1, i, n, ka, kn, kc, D, _, rfl, rfl, rfl, by omega, by omega, by omega, Nat.le_refl _, by omega, hn, hi, HK, HQ3, HB⟩
      · cases hcl : closerB (bt (L line) p) with
        | true =>
          rcases closer_is hcl with hk | hk
          · have eb : (line[p]'hlt).toNat = 41 := by rw [ea, hk]; rfl
            have HK9 := Lib.hid hk
            have HCL := Lib.hid hcl
            clear ea hk hcl h32 HIH HL
            by_cases hd0 : d = 0
            · subst hd0
              have HB : Hid (Out.err 33 = R) := Lib.hid ((rws_close_bad HP.out HCL.out (.inl rfl)).symm.trans HR.out)
              clear HR
              have h2 := HX.out.cu2
              have c20 := cell_of_row _ _ 0 _ _ _ h2
              have c21 := cell_of_row _ _ 1 _ _ _ h2
              have c22 := cell_of_row _ _ 2 _ _ _ h2
              have c23 := cell_of_row _ _ 3 _ _ _ h2
              have c24 := cell_of_row _ _ 4 _ _ _ h2
              have f2 : ∀ j, X.frozen? ⟨w.heap.size + 1, j, none⟩ = false := fun j => frozen_of_row _ _ _ _ _ h2
              clear h2
              have HD := Lib.hid (HX.out.done (.string line) (.slice a lits.length lc) (.int .i64 (p : Int)) (.int .i64 (i : Int)) (.int .i64 (n : Int)))
              go_upto_region 15 with fail
              go_region
              all_goals (go_wp2_with fail; (try simp only [Exit.inBlock, Exit.then]); refine wsret (w := w) (.slice none 0 0) (.string line) (.slice a lits.length lc) (.int .i64 (p : Int)) (.int .i64 (i : Int)) (.int .i64 (n : Int)) _ HD.out.1 rfl rfl rfl ?_; (refine ⟨⟨none, 0, 0, p, i, n, 33, rfl, ?_⟩, HD.out.2.1.drew⟩; rw [← HB.out]; exact rfl))
            · have hdz : ((d : Int) == 0) = false := beq_eq_false_iff_ne.2 (by omega)
              by_cases he : e = 41
              · have hez : ((41 : Int) != (e.toNat : Int)) = false := by rw [he]; rfl
                have HB : Hid (Out.ok acc ⟨p + 1, i, n⟩ = R) := Lib.hid ((rws_close HP.out HCL.out (fun h => h.elim hd0 (fun h => h (by rw [HK9.out, he])))).symm.trans HR.out)
                clear HR he
                obtain ⟨fz, HQ3⟩ := HX.out.move (p + 1) ((p : Int) + 1) (by omega)
                replace HQ3 := Lib.hid HQ3
                go_upto_region 17 with fail
                generalize X.setCell ⟨w.heap.size, 2, none⟩ (.int .i64 ((p : Int) + 1)) = X3 at HQ3 ⊢
                clear q0 q1 q2 q3 q4 fz HX
                obtain ⟨q0, q1, q2, q3, q4⟩ := HQ3.out.cells
                have h2 := HQ3.out.cu2
                have c20 := cell_of_row _ _ 0 _ _ _ h2
                have c21 := cell_of_row _ _ 1 _ _ _ h2
                have c22 := cell_of_row _ _ 2 _ _ _ h2
                have c23 := cell_of_row _ _ 3 _ _ _ h2
                have c24 := cell_of_row _ _ 4 _ _ _ h2
                have f2 : ∀ j, X3.frozen? ⟨w.heap.size + 1, j, none⟩ = false := fun j => frozen_of_row _ _ _ _ _ h2
                clear h2
                have HD := Lib.hid (HQ3.out.done (.string line) (.slice a lits.length lc) (.int .i64 ((p + 1 : Nat) : Int)) (.int .i64 (i : Int)) (.int .i64 (n : Int)))
                skip
                go_region
                all_goals (go_wp2_with fail; (try simp only [Exit.inBlock, Exit.then]); refine wsret (w := w) (.slice ka kn kc) (.string line) (.slice a lits.length lc) (.int .i64 ((p + 1 : Nat) : Int)) (.int .i64 (i : Int)) (.int .i64 (n : Int)) _ HD.out.1 rfl rfl rfl ?_; (refine ⟨⟨ka, kn, kc, p + 1, i, n, 0, rfl, ?_⟩, HD.out.2.1.drew⟩; rw [← HB.out]; exact ⟨rfl, rfl, rfl, rfl, lies_drew HD.out.2.2⟩))
              · have hez : ((41 : Int) != (e.toNat : Int)) = true := by
                  rw [bne_iff_ne]
                  exact fun h => he (UInt8.toNat_inj.1 (by have : (41 : UInt8).toNat = 41 := rfl; omega))
                have HB : Hid (Out.err 33 = R) := Lib.hid ((rws_close_bad HP.out HCL.out (.inr (by rw [HK9.out]; exact fun h => he h.symm))).symm.trans HR.out)
                clear HR he
                have h2 := HX.out.cu2
                have c20 := cell_of_row _ _ 0 _ _ _ h2
                have c21 := cell_of_row _ _ 1 _ _ _ h2
                have c22 := cell_of_row _ _ 2 _ _ _ h2
                have c23 := cell_of_row _ _ 3 _ _ _ h2
                have c24 := cell_of_row _ _ 4 _ _ _ h2
                have f2 : ∀ j, X.frozen? ⟨w.heap.size + 1, j, none⟩ = false := fun j => frozen_of_row _ _ _ _ _ h2
                clear h2
                have HD := Lib.hid (HX.out.done (.string line) (.slice a lits.length lc) (.int .i64 (p : Int)) (.int .i64 (i : Int)) (.int .i64 (n : Int)))
                go_upto_region 15 with fail
                go_region
                all_goals (go_wp2_with fail; (try simp only [Exit.inBlock, Exit.then]); refine wsret (w := w) (.slice none 0 0) (.string line) (.slice a lits.length lc) (.int .i64 (p : Int)) (.int .i64 (i : Int)) (.int .i64 (n : Int)) _ HD.out.1 rfl rfl rfl ?_; (refine ⟨⟨none, 0, 0, p, i, n, 33, rfl, ?_⟩, HD.out.2.1.drew⟩; rw [← HB.out]; exact rfl))
          · have eb : (line[p]'hlt).toNat = 93 := by rw [ea, hk]; rfl
            have HK9 := Lib.hid hk
            have HCL := Lib.hid hcl
            clear ea hk hcl h32 HIH HL
            by_cases hd0 : d = 0
            · subst hd0
              have HB : Hid (Out.err 33 = R) := Lib.hid ((rws_close_bad HP.out HCL.out (.inl rfl)).symm.trans HR.out)
              clear HR
              have h2 := HX.out.cu2
              have c20 := cell_of_row _ _ 0 _ _ _ h2
              have c21 := cell_of_row _ _ 1 _ _ _ h2
              have c22 := cell_of_row _ _ 2 _ _ _ h2
              have c23 := cell_of_row _ _ 3 _ _ _ h2
              have c24 := cell_of_row _ _ 4 _ _ _ h2
              have f2 : ∀ j, X.frozen? ⟨w.heap.size + 1, j, none⟩ = false := fun j => frozen_of_row _ _ _ _ _ h2
              clear h2
              have HD := Lib.hid (HX.out.done (.string line) (.slice a lits.length lc) (.int .i64 (p : Int)) (.int .i64 (i : Int)) (.int .i64 (n : Int)))
              go_upto_region 15 with fail
              go_region
              all_goals (go_wp2_with fail; (try simp only [Exit.inBlock, Exit.then]); refine wsret (w := w) (.slice none 0 0) (.string line) (.slice a lits.length lc) (.int .i64 (p : Int)) (.int .i64 (i : Int)) (.int .i64 (n : Int)) _ HD.out.1 rfl rfl rfl ?_; (refine ⟨⟨none, 0, 0, p, i, n, 33, rfl, ?_⟩, HD.out.2.1.drew⟩; rw [← HB.out]; exact rfl))
            · have hdz : ((d : Int) == 0) = false := beq_eq_false_iff_ne.2 (by omega)
              by_cases he : e = 93
              · have hez : ((93 : Int) != (e.toNat : Int)) = false := by rw [he]; rfl
                have HB : Hid (Out.ok acc ⟨p + 1, i, n⟩ = R) := Lib.hid ((rws_close HP.out HCL.out (fun h => h.elim hd0 (fun h => h (by rw [HK9.out, he])))).symm.trans HR.out)
                clear HR he
                obtain ⟨fz, HQ3⟩ := HX.out.move (p + 1) ((p : Int) + 1) (by omega)
                replace HQ3 := Lib.hid HQ3
                go_upto_region 17 with fail
                generalize X.setCell ⟨w.heap.size, 2, none⟩ (.int .i64 ((p : Int) + 1)) = X3 at HQ3 ⊢
                clear q0 q1 q2 q3 q4 fz HX
                obtain ⟨q0, q1, q2, q3, q4⟩ := HQ3.out.cells
                have h2 := HQ3.out.cu2
                have c20 := cell_of_row _ _ 0 _ _ _ h2
                have c21 := cell_of_row _ _ 1 _ _ _ h2
                have c22 := cell_of_row _ _ 2 _ _ _ h2
                have c23 := cell_of_row _ _ 3 _ _ _ h2
                have c24 := cell_of_row _ _ 4 _ _ _ h2
                have f2 : ∀ j, X3.frozen? ⟨w.heap.size + 1, j, none⟩ = false := fun j => frozen_of_row _ _ _ _ _ h2
                clear h2
                have HD := Lib.hid (HQ3.out.done (.string line) (.slice a lits.length lc) (.int .i64 ((p + 1 : Nat) : Int)) (.int .i64 (i : Int)) (.int .i64 (n : Int)))
                skip
                go_region
                all_goals (go_wp2_with fail; (try simp only [Exit.inBlock, Exit.then]); refine wsret (w := w) (.slice ka kn kc) (.string line) (.slice a lits.length lc) (.int .i64 ((p + 1 : Nat) : Int)) (.int .i64 (i : Int)) (.int .i64 (n : Int)) _ HD.out.1 rfl rfl rfl ?_; (refine ⟨⟨ka, kn, kc, p + 1, i, n, 0, rfl, ?_⟩, HD.out.2.1.drew⟩; rw [← HB.out]; exact ⟨rfl, rfl, rfl, rfl, lies_drew HD.out.2.2⟩))
              · have hez : ((93 : Int) != (e.toNat : Int)) = true := by
                  rw [bne_iff_ne]
                  exact fun h => he (UInt8.toNat_inj.1 (by have : (93 : UInt8).toNat = 93 := rfl; omega))
                have HB : Hid (Out.err 33 = R) := Lib.hid ((rws_close_bad HP.out HCL.out (.inr (by rw [HK9.out]; exact fun h => he h.symm))).symm.trans HR.out)
                clear HR he
                have h2 := HX.out.cu2
                have c20 := cell_of_row _ _ 0 _ _ _ h2
                have c21 := cell_of_row _ _ 1 _ _ _ h2
                have c22 := cell_of_row _ _ 2 _ _ _ h2
                have c23 := cell_of_row _ _ 3 _ _ _ h2
                have c24 := cell_of_row _ _ 4 _ _ _ h2
                have f2 : ∀ j, X.frozen? ⟨w.heap.size + 1, j, none⟩ = false := fun j => frozen_of_row _ _ _ _ _ h2
                clear h2
                have HD := Lib.hid (HX.out.done (.string line) (.slice a lits.length lc) (.int .i64 (p : Int)) (.int .i64 (i : Int)) (.int .i64 (n : Int)))
                go_upto_region 15 with fail
                go_region
                all_goals (go_wp2_with fail; (try simp only [Exit.inBlock, Exit.then]); refine wsret (w := w) (.slice none 0 0) (.string line) (.slice a lits.length lc) (.int .i64 (p : Int)) (.int .i64 (i : Int)) (.int .i64 (n : Int)) _ HD.out.1 rfl rfl rfl ?_; (refine ⟨⟨none, 0, 0, p, i, n, 33, rfl, ?_⟩, HD.out.2.1.drew⟩; rw [← HB.out]; exact rfl))
        | false =>
          have HW1 := Lib.hid ((rws_word (lits := lits) (M := M) (d := d) (e := e) (acc := acc) (bl := bl) (i := i) (n := n) HP.out h32 hcl).symm.trans HR.out)
          have h25 := bt_lt (L line) p
          have e32 : (((bt (L line) p).toNat : Int) == 32) = false := beq_eq_false_iff_ne.2 (int_ne h32 32 rfl)
          have e41 : (((bt (L line) p).toNat : Int) == 41) = false := beq_eq_false_iff_ne.2 (int_ne (closer_no hcl).1 41 rfl)
          have e93 : (((bt (L line) p).toNat : Int) == 93) = false := beq_eq_false_iff_ne.2 (int_ne (closer_no hcl).2 93 rfl)
          have hck : Cok (L line) lits ⟨p, i, n⟩ := ⟨by rw [HLL.out]; exact hpl, hi, hn⟩
          have HWD := Lib.hid (word_any line (.slice a lits.length lc) lits M (HIH.out M (by omega)) hs d hd ⟨p, i, n⟩ X (HL.out.on HX.out.below) hck hlt (by show line.size - p ≤ M; omega))
          have HOK := Lib.hid (rw1_ok (L line) lits (fun d e c => rws (L line) lits M d e [] false c) d ⟨p, i, n⟩ hck HP.out (fun d e c' hc' => rws_ok (L line) lits M d e [] false c' hc'))
          clear hck hcl h32 HR
          generalize bt (L line) p = c at *
          cases hrw : rw1 (L line) lits (fun d e c => rws (L line) lits M d e [] false c) d ⟨p, i, n⟩ with
          | bad k =>
            rw [hrw] at HWD HW1 HOK
            clear hrw
            have hk0 : ((k : Int) != 0) = true := by rw [bne_iff_ne]; exact HOK.out
            have HB : Hid (Out.err k = R) := Lib.hid HW1.out
            clear HW1 HOK HIH HL
            go_upto_region 19 with (go_at_call 72; refine HWD.out.mono ?_; rintro e7 w7 ⟨⟨a7, m7, c7, kd, t, p7, i7, n7, code, rfl, hrel7⟩, hb7⟩; obtain rfl : k = code := hrel7.symm; have HB7 := Lib.hid hb7; clear hb7; unfold cuV)
            have HZ := Lib.hid (alloc45 w7 (.int .i64 kd) (.string t) (.slice a7 m7 c7) (.bool false) (.string line) (.slice a lits.length lc) (.int .i64 (p7 : Int)) (.int .i64 (i7 : Int)) (.int .i64 (n7 : Int)))
            generalize (w7.alloc (.cells #[.int .i64 kd, .string t, .slice a7 m7 c7, .bool false] 33)).alloc (.cells #[.string line, .slice a lits.length lc, .int .i64 (p7 : Int), .int .i64 (i7 : Int), .int .i64 (n7 : Int)] 81) = X8 at HZ ⊢
            obtain ⟨hg8, hg9, hb8⟩ := HZ.out
            have HX8 := Lib.hid (HX.out.on (HB7.out.trans (hb8.mono HB7.out.size)))
            have hsX := HX.out.size
            have hs7 := HB7.out.size
            clear HZ hb8 HB7 HX q0 q1 q2 q3 q4 HWD
            generalize hgg1 : w7.heap.size + 1 = g1 at *
            generalize w7.heap.size = g at *
            have hne0 : g ≠ w.heap.size := by omega
            have hne1 : g ≠ w.heap.size + 1 := by omega
            have hnf0 : g1 ≠ w.heap.size := by omega
            have hnf1 : g1 ≠ w.heap.size + 1 := by omega
            have hnf2 : g1 ≠ g := by omega
            clear hgg1 hg8
            have y0 := cell_of_row _ _ 0 _ _ _ hg9
            have y1 := cell_of_row _ _ 1 _ _ _ hg9
            have y2 := cell_of_row _ _ 2 _ _ _ hg9
            have y3 := cell_of_row _ _ 3 _ _ _ hg9
            have y4 := cell_of_row _ _ 4 _ _ _ hg9
            clear hg9
            have h2 := HX8.out.cu2
            have c20 := cell_of_row _ _ 0 _ _ _ h2
            have c21 := cell_of_row _ _ 1 _ _ _ h2
            have c22 := cell_of_row _ _ 2 _ _ _ h2
            have c23 := cell_of_row _ _ 3 _ _ _ h2
            have c24 := cell_of_row _ _ 4 _ _ _ h2
            have f2 : ∀ j, X8.frozen? ⟨w.heap.size + 1, j, none⟩ = false := fun j => frozen_of_row _ _ _ _ _ h2
            clear h2
            have HD := Lib.hid (HX8.out.done (.string line) (.slice a lits.length lc) (.int .i64 (p7 : Int)) (.int .i64 (i7 : Int)) (.int .i64 (n7 : Int)))
            go_upto_region 20 with fail
            go_region
            all_goals (go_wp2_with fail; (try simp only [Exit.inBlock, Exit.then]); refine wsret (w := w) (.slice none 0 0) (.string line) (.slice a lits.length lc) (.int .i64 (p7 : Int)) (.int .i64 (i7 : Int)) (.int .i64 (n7 : Int)) _ HD.out.1 rfl rfl rfl ?_; (refine ⟨⟨none, 0, 0, p7, i7, n7, k, rfl, ?_⟩, HD.out.2.1.drew⟩; rw [← HB.out]; exact rfl))
          | ok d' c' =>
            rw [hrw] at HWD HW1 HOK
            clear hrw
            obtain ⟨kd', t', kids, g'⟩ := d'
            obtain ⟨cp, ci, cn⟩ := c'
            have hpp : p < cp := HOK.out.1
            have hp7s : cp ≤ line.size := by have := HOK.out.2.pos; rw [HLL.out] at this; exact this
            have hi7b : ci ≤ lits.length := HOK.out.2.lit
            have hn7b : cn ≤ 512 := HOK.out.2.cnt
            clear HOK HIH HL
            by_cases hk0 : kn = 0
            · have hkz : ¬ (0 : Int) < (kn : Int) := by omega
              have hae : acc.isEmpty = true := by
                cases acc with
                | nil => rfl
                | cons _ _ => exact absurd (HK.out.symm.trans hk0) (by simp)
              have HB : Hid (rws (L line) lits M d e (acc ++ [Wd.mk kd' t' kids false]) false ⟨cp, ci, cn⟩ = R) := Lib.hid (by have := HW1.out; rw [hae] at this; exact this)
              clear HW1 hae hk0
              go_upto_region 19 with (go_at_call 72; refine HWD.out.mono ?_; rintro e7 w7 ⟨⟨a7, m7, c7, kd, t, p7, i7, n7, code, rfl, hrel7⟩, hb7⟩; obtain ⟨hcode, hkd, ht, _, hp7, hi7, hn7, hlies⟩ := hrel7; subst hcode; obtain rfl : kd = kd' := hkd; obtain rfl : t = t' := ht; obtain rfl : p7 = cp := hp7; obtain rfl : i7 = ci := hi7; obtain rfl : n7 = cn := hn7; have HLI : Hid (Lies w7 (fun g => X.heap.size ≤ g) a7 m7 c7 kids) := Lib.hid hlies; clear hlies; have HB7 := Lib.hid hb7; clear hb7; unfold cuV)
              have HZ := Lib.hid (alloc45 w7 (.int .i64 kd) (.string t) (.slice a7 m7 c7) (.bool false) (.string line) (.slice a lits.length lc) (.int .i64 (p7 : Int)) (.int .i64 (i7 : Int)) (.int .i64 (n7 : Int)))
              generalize (w7.alloc (.cells #[.int .i64 kd, .string t, .slice a7 m7 c7, .bool false] 33)).alloc (.cells #[.string line, .slice a lits.length lc, .int .i64 (p7 : Int), .int .i64 (i7 : Int), .int .i64 (n7 : Int)] 81) = X8 at HZ ⊢
              obtain ⟨hg8, hg9, hb8⟩ := HZ.out
              have hs7 := HB7.out.size
              have hsX := HX.out.size
              have f8 : X8.frozen? ⟨w7.heap.size, 3, none⟩ = false := frozen_of_row _ _ _ _ _ hg8
              have x3 : X8.cell? ⟨w7.heap.size, 3, none⟩ = some (.bool false) := cell_of_row _ _ 3 _ _ _ hg8
              have H8 : Hid ((X8.setCell ⟨w7.heap.size, 3, none⟩ (.bool false)).heap[w7.heap.size]? = some (.cells #[.int .i64 kd, .string t, .slice a7 m7 c7, .bool false] 33 (0, 0)) ∧ (X8.setCell ⟨w7.heap.size, 3, none⟩ (.bool false)).heap[w7.heap.size + 1]? = some (.cells #[.string line, .slice a lits.length lc, .int .i64 (p7 : Int), .int .i64 (i7 : Int), .int .i64 (n7 : Int)] 81 (0, 0)) ∧ Below X.heap.size X (X8.setCell ⟨w7.heap.size, 3, none⟩ (.bool false)) ∧ Below w7.heap.size w7 (X8.setCell ⟨w7.heap.size, 3, none⟩ (.bool false))) := Lib.hid ⟨heap_setCell_same X8 w7.heap.size 3 _ _ (.bool false) hg8, (heap_setCell_other X8 ⟨w7.heap.size, 3, none⟩ (w7.heap.size + 1) (.bool false) (by show w7.heap.size + 1 ≠ w7.heap.size; omega)).trans hg9, (HB7.out.trans (hb8.mono HB7.out.size)).setCell (p := ⟨w7.heap.size, 3, none⟩) hs7 _, hb8.setCell (p := ⟨w7.heap.size, 3, none⟩) (Nat.le_refl _) _⟩
              clear HZ hg8 hg9 hb8 q0 q1 q2 q3 q4 HWD
              go_upto_region 22 with fail
              generalize X8.setCell ⟨w7.heap.size, 3, none⟩ (.bool false) = X9 at H8 ⊢
              obtain ⟨hg8, hg9, hb9, hb79⟩ := H8.out
              clear f8 x3 H8
              have HX9 := Lib.hid (HX.out.on hb9)
              have HLI9 : Hid (Lies X9 (fun g => D g ∨ (X.heap.size ≤ g ∧ g < w7.heap.size)) a7 m7 c7 kids) := Lib.hid (HLI.out.bound.mono (fun g hg hlt => ⟨Nat.lt_of_lt_of_le hlt hb79.size, cell_of_heap (hb79.block g hlt)⟩) (fun g hg => .inr hg))
              have HDW : Hid (∀ g, (D g ∨ (X.heap.size ≤ g ∧ g < w7.heap.size)) → w.heap.size + 1 + 1 ≤ g ∧ g < X9.heap.size ∧ (Value.slice ka kn kc).ownBlock ≠ some g) := Lib.hid (fun g hg => by
                have hz9 := hb79.size
                rcases hg with hg | ⟨hg, hg2⟩
                · obtain ⟨u1, u2, u3⟩ := HX.out.dd g hg
                  exact ⟨u1, by omega, u3⟩
                · refine ⟨by omega, by omega, fun e => ?_⟩
                  have := (HX.out.row.lt g e).2
                  omega)
              have HOWN : Hid ((Value.slice ka kn kc).ownBlock ≠ some (w7.heap.size + 1)) := Lib.hid (fun e => by have := (HX.out.row.lt _ e).2; omega)
              have hlt9 : w7.heap.size + 1 < X9.heap.size := (Array.getElem?_eq_some_iff.1 hg9).1
              have HG9 := Lib.hid hg9
              have x0 := cell_of_row _ _ 0 _ _ _ hg8
              have x1 := cell_of_row _ _ 1 _ _ _ hg8
              have x2 := cell_of_row _ _ 2 _ _ _ hg8
              have x3 := cell_of_row _ _ 3 _ _ _ hg8
              clear hg8 hg9 hb9 hb79 HLI HB7 HX
              generalize hgg1 : w7.heap.size + 1 = g1 at *
              generalize w7.heap.size = g at *
              have hne0 : g ≠ w.heap.size := by omega
              have hne1 : g ≠ w.heap.size + 1 := by omega
              have hnf0 : g1 ≠ w.heap.size := by omega
              have hnf1 : g1 ≠ w.heap.size + 1 := by omega
              have hnf2 : g1 ≠ g := by omega
              clear hgg1
              have hac : acc.length ≤ 100000000 := by have := HK.out; omega
              go_upto_region 23 with (at_builtin; refine wput rfl _ _ rfl HX9.out ⟨kd, t, a7, m7, c7, false⟩ (Wd.mk kd t kids false) ⟨rfl, rfl, rfl, HLI9.out⟩ (fun g hg => .inl hg) HDW.out rfl rfl hac ?_; intro ka' kn' kc' X10 hX10 hblk; have hg10 := (hblk _ hlt9 HOWN.out).trans HG9.out; clear hblk; obtain ⟨r0, r1, r2, r3, r4⟩ := hX10.cells; have f3 : ∀ j, X10.frozen? ⟨w.heap.size, j, none⟩ = false := fun j => frozen_of_row _ _ _ _ _ hX10.cur; have hkn' := hX10.kn; rw [List.length_append, List.length_singleton, ← HK.out] at hkn'; have HKN := Lib.hid hkn'; clear hkn'; have y0 := cell_of_row _ _ 0 _ _ _ hg10; have y1 := cell_of_row _ _ 1 _ _ _ hg10; have y2 := cell_of_row _ _ 2 _ _ _ hg10; have y3 := cell_of_row _ _ 3 _ _ _ hg10; have y4 := cell_of_row _ _ 4 _ _ _ hg10; clear hg10; have HX10 := Lib.hid hX10; clear hX10 x0 x1 x2 x3)
              go_wp2_with fail
              go_roundg (line.size - p7)
              case measure => omega
              case rel => exact ⟨M, acc ++ [Wd.mk kd t kids false], false, p7, i7, n7, ka', kn', kc', _, _, rfl, rfl, rfl, by omega, by omega, hp7s, Nat.le_refl _, by have := HKN.out; omega, hn7b, hi7b, Lib.hid HX10.out.kn, Lib.hid (HX10.out.jump p7 i7 n7), HB⟩
            · have hkz : (0 : Int) < (kn : Int) := by omega
              have hae : acc.isEmpty = false := by
                cases acc with
                | nil => exact absurd HK.out hk0
                | cons _ _ => rfl
              cases bl with
              | true =>
                have HB : Hid (rws (L line) lits M d e (acc ++ [Wd.mk kd' t' kids false]) false ⟨cp, ci, cn⟩ = R) := Lib.hid (by have := HW1.out; rw [hae] at this; exact this)
                clear HW1 hae hk0
                go_upto_region 19 with (go_at_call 72; refine HWD.out.mono ?_; rintro e7 w7 ⟨⟨a7, m7, c7, kd, t, p7, i7, n7, code, rfl, hrel7⟩, hb7⟩; obtain ⟨hcode, hkd, ht, _, hp7, hi7, hn7, hlies⟩ := hrel7; subst hcode; obtain rfl : kd = kd' := hkd; obtain rfl : t = t' := ht; obtain rfl : p7 = cp := hp7; obtain rfl : i7 = ci := hi7; obtain rfl : n7 = cn := hn7; have HLI : Hid (Lies w7 (fun g => X.heap.size ≤ g) a7 m7 c7 kids) := Lib.hid hlies; clear hlies; have HB7 := Lib.hid hb7; clear hb7; unfold cuV)
                have HZ := Lib.hid (alloc45 w7 (.int .i64 kd) (.string t) (.slice a7 m7 c7) (.bool false) (.string line) (.slice a lits.length lc) (.int .i64 (p7 : Int)) (.int .i64 (i7 : Int)) (.int .i64 (n7 : Int)))
                generalize (w7.alloc (.cells #[.int .i64 kd, .string t, .slice a7 m7 c7, .bool false] 33)).alloc (.cells #[.string line, .slice a lits.length lc, .int .i64 (p7 : Int), .int .i64 (i7 : Int), .int .i64 (n7 : Int)] 81) = X8 at HZ ⊢
                obtain ⟨hg8, hg9, hb8⟩ := HZ.out
                have hs7 := HB7.out.size
                have hsX := HX.out.size
                have f8 : X8.frozen? ⟨w7.heap.size, 3, none⟩ = false := frozen_of_row _ _ _ _ _ hg8
                have x3 : X8.cell? ⟨w7.heap.size, 3, none⟩ = some (.bool false) := cell_of_row _ _ 3 _ _ _ hg8
                have H8 : Hid ((X8.setCell ⟨w7.heap.size, 3, none⟩ (.bool false)).heap[w7.heap.size]? = some (.cells #[.int .i64 kd, .string t, .slice a7 m7 c7, .bool false] 33 (0, 0)) ∧ (X8.setCell ⟨w7.heap.size, 3, none⟩ (.bool false)).heap[w7.heap.size + 1]? = some (.cells #[.string line, .slice a lits.length lc, .int .i64 (p7 : Int), .int .i64 (i7 : Int), .int .i64 (n7 : Int)] 81 (0, 0)) ∧ Below X.heap.size X (X8.setCell ⟨w7.heap.size, 3, none⟩ (.bool false)) ∧ Below w7.heap.size w7 (X8.setCell ⟨w7.heap.size, 3, none⟩ (.bool false))) := Lib.hid ⟨heap_setCell_same X8 w7.heap.size 3 _ _ (.bool false) hg8, (heap_setCell_other X8 ⟨w7.heap.size, 3, none⟩ (w7.heap.size + 1) (.bool false) (by show w7.heap.size + 1 ≠ w7.heap.size; omega)).trans hg9, (HB7.out.trans (hb8.mono HB7.out.size)).setCell (p := ⟨w7.heap.size, 3, none⟩) hs7 _, hb8.setCell (p := ⟨w7.heap.size, 3, none⟩) (Nat.le_refl _) _⟩
                clear HZ hg8 hg9 hb8 q0 q1 q2 q3 q4 HWD
                go_upto_region 22 with fail
                generalize X8.setCell ⟨w7.heap.size, 3, none⟩ (.bool false) = X9 at H8 ⊢
                obtain ⟨hg8, hg9, hb9, hb79⟩ := H8.out
                clear f8 x3 H8
                have HX9 := Lib.hid (HX.out.on hb9)
                have HLI9 : Hid (Lies X9 (fun g => D g ∨ (X.heap.size ≤ g ∧ g < w7.heap.size)) a7 m7 c7 kids) := Lib.hid (HLI.out.bound.mono (fun g hg hlt => ⟨Nat.lt_of_lt_of_le hlt hb79.size, cell_of_heap (hb79.block g hlt)⟩) (fun g hg => .inr hg))
                have HDW : Hid (∀ g, (D g ∨ (X.heap.size ≤ g ∧ g < w7.heap.size)) → w.heap.size + 1 + 1 ≤ g ∧ g < X9.heap.size ∧ (Value.slice ka kn kc).ownBlock ≠ some g) := Lib.hid (fun g hg => by
                  have hz9 := hb79.size
                  rcases hg with hg | ⟨hg, hg2⟩
                  · obtain ⟨u1, u2, u3⟩ := HX.out.dd g hg
                    exact ⟨u1, by omega, u3⟩
                  · refine ⟨by omega, by omega, fun e => ?_⟩
                    have := (HX.out.row.lt g e).2
                    omega)
                have HOWN : Hid ((Value.slice ka kn kc).ownBlock ≠ some (w7.heap.size + 1)) := Lib.hid (fun e => by have := (HX.out.row.lt _ e).2; omega)
                have hlt9 : w7.heap.size + 1 < X9.heap.size := (Array.getElem?_eq_some_iff.1 hg9).1
                have HG9 := Lib.hid hg9
                have x0 := cell_of_row _ _ 0 _ _ _ hg8
                have x1 := cell_of_row _ _ 1 _ _ _ hg8
                have x2 := cell_of_row _ _ 2 _ _ _ hg8
                have x3 := cell_of_row _ _ 3 _ _ _ hg8
                clear hg8 hg9 hb9 hb79 HLI HB7 HX
                generalize hgg1 : w7.heap.size + 1 = g1 at *
                generalize w7.heap.size = g at *
                have hne0 : g ≠ w.heap.size := by omega
                have hne1 : g ≠ w.heap.size + 1 := by omega
                have hnf0 : g1 ≠ w.heap.size := by omega
                have hnf1 : g1 ≠ w.heap.size + 1 := by omega
                have hnf2 : g1 ≠ g := by omega
                clear hgg1
                have hac : acc.length ≤ 100000000 := by have := HK.out; omega
                go_upto_region 23 with (at_builtin; refine wput rfl _ _ rfl HX9.out ⟨kd, t, a7, m7, c7, false⟩ (Wd.mk kd t kids false) ⟨rfl, rfl, rfl, HLI9.out⟩ (fun g hg => .inl hg) HDW.out rfl rfl hac ?_; intro ka' kn' kc' X10 hX10 hblk; have hg10 := (hblk _ hlt9 HOWN.out).trans HG9.out; clear hblk; obtain ⟨r0, r1, r2, r3, r4⟩ := hX10.cells; have f3 : ∀ j, X10.frozen? ⟨w.heap.size, j, none⟩ = false := fun j => frozen_of_row _ _ _ _ _ hX10.cur; have hkn' := hX10.kn; rw [List.length_append, List.length_singleton, ← HK.out] at hkn'; have HKN := Lib.hid hkn'; clear hkn'; have y0 := cell_of_row _ _ 0 _ _ _ hg10; have y1 := cell_of_row _ _ 1 _ _ _ hg10; have y2 := cell_of_row _ _ 2 _ _ _ hg10; have y3 := cell_of_row _ _ 3 _ _ _ hg10; have y4 := cell_of_row _ _ 4 _ _ _ hg10; clear hg10; have HX10 := Lib.hid hX10; clear hX10 x0 x1 x2 x3)
                go_wp2_with fail
                go_roundg (line.size - p7)
                case measure => omega
                case rel => exact ⟨M, acc ++ [Wd.mk kd t kids false], false, p7, i7, n7, ka', kn', kc', _, _, rfl, rfl, rfl, by omega, by omega, hp7s, Nat.le_refl _, by have := HKN.out; omega, hn7b, hi7b, Lib.hid HX10.out.kn, Lib.hid (HX10.out.jump p7 i7 n7), HB⟩
              | false =>
                have HB : Hid (rws (L line) lits M d e (acc ++ [Wd.mk kd' t' kids true]) false ⟨cp, ci, cn⟩ = R) := Lib.hid (by have := HW1.out; rw [hae] at this; exact this)
                clear HW1 hae hk0
                go_upto_region 19 with (go_at_call 72; refine HWD.out.mono ?_; rintro e7 w7 ⟨⟨a7, m7, c7, kd, t, p7, i7, n7, code, rfl, hrel7⟩, hb7⟩; obtain ⟨hcode, hkd, ht, _, hp7, hi7, hn7, hlies⟩ := hrel7; subst hcode; obtain rfl : kd = kd' := hkd; obtain rfl : t = t' := ht; obtain rfl : p7 = cp := hp7; obtain rfl : i7 = ci := hi7; obtain rfl : n7 = cn := hn7; have HLI : Hid (Lies w7 (fun g => X.heap.size ≤ g) a7 m7 c7 kids) := Lib.hid hlies; clear hlies; have HB7 := Lib.hid hb7; clear hb7; unfold cuV)
                have HZ := Lib.hid (alloc45 w7 (.int .i64 kd) (.string t) (.slice a7 m7 c7) (.bool false) (.string line) (.slice a lits.length lc) (.int .i64 (p7 : Int)) (.int .i64 (i7 : Int)) (.int .i64 (n7 : Int)))
                generalize (w7.alloc (.cells #[.int .i64 kd, .string t, .slice a7 m7 c7, .bool false] 33)).alloc (.cells #[.string line, .slice a lits.length lc, .int .i64 (p7 : Int), .int .i64 (i7 : Int), .int .i64 (n7 : Int)] 81) = X8 at HZ ⊢
                obtain ⟨hg8, hg9, hb8⟩ := HZ.out
                have hs7 := HB7.out.size
                have hsX := HX.out.size
                have f8 : X8.frozen? ⟨w7.heap.size, 3, none⟩ = false := frozen_of_row _ _ _ _ _ hg8
                have x3 : X8.cell? ⟨w7.heap.size, 3, none⟩ = some (.bool false) := cell_of_row _ _ 3 _ _ _ hg8
                have H8 : Hid ((X8.setCell ⟨w7.heap.size, 3, none⟩ (.bool true)).heap[w7.heap.size]? = some (.cells #[.int .i64 kd, .string t, .slice a7 m7 c7, .bool true] 33 (0, 0)) ∧ (X8.setCell ⟨w7.heap.size, 3, none⟩ (.bool true)).heap[w7.heap.size + 1]? = some (.cells #[.string line, .slice a lits.length lc, .int .i64 (p7 : Int), .int .i64 (i7 : Int), .int .i64 (n7 : Int)] 81 (0, 0)) ∧ Below X.heap.size X (X8.setCell ⟨w7.heap.size, 3, none⟩ (.bool true)) ∧ Below w7.heap.size w7 (X8.setCell ⟨w7.heap.size, 3, none⟩ (.bool true))) := Lib.hid ⟨heap_setCell_same X8 w7.heap.size 3 _ _ (.bool true) hg8, (heap_setCell_other X8 ⟨w7.heap.size, 3, none⟩ (w7.heap.size + 1) (.bool true) (by show w7.heap.size + 1 ≠ w7.heap.size; omega)).trans hg9, (HB7.out.trans (hb8.mono HB7.out.size)).setCell (p := ⟨w7.heap.size, 3, none⟩) hs7 _, hb8.setCell (p := ⟨w7.heap.size, 3, none⟩) (Nat.le_refl _) _⟩
                clear HZ hg8 hg9 hb8 q0 q1 q2 q3 q4 HWD
                go_upto_region 22 with fail
                generalize X8.setCell ⟨w7.heap.size, 3, none⟩ (.bool true) = X9 at H8 ⊢
                obtain ⟨hg8, hg9, hb9, hb79⟩ := H8.out
                clear f8 x3 H8
                have HX9 := Lib.hid (HX.out.on hb9)
                have HLI9 : Hid (Lies X9 (fun g => D g ∨ (X.heap.size ≤ g ∧ g < w7.heap.size)) a7 m7 c7 kids) := Lib.hid (HLI.out.bound.mono (fun g hg hlt => ⟨Nat.lt_of_lt_of_le hlt hb79.size, cell_of_heap (hb79.block g hlt)⟩) (fun g hg => .inr hg))
                have HDW : Hid (∀ g, (D g ∨ (X.heap.size ≤ g ∧ g < w7.heap.size)) → w.heap.size + 1 + 1 ≤ g ∧ g < X9.heap.size ∧ (Value.slice ka kn kc).ownBlock ≠ some g) := Lib.hid (fun g hg => by
                  have hz9 := hb79.size
                  rcases hg with hg | ⟨hg, hg2⟩
                  · obtain ⟨u1, u2, u3⟩ := HX.out.dd g hg
                    exact ⟨u1, by omega, u3⟩
                  · refine ⟨by omega, by omega, fun e => ?_⟩
                    have := (HX.out.row.lt g e).2
                    omega)
                have HOWN : Hid ((Value.slice ka kn kc).ownBlock ≠ some (w7.heap.size + 1)) := Lib.hid (fun e => by have := (HX.out.row.lt _ e).2; omega)
                have hlt9 : w7.heap.size + 1 < X9.heap.size := (Array.getElem?_eq_some_iff.1 hg9).1
                have HG9 := Lib.hid hg9
                have x0 := cell_of_row _ _ 0 _ _ _ hg8
                have x1 := cell_of_row _ _ 1 _ _ _ hg8
                have x2 := cell_of_row _ _ 2 _ _ _ hg8
                have x3 := cell_of_row _ _ 3 _ _ _ hg8
                clear hg8 hg9 hb9 hb79 HLI HB7 HX
                generalize hgg1 : w7.heap.size + 1 = g1 at *
                generalize w7.heap.size = g at *
                have hne0 : g ≠ w.heap.size := by omega
                have hne1 : g ≠ w.heap.size + 1 := by omega
                have hnf0 : g1 ≠ w.heap.size := by omega
                have hnf1 : g1 ≠ w.heap.size + 1 := by omega
                have hnf2 : g1 ≠ g := by omega
                clear hgg1
                have hac : acc.length ≤ 100000000 := by have := HK.out; omega
                go_upto_region 23 with (at_builtin; refine wput rfl _ _ rfl HX9.out ⟨kd, t, a7, m7, c7, true⟩ (Wd.mk kd t kids true) ⟨rfl, rfl, rfl, HLI9.out⟩ (fun g hg => .inl hg) HDW.out rfl rfl hac ?_; intro ka' kn' kc' X10 hX10 hblk; have hg10 := (hblk _ hlt9 HOWN.out).trans HG9.out; clear hblk; obtain ⟨r0, r1, r2, r3, r4⟩ := hX10.cells; have f3 : ∀ j, X10.frozen? ⟨w.heap.size, j, none⟩ = false := fun j => frozen_of_row _ _ _ _ _ hX10.cur; have hkn' := hX10.kn; rw [List.length_append, List.length_singleton, ← HK.out] at hkn'; have HKN := Lib.hid hkn'; clear hkn'; have y0 := cell_of_row _ _ 0 _ _ _ hg10; have y1 := cell_of_row _ _ 1 _ _ _ hg10; have y2 := cell_of_row _ _ 2 _ _ _ hg10; have y3 := cell_of_row _ _ 3 _ _ _ hg10; have y4 := cell_of_row _ _ 4 _ _ _ hg10; clear hg10; have HX10 := Lib.hid hX10; clear hX10 x0 x1 x2 x3)
                go_wp2_with fail
                go_roundg (line.size - p7)
                case measure => omega
                case rel => exact ⟨M, acc ++ [Wd.mk kd t kids true], false, p7, i7, n7, ka', kn', kc', _, _, rfl, rfl, rfl, by omega, by omega, hp7s, Nat.le_refl _, by have := HKN.out; omega, hn7b, hi7b, Lib.hid HX10.out.kn, Lib.hid (HX10.out.jump p7 i7 n7), HB⟩
    · have hpz : ¬ (p : Int) < (line.size : Int) := by omega
      have HE := Lib.hid ((rws_end (lits := lits) (M := M) (d := d) (e := e) (acc := acc) (bl := bl) (p := p) (i := i) (n := n) (by rw [HLL.out]; exact hlt)).symm.trans HR.out)
      clear HR HIH HL
      by_cases hd0 : 0 < d
      · have hdz : (0 : Int) < (d : Int) := by omega
        have HB : Hid (Out.err 33 = R) := Lib.hid (by have := HE.out; rw [if_pos hd0] at this; exact this)
        clear HE
        have h2 := HX.out.cu2
        have c20 := cell_of_row _ _ 0 _ _ _ h2
        have c21 := cell_of_row _ _ 1 _ _ _ h2
        have c22 := cell_of_row _ _ 2 _ _ _ h2
        have c23 := cell_of_row _ _ 3 _ _ _ h2
        have c24 := cell_of_row _ _ 4 _ _ _ h2
        have f2 : ∀ j, X.frozen? ⟨w.heap.size + 1, j, none⟩ = false := fun j => frozen_of_row _ _ _ _ _ h2
        clear h2
        have HD := Lib.hid (HX.out.done (.string line) (.slice a lits.length lc) (.int .i64 (p : Int)) (.int .i64 (i : Int)) (.int .i64 (n : Int)))
        go_upto_region 26 with fail
        go_region
        all_goals (go_wp2_with fail; (try simp only [Exit.inBlock, Exit.then]); refine wsret (w := w) (.slice none 0 0) (.string line) (.slice a lits.length lc) (.int .i64 (p : Int)) (.int .i64 (i : Int)) (.int .i64 (n : Int)) _ HD.out.1 rfl rfl rfl ?_; (refine ⟨⟨none, 0, 0, p, i, n, 33, rfl, ?_⟩, HD.out.2.1.drew⟩; rw [← HB.out]; exact rfl))
      · have hdz : ¬ (0 : Int) < (d : Int) := by omega
        cases bl with
        | true =>
          have HB : Hid (Out.err 30 = R) := Lib.hid (by have := HE.out; rw [if_neg hd0] at this; exact this)
          clear HE
          have h2 := HX.out.cu2
          have c20 := cell_of_row _ _ 0 _ _ _ h2
          have c21 := cell_of_row _ _ 1 _ _ _ h2
          have c22 := cell_of_row _ _ 2 _ _ _ h2
          have c23 := cell_of_row _ _ 3 _ _ _ h2
          have c24 := cell_of_row _ _ 4 _ _ _ h2
          have f2 : ∀ j, X.frozen? ⟨w.heap.size + 1, j, none⟩ = false := fun j => frozen_of_row _ _ _ _ _ h2
          clear h2
          have HD := Lib.hid (HX.out.done (.string line) (.slice a lits.length lc) (.int .i64 (p : Int)) (.int .i64 (i : Int)) (.int .i64 (n : Int)))
          go_upto_region 28 with fail
          go_region
          all_goals (go_wp2_with fail; (try simp only [Exit.inBlock, Exit.then]); refine wsret (w := w) (.slice none 0 0) (.string line) (.slice a lits.length lc) (.int .i64 (p : Int)) (.int .i64 (i : Int)) (.int .i64 (n : Int)) _ HD.out.1 rfl rfl rfl ?_; (refine ⟨⟨none, 0, 0, p, i, n, 30, rfl, ?_⟩, HD.out.2.1.drew⟩; rw [← HB.out]; exact rfl))
        | false =>
          have HB : Hid (Out.ok acc ⟨p, i, n⟩ = R) := Lib.hid (by have := HE.out; rw [if_neg hd0] at this; exact this)
          clear HE
          have h2 := HX.out.cu2
          have c20 := cell_of_row _ _ 0 _ _ _ h2
          have c21 := cell_of_row _ _ 1 _ _ _ h2
          have c22 := cell_of_row _ _ 2 _ _ _ h2
          have c23 := cell_of_row _ _ 3 _ _ _ h2
          have c24 := cell_of_row _ _ 4 _ _ _ h2
          have f2 : ∀ j, X.frozen? ⟨w.heap.size + 1, j, none⟩ = false := fun j => frozen_of_row _ _ _ _ _ h2
          clear h2
          have HD := Lib.hid (HX.out.done (.string line) (.slice a lits.length lc) (.int .i64 (p : Int)) (.int .i64 (i : Int)) (.int .i64 (n : Int)))
          go_upto_region 29 with fail
          go_region
          all_goals (go_wp2_with fail; (try simp only [Exit.inBlock, Exit.then]); refine wsret (w := w) (.slice ka kn kc) (.string line) (.slice a lits.length lc) (.int .i64 (p : Int)) (.int .i64 (i : Int)) (.int .i64 (n : Int)) _ HD.out.1 rfl rfl rfl ?_; (refine ⟨⟨ka, kn, kc, p, i, n, 0, rfl, ?_⟩, HD.out.2.1.drew⟩; rw [← HB.out]; exact ⟨rfl, rfl, rfl, rfl, lies_drew HD.out.2.2⟩))
end Go.Proofs.YtliiapdakojomabDoor

/- lex: the document's Scan. -/
namespace Go.Proofs.YtliiapdakojomabDoor
open Go.RowKit

theorem words_any (line : ByteArray) (vl : Value) (lits : List ByteArray) (hs : line.size ≤ 4096) : ∀ N, WordsOK line vl lits N := fun N => Nat.strongRecOn N (fun N ih => words_step line vl lits hs N ih)
set_option maxRecDepth 100000 in
set_option maxHeartbeats 4000000 in
theorem rScan_any (line : ByteArray) (vl : Value) (lits : List ByteArray) (w : World) (hl : Strs w vl lits) (hs : line.size ≤ 140737488355328) (hz : ∀ i, i < lits.length → (lits.getD i ByteArray.empty).size ≤ 140737488355328) :
    Calls Tryd.prog 19 #[.string line, vl] w fun e w' => ∃ a n c, e = .returned (.tuple #[.slice a n c, .int .i64 (refE (L line) lits)]) ∧ Lies w' (fun g => w.heap.size ≤ g) a n c (refW (L line) lits) ∧ Below w.heap.size w w' := by
  obtain ⟨ao, cap, rfl, hlen, hcell⟩ := hl.shape
  have hll := L_length line
  have HLB : Hid (longB (L line) lits = (decide (4096 < line.size) || decide (512 < lits.length) || lits.any (fun x => decide (16384 < x.size)))) := Lib.hid (by unfold longB; rw [hll])
  have HLONG : Hid (longB (L line) lits = true → refE (L line) lits = 2 ∧ refW (L line) lits = []) := Lib.hid (fun h => by unfold refE refW; rw [h]; exact ⟨rfl, rfl⟩)
  by_cases h1 : 4096 < line.size
  · have h1z : (4096 : Int) < (line.size : Int) := by omega
    rw [decide_eq_true h1] at HLB
    obtain ⟨e1, e2⟩ := HLONG.out (by rw [HLB.out]; rfl)
    rw [e1, e2]
    clear hl hcell hz e1 e2
    go_enter Tryd.func19, Tryd.ntmps19
    go_wp2_with fail
    go_ret2
    exact ⟨none, 0, 0, rfl, .nil, Below.refl _ _⟩
  have h1z : ¬ (4096 : Int) < (line.size : Int) := by omega
  rw [decide_eq_false h1] at HLB
  by_cases h2 : 512 < lits.length
  · have h2z : (512 : Int) < (lits.length : Int) := by omega
    rw [decide_eq_true h2] at HLB
    obtain ⟨e1, e2⟩ := HLONG.out (by rw [HLB.out]; rfl)
    rw [e1, e2]
    clear hl hcell hz e1 e2
    go_enter Tryd.func19, Tryd.ntmps19
    go_wp2_with fail
    go_ret2
    exact ⟨none, 0, 0, rfl, .nil, Below.refl _ _⟩
  have h2z : ¬ (512 : Int) < (lits.length : Int) := by omega
  rw [decide_eq_false h2] at HLB
  have HC := Lib.hid hcell
  have HZ := Lib.hid hz
  have HL := Lib.hid hl
  clear hcell hz hl
  go_enter Tryd.func19, Tryd.ntmps19
  go_wp2_with fail
  go_loopg [6] lits.length (fun gg s6 wr => ∃ k : Nat, wr = w ∧ k ≤ lits.length ∧ lits.length - k ≤ gg ∧ s6 = .int .i64 k ∧ Hid ((lits.take k).any (fun x => decide (16384 < x.size)) = false))
  case atStart => exact ⟨0, rfl, Nat.zero_le _, by omega, rfl, Lib.hid rfl⟩
  case round =>
    obtain ⟨k, hwr, hk, hgg, rfl, HALL⟩ := hrel
    subst hwr
    by_cases hlt : k < lits.length
    · obtain ⟨b, off, rfl, hbw, hcl⟩ := HC.out (by omega)
      have hc := hcl k hlt
      have hzk := HZ.out k hlt
      have hltz : (k : Int) < (lits.length : Int) := by omega
      have hk0 : (0 : Int) ≤ (k : Int) := by omega
      have HS := Lib.hid (any_snoc (p := fun x => decide (16384 < x.size)) lits k hlt HALL.out)
      have HY := Lib.hid (any_yes (p := fun x => decide (16384 < x.size)) lits k hlt)
      clear hcl
      by_cases hb : 16384 < (lits.getD k ByteArray.empty).size
      · have HYY := Lib.hid (HY.out (decide_eq_true hb))
        have hbz : (16384 : Int) < ((lits.getD k ByteArray.empty).size : Int) := by omega
        have HLO := Lib.hid (HLONG.out (by rw [HLB.out, HYY.out]; rfl))
        clear HY HS
        generalize lits.getD k ByteArray.empty = t at *
        go_wp2_with fail
        go_ret2
        exact ⟨none, 0, 0, by rw [HLO.out.1]; rfl, by rw [HLO.out.2]; exact .nil, Below.refl _ _⟩
      · have hbz : ¬ (16384 : Int) < ((lits.getD k ByteArray.empty).size : Int) := by omega
        have HSS := Lib.hid (HS.out (decide_eq_false hb))
        clear HY HS
        generalize lits.getD k ByteArray.empty = t at *
        go_wp2_with fail
        go_roundg (lits.length - (k + 1))
        case measure => omega
        case rel => exact ⟨k + 1, rfl, by omega, Nat.le_refl _, by go_num, HSS⟩
    · have hltz : ¬ (k : Int) < (lits.length : Int) := by omega
      have hall : lits.any (fun x => decide (16384 < x.size)) = false := by
        have := HALL.out
        rw [List.take_of_length_le (by omega)] at this
        exact this
      have hlong : longB (L line) lits = false := by rw [HLB.out, hall]; rfl
      have HWS := Lib.hid (words_any line (.slice ao lits.length cap) lits (by omega) ((L line).length + 1) 0 0 ⟨0, 0, 0⟩ wr HL.out ⟨Nat.zero_le _, Nat.zero_le _, Nat.zero_le _⟩ (by show line.size - 0 < (L line).length + 1; omega) (by omega))
      have hck := rws_ok (L line) lits ((L line).length + 1) 0 0 [] false ⟨0, 0, 0⟩ ⟨Nat.zero_le _, Nat.zero_le _, Nat.zero_le _⟩
      have hE : refE (L line) lits = match rws (L line) lits ((L line).length + 1) 0 0 [] false ⟨0, 0, 0⟩ with | .err e => e | .ok _ c => if (lits.drop c.lit).isEmpty then 0 else 32 := by unfold refE; rw [hlong]; rfl
      have hWq : refW (L line) lits = match rws (L line) lits ((L line).length + 1) 0 0 [] false ⟨0, 0, 0⟩ with | .err _ => [] | .ok ws c => if (lits.drop c.lit).isEmpty then ws else [] := by unfold refW; rw [hlong]; rfl
      generalize rws (L line) lits ((L line).length + 1) 0 0 [] false ⟨0, 0, 0⟩ = o at *
      clear hall hlong HLB HLONG HC HZ HL HALL hll
      unfold cuV at HWS
      dsimp only at HWS
      cases o with
      | err k5 =>
        have hk5 : ((k5 : Int) != 0) = true := by rw [bne_iff_ne]; exact hck
        have HE : Hid (refE (L line) lits = k5) := Lib.hid hE
        have HWW : Hid (refW (L line) lits = []) := Lib.hid hWq
        clear hE hWq hck
        go_upto_region 9 with (go_at_call 48; refine HWS.out.mono ?_; rintro e7 w7 ⟨⟨a7, m7, c7, p7, i7, n7, code, rfl, hrel7⟩, hb7⟩; obtain rfl : k5 = code := hrel7.symm; have HB7 := Lib.hid hb7; clear hb7; unfold cuV)
        have HA5 := Lib.hid ((HB7.out).trans ((alloc5 w7 (.string line) (.slice ao lits.length cap) (.int .i64 (p7 : Int)) (.int .i64 (i7 : Int)) (.int .i64 (n7 : Int))).2.mono HB7.out.size))
        generalize w7.alloc (.cells #[.string line, .slice ao lits.length cap, .int .i64 (p7 : Int), .int .i64 (i7 : Int), .int .i64 (n7 : Int)] 81) = X8 at HA5 ⊢
        go_wp2_with fail
        go_ret2
        exact ⟨none, 0, 0, by rw [HE.out]; rfl, by rw [HWW.out]; exact .nil, HA5.out⟩
      | ok ws c =>
        obtain ⟨cp, ci, cn⟩ := c
        have hci : ci ≤ lits.length := hck.2.lit
        have hE2 : refE (L line) lits = if (lits.drop ci).isEmpty then 0 else 32 := hE
        have hW2 : refW (L line) lits = if (lits.drop ci).isEmpty then ws else [] := hWq
        clear hE hWq hck
        by_cases hcl : ci < lits.length
        · have hclz : (ci : Int) < (lits.length : Int) := by omega
          have he : (lits.drop ci).isEmpty = false := by
            cases hd : lits.drop ci with
            | nil => have := List.drop_eq_nil_iff.1 hd; omega
            | cons _ _ => rfl
          rw [he] at hE2 hW2
          have HE : Hid (refE (L line) lits = 32) := Lib.hid hE2
          have HWW : Hid (refW (L line) lits = []) := Lib.hid hW2
          clear hE2 hW2 he
          go_upto_region 9 with (go_at_call 48; refine HWS.out.mono ?_; rintro e7 w7 ⟨⟨a7, m7, c7, p7, i7, n7, code, rfl, hrel7⟩, hb7⟩; obtain ⟨hcode, hp7, hi7, hn7, hlies⟩ := hrel7; subst hcode; obtain rfl : i7 = ci := hi7; have HB7 := Lib.hid hb7; clear hb7 hp7 hn7 hlies; unfold cuV)
          have HA := Lib.hid (alloc5 w7 (.string line) (.slice ao lits.length cap) (.int .i64 (p7 : Int)) (.int .i64 (i7 : Int)) (.int .i64 (n7 : Int)))
          generalize w7.alloc (.cells #[.string line, .slice ao lits.length cap, .int .i64 (p7 : Int), .int .i64 (i7 : Int), .int .i64 (n7 : Int)] 81) = X8 at HA ⊢
          have y3 := cell_of_row _ _ 3 _ _ _ HA.out.1
          have HA5 := Lib.hid (HB7.out.trans (HA.out.2.mono HB7.out.size))
          clear HA HB7
          generalize w7.heap.size = g at *
          go_wp2_with fail
          go_ret2
          exact ⟨none, 0, 0, by rw [HE.out]; rfl, by rw [HWW.out]; exact .nil, HA5.out⟩
        · have hclz : ¬ (ci : Int) < (lits.length : Int) := by omega
          have he : (lits.drop ci).isEmpty = true := by rw [List.drop_of_length_le (by omega)]; rfl
          rw [he] at hE2 hW2
          have HE : Hid (refE (L line) lits = 0) := Lib.hid hE2
          have HWW : Hid (refW (L line) lits = ws) := Lib.hid hW2
          clear hE2 hW2 he
          go_upto_region 9 with (go_at_call 48; refine HWS.out.mono ?_; rintro e7 w7 ⟨⟨a7, m7, c7, p7, i7, n7, code, rfl, hrel7⟩, hb7⟩; obtain ⟨hcode, hp7, hi7, hn7, hlies⟩ := hrel7; subst hcode; obtain rfl : i7 = ci := hi7; have HB7 := Lib.hid hb7; have HLI := Lib.hid hlies; clear hb7 hp7 hn7 hlies; unfold cuV)
          have HA := Lib.hid (alloc5 w7 (.string line) (.slice ao lits.length cap) (.int .i64 (p7 : Int)) (.int .i64 (i7 : Int)) (.int .i64 (n7 : Int)))
          generalize w7.alloc (.cells #[.string line, .slice ao lits.length cap, .int .i64 (p7 : Int), .int .i64 (i7 : Int), .int .i64 (n7 : Int)] 81) = X8 at HA ⊢
          have y3 := cell_of_row _ _ 3 _ _ _ HA.out.1
          have HLI8 := Lib.hid (HLI.out.on HA.out.2)
          have HA5 := Lib.hid (HB7.out.trans (HA.out.2.mono HB7.out.size))
          clear HA HB7 HLI
          generalize w7.heap.size = g at *
          go_wp2_with fail
          go_ret2
          exact ⟨a7, m7, c7, by rw [HE.out]; rfl, by rw [HWW.out]; exact HLI8.out, HA5.out⟩
end Go.Proofs.YtliiapdakojomabDoor
