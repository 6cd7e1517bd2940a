/- moment: the cursor: cut, step, take, short. -/
import Derived.Test.YtckdmbeokajdjaaGreatDoorDr
namespace Go.Proofs.YtckdmbeokajdjaaGreatDoor
open Go.RowKit

theorem cut_nil (l : List UInt8) (i : Nat) (h : l.length ≤ i) : cutK (l.drop i) = 0 ∧ cutN (l.drop i) = 0 := by rw [List.drop_eq_nil_of_le h]; exact ⟨rfl, rfl⟩
theorem cut_let (l : List UInt8) (i : Nat) (h : i < l.length) (h1 : isLet (bt l i) = true) : cutK (l.drop i) = 1 ∧ cutN (l.drop i) = ((l.drop i).takeWhile isLet).length := by
  rw [drop_at l i h, cutK, cutN, if_pos h1, if_pos h1]; exact ⟨rfl, rfl⟩
theorem cut_dig (l : List UInt8) (i : Nat) (h : i < l.length) (h1 : isLet (bt l i) = false) (h2 : isDig (bt l i) = true) : cutK (l.drop i) = 2 ∧ cutN (l.drop i) = ((l.drop i).takeWhile isDig).length := by
  rw [drop_at l i h, cutK, cutN, if_neg (by rw [h1]; decide), if_pos h2, if_neg (by rw [h1]; decide), if_pos h2]; exact ⟨rfl, rfl⟩
theorem cut_44 (l : List UInt8) (i : Nat) (h : i < l.length) (hb : bt l i = 44) : cutK (l.drop i) = 4 ∧ cutN (l.drop i) = 1 := by
  rw [drop_at l i h, hb]; exact ⟨rfl, rfl⟩
theorem cut_58 (l : List UInt8) (i : Nat) (h : i < l.length) (hb : bt l i = 58) : cutK (l.drop i) = 5 ∧ cutN (l.drop i) = 1 := by
  rw [drop_at l i h, hb]; exact ⟨rfl, rfl⟩
theorem cut_sig (l : List UInt8) (i : Nat) (h : i < l.length) (hb : bt l i = 43 ∨ bt l i = 45) : cutK (l.drop i) = (if 0 < ((l.drop (i + 1)).takeWhile isDig).length then 3 else 6) ∧ cutN (l.drop i) = 1 + ((l.drop (i + 1)).takeWhile isDig).length := by
  have h1 : isLet (bt l i) = false := by rcases hb with hb | hb <;> rw [hb] <;> decide
  have h2 : isDig (bt l i) = false := by rcases hb with hb | hb <;> rw [hb] <;> decide
  have h3 : bt l i ≠ 44 := by rcases hb with hb | hb <;> rw [hb] <;> decide
  have h4 : bt l i ≠ 58 := by rcases hb with hb | hb <;> rw [hb] <;> decide
  rw [drop_at l i h]
  refine ⟨?_, ?_⟩
  · rw [cutK, if_neg (by rw [h1]; decide), if_neg (by rw [h2]; decide), if_neg h3, if_neg h4]
    by_cases k : 0 < ((l.drop (i + 1)).takeWhile isDig).length
    · rw [if_pos ⟨hb, k⟩, if_pos k]
    · rw [if_neg (fun q => k q.2), if_neg k]
  · rw [cutN, if_neg (by rw [h1]; decide), if_neg (by rw [h2]; decide), if_pos hb]
theorem cut_else (l : List UInt8) (i : Nat) (h : i < l.length) (h1 : isLet (bt l i) = false) (h2 : isDig (bt l i) = false) (h3 : bt l i ≠ 44) (h4 : bt l i ≠ 58) (h5 : ¬ (bt l i = 43 ∨ bt l i = 45)) : cutK (l.drop i) = 6 ∧ cutN (l.drop i) = 1 := by
  rw [drop_at l i h, cutK, cutN, if_neg (by rw [h1]; decide), if_neg (by rw [h2]; decide), if_neg h3, if_neg h4, if_neg (fun q => h5 q.1), if_neg (by rw [h1]; decide), if_neg (by rw [h2]; decide), if_neg h5]
  exact ⟨rfl, rfl⟩
theorem below_drews {b : Nat} {w X Y : World} (h : Only b w X) (h1 : Y.os = X.os) (h2 : Y.tape = X.tape) (h3 : Y.output = X.output) (h4 : Y.heap = X.heap) : Only b w Y :=
  ⟨h1.trans h.os, h2.trans h.tape, h3.trans h.output, by rw [h4]; exact h.size, fun k hk => by rw [h4]; exact h.block k hk⟩

set_option maxRecDepth 100000 in
set_option maxHeartbeats 4000000 in
theorem cut_any (b : Nat) (s : ByteArray) (i k : Nat) (p : ByteArray) (w : World) (hs : s.size ≤ 140737488355328) (hx : Cu b s i k p w) (hi : i ≤ s.size) :
    Calls Tryz.prog 48 #[.pointer (some ⟨b, 0, none⟩)] w fun e w' => e = .returned (.int .i64 (cutK ((L s).drop i) : Nat)) ∧ Only b w w' ∧ Cu b s (i + cutN ((L s).drop i)) k p w' := by
  obtain ⟨c0, c1, c2, c3⟩ := hx.cells
  have f1 := hx.free 1
  have X1 := Lib.hid hx
  clear hx
  by_cases hlt : i < s.size
  · have ea := get_bt s i hlt
    have hil : i < (L s).length := by rw [L_length]; exact hlt
    have t0 : ((i : Int) == (s.size : Int)) = false := by rw [beq_eq_false_iff_ne]; omega
    have hL := Lib.hid (fun W => isLetter_any (bt (L s) i) W)
    have hD := Lib.hid (fun W => isDigit_any (bt (L s) i) W)
    cases h1 : isLet (bt (L s) i) with
    | true =>
      obtain ⟨hk, hn⟩ := cut_let (L s) i hil h1
      rw [hk, hn]
      rw [h1] at hL
      have hR := Lib.hid (fun W hW => run_let b s i k p W hs hW hi)
      clear hk hn h1 hD
      generalize ((((L s).drop i).takeWhile isLet).length) = n at *
      generalize bt (L s) i = B at *
      go_enter Tryz.func48, Tryz.ntmps48
      go_wp2
      go_region
      go_wp2
      go_region
      go_wp2_with (go_at_call 75; refine (hL.out _).mono ?_; rintro e w' ⟨rfl, hw'⟩; subst w')
      refine (hR.out w.drew.drew ⟨X1.out.blk⟩).mono ?_
      rintro e w1 ⟨rfl, hb1, hx1⟩
      go_wp2
      go_ret
      exact ⟨rfl, ⟨hb1.os, hb1.tape, hb1.output, hb1.size, hb1.block⟩, hx1⟩
    | false =>
      rw [h1] at hL
      cases h2 : isDig (bt (L s) i) with
      | true =>
        obtain ⟨hk, hn⟩ := cut_dig (L s) i hil h1 h2
        rw [hk, hn]
        rw [h2] at hD
        have hR := Lib.hid (fun W hW => run_dig b s i k p W hs hW hi)
        clear hk hn h1 h2
        generalize ((((L s).drop i).takeWhile isDig).length) = n at *
        generalize bt (L s) i = B at *
        go_enter Tryz.func48, Tryz.ntmps48
        go_wp2
        go_region
        go_wp2
        go_region
        go_wp2_with (first | (go_at_call 75; refine (hL.out _).mono ?_; rintro e w' ⟨rfl, hw'⟩; subst w') | (go_at_call 72; refine (hD.out _).mono ?_; rintro e w' ⟨rfl, hw'⟩; subst w'))
        refine (hR.out w.drew.drew ⟨X1.out.blk⟩).mono ?_
        rintro e w1 ⟨rfl, hb1, hx1⟩
        go_wp2
        go_ret
        exact ⟨rfl, ⟨hb1.os, hb1.tape, hb1.output, hb1.size, hb1.block⟩, hx1⟩
      | false =>
        rw [h2] at hD
        have x2 := X1.out.set1 (i + 1) ((i : Int) + 1) (by omega)
        have q2 : Only b w (w.setCell ⟨b, 1, none⟩ (.int .i64 ((i : Int) + 1))) := (Only.refl _ _).setCell 1 _
        have X2 := Lib.hid x2
        have Q2 := Lib.hid q2
        clear x2 q2
        by_cases h44 : bt (L s) i = 44
        · obtain ⟨hk, hn⟩ := cut_44 (L s) i hil h44
          rw [hk, hn]
          have t1 := beq_u8 (bt (L s) i) 44 44 rfl h44
          clear hk hn h1 h2 h44
          generalize bt (L s) i = B at *
          go_enter Tryz.func48, Tryz.ntmps48
          go_wp2
          go_region
          go_wp2
          go_region
          go_wp2_with (first | (go_at_call 75; refine (hL.out _).mono ?_; rintro e w' ⟨rfl, hw'⟩; subst w') | (go_at_call 72; refine (hD.out _).mono ?_; rintro e w' ⟨rfl, hw'⟩; subst w'))
          go_ret
          exact ⟨rfl, ⟨Q2.out.os, Q2.out.tape, Q2.out.output, Q2.out.size, Q2.out.block⟩, ⟨X2.out.blk⟩⟩
        · have t1 := bne_u8 (bt (L s) i) 44 44 rfl h44
          by_cases h58 : bt (L s) i = 58
          · obtain ⟨hk, hn⟩ := cut_58 (L s) i hil h58
            rw [hk, hn]
            have t2 := beq_u8 (bt (L s) i) 58 58 rfl h58
            clear hk hn h1 h2 h44 h58
            generalize bt (L s) i = B at *
            go_enter Tryz.func48, Tryz.ntmps48
            go_wp2
            go_region
            go_wp2
            go_region
            go_wp2_with (first | (go_at_call 75; refine (hL.out _).mono ?_; rintro e w' ⟨rfl, hw'⟩; subst w') | (go_at_call 72; refine (hD.out _).mono ?_; rintro e w' ⟨rfl, hw'⟩; subst w'))
            go_ret
            exact ⟨rfl, ⟨Q2.out.os, Q2.out.tape, Q2.out.output, Q2.out.size, Q2.out.block⟩, ⟨X2.out.blk⟩⟩
          · have t2 := bne_u8 (bt (L s) i) 58 58 rfl h58
            by_cases hsg : bt (L s) i = 43 ∨ bt (L s) i = 45
            · obtain ⟨hk, hn⟩ := cut_sig (L s) i hil hsg
              rw [hk, hn]
              have hR := Lib.hid (fun W hW => run_dig b s (i + 1) k p W hs hW (by omega))
              generalize (((L s).drop (i + 1)).takeWhile isDig).length = n at *
              have t3 := byte_test (bt (L s) i) 43 43 rfl
              have t4 := byte_test (bt (L s) i) 45 45 rfl
              have hpq : (bt (L s) i == 43) = true ∨ ((bt (L s) i == 43) = false ∧ (bt (L s) i == 45) = true) := by
                rcases hsg with h | h
                · left; rw [h]; rfl
                · right; rw [h]; exact ⟨rfl, rfl⟩
              generalize (bt (L s) i == 43) = p1 at *
              generalize (bt (L s) i == 45) = p2 at *
              clear hk hn h1 h2 h44 h58 hsg
              generalize bt (L s) i = B at *
              have e1 : i + (1 + n) = i + 1 + n := by omega
              rw [e1]
              by_cases h0 : 0 < n
              · rw [if_pos h0, decide_eq_true h0] at *
                rcases hpq with rfl | ⟨rfl, rfl⟩
                all_goals (
                  go_enter Tryz.func48, Tryz.ntmps48
                  go_wp2
                  go_region
                  go_wp2
                  go_region
                  go_wp2_with (first | (go_at_call 75; refine (hL.out _).mono ?_; rintro e w' ⟨rfl, hw'⟩; subst w') | (go_at_call 72; refine (hD.out _).mono ?_; rintro e w' ⟨rfl, hw'⟩; subst w'))
                  refine (hR.out (w.setCell ⟨b, 1, none⟩ (.int .i64 ((i : Int) + 1))).drew.drew ⟨X2.out.blk⟩).mono ?_
                  rintro e w1 ⟨rfl, hb1, hx1⟩
                  go_wp2
                  go_ret
                  exact ⟨rfl, Q2.out.trans ⟨hb1.os, hb1.tape, hb1.output, hb1.size, hb1.block⟩, hx1⟩)
              · rw [if_neg h0, decide_eq_false h0] at *
                rcases hpq with rfl | ⟨rfl, rfl⟩
                all_goals (
                  go_enter Tryz.func48, Tryz.ntmps48
                  go_wp2
                  go_region
                  go_wp2
                  go_region
                  go_wp2_with (first | (go_at_call 75; refine (hL.out _).mono ?_; rintro e w' ⟨rfl, hw'⟩; subst w') | (go_at_call 72; refine (hD.out _).mono ?_; rintro e w' ⟨rfl, hw'⟩; subst w'))
                  refine (hR.out (w.setCell ⟨b, 1, none⟩ (.int .i64 ((i : Int) + 1))).drew.drew ⟨X2.out.blk⟩).mono ?_
                  rintro e w1 ⟨rfl, hb1, hx1⟩
                  go_wp2
                  go_ret
                  exact ⟨rfl, Q2.out.trans ⟨hb1.os, hb1.tape, hb1.output, hb1.size, hb1.block⟩, hx1⟩)
            · obtain ⟨hk, hn⟩ := cut_else (L s) i hil h1 h2 h44 h58 hsg
              rw [hk, hn]
              have t3 := bne_u8 (bt (L s) i) 43 43 rfl (fun h => hsg (.inl h))
              have t4 := bne_u8 (bt (L s) i) 45 45 rfl (fun h => hsg (.inr h))
              clear hk hn h1 h2 h44 h58 hsg
              generalize bt (L s) i = B at *
              go_enter Tryz.func48, Tryz.ntmps48
              go_wp2
              go_region
              go_wp2
              go_region
              go_wp2_with (first | (go_at_call 75; refine (hL.out _).mono ?_; rintro e w' ⟨rfl, hw'⟩; subst w') | (go_at_call 72; refine (hD.out _).mono ?_; rintro e w' ⟨rfl, hw'⟩; subst w'))
              go_ret
              exact ⟨rfl, ⟨Q2.out.os, Q2.out.tape, Q2.out.output, Q2.out.size, Q2.out.block⟩, ⟨X2.out.blk⟩⟩
  · obtain ⟨hk, hn⟩ := cut_nil (L s) i (by rw [L_length]; omega)
    rw [hk, hn]
    have t0 : ((i : Int) == (s.size : Int)) = true := by rw [beq_iff_eq]; omega
    go_enter Tryz.func48, Tryz.ntmps48
    go_wp2
    go_region
    go_wp2
    go_ret
    exact ⟨rfl, (Only.refl _ _).drew, ⟨X1.out.blk⟩⟩

/-- A cursor in memory: its text is s, what it stands at is c. -/
def Cuc (b : Nat) (s : ByteArray) (c : Cur) (W : World) : Prop := ∃ i, i ≤ s.size ∧ (L s).drop i = c.r ∧ c.p.length ≤ s.size ∧ Cu b s i c.k (S c.p) W
set_option maxRecDepth 100000 in
set_option maxHeartbeats 4000000 in
theorem step_any (b : Nat) (s : ByteArray) (i k : Nat) (p : ByteArray) (w : World) (hs : s.size ≤ 140737488355328) (hx : Cu b s i k p w) (hi : i ≤ s.size) :
    Calls Tryz.prog 25 #[.pointer (some ⟨b, 0, none⟩)] w fun e w' => e = .returned (.tuple #[]) ∧ Only b w w' ∧ Cuc b s (stp ((L s).drop i)) w' := by
  have h1 := skD_le ((L s).drop i) 0 false
  rw [List.length_drop, L_length] at h1
  have hK := skip_any b s i k p w hs hx hi
  have hr1 : ((L s).drop i).drop (skD ((L s).drop i) 0 false) = (L s).drop (i + skD ((L s).drop i) 0 false) := by rw [List.drop_drop]
  have hst : stp ((L s).drop i) = ⟨cutK ((L s).drop (i + skD ((L s).drop i) 0 false)), ((L s).drop (i + skD ((L s).drop i) 0 false)).take (cutN ((L s).drop (i + skD ((L s).drop i) 0 false))), ((L s).drop (i + skD ((L s).drop i) 0 false)).drop (cutN ((L s).drop (i + skD ((L s).drop i) 0 false)))⟩ := by
    unfold stp
    simp only [hr1]
  generalize skD ((L s).drop i) 0 false = n at *
  obtain ⟨j, hj⟩ : ∃ j, j = i + n := ⟨_, rfl⟩
  rw [← hj] at hK hst
  have hC := fun W hW => cut_any b s j k p W hs hW (by omega)
  have h2 := cutN_le ((L s).drop j)
  rw [List.length_drop, L_length] at h2
  generalize cutK ((L s).drop j) = kk at *
  have hex : s.extract j (j + cutN ((L s).drop j)) = S (((L s).drop j).take (cutN ((L s).drop j))) := by rw [extract_S, Nat.add_sub_cancel_left]
  have hdd : ((L s).drop j).drop (cutN ((L s).drop j)) = (L s).drop (j + cutN ((L s).drop j)) := by rw [List.drop_drop]
  rw [hdd] at hst
  have HS := Lib.hid hst
  have HX := Lib.hid hex
  generalize cutN ((L s).drop j) = m at *
  have HK := Lib.hid hK
  have HC := Lib.hid hC
  have hjm : j + m ≤ s.size := by omega
  have hje : j ≤ j + m := by omega
  generalize j + m = en at *
  clear hst hex hdd hK hC hr1 h1 h2 hj
  obtain ⟨c0, c1, c2, c3⟩ := hx.cells
  clear hx
  go_enter Tryz.func25, Tryz.ntmps25
  go_wp2_with fail
  refine HK.out.mono ?_
  rintro e w1 ⟨rfl, hb1, hx1⟩
  clear c0 c1 c2 c3
  obtain ⟨c0, c1, c2, c3⟩ := hx1.cells
  go_wp2_with fail
  refine (HC.out _ hx1).mono ?_
  rintro e w2 ⟨rfl, hb2, hx2⟩
  have q2 := hb1.trans hb2
  clear c0 c1 c2 c3 hb1 hb2 hx1
  have f2 := hx2.free 2
  have f3 := hx2.free 3
  obtain ⟨c0, c1, c2, c3⟩ := hx2.cells
  have x3 := (hx2.set2 kk (kk : Int) rfl).set3 (s.extract j en)
  have q3 := (q2.setCell 2 (.int .i64 (kk : Int))).setCell 3 (.string (s.extract j en))
  have X3 := Lib.hid x3
  have Q3 := Lib.hid q3
  clear x3 q3 q2 hx2
  go_wp2
  go_region
  go_wp2
  have hpl : (((L s).drop j).take m).length ≤ s.size := by rw [List.length_take, List.length_drop, L_length]; omega
  exact bodyPost_end (results_none rfl _ _ _) rfl ⟨rfl, ⟨Q3.out.os, Q3.out.tape, Q3.out.output, Q3.out.size, Q3.out.block⟩, by rw [HS.out]; exact ⟨en, hjm, rfl, hpl, ⟨by rw [← HX.out]; exact X3.out.blk⟩⟩⟩
theorem Cuc.on {b : Nat} {s : ByteArray} {c : Cur} {W W' : World} (h : Cuc b s c W) (hb : Below W.heap.size W W') : Cuc b s c W' := by
  obtain ⟨i, h1, h2, h3, h4⟩ := h
  exact ⟨i, h1, h2, h3, h4.on hb⟩
theorem Cuc.onB {b B : Nat} {s : ByteArray} {c : Cur} {W W' : World} (h : Cuc b s c W) (hb : Below B W W') (hB : b < B) : Cuc b s c W' := by
  obtain ⟨i, h1, h2, h3, h4⟩ := h
  exact ⟨i, h1, h2, h3, h4.onB hb hB⟩
theorem Cuc.lt {b : Nat} {s : ByteArray} {c : Cur} {W : World} (h : Cuc b s c W) : b < W.heap.size := by
  obtain ⟨i, h1, h2, h3, h4⟩ := h
  exact h4.lt
theorem ret_sb {a b : ByteArray} {c d : Bool} (h1 : a = b) (h2 : c = d) : Ending.returned (.tuple #[.string a, .bool c]) = .returned (.tuple #[.string b, .bool d]) := by rw [h1, h2]
set_option maxRecDepth 100000 in
set_option maxHeartbeats 4000000 in
theorem take_any (b : Nat) (s : ByteArray) (c : Cur) (kd : Nat) (w : World) (hs : s.size ≤ 140737488355328) (hx : Cuc b s c w) :
    Calls Tryz.prog 49 #[.pointer (some ⟨b, 0, none⟩), .int .i64 kd] w fun e w' => e = .returned (.tuple #[.string (S (c.take kd).1.1), .bool (c.take kd).1.2]) ∧ Only b w w' ∧ Cuc b s (c.take kd).2 w' := by
  obtain ⟨i, hi, hr, hpl, hc⟩ := hx
  obtain ⟨c0, c1, c2, c3⟩ := hc.cells
  unfold Cur.take
  by_cases hk : c.k = kd
  · rw [if_pos hk]
    have t : ((c.k : Int) != (kd : Int)) = false := by simp [hk]
    have HS := Lib.hid (step_any b s i c.k (S c.p) w hs hc hi)
    rw [hr] at HS
    clear hk hr hpl hc
    go_enter Tryz.func49, Tryz.ntmps49
    go_wp2_with fail
    refine HS.out.mono ?_
    rintro e w1 ⟨rfl, hb1, hx1⟩
    go_wp2
    go_ret2
    exact ⟨rfl, hb1, hx1⟩
  · rw [if_neg hk]
    have t : ((c.k : Int) != (kd : Int)) = true := by rw [bne_iff_ne]; omega
    have HX := Lib.hid (show Cuc b s c w from ⟨i, hi, hr, hpl, hc⟩)
    clear hk hr hpl hc
    go_enter Tryz.func49, Tryz.ntmps49
    go_wp2
    go_ret2
    exact ⟨rfl, Only.refl _ _, HX.out⟩
theorem take_len {b : Nat} {s : ByteArray} {c : Cur} {W : World} (h : Cuc b s c W) (kd : Nat) : (c.take kd).1.1.length ≤ s.size := by
  obtain ⟨i, h1, h2, h3, h4⟩ := h
  unfold Cur.take
  split
  · exact h3
  · simp
set_option maxRecDepth 100000 in
set_option maxHeartbeats 4000000 in
theorem short_any (b : Nat) (s : ByteArray) (c : Cur) (top : Int) (w : World) (hs : s.size ≤ 140737488355328) (hx : Cuc b s c w) :
    Calls Tryz.prog 51 #[.pointer (some ⟨b, 0, none⟩), .int .i64 top] w fun e w' => e = .returned (.tuple #[.int .i64 (c.short top).1.1, .bool (c.short top).1.2]) ∧ Only b w w' ∧ Cuc b s (c.short top).2 w' := by
  have hl := take_len hx 2
  have HT := Lib.hid (take_any b s c 2 w hs hx)
  have HN := Lib.hid (fun W => number_any (S (c.take 2).1.1) 1 2 W (by rw [S_size]; omega) (by omega))
  have hsh : c.short top = ((numI (c.take 2).1.1 1 2, numB (c.take 2).1.1 1 2 && decide (numI (c.take 2).1.1 1 2 ≤ top)), (c.take 2).2) := rfl
  rw [hsh, L_S] at *
  clear hsh hl hx
  generalize numI (c.take 2).1.1 1 2 = nv at *
  generalize numB (c.take 2).1.1 1 2 = nb at *
  generalize S (c.take 2).1.1 = pc at *
  generalize (c.take 2).1.2 = tb at *
  generalize (c.take 2).2 = c' at *
  go_enter Tryz.func51, Tryz.ntmps51
  go_wp2_with fail
  refine HT.out.mono ?_
  rintro e w1 ⟨rfl, hb1, hx1⟩
  cases nb
  all_goals (
    go_wp2_with (go_at_call 45; refine (HN.out _).mono ?_; rintro e w' ⟨rfl, hw'⟩; subst w')
    go_ret2
    exact ⟨ret_ib rfl (by simp), hb1, hx1⟩)
end Go.Proofs.YtckdmbeokajdjaaGreatDoor
