/- moment: the cursor: comment, skip, run. -/
import Derived.Test.YtckdmbeokajdjaaGreatDoorDp
import Derived.Test.YtckdmbeokajdjaaGreatDoorDj
import Derived.WalkMore
namespace Go.Proofs.YtckdmbeokajdjaaGreatDoor
open Go.RowKit

/-- A cursor in a block of its own. -/
structure Cu (b : Nat) (s : ByteArray) (i k : Nat) (p : ByteArray) (W : World) : Prop where
  blk : W.heap[b]? = some (.cells #[.string s, .int .i64 i, .int .i64 k, .string p] 48 (0, 0))
theorem Cu.on {b : Nat} {s : ByteArray} {i k : Nat} {p : ByteArray} {W W' : World} (h : Cu b s i k p W) (hb : Below W.heap.size W W') : Cu b s i k p W' :=
  ⟨by rw [hb.block b (Array.getElem?_eq_some_iff.1 h.blk).1]; exact h.blk⟩
theorem Cu.onB {b B : Nat} {s : ByteArray} {i k : Nat} {p : ByteArray} {W W' : World} (h : Cu b s i k p W) (hb : Below B W W') (hB : b < B) : Cu b s i k p W' :=
  ⟨by rw [hb.block b hB]; exact h.blk⟩
theorem Cu.lt {b : Nat} {s : ByteArray} {i k : Nat} {p : ByteArray} {W : World} (h : Cu b s i k p W) : b < W.heap.size := (Array.getElem?_eq_some_iff.1 h.blk).1
theorem Cu.cells {b : Nat} {s : ByteArray} {i k : Nat} {p : ByteArray} {W : World} (h : Cu b s i k p W) : W.cell? ⟨b, 0, none⟩ = some (.string s) ∧ W.cell? ⟨b, 1, none⟩ = some (.int .i64 i) ∧ W.cell? ⟨b, 2, none⟩ = some (.int .i64 k) ∧ W.cell? ⟨b, 3, none⟩ = some (.string p) :=
  ⟨cell_of_row W b 0 _ _ _ h.blk, cell_of_row W b 1 _ _ _ h.blk, cell_of_row W b 2 _ _ _ h.blk, cell_of_row W b 3 _ _ _ h.blk⟩
theorem Cu.free {b : Nat} {s : ByteArray} {i k : Nat} {p : ByteArray} {W : World} (h : Cu b s i k p W) (j : Nat) : W.frozen? ⟨b, j, none⟩ = false := frozen_of_row W b j _ _ h.blk
theorem Cu.set1 {b : Nat} {s : ByteArray} {i k : Nat} {p : ByteArray} {W : World} (h : Cu b s i k p W) (j : Nat) (v : Int) (hv : v = (j : Int)) : Cu b s j k p (W.setCell ⟨b, 1, none⟩ (.int .i64 v)) :=
  ⟨by subst hv; have := heap_setCell_same W b 1 _ _ (.int .i64 (j : Int)) h.blk; simpa using this⟩
theorem Cu.set2 {b : Nat} {s : ByteArray} {i k : Nat} {p : ByteArray} {W : World} (h : Cu b s i k p W) (j : Nat) (v : Int) (hv : v = (j : Int)) : Cu b s i j p (W.setCell ⟨b, 2, none⟩ (.int .i64 v)) :=
  ⟨by subst hv; have := heap_setCell_same W b 2 _ _ (.int .i64 (j : Int)) h.blk; simpa using this⟩
theorem Cu.set3 {b : Nat} {s : ByteArray} {i k : Nat} {p : ByteArray} {W : World} (h : Cu b s i k p W) (q : ByteArray) : Cu b s i k q (W.setCell ⟨b, 3, none⟩ (.string q)) :=
  ⟨by have := heap_setCell_same W b 3 _ _ (.string q) h.blk; simpa using this⟩
/-- Nothing has turned but one block. -/
structure Only (b : Nat) (w w' : World) : Prop where
  os : w'.os = w.os
  tape : w'.tape = w.tape
  output : w'.output = w.output
  size : w.heap.size ≤ w'.heap.size
  block : ∀ k, k < w.heap.size → k ≠ b → w'.heap[k]? = w.heap[k]?
theorem Only.refl (b : Nat) (w : World) : Only b w w := ⟨rfl, rfl, rfl, Nat.le_refl _, fun _ _ _ => rfl⟩
theorem Only.trans {b : Nat} {a w w' : World} (h : Only b a w) (k : Only b w w') : Only b a w' :=
  ⟨k.os.trans h.os, k.tape.trans h.tape, k.output.trans h.output, Nat.le_trans h.size k.size, fun j hj hne => (k.block j (Nat.lt_of_lt_of_le hj h.size) hne).trans (h.block j hj hne)⟩
theorem Only.setCell {b : Nat} {a w : World} (h : Only b a w) (i : Nat) (v : Value) : Only b a (w.setCell ⟨b, i, none⟩ v) := by
  have q := (Below.refl 0 w).setCell (p := ⟨b, i, none⟩) (Nat.zero_le _) v
  exact h.trans ⟨q.os, q.tape, q.output, q.size, fun k _ hne => heap_setCell_other w ⟨b, i, none⟩ k v (by simp; omega)⟩
theorem Only.drew {b : Nat} {a w : World} (h : Only b a w) : Only b a w.drew := ⟨h.os, h.tape, h.output, h.size, h.block⟩
theorem only_drewN {b : Nat} {a w : World} (h : Only b a w) (n : Nat) : Only b a (w.drewN n) := ⟨h.os, h.tape, h.output, h.size, h.block⟩
theorem Below.only {b : Nat} {w w' : World} (h : Below w.heap.size w w') : Only b w w' := ⟨h.os, h.tape, h.output, h.size, fun k hk _ => h.block k hk⟩
theorem Only.below {b : Nat} {w w' : World} (h : Only b w w') (hb : b ≤ w.heap.size) : Below b w w' := ⟨h.os, h.tape, h.output, h.size, fun k hk => h.block k (by omega) (by omega)⟩
def cuAt (b : Nat) (W : World) : Nat := match W.cell? ⟨b, 1, none⟩ with
  | some v => (intOf v).toNat
  | none => 0
theorem Cu.at {b : Nat} {s : ByteArray} {i k : Nat} {p : ByteArray} {W : World} (h : Cu b s i k p W) : cuAt b W = i := by unfold cuAt; rw [h.cells.2.1]; simp [intOf]
theorem drop_at (l : List UInt8) (i : Nat) (h : i < l.length) : l.drop i = bt l i :: l.drop (i + 1) := by
  rw [bt_getElem l i h]; exact List.drop_eq_getElem_cons h
theorem com_92 (l : List UInt8) (i d : Nat) (h : i < l.length) (hb : bt l i = 92) : comD (l.drop i) d false = if i + 1 < l.length then 2 + comD (l.drop (i + 2)) d false else 1 := by
  rw [drop_at l i h, comD, if_pos hb]
  split
  · rename_i h2
    rw [drop_at l (i + 1) h2, comD]
    show 1 + (1 + comD (l.drop (i + 2)) d false) = _
    omega
  · rename_i h2
    rw [List.drop_eq_nil_of_le (by omega), comD]
theorem com_40 (l : List UInt8) (i d : Nat) (h : i < l.length) (hb : bt l i = 40) : comD (l.drop i) d false = 1 + comD (l.drop (i + 1)) (d + 1) false := by
  rw [drop_at l i h, comD, if_neg (by rw [hb]; decide), if_pos hb]
theorem com_41 (l : List UInt8) (i d : Nat) (h : i < l.length) (hb : bt l i = 41) : comD (l.drop i) d false = if d ≤ 1 then 1 else 1 + comD (l.drop (i + 1)) (d - 1) false := by
  rw [drop_at l i h, comD, if_neg (by rw [hb]; decide), if_neg (by rw [hb]; decide), if_pos hb]
theorem com_else (l : List UInt8) (i d : Nat) (h : i < l.length) (h1 : bt l i ≠ 92) (h2 : bt l i ≠ 40) (h3 : bt l i ≠ 41) : comD (l.drop i) d false = 1 + comD (l.drop (i + 1)) d false := by
  rw [drop_at l i h, comD, if_neg h1, if_neg h2, if_neg h3]
theorem com_end (l : List UInt8) (i d : Nat) (h : l.length ≤ i) : comD (l.drop i) d false = 0 := by rw [List.drop_eq_nil_of_le h, comD]
theorem beq_u8 (c k : UInt8) (n : Int) (h : (k.toNat : Int) = n) (hc : c = k) : ((c.toNat : Int) == n) = true := by rw [byte_test c k n h, hc]; simp
theorem bne_u8 (c k : UInt8) (n : Int) (h : (k.toNat : Int) = n) (hc : c ≠ k) : ((c.toNat : Int) == n) = false := by rw [byte_test c k n h]; simpa using hc

set_option maxRecDepth 100000 in
set_option maxHeartbeats 4000000 in
theorem comment_any (b : Nat) (s : ByteArray) (i k : Nat) (p : ByteArray) (w : World) (hs : s.size ≤ 140737488355328) (hx : Cu b s i k p w) (hi : i < s.size) (h40 : bt (L s) i = 40) :
    Calls Tryz.prog 74 #[.pointer (some ⟨b, 0, none⟩)] w fun e w' => e = .returned (.tuple #[]) ∧ Only b w w' ∧ Cu b s (i + comD ((L s).drop i) 0 false) k p w' := by
  obtain ⟨E, hE⟩ : ∃ E, i + comD ((L s).drop i) 0 false = E := ⟨_, rfl⟩
  rw [hE]
  have HX := Lib.hid hx
  have HE := Lib.hid hE
  clear hE hx
  go_enter Tryz.func74, Tryz.ntmps74
  go_wp2
  go_step3
  go_wp2
  go_step3
  go_wp2
  go_loopw [2] (fun ov wr => ∃ j d : Nat, j ≤ s.size ∧ ov = .int .i64 d ∧ d ≤ j ∧ j + comD ((L s).drop j) d false = E ∧ (d = 0 → j < s.size ∧ bt (L s) j = 40) ∧ Cu b s j k p wr ∧ Only b w wr) (fun _ wr => s.size - cuAt b wr)
  case atStart => exact ⟨i, 0, Nat.le_of_lt hi, rfl, Nat.zero_le _, HE.out, fun _ => ⟨hi, h40⟩, HX.out, Only.refl _ _⟩
  case round =>
    obtain ⟨j, d, hj, rfl, hdj, hEj, h0, hx, hb⟩ := hrel
    clear HX HE h40 hi
    obtain ⟨c0, c1, c2, c3⟩ := hx.cells
    have f1 := hx.free 1
    have X1 := Lib.hid hx
    have HB := Lib.hid hb
    have HAT := Lib.hid hx.at
    by_cases hlt : j < s.size
    · have ea := get_bt s j hlt
      have hd0 : d = 0 → bt (L s) j = 40 := fun h => (h0 h).2
      have HEJ := Lib.hid hEj
      have hjl : j < (L s).length := by rw [L_length]; exact hlt
      clear hx hb h0 hEj
      by_cases h92 : bt (L s) j = 92
      · have t1 := beq_u8 (bt (L s) j) 92 92 rfl h92
        have hd1 : d ≠ 0 := fun h => by rw [hd0 h] at h92; exact absurd h92 (by decide)
        have HC := Lib.hid (com_92 (L s) j d hjl h92)
        clear h92 hd0
        generalize bt (L s) j = B at *
        by_cases hl2 : j + 1 < s.size
        · rw [L_length, if_pos hl2] at HC
          go_wp2
          go_region
          go_wp2
          go_region
          go_wp2
          go_region
          go_wp2
          have x2 := (X1.out.set1 (j + 1) ((j : Int) + 1) (by omega)).set1 (j + 2) ((j : Int) + 1 + 1) (by omega)
          have q2 := (HB.out.setCell 1 (.int .i64 ((j : Int) + 1))).setCell 1 (.int .i64 ((j : Int) + 1 + 1))
          refine ⟨⟨j + 2, d, by omega, rfl, by omega, by have := HEJ.out; have := HC.out; omega, fun h => absurd h hd1, ⟨x2.blk⟩, ⟨q2.os, q2.tape, q2.output, q2.size, q2.block⟩⟩, ?_⟩
          have y2 : cuAt b _ = j + 2 := x2.at
          have e1 := HAT.out
          show s.size - cuAt b ((wr.setCell ⟨b, 1, none⟩ (.int .i64 ((j : Int) + 1))).setCell ⟨b, 1, none⟩ (.int .i64 ((j : Int) + 1 + 1))) < _
          rw [y2, e1]
          omega
        · rw [L_length, if_neg hl2] at HC
          have hE2 : E = j + 1 := by have := HEJ.out; have := HC.out; omega
          go_wp2
          go_region
          go_wp2
          go_region
          go_wp2
          go_region
          go_wp2
          have x2 := X1.out.set1 (j + 1) ((j : Int) + 1) (by omega)
          have q2 := HB.out.setCell 1 (.int .i64 ((j : Int) + 1))
          refine ⟨⟨j + 1, d, by omega, rfl, by omega, by rw [com_end _ _ _ (by rw [L_length]; omega)]; omega, fun h => absurd h hd1, ⟨x2.blk⟩, ⟨q2.os, q2.tape, q2.output, q2.size, q2.block⟩⟩, ?_⟩
          have y2 : cuAt b _ = j + 1 := x2.at
          have e1 := HAT.out
          show s.size - cuAt b (wr.setCell ⟨b, 1, none⟩ (.int .i64 ((j : Int) + 1))) < _
          rw [y2, e1]
          omega
      · have t1 := bne_u8 (bt (L s) j) 92 92 rfl h92
        have x2 := X1.out.set1 (j + 1) ((j : Int) + 1) (by omega)
        have q2 := HB.out.setCell 1 (.int .i64 ((j : Int) + 1))
        have y2 : cuAt b (wr.setCell ⟨b, 1, none⟩ (.int .i64 ((j : Int) + 1))) = j + 1 := x2.at
        have X2 := Lib.hid x2
        have Q2 := Lib.hid q2
        have Y2 := Lib.hid y2
        clear x2 q2 y2
        by_cases h40 : bt (L s) j = 40
        · have t2 := beq_u8 (bt (L s) j) 40 40 rfl h40
          have HC := Lib.hid (com_40 (L s) j d hjl h40)
          clear h92 hd0 h40
          generalize bt (L s) j = B at *
          go_wp2
          go_region
          go_wp2
          go_region
          go_wp2
          refine ⟨⟨j + 1, d + 1, by omega, by go_num, by omega, by have := HEJ.out; have := HC.out; omega, fun h => by omega, ⟨X2.out.blk⟩, ⟨Q2.out.os, Q2.out.tape, Q2.out.output, Q2.out.size, Q2.out.block⟩⟩, ?_⟩
          have e1 := HAT.out
          show s.size - cuAt b (wr.setCell ⟨b, 1, none⟩ (.int .i64 ((j : Int) + 1))) < _
          rw [Y2.out, e1]
          omega
        · have t2 := bne_u8 (bt (L s) j) 40 40 rfl h40
          have hd1 : 1 ≤ d := by
            rcases Nat.eq_zero_or_pos d with h | h
            · exact absurd (hd0 h) h40
            · exact h
          by_cases h41 : bt (L s) j = 41
          · have t3 := beq_u8 (bt (L s) j) 41 41 rfl h41
            have HC := Lib.hid (com_41 (L s) j d hjl h41)
            clear h92 hd0 h40 h41
            generalize bt (L s) j = B at *
            by_cases h1 : d ≤ 1
            · rw [if_pos h1] at HC
              obtain rfl : d = 1 := by omega
              have hE2 : E = j + 1 := by have := HEJ.out; have := HC.out; omega
              subst hE2
              go_wp2
              go_region
              go_wp2
              go_region
              go_wp2
              rw [Exit.noGoto_normal]
              exact bodyPost_end (results_none rfl _ _ _) rfl ⟨rfl, ⟨Q2.out.os, Q2.out.tape, Q2.out.output, Q2.out.size, Q2.out.block⟩, ⟨X2.out.blk⟩⟩
            · rw [if_neg h1] at HC
              have t4 : ((d : Int) - 1 == 0) = false := by rw [beq_eq_false_iff_ne]; omega
              go_wp2
              go_region
              go_wp2
              go_region
              go_wp2
              refine ⟨⟨j + 1, d - 1, by omega, by congr 1; omega, by omega, by have := HEJ.out; have := HC.out; omega, fun h => by omega, ⟨X2.out.blk⟩, ⟨Q2.out.os, Q2.out.tape, Q2.out.output, Q2.out.size, Q2.out.block⟩⟩, ?_⟩
              have e1 := HAT.out
              show s.size - cuAt b (wr.setCell ⟨b, 1, none⟩ (.int .i64 ((j : Int) + 1))) < _
              rw [Y2.out, e1]
              omega
          · have t3 := bne_u8 (bt (L s) j) 41 41 rfl h41
            have HC := Lib.hid (com_else (L s) j d hjl h92 h40 h41)
            clear h92 hd0 h40 h41
            generalize bt (L s) j = B at *
            go_wp2
            go_region
            go_wp2
            go_region
            go_wp2
            refine ⟨⟨j + 1, d, by omega, rfl, by omega, by have := HEJ.out; have := HC.out; omega, fun h => by omega, ⟨X2.out.blk⟩, ⟨Q2.out.os, Q2.out.tape, Q2.out.output, Q2.out.size, Q2.out.block⟩⟩, ?_⟩
            have e1 := HAT.out
            show s.size - cuAt b (wr.setCell ⟨b, 1, none⟩ (.int .i64 ((j : Int) + 1))) < _
            rw [Y2.out, e1]
            omega
    · have hE2 : E = j := by rw [com_end _ _ _ (by rw [L_length]; omega)] at hEj; omega
      subst hE2
      clear hx hb h0 hEj
      go_wp2
      go_region
      go_wp2
      rw [Exit.noGoto_normal]
      exact bodyPost_end (results_none rfl _ _ _) rfl ⟨rfl, ⟨HB.out.os, HB.out.tape, HB.out.output, HB.out.size, HB.out.block⟩, ⟨X1.out.blk⟩⟩
end Go.Proofs.YtckdmbeokajdjaaGreatDoor
