/- postbaglaw11: texts, ints, marks, events; known. -/
import Derived.Test.YtbncaiocmklgnaaGreatDoorV11q
namespace Go.Proofs.YtbncaiocmklgnaaGreatDoor
open Go.RowKit Go.Lib

theorem drewT {B : Nat} {a w : World} (h : Below B a w) (n : Nat) : Below B a (w.drewN n) := below_drewN h n
theorem Strs.cells {w : World} {v : Value} {ss : List ByteArray} (h : Strs w v ss) : ∃ ao cap, v = .slice ao ss.length cap ∧ ∀ i, i < ss.length → ∃ b off, ao = some ⟨b, off, none⟩ ∧ b < w.heap.size ∧ w.cell? ⟨b, off + i, none⟩ = some (.string (ss.getD i ByteArray.empty)) := by
  rcases h with ⟨rfl, ao, cap, rfl⟩ | ⟨b, off, cap, rfl, h0, h1, h2⟩
  · exact ⟨ao, cap, rfl, fun i hi => absurd hi (Nat.not_lt_zero _)⟩
  · exact ⟨_, cap, rfl, fun i hi => ⟨b, off, rfl, h1, h2 i hi⟩⟩
theorem tx_yes (a : ByteArray) : (a.toList == a.toList) = true := by simp
set_option maxHeartbeats 2000000 in
theorem texts_eq {w : World} {v1 v2 : Value} {ss : List ByteArray} (h1 : Strs w v1 ss) (h2 : Strs w v2 ss) (hl : ss.length ≤ 1000000) :
    Calls Tryz.prog 8 #[v1, v2] w fun e w' => e = .returned (.bool true) ∧ Below w.heap.size w w' := by
  obtain ⟨a1, c1, rfl, k1⟩ := h1.cells
  obtain ⟨a2, c2, rfl, k2⟩ := h2.cells
  have H1 := Lib.hid k1
  have H2 := Lib.hid k2
  clear h1 h2 k1 k2
  generalize hn : ss.length = n at *
  have hni : (n : Int) ≤ 1000000 := by omega
  clear hn
  go_enter Tryz.func8, Tryz.ntmps8
  go_wp2_with fail
  go_loopw [5] (fun i wr => ∃ (k : Nat) (X : World), X = wr ∧ k ≤ n ∧ i = .int .i64 k ∧ Below w.heap.size w X) (fun i _ => n - (intOf i).toNat)
  case atStart => exact ⟨0, _, rfl, Nat.zero_le _, rfl, Below.refl _ _⟩
  case round =>
    obtain ⟨k, X, hX, hk, rfl, hb⟩ := hrel
    subst hX
    have HB := Lib.hid hb
    have hk2 : (k : Int) ≤ 1000000 := by omega
    by_cases hlt : k < n
    · obtain ⟨b1, o1, rfl, l1, d1⟩ := H1.out k hlt
      obtain ⟨b2, o2, rfl, l2, d2⟩ := H2.out k hlt
      have y1 : X.cell? ⟨b1, o1 + k, none⟩ = some (.string (ss.getD k ByteArray.empty)) := by rw [hb.cell (p := ⟨b1, o1 + k, none⟩) l1]; exact d1
      have y2 : X.cell? ⟨b2, o2 + k, none⟩ = some (.string (ss.getD k ByteArray.empty)) := by rw [hb.cell (p := ⟨b2, o2 + k, none⟩) l2]; exact d2
      have hli : (k : Int) < (n : Int) := by omega
      obtain ⟨t, ht⟩ : ∃ t, ss.getD k ByteArray.empty = t := ⟨_, rfl⟩
      rw [ht] at y1 y2
      have tt := tx_yes t
      clear hb d1 d2 ht l1 l2
      go_upto_region 6 with fail
      go_quiet (fail)
      go_wp2_with fail
      go_roundw
      case rel => exact ⟨k + 1, _, rfl, hlt, by go_num, drewT HB.out _⟩
      case measure => simp [intOf]; omega
    · have hli : ¬ (k : Int) < (n : Int) := by omega
      clear hb
      go_wp2_with fail
      go_ret
      exact ⟨rfl, HB.out⟩
theorem ints_nil (w : World) : Calls Tryz.prog 36 #[.slice none 0 0, .slice none 0 0] w fun e w' => e = .returned (.bool true) ∧ w' = w := by
  go_enter Tryz.func36, Tryz.ntmps36
  go_wp2_with fail
  go_loopw [5] (fun i wr => ∃ X, X = wr ∧ i = .int .i64 0 ∧ X = w) (fun _ _ => 0)
  case atStart => exact ⟨_, rfl, rfl, rfl⟩
  case round =>
    obtain ⟨X, hX, rfl, hw⟩ := hrel
    subst hX
    subst hw
    go_wp2_with fail
    go_ret
    exact ⟨rfl, rfl⟩
theorem marks_nil (w : World) : Calls Tryz.prog 37 #[.slice none 0 0, .slice none 0 0] w fun e w' => e = .returned (.bool true) ∧ w' = w := by
  go_enter Tryz.func37, Tryz.ntmps37
  go_wp2_with fail
  go_loopw [5] (fun i wr => ∃ X, X = wr ∧ i = .int .i64 0 ∧ X = w) (fun _ _ => 0)
  case atStart => exact ⟨_, rfl, rfl, rfl⟩
  case round =>
    obtain ⟨X, hX, rfl, hw⟩ := hrel
    subst hX
    subst hw
    go_wp2_with fail
    go_ret
    exact ⟨rfl, rfl⟩
set_option maxHeartbeats 4000000 in
set_option maxRecDepth 20000 in
theorem events_same (n k : Int) (s : ByteArray) (w : World) :
    Calls Tryz.prog 17 #[.agg (evV n k s none 0 0), .agg (evV n k s none 0 0)] w fun e w' => e = .returned (.bool true) ∧ Below w.heap.size w w' := by
  obtain ⟨W1, hW1⟩ : ∃ W1, (w.alloc (.cells (evV n k s none 0 0) 35)).alloc (.cells (evV n k s none 0 0) 35) = W1 := ⟨_, rfl⟩
  have C1 : Hid (KB w [(w.heap.size + 1, .cells (evV n k s none 0 0) 35 (0, 0)), (w.heap.size, .cells (evV n k s none 0 0) 35 (0, 0))] W1) := Lib.hid (by
    have h0 : KB w [] w := ⟨Below.refl _ _, fun x hx => by cases hx⟩
    have h1 := (h0.box (.cells (evV n k s none 0 0) 35)).box (.cells (evV n k s none 0 0) 35)
    rw [hW1, show (w.alloc (.cells (evV n k s none 0 0) 35)).heap.size = w.heap.size + 1 by simp] at h1
    exact h1)
  obtain ⟨c0, c1, c2, c3, c4, c5, c6, c7, c8, c9, c10, c11, c12, c13, c14, c15, c16, c17⟩ := ev_cells (C1.out.kept (w.heap.size, _) (List.mem_cons_of_mem _ List.mem_cons_self))
  obtain ⟨d0, d1, d2, d3, d4, d5, d6, d7, d8, d9, d10, d11, d12, d13, d14, d15, d16, d17⟩ := ev_cells (C1.out.kept (w.heap.size + 1, _) List.mem_cons_self)
  have tt := tx_yes s
  have HT := Lib.hid (fun W => texts_eq (w := W) (v1 := .slice none 0 0) (v2 := .slice none 0 0) (ss := []) (.inl ⟨rfl, none, 0, rfl⟩) (.inl ⟨rfl, none, 0, rfl⟩) (by decide))
  have HC : Hid (∀ X, Below W1.heap.size W1 X → KB w [(w.heap.size + 1, .cells (evV n k s none 0 0) 35 (0, 0)), (w.heap.size, .cells (evV n k s none 0 0) 35 (0, 0))] X) := Lib.hid (fun X hX => C1.out.go hX)
  simp only at c0 c1 c2 c3 c4 c5 c6 d0 d1 d2 d3 d4 d5 d6
  clear c7 c8 c9 c10 c11 c12 c13 c14 c15 c16 c17 d7 d8 d9 d10 d11 d12 d13 d14 d15 d16 d17
  have HCl : Hid (∀ X, Below W1.heap.size W1 X → (X.cell? ⟨w.heap.size, 7, none⟩ = some (.slice none 0 0) ∧ X.cell? ⟨w.heap.size, 8, none⟩ = some (.slice none 0 0) ∧ X.cell? ⟨w.heap.size, 9, none⟩ = some (.slice none 0 0) ∧ X.cell? ⟨w.heap.size, 10, none⟩ = some (.int .i64 0) ∧ X.cell? ⟨w.heap.size, 11, none⟩ = some (.int .i64 0) ∧ X.cell? ⟨w.heap.size, 12, none⟩ = some (.int .i64 0) ∧ X.cell? ⟨w.heap.size, 13, none⟩ = some (.int .i64 0) ∧ X.cell? ⟨w.heap.size, 14, none⟩ = some (.int .i64 0) ∧ X.cell? ⟨w.heap.size, 15, none⟩ = some (.int .i64 0) ∧ X.cell? ⟨w.heap.size, 16, none⟩ = some (.int .i64 0) ∧ X.cell? ⟨w.heap.size, 17, none⟩ = some (.string ⟨#[]⟩)) ∧
      (X.cell? ⟨w.heap.size + 1, 7, none⟩ = some (.slice none 0 0) ∧ X.cell? ⟨w.heap.size + 1, 8, none⟩ = some (.slice none 0 0) ∧ X.cell? ⟨w.heap.size + 1, 9, none⟩ = some (.slice none 0 0) ∧ X.cell? ⟨w.heap.size + 1, 10, none⟩ = some (.int .i64 0) ∧ X.cell? ⟨w.heap.size + 1, 11, none⟩ = some (.int .i64 0) ∧ X.cell? ⟨w.heap.size + 1, 12, none⟩ = some (.int .i64 0) ∧ X.cell? ⟨w.heap.size + 1, 13, none⟩ = some (.int .i64 0) ∧ X.cell? ⟨w.heap.size + 1, 14, none⟩ = some (.int .i64 0) ∧ X.cell? ⟨w.heap.size + 1, 15, none⟩ = some (.int .i64 0) ∧ X.cell? ⟨w.heap.size + 1, 16, none⟩ = some (.int .i64 0) ∧ X.cell? ⟨w.heap.size + 1, 17, none⟩ = some (.string ⟨#[]⟩))) := Lib.hid (fun X hX => by
    obtain ⟨_, _, _, _, _, _, _, e⟩ := ev_cells ((HC.out X hX).kept (w.heap.size, _) (List.mem_cons_of_mem _ List.mem_cons_self))
    obtain ⟨_, _, _, _, _, _, _, f⟩ := ev_cells ((HC.out X hX).kept (w.heap.size + 1, _) List.mem_cons_self)
    exact ⟨e, f⟩)
  go_enter Tryz.func17, Tryz.ntmps17
  go_upto_region 1 with fail
  (try rw [hW1])
  clear hW1 C1
  go_wp2_with (first | (go_at_call 8; refine (HT.out _).mono ?_; rintro e w2 ⟨rfl, hb⟩; obtain ⟨⟨q7, q8, q9, q10, q11, q12, q13, q14, q15, q16, q17⟩, ⟨r7, r8, r9, r10, r11, r12, r13, r14, r15, r16, r17⟩⟩ := HCl.out _ hb; have HB := Lib.hid ((HC.out _ hb).below); clear hb) | (go_at_call 36; refine (ints_nil _).mono ?_; rintro e w9 ⟨rfl, hw9⟩; subst w9) | (go_at_call 37; refine (marks_nil _).mono ?_; rintro e w9 ⟨rfl, hw9⟩; subst w9))
  go_ret
  exact ⟨rfl, HB.out⟩
end Go.Proofs.YtbncaiocmklgnaaGreatDoor
