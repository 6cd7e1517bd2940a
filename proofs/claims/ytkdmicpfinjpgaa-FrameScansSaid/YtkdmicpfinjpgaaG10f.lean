/- frame: the reference's Scan. -/
import Derived.Test.YtkdmicpfinjpgaaG10b
import Derived.Test.YtkdmicpfinjpgaaF10p
import Derived.BigRegion
namespace Go.Proofs.Ytkdmicpfinjpgaa
open Go.RowKit

/-- The last frame so far. -/
def LastOf (F : List Fr) (i a : Nat) : Prop := (F = [] ∧ i = 0) ∨ (0 < i ∧ ∃ m f, F.length = m + 1 ∧ F[m]? = some f ∧ f.num = a)
theorem Two.cellNum {B : Nat} {v4 : Value} {F : List Fr} {N : List Nat} {w : World} {g : Nat} {n c : Nat} (h : Two B (.slice (some ⟨g, 0, none⟩) n c) F v4 N w) {m : Nat} {f : Fr} (hf : F[m]? = some f) : w.cell? ⟨g, m * 4 + 1, none⟩ = some (.int .i64 (f.num : Int)) := by
  have c := h.a.cells (g := g) rfl
  rw [Nat.mul_comm, ← add_off]
  exact c _ _ (frCs_at hf).2.1
set_option maxHeartbeats 4000000 in
theorem refScan_any (s : ByteArray) (w : World) (hs : s.size ≤ 1099511627776) :
    Calls Try.prog 14 #[.string s] w fun e w' => ∃ v3 v4, e = .returned (.tuple #[v3, v4]) ∧ Two w.heap.size v3 (scan (L s) 0 0) v4 ((scan (L s) 0 0).map Fr.ends) w' ∧ Below w.heap.size w w' := by
  go_enter Try.func14, Try.ntmps14
  go_wp2
  go_loopw [4, 5, 6] (fun v4 v5 v6 wr => ∃ (F : List Fr) (i a : Nat), v6 = .int .i64 (i : Int) ∧ scan (L s) 0 0 = F ++ scan (L s) i a ∧ Two w.heap.size v4 F v5 (F.map Fr.ends) wr ∧ Below w.heap.size w wr ∧ LastOf F i a ∧ 18 * F.length ≤ i ∧ i ≤ s.size ∧ a < 4294967296) (fun _ _ v6 _ => match v6 with | .int _ k => ((s.size : Int) - k).toNat | _ => 0)
  case atStart => exact ⟨[], 0, 0, rfl, rfl, Two.nil (Nat.le_refl _), Below.refl _ _, .inl ⟨rfl, rfl⟩, Nat.le_refl _, Nat.zero_le _, by omega⟩
  case round =>
    obtain ⟨F, i, a, rfl, hsc, hT, hB, hL, h18, his, ha⟩ := hrel
    obtain ⟨ao, c, rfl⟩ := hT.shape3
    obtain ⟨bo, d, rfl⟩ := hT.shape4
    rw [List.length_map] at hT ⊢
    have HSc := Lib.hid hsc
    have HT := Lib.hid hT
    have HB := Lib.hid hB
    have HL := Lib.hid hL
    clear hsc hT hB hL
    go_wp2_with fail
    refine (one_any s i _ his (by omega)).mono ?_
    rintro e w1 ⟨rfl, hb1⟩
    by_cases hF : isF ((L s).drop i)
    · obtain ⟨en1, en2⟩ := frAt_ends hF
      have e1 : oneV (L s) i = frV (frAt (L s) i).kind (frAt (L s) i).num (frAt (L s) i).at' (S (frAt (L s) i).body) := by unfold oneV; rw [if_pos hF]; rfl
      have e2 : oneN (L s) i = (frAt (L s) i).ends := by unfold oneN; rw [if_pos hF]
      have en3 : w4 (L s) (i + 2) = (frAt (L s) i).num := rfl
      have en4 : (frAt (L s) i).num < 4294967296 := by rw [← en3]; exact w4_lt _ _
      rw [e1, e2]
      have HOn : Hid ((0 < i → (frAt (L s) i).num = a + 1) → scan (L s) i a = frAt (L s) i :: scan (L s) (frAt (L s) i).ends (frAt (L s) i).num) := Lib.hid (fun h => by rw [scan_on hF (by rw [en3]; exact h), en3])
      have HOff : Hid (¬ (0 < i → (frAt (L s) i).num = a + 1) → scan (L s) i a = []) := Lib.hid (fun h => scan_off (fun q => h (by rw [← en3]; exact q.2)))
      rw [L_length] at en2
      have hE1 : (frAt (L s) i).ends ≤ s.size := by omega
      have hE2 : i + 18 ≤ (frAt (L s) i).ends := by omega
      have hE3 : (((frAt (L s) i).ends : Int) == 0) = false := by rw [beq_eq_false_iff_ne]; omega
      have HB1 := Lib.hid hb1
      clear e1 e2 hF hb1 en1 en2 en3
      generalize frAt (L s) i = f at *
      obtain ⟨E, hE⟩ : ∃ E, E = f.ends := ⟨_, rfl⟩
      rw [← hE] at hE1 hE2 hE3 HOn ⊢
      have HE := Lib.hid hE
      clear hE
      unfold frV
      go_wp2_with fail
      have hb2 : Below w.heap.size w (w1.alloc (.cells #[.int .i64 (f.kind : Int), .int .i64 (f.num : Int), .int .i64 (f.at' : Int), .string (S f.body)] 47)) := (HB.out.trans (HB1.out.mono HB.out.size)).alloc (by have := HB.out.size; have := HB1.out.size; omega) _
      have hT2 : Two w.heap.size (.slice ao F.length c) F (.slice bo F.length d) (F.map Fr.ends) (w1.alloc (.cells #[.int .i64 (f.kind : Int), .int .i64 (f.num : Int), .int .i64 (f.at' : Int), .string (S f.body)] 47)) := (HT.out.on HB1.out).on ((Below.refl _ _).alloc (Nat.le_refl _) _)
      have hfr : (w1.alloc (.cells #[.int .i64 (f.kind : Int), .int .i64 (f.num : Int), .int .i64 (f.at' : Int), .string (S f.body)] 47)).heap[w1.heap.size]? = some (.cells #[.int .i64 (f.kind : Int), .int .i64 (f.num : Int), .int .i64 (f.at' : Int), .string (S f.body)] 47) := heap_alloc_last _ _
      generalize w1.alloc (.cells #[.int .i64 (f.kind : Int), .int .i64 (f.num : Int), .int .i64 (f.at' : Int), .string (S f.body)] 47) = Y at *
      have c0 : Y.cell? ⟨w1.heap.size, 0, none⟩ = some (.int .i64 (f.kind : Int)) := cell_of_row _ _ 0 _ _ _ hfr
      have c1 : Y.cell? ⟨w1.heap.size, 1, none⟩ = some (.int .i64 (f.num : Int)) := cell_of_row _ _ 1 _ _ _ hfr
      have c2 : Y.cell? ⟨w1.heap.size, 2, none⟩ = some (.int .i64 (f.at' : Int)) := cell_of_row _ _ 2 _ _ _ hfr
      have c3 : Y.cell? ⟨w1.heap.size, 3, none⟩ = some (.string (S f.body)) := cell_of_row _ _ 3 _ _ _ hfr
      have HB2 := Lib.hid hb2
      clear hb2 hfr
      have HLen : Hid (F.length + 1 ≤ 1099511627776) := Lib.hid (by omega)
      obtain ⟨M, hM⟩ : ∃ M, M = F.length := ⟨_, rfl⟩
      rw [← hM] at hT2 h18 ⊢
      have HT2 := Lib.hid hT2
      have HM := Lib.hid hM
      clear hM HT HB HB1
      have fin : ∀ (Z : World), Y = Z → True := fun _ _ => trivial
      clear fin
      rcases HL.out with ⟨h0, hi0⟩ | ⟨hi0, m, f0, hm, hf0, hn0⟩
      · subst h0 hi0
        have hM0 : M = 0 := by rw [HM.out]; rfl
        subst hM0
        go_region
        simp only [Exit.then]
        have d0 : Y.drew.cell? ⟨w1.heap.size, 0, none⟩ = some (.int .i64 (f.kind : Int)) := c0
        have d1 : Y.drew.cell? ⟨w1.heap.size, 1, none⟩ = some (.int .i64 (f.num : Int)) := c1
        have d2 : Y.drew.cell? ⟨w1.heap.size, 2, none⟩ = some (.int .i64 (f.at' : Int)) := c2
        have d3 : Y.drew.cell? ⟨w1.heap.size, 3, none⟩ = some (.string (S f.body)) := c3
        have T4 := Lib.hid (HT2.out.on (Below.refl _ _).drew)
        have B4 := Lib.hid HB2.out.drew
        generalize Y.drew = Z at *
        clear c0 c1 c2 c3 HT2 HB2
        go_wp2_with (first | (at_builtin; refine appF rfl (.tmp 37) (.tmp 39) rfl f _ rfl T4.out rfl Z.heap.size rfl rfl HLen.out ?_; intro v5 w5 t5 b5; obtain ⟨a5, k5', rfl⟩ := t5.shape3s; have T5 := Lib.hid t5; have B5 := Lib.hid b5; clear t5 b5) | (at_builtin; refine appN rfl (.tmp 41) (.tmp 43) rfl E _ rfl T5.out rfl w5.heap.size rfl rfl (by rw [List.length_map]; exact HLen.out) ?_; intro v6 w6 t6 b6; obtain ⟨a6, k6', rfl⟩ := t6.shape4s; have T6 := Lib.hid t6; have B6 := Lib.hid b6; clear t6 b6))
        have hBz : w.heap.size ≤ Z.heap.size := B4.out.size
        have q5 := (B4.out.alloc hBz _).trans B5.out
        have q6 := (q5.alloc q5.size _).trans B6.out
        have HQ6 := Lib.hid q6
        clear hBz q5 q6
        go_roundw
        case rel =>
          refine ⟨[] ++ [f], E, f.num, rfl, ?_, ?_, HQ6.out, .inr ⟨by omega, 0, f, rfl, rfl, rfl⟩, ?_, hE1, en4⟩
          · rw [HSc.out, HOn.out (fun h => absurd h (by omega)), List.append_assoc]; rfl
          · have := T6.out
            rw [List.map_append, List.map_cons, List.map_nil, ← HE.out]
            exact this
          · have hM := HM.out; rw [List.length_append]; show 18 * (0 + 1) ≤ E; omega
        case measure => simp only []; omega
      · have hm2 : M = m + 1 := by rw [HM.out, hm]
        obtain ⟨g, hg⟩ : ∃ g, ao = some ⟨g, 0, none⟩ := by
          rcases hT2.a.2 with ⟨hz, h0⟩ | ⟨g, cap, cur, hz, _⟩
          · omega
          · exact ⟨g, by cases hz; rfl⟩
        subst hg
        have cn := hT2.cellNum hf0
        rw [hn0] at cn
        have k1 : ((M : Int) - 1) = (m : Int) := by omega
        have k2 : (0 : Int) < (M : Int) := by omega
        have k3 : (m : Int) < (M : Int) := by omega
        have k5 : 0 < M := by omega
        have k6 : decide (0 < M) = true := decide_eq_true k5
        have k4 : (0 : Int) ≤ (m : Int) := by omega
        have kw : IntKind.i64.wrap ((M : Int) - 1) = (m : Int) := by rw [IntKind.wrap_i64]; omega
        have aw : IntKind.i64.wrap ((a : Int) + 1) = (a : Int) + 1 := by rw [IntKind.wrap_i64]; omega
        clear hm2 hm hT2 HL
        by_cases hn : f.num = a + 1
        · have hnb : ((f.num : Int) != (a : Int) + 1) = false := by simp; omega
          have HN := Lib.hid hn
          clear hn
          go_region
          simp only [Exit.then]
          have d0 : Y.drew.cell? ⟨w1.heap.size, 0, none⟩ = some (.int .i64 (f.kind : Int)) := c0
          have d1 : Y.drew.cell? ⟨w1.heap.size, 1, none⟩ = some (.int .i64 (f.num : Int)) := c1
          have d2 : Y.drew.cell? ⟨w1.heap.size, 2, none⟩ = some (.int .i64 (f.at' : Int)) := c2
          have d3 : Y.drew.cell? ⟨w1.heap.size, 3, none⟩ = some (.string (S f.body)) := c3
          have T4 := Lib.hid (HT2.out.on (Below.refl _ _).drew)
          have B4 := Lib.hid HB2.out.drew
          generalize Y.drew = Z at *
          clear c0 c1 c2 c3 HT2 HB2
          go_wp2_with (first | (at_builtin; refine appF rfl (.tmp 37) (.tmp 39) rfl f _ rfl T4.out rfl Z.heap.size rfl rfl HLen.out ?_; intro v5 w5 t5 b5; obtain ⟨a5, k5', rfl⟩ := t5.shape3s; have T5 := Lib.hid t5; have B5 := Lib.hid b5; clear t5 b5) | (at_builtin; refine appN rfl (.tmp 41) (.tmp 43) rfl E _ rfl T5.out rfl w5.heap.size rfl rfl (by rw [List.length_map]; exact HLen.out) ?_; intro v6 w6 t6 b6; obtain ⟨a6, k6', rfl⟩ := t6.shape4s; have T6 := Lib.hid t6; have B6 := Lib.hid b6; clear t6 b6))
          have hBz : w.heap.size ≤ Z.heap.size := B4.out.size
          have q5 := (B4.out.alloc hBz _).trans B5.out
          have q6 := (q5.alloc q5.size _).trans B6.out
          have HQ6 := Lib.hid q6
          clear hBz q5 q6
          go_roundw
          case rel =>
            refine ⟨F ++ [f], E, f.num, rfl, ?_, ?_, HQ6.out, .inr ⟨by omega, F.length, f, by simp, by simp, rfl⟩, ?_, hE1, en4⟩
            · rw [HSc.out, HOn.out (fun _ => HN.out), List.append_assoc]; rfl
            · have := T6.out
              rw [List.map_append, List.map_cons, List.map_nil, ← HE.out]
              rw [List.length_map] at this
              exact this
            · have hM := HM.out; rw [List.length_append]; show 18 * (F.length + 1) ≤ E; omega
          case measure => simp only []; omega
        · have hnb : ((f.num : Int) != (a : Int) + 1) = true := by simp; omega
          have HN := Lib.hid hn
          clear hn
          go_region
          simp only [Exit.then]
          go_wp2_with fail
          go_ret2
          refine ⟨_, _, rfl, ?_, HB2.out.drew⟩
          rw [HSc.out, HOff.out (fun h => HN.out (h hi0)), List.append_nil]
          exact HT2.out.on (Below.refl _ _).drew
    · have e1 : oneV (L s) i = frV 0 0 0 ⟨#[]⟩ := by unfold oneV; rw [if_neg hF]
      have e2 : oneN (L s) i = 0 := by unfold oneN; rw [if_neg hF]
      rw [e1, e2]
      have HF := Lib.hid hF
      have HB1 := Lib.hid hb1
      clear e1 e2 hF hb1
      unfold frV
      go_wp2_with fail
      go_region
      simp only [Exit.then]
      go_wp2_with fail
      go_ret2
      refine ⟨_, _, rfl, ?_, ((HB.out.trans (HB1.out.mono HB.out.size)).alloc (by have := HB.out.size; have := HB1.out.size; omega) _).drew⟩
      rw [HSc.out, scan_off (fun h => HF.out h.1), List.append_nil]
      exact ((HT.out.on HB1.out).on ((Below.refl _ _).alloc (Nat.le_refl _) _)).on (Below.refl _ _).drew
end Go.Proofs.Ytkdmicpfinjpgaa
