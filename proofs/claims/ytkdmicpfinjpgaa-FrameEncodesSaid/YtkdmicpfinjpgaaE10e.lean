/- The statement FrameEncodes: the walk. -/
import Derived.Test.YtkdmicpfinjpgaaE10b
import Derived.Test.YtkdmicpfinjpgaaE10d
import Derived.BigQuiet
namespace Go.Proofs.Ytkdmicpfinjpgaa
open Go.RowKit

structure AskQ where
  k : Int
  n : Int
  s : ByteArray
  m : Int
  z : Int
def askQ0 : AskQ := ⟨0, 0, ByteArray.empty, 0, 0⟩
structure AskAt (w : World) (b o : Nat) (q : AskQ) : Prop where
  c0 : w.cell? ⟨b, o, none⟩ = some (.int .i64 q.k)
  c1 : w.cell? ⟨b, o + 1, none⟩ = some (.int .i64 q.n)
  c2 : w.cell? ⟨b, o + 2, none⟩ = some (.string q.s)
  c3 : w.cell? ⟨b, o + 3, none⟩ = some (.int .i64 q.m)
  c4 : w.cell? ⟨b, o + 4, none⟩ = some (.int .i64 q.z)
theorem AskAt.on {w X : World} {b o : Nat} {q : AskQ} (h : AskAt w b o q) (hl : b < w.heap.size) (hb : Below w.heap.size w X) : AskAt X b o q :=
  ⟨by rw [hb.cell (p := ⟨b, o, none⟩) hl]; exact h.c0, by rw [hb.cell (p := ⟨b, o + 1, none⟩) hl]; exact h.c1, by rw [hb.cell (p := ⟨b, o + 2, none⟩) hl]; exact h.c2, by rw [hb.cell (p := ⟨b, o + 3, none⟩) hl]; exact h.c3, by rw [hb.cell (p := ⟨b, o + 4, none⟩) hl]; exact h.c4⟩
def Asks (w : World) (v : Value) (A : List AskQ) : Prop :=
  ∃ ao cap, v = .slice ao A.length cap ∧ (0 < A.length → ∃ b off, ao = some ⟨b, off, none⟩ ∧ b < w.heap.size ∧ ∀ i, i < A.length → AskAt w b (off + i * 5) (A.getD i askQ0))
set_option maxRecDepth 100000 in
set_option maxHeartbeats 2000000 in
theorem FrameEncodes_walk (v : Value) (A : List AskQ) (w : World) (hA : Asks w v A) (hl : A.length ≤ 10000000000000) (hz : ∀ i, i < A.length → (A.getD i askQ0).s.size ≤ 140737488355328) :
    Calls Try.prog 3 #[v] w fun e w' => e = .returned (.bool true) ∧ Below w.heap.size w w' := by
  obtain ⟨ao, cap, hv, hc⟩ := hA
  subst hv
  have HC := Lib.hid hc
  have HZ := Lib.hid hz
  clear hc hz
  by_cases h40 : 40 < A.length
  · have h40i : (40 : Int) < (A.length : Int) := by omega
    go_enter Try.func3, Try.ntmps3
    go_wp2
    go_ret
    exact ⟨rfl, Below.refl _ _⟩
  have h40i : ¬ (40 : Int) < (A.length : Int) := by omega
  go_enter Try.func3, Try.ntmps3
  go_wp2
  go_loopw [3, 4] (fun n i wr => ∃ (j m : Nat), j ≤ A.length ∧ i = .int .i64 (j : Nat) ∧ n = .int .i64 (m : Nat) ∧ m ≤ 4195304 ∧ Below w.heap.size w wr ∧ Hid (∀ t, t < j → (A.getD t askQ0).s.size ≤ 4195304)) (fun _ i _ => A.length - (intOf i).toNat)
  case atStart => exact ⟨0, 0, Nat.zero_le _, rfl, rfl, by omega, Below.refl _ _, Lib.hid (fun t ht => by omega)⟩
  case round =>
    obtain ⟨j, m, hj, rfl, rfl, hm, hb, HM⟩ := hrel
    by_cases hlt : j < A.length
    · have hltz : (j : Int) < (A.length : Int) := by omega
      obtain ⟨b, off, hao, hbl, hat⟩ := HC.out (by omega)
      subst hao
      have hq := (hat j hlt).on hbl hb
      have hzj := HZ.out j hlt
      have HN : Hid ((A.getD j askQ0).s.size ≤ 4195304 → ∀ t, t < j + 1 → (A.getD t askQ0).s.size ≤ 4195304) := Lib.hid (fun h t ht => by
        rcases Nat.lt_or_ge t j with h1 | h1
        · exact HM.out t h1
        · have : t = j := by omega
          subst this; exact h)
      have HB := Lib.hid hb
      clear hat hb HM
      generalize A.getD j askQ0 = q at *
      obtain ⟨q0, q1, q2, q3, q4⟩ := hq
      by_cases hbig : 4195304 < q.s.size
      · have hbi : (4195304 : Int) < (q.s.size : Int) := by omega
        go_wp2
        go_ret
        exact ⟨rfl, HB.out⟩
      · have hbi : ¬ (4195304 : Int) < (q.s.size : Int) := by omega
        have HBd := Lib.hid (fun W => body_any q.k q.n q.s q.m q.z W (by omega))
        go_wp2_with (go_at_call 5; refine (HBd.out _).mono ?_; rintro e w3 ⟨bb, rfl, hbb, hb3⟩)
        · go_ret
          exact ⟨rfl, HB.out.trans (hb3.mono HB.out.size)⟩
        · refine ⟨⟨j + 1, m + bb.size, by omega, by go_num, by go_num, by omega, HB.out.trans (hb3.mono HB.out.size), Lib.hid (HN.out (by omega))⟩, ?_⟩
          simp [intOf]; omega
    · obtain rfl : j = A.length := by omega
      have HB := Lib.hid hb
      clear hb HZ
      go_wp2_with fail
      go_loopw [5] (fun i wr => ∃ k : Nat, k ≤ 2 * A.length ∧ i = .int .i64 k ∧ Below w.heap.size w wr) (fun i _ => 2 * A.length - (intOf i).toNat)
      case atStart => exact ⟨0, Nat.zero_le _, rfl, HB.out⟩
      case round =>
        obtain ⟨j, hj2, rfl, hb⟩ := hrel
        by_cases hd : j < 2 * A.length
        · have ht := turnN_lt j A.length hd
          obtain ⟨b, off, hao, hbl, hat⟩ := HC.out (by omega)
          subst hao
          have hq := (hat _ ht).on hbl hb
          have hzs := HM.out _ ht
          have hdi : (j : Int) < 2 * (A.length : Int) := by omega
          have hti : (turnN j A.length : Int) < (A.length : Int) := by omega
          generalize A.getD (turnN j A.length) askQ0 = q at *
          have HT := Lib.hid (fun w => turn_any j A.length w hd (by omega))
          generalize turnN j A.length = t at *
          have HB1 := Lib.hid hb
          clear hb hat
          obtain ⟨q0, q1, q2, q3, q4⟩ := hq
          have HBd := Lib.hid (fun W => body_any q.k q.n q.s q.m q.z W hzs)
          go_wp2_with (first | (go_at_call 6; with_reducible refine (HT.out _).mono ?_; rintro e w3 ⟨rfl, rfl⟩) | (go_at_call 5; refine (HBd.out _).mono ?_; rintro e w4 ⟨bb, rfl, hbb, hb4⟩; have g4 := keepsA hb4; have g40 := cell_of_row _ _ 0 _ _ _ g4; have g41 := cell_of_row _ _ 1 _ _ _ g4; have g44 := cell_of_row _ _ 4 _ _ _ g4; simp at g40 g41 g44) | (go_at_call 7; refine (refEncode_any _ _ _ _).mono ?_; rintro e w5 ⟨rfl, hb5⟩; have g5 := keeps hb5 g4; have g50 := cell_of_row _ _ 0 _ _ _ g5; have g51 := cell_of_row _ _ 1 _ _ _ g5; have g54 := cell_of_row _ _ 4 _ _ _ g5; simp at g50 g51 g54) | (go_at_call 8; refine (Encode_any _ _ _ _ (by omega)).mono ?_; rintro e w6 ⟨rfl, hb6⟩; have g6 := keeps hb6 g5; have g64 := cell_of_row _ _ 4 _ _ _ g6; simp at g64))
          have HNu : Hid (∀ W : World, Calls Try.prog 9 #[.int .i64 (encE q.k q.n (L bb))] W fun e w' => e = .returned (.int .i64 (encE q.k q.n (L bb))) ∧ w' = W) := Lib.hid (fun W => (num_any (encE q.k q.n (L bb)) W).mono (fun e w' h => ⟨h.1, h.2.symm⟩))
          have HS1 := Lib.hid (fun W => Size_any q.z W)
          have HS2 := Lib.hid (fun W => refSize_any q.z W)
          have HS3 := Lib.hid (fun W => Size_any (bb.size : Int) W)
          have HS4 := Lib.hid (fun W => refSize_any (bb.size : Int) W)
          have HB6 : Hid (Below w.heap.size w w6) := Lib.hid (by
            have r1 := HB1.out.alloc HB1.out.size (.cells #[.int .i64 q.k, .int .i64 q.n, .string q.s, .int .i64 q.m, .int .i64 q.z] 24)
            have r2 := r1.trans (hb4.mono r1.size)
            have r3 := r2.trans (hb5.mono r2.size)
            exact r3.trans (hb6.mono r3.size))
          generalize encE q.k q.n (L bb) = ee at *
          generalize encS q.k q.n (L bb) = es at *
          generalize hY1 : (if 0 ≤ q.z ∧ q.z ≤ 2097152 then q.z + 18 else 0 : Int) = y1 at *
          generalize hY2 : (if 0 ≤ (bb.size : Int) ∧ (bb.size : Int) ≤ 2097152 then (bb.size : Int) + 18 else 0 : Int) = y2 at *
          clear hb4 hb5 hb6 g4 g5 g6 g40 g41 g44 g50 g51 g54 hY1 hY2
          go_big_quiet (first | (go_at_call 9; with_reducible exact Calls.quiet_of_same (HNu.out _)) | (go_at_call 10; first | with_reducible exact Calls.quiet_of_same (HS1.out _) | with_reducible exact Calls.quiet_of_same (HS3.out _)) | (go_at_call 11; first | with_reducible exact Calls.quiet_of_same (HS2.out _) | with_reducible exact Calls.quiet_of_same (HS4.out _)))
          go_wp2
          go_roundw
          case rel => first | exact ⟨j + 1, by omega, by go_num, HB6.out⟩ | exact ⟨j + 1, by omega, by go_num, below_drewN HB6.out nq⟩
          case measure => simp [intOf]; omega
        · have hdi : ¬ (j : Int) < 2 * (A.length : Int) := by omega
          have HB1 := Lib.hid hb
          clear hb
          go_wp2_with fail
          refine (known_any _).mono ?_
          rintro e w2 ⟨rfl, hb2⟩
          go_wp2_with fail
          go_ret
          exact ⟨rfl, HB1.out.trans (hb2.mono HB1.out.size)⟩
end Go.Proofs.Ytkdmicpfinjpgaa
