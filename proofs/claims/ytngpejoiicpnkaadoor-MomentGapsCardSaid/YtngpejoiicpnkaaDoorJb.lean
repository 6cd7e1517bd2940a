/- The statement MomentGaps: gap; plain: what a gap is. -/
import Derived.Test.YtngpejoiicpnkaaDoorJa
namespace Go.Proofs.YtngpejoiicpnkaaDoor
open Go.RowKit

/-- v is a list of texts, ss, in memory that was there. -/
def Strs (w : World) (v : Value) (ss : List ByteArray) : Prop :=
  (ss = [] ∧ ∃ ao cap, v = .slice ao 0 cap) ∨ ∃ b off cap, v = .slice (some ⟨b, off, none⟩) ss.length cap ∧ ss.length ≤ 140737488355328 ∧ b < w.heap.size ∧ ∀ i, i < ss.length → w.cell? ⟨b, off + i, none⟩ = some (.string (ss.getD i ByteArray.empty))
theorem Strs.on {w w' : World} {v : Value} {ss : List ByteArray} (h : Strs w v ss) (hb : Below w.heap.size w w') : Strs w' v ss := by
  rcases h with h | ⟨b, off, cap, rfl, h0, h1, h2⟩
  · exact .inl h
  · refine .inr ⟨b, off, cap, rfl, h0, Nat.lt_of_lt_of_le h1 hb.size, fun i hi => ?_⟩
    rw [hb.cell (p := ⟨b, off + i, none⟩) h1]
    exact h2 i hi
theorem Strs.onB {B : Nat} {w w' : World} {v : Value} {ss : List ByteArray} (h : Strs w v ss) (hb : Below B w w') (hB : w.heap.size ≤ B) : Strs w' v ss := h.on (hb.mono hB)
def gapT (g : List UInt8) : List UInt8 := if g.length % 4 = 0 then [13, 10, 9] else if g.length % 4 = 1 then [32, 40, 97, 32] ++ inL g ++ [41] else if g.length % 4 = 2 then inL g ++ inL [] else [32, 32, 9] ++ inL g ++ [32]
def gapL (ss : List ByteArray) (n : Nat) : List UInt8 := if ss.length ≤ n then [32] else gapT (L (ss.getD n ByteArray.empty))
theorem inL_len (l : List UInt8) : (inL l).length ≤ 402 := by
  unfold inL
  have := inB_len (l.take 200)
  have h2 : (l.take 200).length ≤ 200 := by rw [List.length_take]; omega
  simp only [List.length_cons, List.length_append, List.length_nil]
  omega
theorem gapT_len (l : List UInt8) : (gapT l).length ≤ 900 := by
  have h1 := inL_len l
  have h2 := inL_len []
  unfold gapT
  repeat' split
  all_goals simp only [List.length_cons, List.length_append, List.length_nil]
  all_goals omega
theorem gapL_len (ss : List ByteArray) (n : Nat) : (gapL ss n).length ≤ 900 := by
  unfold gapL
  split
  · simp
  · exact gapT_len _
theorem S_appJ (a b : List UInt8) : S a ++ S b = S (a ++ b) := by
  have h : (S a ++ S b).data = (S (a ++ b)).data := by simp [S]
  calc S a ++ S b = ⟨(S a ++ S b).data⟩ := rfl
    _ = S (a ++ b) := by rw [h]
set_option maxRecDepth 100000 in
set_option maxHeartbeats 4000000 in
theorem gap_any (v : Value) (ss : List ByteArray) (n : Nat) (w : World) (h : Strs w v ss) :
    Calls Tryd.prog 22 #[v, .int .i64 n] w fun e w' => e = .returned (.string (S (gapL ss n))) ∧ Below w.heap.size w w' := by
  rcases (by omega : ss.length ≤ n ∨ n < ss.length) with hle | hlt
  · have hG : gapL ss n = [32] := by unfold gapL; rw [if_pos hle]
    rw [hG]
    obtain ⟨ao, len, cap, rfl, hl⟩ : ∃ ao len cap, v = .slice ao len cap ∧ len ≤ n := by
      rcases h with ⟨h0, ao, cap, rfl⟩ | ⟨b, off, cap, rfl, _⟩
      · exact ⟨_, _, _, rfl, Nat.zero_le _⟩
      · exact ⟨_, _, _, rfl, hle⟩
    clear h hG hle
    go_enter Tryd.func22, Tryd.ntmps22
    go_wp2
    go_ret
    exact ⟨rfl, Below.refl _ _⟩
  · have hG : gapL ss n = gapT (L (ss.getD n ByteArray.empty)) := by unfold gapL; rw [if_neg (by omega)]
    rw [hG]
    obtain ⟨b, off, cap, len, rfl, h0, hb, hl, hc⟩ : ∃ b off cap len, v = .slice (some ⟨b, off, none⟩) len cap ∧ len ≤ 140737488355328 ∧ b < w.heap.size ∧ n < len ∧ w.cell? ⟨b, off + n, none⟩ = some (.string (ss.getD n ByteArray.empty)) := by
      rcases h with ⟨h0, _⟩ | ⟨b, off, cap, rfl, h0, h1, h2⟩
      · subst h0; simp at hlt
      · exact ⟨_, _, _, _, rfl, h0, h1, hlt, h2 n hlt⟩
    generalize ss.getD n ByteArray.empty = g at *
    have HI := Lib.hid (fun W => inside_any g W)
    have HI0 := Lib.hid (fun W => inside_any ⟨#[]⟩ W)
    have z1 : (S (inL (L g))).size ≤ 402 := by rw [S_size]; exact inL_len _
    have z2 : (S (inL (L ⟨#[]⟩))).size ≤ 402 := by rw [S_size]; exact inL_len _
    have HT : Hid (gapT (L g) = if g.size % 4 = 0 then [13, 10, 9] else if g.size % 4 = 1 then [32, 40, 97, 32] ++ inL (L g) ++ [41] else if g.size % 4 = 2 then inL (L g) ++ inL [] else [32, 32, 9] ++ inL (L g) ++ [32]) := Lib.hid rfl
    have q : Int.tmod (g.size : Int) 4 = ((g.size % 4 : Nat) : Int) := by rw [Int.tmod_eq_emod_of_nonneg (by omega)]; omega
    have ql : g.size % 4 < 4 := by omega
    have A1 : Hid ((⟨#[32, 40, 97, 32]⟩ : ByteArray) ++ S (inL (L g)) ++ ⟨#[41]⟩ = S ([32, 40, 97, 32] ++ inL (L g) ++ [41])) := Lib.hid (by rw [← S_appJ, ← S_appJ]; rfl)
    have A2 : Hid (S (inL (L g)) ++ S (inL (L ⟨#[]⟩)) = S (inL (L g) ++ inL [])) := Lib.hid (by rw [S_appJ]; rfl)
    have A3 : Hid ((⟨#[32, 32, 9]⟩ : ByteArray) ++ S (inL (L g)) ++ ⟨#[32]⟩ = S ([32, 32, 9] ++ inL (L g) ++ [32])) := Lib.hid (by rw [← S_appJ, ← S_appJ]; rfl)
    generalize gapT (L g) = T at *
    generalize S (inL (L g)) = X at *
    generalize S (inL (L ⟨#[]⟩)) = X0 at *
    generalize g.size % 4 = m at *
    clear h hG hlt
    rcases (by omega : m = 0 ∨ m = 1 ∨ m = 2 ∨ m = 3) with rfl | rfl | rfl | rfl
    · go_enter Tryd.func22, Tryd.ntmps22
      go_wp2
      go_ret
      exact ⟨ret_str (by rw [HT.out]; rfl), Below.refl _ _⟩
    · go_enter Tryd.func22, Tryd.ntmps22
      go_wp2_with fail
      refine (HI.out _).mono ?_
      rintro e w1 ⟨rfl, hb1⟩
      go_wp2
      go_ret
      exact ⟨ret_str (by rw [HT.out]; exact A1.out), hb1⟩
    · go_enter Tryd.func22, Tryd.ntmps22
      go_wp2_with fail
      refine (HI.out _).mono ?_
      rintro e w1 ⟨rfl, hb1⟩
      go_wp2_with fail
      refine (HI0.out _).mono ?_
      rintro e w2 ⟨rfl, hb2⟩
      go_wp2
      go_ret
      exact ⟨ret_str (by rw [HT.out]; exact A2.out), hb1.trans (hb2.mono hb1.size)⟩
    · go_enter Tryd.func22, Tryd.ntmps22
      go_wp2_with fail
      refine (HI.out _).mono ?_
      rintro e w1 ⟨rfl, hb1⟩
      go_wp2
      go_ret
      exact ⟨ret_str (by rw [HT.out]; exact A3.out), hb1⟩

/-- Blanks and comments that are whole. -/
structure Gap (g : List UInt8) : Prop where
  sk : ∀ r, skD (g ++ r) 0 false = g.length + skD r 0 false
  hd : ∃ c q, g = c :: q ∧ isDig c = false ∧ isLet c = false
theorem Gap.stp {g : List UInt8} (h : Gap g) (r : List UInt8) : stp (g ++ r) = stp r := by
  unfold Go.Proofs.YtngpejoiicpnkaaDoor.stp
  rw [h.sk r, List.drop_append, List.drop_eq_nil_of_le (by omega), List.nil_append, Nat.add_sub_cancel_left]
theorem sk_i1 (c : UInt8) (r : List UInt8) (d : Nat) : skD (i1 c ++ r) (d + 1) false = (i1 c).length + skD r (d + 1) false := by
  unfold i1
  cases hb : brk c with
  | true =>
    simp only [if_true, List.cons_append, List.nil_append, List.length_cons, List.length_nil]
    rw [skD, if_neg (by decide), if_pos (by omega), if_neg (by decide), if_pos rfl, skD]
    omega
  | false =>
    simp only [Bool.false_eq_true, if_false, List.cons_append, List.nil_append, List.length_cons, List.length_nil]
    unfold brk at hb
    simp at hb
    rw [skD, if_neg hb.1.1, if_pos (by omega), if_neg hb.1.2, if_neg hb.2]
theorem sk_inB (l : List UInt8) (r : List UInt8) (d : Nat) : skD (inB l ++ r) (d + 1) false = (inB l).length + skD r (d + 1) false := by
  induction l with
  | nil => simp [inB]
  | cons c l ih =>
    have : inB (c :: l) = i1 c ++ inB l := by unfold inB; rw [List.flatMap_cons]
    rw [this, List.append_assoc, sk_i1, ih, List.length_append]
    omega
theorem sk_inL (l : List UInt8) (r : List UInt8) (d : Nat) : skD (inL l ++ r) d false = (inL l).length + skD r d false := by
  unfold inL
  have e : (40 :: (inB (l.take 200) ++ [41])) ++ r = 40 :: (inB (l.take 200) ++ (41 :: r)) := by simp
  rw [e, skD, if_pos rfl, sk_inB, skD, if_neg (by decide), if_pos (by omega), if_pos rfl]
  simp only [List.length_cons, List.length_append, List.length_nil, Nat.add_sub_cancel]
  omega
theorem sk_blankJ (c : UInt8) (r : List UInt8) (hc : blankB c = true) (h : c ≠ 40) : skD (c :: r) 0 false = 1 + skD r 0 false := by
  rw [skD, if_neg h, if_neg (by omega), if_pos hc]
theorem gapL_gap (ss : List ByteArray) (n : Nat) : Gap (gapL ss n) := by
  unfold gapL
  split
  · exact ⟨fun r => by show skD (32 :: r) 0 false = _; rw [sk_blankJ 32 r (by decide) (by decide)]; rfl, ⟨32, [], rfl, by decide, by decide⟩⟩
  · generalize L (ss.getD n ByteArray.empty) = g
    unfold gapT
    split
    · refine ⟨fun r => ?_, ⟨13, _, rfl, by decide, by decide⟩⟩
      show skD (13 :: 10 :: 9 :: r) 0 false = _
      rw [sk_blankJ 13 _ (by decide) (by decide), sk_blankJ 10 _ (by decide) (by decide), sk_blankJ 9 _ (by decide) (by decide)]
      simp only [List.length_cons, List.length_nil]; omega
    · split
      · refine ⟨fun r => ?_, ⟨32, _, rfl, by decide, by decide⟩⟩
        have e : ([32, 40, 97, 32] ++ inL g ++ [41]) ++ r = 32 :: 40 :: 97 :: 32 :: (inL g ++ (41 :: r)) := by simp
        rw [e, sk_blankJ 32 _ (by decide) (by decide), skD, if_pos rfl, skD, if_neg (by decide), if_pos (by omega), if_neg (by decide), if_neg (by decide), skD, if_neg (by decide), if_pos (by omega), if_neg (by decide), if_neg (by decide), sk_inL, skD, if_neg (by decide), if_pos (by omega), if_pos rfl]
        simp only [List.length_cons, List.length_append, List.length_nil, Nat.zero_add, Nat.sub_self]; omega
      · split
        · refine ⟨fun r => ?_, ⟨40, _, rfl, by decide, by decide⟩⟩
          rw [List.append_assoc, sk_inL, sk_inL, List.length_append]; omega
        · refine ⟨fun r => ?_, ⟨32, _, rfl, by decide, by decide⟩⟩
          have e : ([32, 32, 9] ++ inL g ++ [32]) ++ r = 32 :: 32 :: 9 :: (inL g ++ (32 :: r)) := by simp
          rw [e, sk_blankJ 32 _ (by decide) (by decide), sk_blankJ 32 _ (by decide) (by decide), sk_blankJ 9 _ (by decide) (by decide), sk_inL, sk_blankJ 32 _ (by decide) (by decide)]
          simp only [List.length_cons, List.length_append, List.length_nil]; omega
end Go.Proofs.YtngpejoiicpnkaaDoor
