/- store: Match. -/
import Derived.Test.YtedegnngdlkbhaaS12f
import Derived.Test.YtedegnngdlkbhaaPa
import Derived.Test.YtedegnngdlkbhaaSh
namespace Go.Proofs.Ytedegnngdlkbhaa
open Go.RowKit

def INB : List UInt8 := [73, 78, 66, 79, 88]
def isInb (l : List UInt8) : Bool := l == INB || Lib.hasPrefix l (INB ++ [47])
def foldN (l : List UInt8) : Nat := if isInb l then 5 else 0
def oth (l : List UInt8) (i : Nat) : UInt8 := if i < foldN l then sm (bt l i) else bt l i
/-- A name's bytes, each with the one that the pattern may have in its place. -/
def prs (l : List UInt8) : List (UInt8 × UInt8) := (List.range l.length).map (fun i => (bt l i, oth l i))
theorem prs_length (l : List UInt8) : (prs l).length = l.length := by simp [prs]
theorem prs_drop (l : List UInt8) (k : Nat) (h : k < l.length) : (prs l).drop k = (bt l k, oth l k) :: (prs l).drop (k + 1) := by
  rw [List.drop_eq_getElem_cons (by rw [prs_length]; exact h)]
  simp [prs]
theorem count_letters (l : List UInt8) : (ltr l).length + l.count 42 + l.count 37 = l.length := by
  induction l with
  | nil => rfl
  | cons a l ih =>
    rw [List.count_cons, List.count_cons, List.length_cons]
    by_cases h1 : a = 42
    · subst h1
      have e : ltr (42 :: l) = ltr l := by simp [ltr, isW]
      rw [e]; simp; omega
    · by_cases h2 : a = 37
      · subst h2
        have e : ltr (37 :: l) = ltr l := by simp [ltr, isW]
        rw [e]; simp; omega
      · have e : ltr (a :: l) = a :: ltr l := by simp [ltr, isW, h1, h2]
        have h1' : (a == 42) = false := by simpa using h1
        have h2' : (a == 37) = false := by simpa using h2
        rw [e, h1', h2']; simp; omega
theorem fm_short (p : List UInt8) (s : List (UInt8 × UInt8)) (j : Nat) (h : fm p j s = true) : (ltr p).length ≤ j + s.length := by
  induction s generalizing j with
  | nil => simp [fm] at h; omega
  | cons x s ih =>
    simp only [fm, Bool.or_eq_true, Bool.and_eq_true] at h
    rw [List.length_cons]
    rcases h with ⟨_, h⟩ | ⟨_, h⟩
    · have := ih j h; omega
    · have := ih (j + 1) h; omega

set_option maxHeartbeats 400000 in
theorem isBelow_any (s : ByteArray) (w : World) :
    Calls Try.prog 9 #[.string s, .string ⟨#[73, 78, 66, 79, 88]⟩] w fun e w' => e = .returned (.bool (Lib.hasPrefix (L s) (INB ++ [47]))) ∧ w' = w := by
  have HH : Hid (∀ W, Calls Try.prog 19 #[.string s, .string ⟨#[73, 78, 66, 79, 88, 47]⟩] W fun e w' => e = .returned (.bool (Lib.hasPrefix (L s) (INB ++ [47]))) ∧ w' = W) := Lib.hid (fun W => Try.strings_HasPrefix s ⟨#[73, 78, 66, 79, 88, 47]⟩ W)
  go_enter Try.func9, Try.ntmps9
  go_wp2_with (go_at_call 19; refine (HH.out _).mono ?_; rintro e w' ⟨rfl, rfl⟩)
  go_ret
  exact ⟨rfl, rfl⟩

theorem Wk.on {w w' : World} {P T Bp Ba n : Nat} {ah : Nat → Option Nat} {p : List UInt8} {f : Nat → Bool} {fr tt : Nat} (h : Wk w P T Bp Ba n ah p f fr tt) (hn : 0 < n) (hb : Below w.heap.size w w') : Wk w' P T Bp Ba n ah p f fr tt := by
  have lt : ∀ B g, PlR w B n g → B < w.heap.size := fun B g hB => World.block_lt_of_cell? _ _ (hB.cells 0 hn)
  have lP : P < w.heap.size := World.block_lt_of_cell? _ _ h.blk.c256
  have e : ∀ b, b < w.heap.size → w'.heap[b]? = w.heap[b]? := hb.block
  exact ⟨h.blk.same (e _ lP), h.pas.same (e _ (lt _ _ h.pas)), h.any.same (e _ (lt _ _ h.any)), h.att.same (e _ (lt _ _ h.att)), fun c hc B hB => ⟨(h.ahs c hc B hB).1.same (e _ (lt _ _ (h.ahs c hc B hB).1)), (h.ahs c hc B hB).2⟩, h.ahn, h.d1, h.d2, h.d3, h.d4, h.d5⟩

theorem lower_one (s : ByteArray) (k : Nat) (hk : k < s.size) (W : World) :
    Calls Try.prog 11 #[.string (s.extract k (k + 1))] W fun e w' => e = .returned (.string ⟨#[sm (bt (L s) k)]⟩) ∧ Below W.heap.size W w' := by
  have e : L (s.extract k (k + 1)) = [bt (L s) k] := by
    have h := Lib.extract_data s k (k + 1)
    show (s.extract k (k + 1)).data.toList = _
    rw [h, show k + 1 - k = 1 by omega, bt_getElem (L s) k hk, List.drop_eq_getElem_cons (by exact hk), List.take_succ_cons, List.take_zero]; rfl
  have h := Lower_any (s.extract k (k + 1)) W (by rw [ByteArray.size_extract]; unfold maxLen; omega)
  rw [e] at h
  exact h

set_option maxHeartbeats 1000000 in
set_option maxRecDepth 100000 in
theorem Match_any (p s : ByteArray) (w : World) (hp : p.size ≤ 1099511627776) (hs : s.size ≤ 1099511627776) :
    Calls Try.prog 6 #[.string p, .string s] w fun e w' => e = .returned (.bool (fm (L p) 0 (prs (L s)))) ∧ Below w.heap.size w w' := by
  have hcl := count_letters (L p)
  have HC1 := Lib.hid (fun W => Try.strings_Count_one p 42 W)
  have HC2 := Lib.hid (fun W => Try.strings_Count_one p 37 W)
  have hc1 : Lib.countByte p.data.toList 42 = (L p).count 42 := rfl
  have hc2 : Lib.countByte p.data.toList 37 = (L p).count 37 := rfl
  rw [hc1] at HC1
  rw [hc2] at HC2
  clear hc1 hc2
  obtain ⟨m, hm⟩ : ∃ m, m = (ltr (L p)).length := ⟨_, rfl⟩
  rw [← hm, L_length] at hcl
  generalize (L p).count 42 = a at *
  generalize (L p).count 37 = b at *
  have e1 : (p.size : Int) - (a : Int) - (b : Int) = (m : Int) := by omega
  have HM := Lib.hid hm
  clear hm
  by_cases hlen : m ≤ s.size
  · have hgt : ¬ (m : Int) > (s.size : Int) := by omega
    have hgt' : ¬ (s.size : Int) < (m : Int) := by omega
    obtain ⟨n, hn⟩ : ∃ n, n = m / 64 + 1 := ⟨_, rfl⟩
    have HBe := Lib.hid (fun W => begun_any p m n W hn (by omega) HM.out hp)
    have HN := Lib.hid hn
    clear hn
    have HI := Lib.hid (fun W => isBelow_any s W)
    clear hcl
    by_cases hq : s.toList == [73, 78, 66, 79, 88]
    · have hF : foldN (L s) = 5 := by
        rw [toList_L] at hq
        unfold foldN isInb INB; rw [hq]; rfl
      have HF := Lib.hid hF
      clear hF
      go_enter Try.func6, Try.ntmps6
      go_upto_region 7 with (first | (go_at_call 8; first | (with_reducible refine (HC1.out _).mono ?_; rintro e w' ⟨rfl, hw'⟩; rw [hw']; clear hw' w') | (with_reducible refine (HC2.out _).mono ?_; rintro e w' ⟨rfl, hw'⟩; rw [hw']; clear hw' w')) | (go_at_call 9; refine (HI.out _).mono ?_; rintro e w' ⟨rfl, hw'⟩; rw [hw']; clear hw' w'))
      go_wp2_with fail
      refine (HBe.out _).mono ?_
      rintro e w1 ⟨P, T, Bp, Ba, ah, rfl, hb1, hP, hT, hw1⟩
      have HB1 := Lib.hid hb1
      have HW1 := Lib.hid hw1
      clear hb1 hw1
      go_wp2_with fail
      go_loopw [33] (fun iv wr => ∃ (k fr tt : Nat) (f : Nat → Bool), k ≤ s.size ∧ iv = .int .i64 (k : Int) ∧ Wk wr P T Bp Ba n ah (L p) f fr tt ∧ fr ≤ tt ∧ tt < n ∧ (∀ j, 64 * (tt + 1) ≤ j → f j = false) ∧ ((∃ j, 64 * fr ≤ j ∧ f j = true ∧ fm (L p) j ((prs (L s)).drop k) = true) ↔ fm (L p) 0 (prs (L s)) = true) ∧ Below w.heap.size w wr) (fun iv _ => s.size - (intOf iv).toNat)
      case atStart =>
        refine ⟨0, 0, 0, fun j => j == 0, Nat.zero_le _, rfl, HW1.out, Nat.le_refl _, by have := HN.out; omega, fun j hj => by rw [beq_eq_false_iff_ne]; omega, ?_, HB1.out⟩
        rw [List.drop_zero]
        constructor
        · rintro ⟨j, _, h2, h3⟩
          have : j = 0 := by simpa using h2
          subst this; exact h3
        · intro h; exact ⟨0, by omega, rfl, h⟩
      case round =>
        clear HB1 HW1
        obtain ⟨k, fr, tt, f, hk, rfl, hw, hft, htn, hz, hiff, hb⟩ := hrel
        have HW := Lib.hid hw
        have HZ := Lib.hid hz
        have HIF := Lib.hid hiff
        have HB := Lib.hid hb
        have c258 := hw.blk.c258
        simp only [sl] at c258
        clear hz hiff hb hw
        by_cases hlt : k < s.size
        · have ea := get_bt s k hlt
          have HPD := Lib.hid (prs_drop (L s) k hlt)
          have HStep := Lib.hid (fun X fr1 (hX : Wk X P T Bp Ba n ah (L p) f fr1 tt) (hfr : fr1 ≤ tt) c o => step_any (B0 := w.heap.size) hX hP hT (by rw [HN.out, HM.out]) (by have := HN.out; omega) hfr htn HZ.out c o)
          have hc8 := bt_lt (L s) k
          by_cases hk5 : (k : Int) < 5
          · have HO : Hid (oth (L s) k = sm (bt (L s) k)) := Lib.hid (by unfold oth; rw [HF.out]; rw [if_pos (by omega)])
            have HL : Hid (∀ W, Calls Try.prog 11 #[.string (s.extract k (k + 1))] W fun e w' => e = .returned (.string ⟨#[sm (bt (L s) k)]⟩) ∧ Below W.heap.size W w') := Lib.hid (fun W => lower_one s k hlt W)
            have hk1 : (k : Int) + 1 ≤ (s.size : Int) := by omega
            go_wp2_with fail
            refine (HL.out _).mono ?_
            rintro e w2 ⟨rfl, hb2⟩
            have HW2 := Lib.hid (HW.out.on (by omega) hb2)
            have HB2 := Lib.hid (HB.out.trans (hb2.mono HB.out.size))
            clear hb2 c258
            go_wp2_with fail
            refine (HStep.out _ fr HW2.out hft (bt (L s) k) (sm (bt (L s) k))).mono ?_
            rintro e w3 ⟨rfl, hb3, fr', tt', k1, k2, k3, k4, k5, k6⟩
            have ho := HO.out
            have hrel2 : (∃ j, 64 * fr' ≤ j ∧ stp (L p) (bt (L s) k) (sm (bt (L s) k)) (64 * fr) f j = true ∧ fm (L p) j ((prs (L s)).drop (k + 1)) = true) ↔ fm (L p) 0 (prs (L s)) = true := by
              have h1 := HIF.out
              rw [HPD.out, ho] at h1
              rw [← h1]
              exact (stp_step (L p) _ _ _ (64 * fr) (64 * fr') f (by omega) k6).symm
            have HR := Lib.hid (And.intro k1 (And.intro k3 (And.intro k4 (And.intro k5 (And.intro hrel2 (HB2.out.trans hb3))))))
            clear k1 k2 k3 k4 k5 k6 hrel2 hb3
            go_wp2
            go_roundw
            case rel => exact ⟨k + 1, fr', tt', _, by omega, by push_cast; rfl, HR.out.1, HR.out.2.1, HR.out.2.2.1, HR.out.2.2.2.1, HR.out.2.2.2.2.1, HR.out.2.2.2.2.2⟩
            case measure => simp [intOf]; omega
          · have HO : Hid (oth (L s) k = bt (L s) k) := Lib.hid (by unfold oth; rw [HF.out]; rw [if_neg (by omega)])
            go_wp2_with fail
            refine (HStep.out _ fr HW.out hft (bt (L s) k) (bt (L s) k)).mono ?_
            rintro e w3 ⟨rfl, hb3, fr', tt', k1, k2, k3, k4, k5, k6⟩
            have ho := HO.out
            have hrel2 : (∃ j, 64 * fr' ≤ j ∧ stp (L p) (bt (L s) k) (bt (L s) k) (64 * fr) f j = true ∧ fm (L p) j ((prs (L s)).drop (k + 1)) = true) ↔ fm (L p) 0 (prs (L s)) = true := by
              have h1 := HIF.out
              rw [HPD.out, ho] at h1
              rw [← h1]
              exact (stp_step (L p) _ _ _ (64 * fr) (64 * fr') f (by omega) k6).symm
            have HR := Lib.hid (And.intro k1 (And.intro k3 (And.intro k4 (And.intro k5 (And.intro hrel2 (HB.out.trans hb3))))))
            clear k1 k2 k3 k4 k5 k6 hrel2 hb3
            go_wp2
            go_roundw
            case rel => exact ⟨k + 1, fr', tt', _, by omega, by push_cast; rfl, HR.out.1, HR.out.2.1, HR.out.2.2.1, HR.out.2.2.2.1, HR.out.2.2.2.2.1, HR.out.2.2.2.2.2⟩
            case measure => simp [intOf]; omega
        · have hke : k = s.size := by omega
          have HKE := Lib.hid hke
          clear hke
          have hmn : m / 64 < n := by have := HN.out; omega
          have HH := Lib.hid (has_any T n n m f wr HW.out.att hmn (by omega))
          have hfin : fm (L p) 0 (prs (L s)) = f m := by
            have h1 := HIF.out
            rw [HKE.out, List.drop_eq_nil_of_le (by rw [prs_length, L_length]; omega)] at h1
            rw [Bool.eq_iff_iff, ← h1]
            constructor
            · rintro ⟨j, _, h2, h3⟩
              have : j = m := by simpa [fm, ← HM.out] using h3
              subst this; exact h2
            · intro h2
              refine ⟨m, ?_, h2, by simp [fm, ← HM.out]⟩
              have := HN.out; omega
          have HB2 := HB
          have HFIN := Lib.hid hfin
          clear hfin
          go_wp2_with (go_at_call 13; refine HH.out.mono ?_; rintro e w' ⟨rfl, rfl⟩)
          go_ret
          exact ⟨by rw [HFIN.out]; rfl, HB2.out⟩
    · have hq' : (s.toList == [73, 78, 66, 79, 88]) = false := by simpa using hq
      clear hq
      cases hpre : Lib.hasPrefix (L s) (INB ++ [47]) with
      | true =>
        rw [hpre] at HI
        have hF : foldN (L s) = 5 := by
          unfold foldN isInb; rw [hpre, Bool.or_true]; rfl
        have HF := Lib.hid hF
        clear hF
        go_enter Try.func6, Try.ntmps6
        go_upto_region 7 with (first | (go_at_call 8; first | (with_reducible refine (HC1.out _).mono ?_; rintro e w' ⟨rfl, hw'⟩; rw [hw']; clear hw' w') | (with_reducible refine (HC2.out _).mono ?_; rintro e w' ⟨rfl, hw'⟩; rw [hw']; clear hw' w')) | (go_at_call 9; refine (HI.out _).mono ?_; rintro e w' ⟨rfl, hw'⟩; rw [hw']; clear hw' w'))
        go_wp2_with fail
        refine (HBe.out _).mono ?_
        rintro e w1 ⟨P, T, Bp, Ba, ah, rfl, hb1, hP, hT, hw1⟩
        have HB1 := Lib.hid hb1
        have HW1 := Lib.hid hw1
        clear hb1 hw1
        go_wp2_with fail
        go_loopw [33] (fun iv wr => ∃ (k fr tt : Nat) (f : Nat → Bool), k ≤ s.size ∧ iv = .int .i64 (k : Int) ∧ Wk wr P T Bp Ba n ah (L p) f fr tt ∧ fr ≤ tt ∧ tt < n ∧ (∀ j, 64 * (tt + 1) ≤ j → f j = false) ∧ ((∃ j, 64 * fr ≤ j ∧ f j = true ∧ fm (L p) j ((prs (L s)).drop k) = true) ↔ fm (L p) 0 (prs (L s)) = true) ∧ Below w.heap.size w wr) (fun iv _ => s.size - (intOf iv).toNat)
        case atStart =>
          refine ⟨0, 0, 0, fun j => j == 0, Nat.zero_le _, rfl, HW1.out, Nat.le_refl _, by have := HN.out; omega, fun j hj => by rw [beq_eq_false_iff_ne]; omega, ?_, HB1.out⟩
          rw [List.drop_zero]
          constructor
          · rintro ⟨j, _, h2, h3⟩
            have : j = 0 := by simpa using h2
            subst this; exact h3
          · intro h; exact ⟨0, by omega, rfl, h⟩
        case round =>
          clear HB1 HW1
          obtain ⟨k, fr, tt, f, hk, rfl, hw, hft, htn, hz, hiff, hb⟩ := hrel
          have HW := Lib.hid hw
          have HZ := Lib.hid hz
          have HIF := Lib.hid hiff
          have HB := Lib.hid hb
          have c258 := hw.blk.c258
          simp only [sl] at c258
          clear hz hiff hb hw
          by_cases hlt : k < s.size
          · have ea := get_bt s k hlt
            have HPD := Lib.hid (prs_drop (L s) k hlt)
            have HStep := Lib.hid (fun X fr1 (hX : Wk X P T Bp Ba n ah (L p) f fr1 tt) (hfr : fr1 ≤ tt) c o => step_any (B0 := w.heap.size) hX hP hT (by rw [HN.out, HM.out]) (by have := HN.out; omega) hfr htn HZ.out c o)
            have hc8 := bt_lt (L s) k
            by_cases hk5 : (k : Int) < 5
            · have HO : Hid (oth (L s) k = sm (bt (L s) k)) := Lib.hid (by unfold oth; rw [HF.out]; rw [if_pos (by omega)])
              have HL : Hid (∀ W, Calls Try.prog 11 #[.string (s.extract k (k + 1))] W fun e w' => e = .returned (.string ⟨#[sm (bt (L s) k)]⟩) ∧ Below W.heap.size W w') := Lib.hid (fun W => lower_one s k hlt W)
              have hk1 : (k : Int) + 1 ≤ (s.size : Int) := by omega
              go_wp2_with fail
              refine (HL.out _).mono ?_
              rintro e w2 ⟨rfl, hb2⟩
              have HW2 := Lib.hid (HW.out.on (by omega) hb2)
              have HB2 := Lib.hid (HB.out.trans (hb2.mono HB.out.size))
              clear hb2 c258
              go_wp2_with fail
              refine (HStep.out _ fr HW2.out hft (bt (L s) k) (sm (bt (L s) k))).mono ?_
              rintro e w3 ⟨rfl, hb3, fr', tt', k1, k2, k3, k4, k5, k6⟩
              have ho := HO.out
              have hrel2 : (∃ j, 64 * fr' ≤ j ∧ stp (L p) (bt (L s) k) (sm (bt (L s) k)) (64 * fr) f j = true ∧ fm (L p) j ((prs (L s)).drop (k + 1)) = true) ↔ fm (L p) 0 (prs (L s)) = true := by
                have h1 := HIF.out
                rw [HPD.out, ho] at h1
                rw [← h1]
                exact (stp_step (L p) _ _ _ (64 * fr) (64 * fr') f (by omega) k6).symm
              have HR := Lib.hid (And.intro k1 (And.intro k3 (And.intro k4 (And.intro k5 (And.intro hrel2 (HB2.out.trans hb3))))))
              clear k1 k2 k3 k4 k5 k6 hrel2 hb3
              go_wp2
              go_roundw
              case rel => exact ⟨k + 1, fr', tt', _, by omega, by push_cast; rfl, HR.out.1, HR.out.2.1, HR.out.2.2.1, HR.out.2.2.2.1, HR.out.2.2.2.2.1, HR.out.2.2.2.2.2⟩
              case measure => simp [intOf]; omega
            · have HO : Hid (oth (L s) k = bt (L s) k) := Lib.hid (by unfold oth; rw [HF.out]; rw [if_neg (by omega)])
              go_wp2_with fail
              refine (HStep.out _ fr HW.out hft (bt (L s) k) (bt (L s) k)).mono ?_
              rintro e w3 ⟨rfl, hb3, fr', tt', k1, k2, k3, k4, k5, k6⟩
              have ho := HO.out
              have hrel2 : (∃ j, 64 * fr' ≤ j ∧ stp (L p) (bt (L s) k) (bt (L s) k) (64 * fr) f j = true ∧ fm (L p) j ((prs (L s)).drop (k + 1)) = true) ↔ fm (L p) 0 (prs (L s)) = true := by
                have h1 := HIF.out
                rw [HPD.out, ho] at h1
                rw [← h1]
                exact (stp_step (L p) _ _ _ (64 * fr) (64 * fr') f (by omega) k6).symm
              have HR := Lib.hid (And.intro k1 (And.intro k3 (And.intro k4 (And.intro k5 (And.intro hrel2 (HB.out.trans hb3))))))
              clear k1 k2 k3 k4 k5 k6 hrel2 hb3
              go_wp2
              go_roundw
              case rel => exact ⟨k + 1, fr', tt', _, by omega, by push_cast; rfl, HR.out.1, HR.out.2.1, HR.out.2.2.1, HR.out.2.2.2.1, HR.out.2.2.2.2.1, HR.out.2.2.2.2.2⟩
              case measure => simp [intOf]; omega
          · have hke : k = s.size := by omega
            have HKE := Lib.hid hke
            clear hke
            have hmn : m / 64 < n := by have := HN.out; omega
            have HH := Lib.hid (has_any T n n m f wr HW.out.att hmn (by omega))
            have hfin : fm (L p) 0 (prs (L s)) = f m := by
              have h1 := HIF.out
              rw [HKE.out, List.drop_eq_nil_of_le (by rw [prs_length, L_length]; omega)] at h1
              rw [Bool.eq_iff_iff, ← h1]
              constructor
              · rintro ⟨j, _, h2, h3⟩
                have : j = m := by simpa [fm, ← HM.out] using h3
                subst this; exact h2
              · intro h2
                refine ⟨m, ?_, h2, by simp [fm, ← HM.out]⟩
                have := HN.out; omega
            have HB2 := HB
            have HFIN := Lib.hid hfin
            clear hfin
            go_wp2_with (go_at_call 13; refine HH.out.mono ?_; rintro e w' ⟨rfl, rfl⟩)
            go_ret
            exact ⟨by rw [HFIN.out]; rfl, HB2.out⟩
      | false =>
        rw [hpre] at HI
        have hF : foldN (L s) = 0 := by
          have h1 : (L s == INB) = false := by rw [toList_L] at hq'; exact hq'
          unfold foldN isInb; rw [hpre, h1]; rfl
        have HF := Lib.hid hF
        clear hF
        go_enter Try.func6, Try.ntmps6
        go_upto_region 7 with (first | (go_at_call 8; first | (with_reducible refine (HC1.out _).mono ?_; rintro e w' ⟨rfl, hw'⟩; rw [hw']; clear hw' w') | (with_reducible refine (HC2.out _).mono ?_; rintro e w' ⟨rfl, hw'⟩; rw [hw']; clear hw' w')) | (go_at_call 9; refine (HI.out _).mono ?_; rintro e w' ⟨rfl, hw'⟩; rw [hw']; clear hw' w'))
        go_wp2_with fail
        refine (HBe.out _).mono ?_
        rintro e w1 ⟨P, T, Bp, Ba, ah, rfl, hb1, hP, hT, hw1⟩
        have HB1 := Lib.hid hb1
        have HW1 := Lib.hid hw1
        clear hb1 hw1
        go_wp2_with fail
        go_loopw [33] (fun iv wr => ∃ (k fr tt : Nat) (f : Nat → Bool), k ≤ s.size ∧ iv = .int .i64 (k : Int) ∧ Wk wr P T Bp Ba n ah (L p) f fr tt ∧ fr ≤ tt ∧ tt < n ∧ (∀ j, 64 * (tt + 1) ≤ j → f j = false) ∧ ((∃ j, 64 * fr ≤ j ∧ f j = true ∧ fm (L p) j ((prs (L s)).drop k) = true) ↔ fm (L p) 0 (prs (L s)) = true) ∧ Below w.heap.size w wr) (fun iv _ => s.size - (intOf iv).toNat)
        case atStart =>
          refine ⟨0, 0, 0, fun j => j == 0, Nat.zero_le _, rfl, HW1.out, Nat.le_refl _, by have := HN.out; omega, fun j hj => by rw [beq_eq_false_iff_ne]; omega, ?_, HB1.out⟩
          rw [List.drop_zero]
          constructor
          · rintro ⟨j, _, h2, h3⟩
            have : j = 0 := by simpa using h2
            subst this; exact h3
          · intro h; exact ⟨0, by omega, rfl, h⟩
        case round =>
          clear HB1 HW1
          obtain ⟨k, fr, tt, f, hk, rfl, hw, hft, htn, hz, hiff, hb⟩ := hrel
          have HW := Lib.hid hw
          have HZ := Lib.hid hz
          have HIF := Lib.hid hiff
          have HB := Lib.hid hb
          have c258 := hw.blk.c258
          simp only [sl] at c258
          clear hz hiff hb hw
          by_cases hlt : k < s.size
          · have ea := get_bt s k hlt
            have HPD := Lib.hid (prs_drop (L s) k hlt)
            have HStep := Lib.hid (fun X fr1 (hX : Wk X P T Bp Ba n ah (L p) f fr1 tt) (hfr : fr1 ≤ tt) c o => step_any (B0 := w.heap.size) hX hP hT (by rw [HN.out, HM.out]) (by have := HN.out; omega) hfr htn HZ.out c o)
            have hc8 := bt_lt (L s) k
            have hk5 : ¬ (k : Int) < 0 := by omega
            have HO : Hid (oth (L s) k = bt (L s) k) := Lib.hid (by unfold oth; rw [HF.out]; rw [if_neg (by omega)])
            go_wp2_with fail
            refine (HStep.out _ fr HW.out hft (bt (L s) k) (bt (L s) k)).mono ?_
            rintro e w3 ⟨rfl, hb3, fr', tt', k1, k2, k3, k4, k5, k6⟩
            have ho := HO.out
            have hrel2 : (∃ j, 64 * fr' ≤ j ∧ stp (L p) (bt (L s) k) (bt (L s) k) (64 * fr) f j = true ∧ fm (L p) j ((prs (L s)).drop (k + 1)) = true) ↔ fm (L p) 0 (prs (L s)) = true := by
              have h1 := HIF.out
              rw [HPD.out, ho] at h1
              rw [← h1]
              exact (stp_step (L p) _ _ _ (64 * fr) (64 * fr') f (by omega) k6).symm
            have HR := Lib.hid (And.intro k1 (And.intro k3 (And.intro k4 (And.intro k5 (And.intro hrel2 (HB.out.trans hb3))))))
            clear k1 k2 k3 k4 k5 k6 hrel2 hb3
            go_wp2
            go_roundw
            case rel => exact ⟨k + 1, fr', tt', _, by omega, by push_cast; rfl, HR.out.1, HR.out.2.1, HR.out.2.2.1, HR.out.2.2.2.1, HR.out.2.2.2.2.1, HR.out.2.2.2.2.2⟩
            case measure => simp [intOf]; omega
          · have hke : k = s.size := by omega
            have HKE := Lib.hid hke
            clear hke
            have hmn : m / 64 < n := by have := HN.out; omega
            have HH := Lib.hid (has_any T n n m f wr HW.out.att hmn (by omega))
            have hfin : fm (L p) 0 (prs (L s)) = f m := by
              have h1 := HIF.out
              rw [HKE.out, List.drop_eq_nil_of_le (by rw [prs_length, L_length]; omega)] at h1
              rw [Bool.eq_iff_iff, ← h1]
              constructor
              · rintro ⟨j, _, h2, h3⟩
                have : j = m := by simpa [fm, ← HM.out] using h3
                subst this; exact h2
              · intro h2
                refine ⟨m, ?_, h2, by simp [fm, ← HM.out]⟩
                have := HN.out; omega
            have HB2 := HB
            have HFIN := Lib.hid hfin
            clear hfin
            go_wp2_with (go_at_call 13; refine HH.out.mono ?_; rintro e w' ⟨rfl, rfl⟩)
            go_ret
            exact ⟨by rw [HFIN.out]; rfl, HB2.out⟩
  · have hgt : (m : Int) > (s.size : Int) := by omega
    have hgt' : (s.size : Int) < (m : Int) := by omega
    have hf : fm (L p) 0 (prs (L s)) = false := by
      cases h : fm (L p) 0 (prs (L s)) with
      | false => rfl
      | true => have := fm_short _ _ _ h; rw [prs_length, L_length, ← HM.out] at this; omega
    rw [hf]
    clear hf hcl
    go_enter Try.func6, Try.ntmps6
    go_wp2_with (go_at_call 8; first | (with_reducible refine (HC1.out _).mono ?_; rintro e w' ⟨rfl, hw'⟩; rw [hw']; clear hw' w') | (with_reducible refine (HC2.out _).mono ?_; rintro e w' ⟨rfl, hw'⟩; rw [hw']; clear hw' w'))
    go_ret
    exact ⟨rfl, Below.refl _ _⟩

end Go.Proofs.Ytedegnngdlkbhaa
