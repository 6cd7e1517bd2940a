/- store: step (written by s12gen.py). -/
import Derived.Test.YtedegnngdlkbhaaS12c
namespace Go.Proofs.Ytedegnngdlkbhaa
open Go.RowKit

/-- What the row of places is ahead of word i. -/
def mix (p : List UInt8) (c o : UInt8) (lo : Nat) (f : Nat → Bool) (i j : Nat) : Bool := if j < 64 * i then stp p c o lo f j else f j
def hitF (p : List UInt8) (c o : UInt8) (f : Nat → Bool) (j : Nat) : Bool := f j && hit p c o j
def cyB (p : List UInt8) (c o : UInt8) (fr : Nat) (f : Nat → Bool) (i : Nat) : Nat := if (decide (fr < i) && hitF p c o f (64 * i - 1)) then 1 else 0
theorem mix_word (p : List UInt8) (c o : UInt8) (lo : Nat) (f : Nat → Bool) (i : Nat) : wd (mix p c o lo f i) i = wd f i :=
  wd_congr _ _ _ (fun b _ => by unfold mix; rw [if_neg (by omega)])
theorem mix_next (p : List UInt8) (c o : UInt8) (lo : Nat) (f : Nat → Bool) (i k : Nat) (h : k ≠ i) : wd (mix p c o lo f i) k = wd (mix p c o lo f (i + 1)) k :=
  wd_congr _ _ _ (fun b hb => by
    unfold mix
    by_cases e : k < i
    · rw [if_pos (by omega), if_pos (by omega)]
    · rw [if_neg (by omega), if_neg (by omega)])
theorem mix_start (p : List UInt8) (c o : UInt8) (f : Nat → Bool) (fr k : Nat) : wd f k = wd (mix p c o (64 * fr) f fr) k :=
  wd_congr _ _ _ (fun b _ => by
    unfold mix stp
    by_cases e : 64 * k + b < 64 * fr
    · rw [if_pos e, if_pos e]
    · rw [if_neg e])
theorem hit_word (p : List UInt8) (c o : UInt8) (f : Nat → Bool) (i : Nat) :
    Go.bits .and .u64 ((wd f i : Nat) : Int) (Go.bits .or .u64 ((wd (hasL p c) i : Nat) : Int) ((wd (hasL p o) i : Nat) : Int)) = ((wd (hitF p c o f) i : Nat) : Int) := by
  rw [u64_or_nat _ _ (wd_lt _ _) (wd_lt _ _), wd_or, u64_and_nat _ _ (wd_lt _ _) (wd_lt _ _), wd_and]; rfl
theorem new_word (p : List UInt8) (c o : UInt8) (f g : Nat → Bool) (fr i : Nat) (hi : fr ≤ i) (hg : ∀ j, g j = stays p c j) :
    Go.bits .or .u64 (Go.bits .or .u64 (IntKind.u64.wrap (((wd (hitF p c o f) i : Nat) : Int) * 2)) ((cyB p c o fr f i : Nat) : Int)) (Go.bits .and .u64 ((wd f i : Nat) : Int) ((wd g i : Nat) : Int)) = ((wd (mix p c o (64 * fr) f (i + 1)) i : Nat) : Int) := by
  have h1 := wd_lt (hitF p c o f) i
  have e1 : IntKind.u64.wrap (((wd (hitF p c o f) i : Nat) : Int) * 2) = (((wd (hitF p c o f) i <<< 1) % 2 ^ 64 : Nat) : Int) := by
    rw [Nat.shiftLeft_eq]
    generalize wd (hitF p c o f) i = x at h1
    simp [IntKind.wrap, IntKind.bits, IntKind.signed]
  have h2 : (wd (hitF p c o f) i <<< 1) % 2 ^ 64 < 18446744073709551616 := Nat.mod_lt _ (by decide)
  have h3 : cyB p c o fr f i < 18446744073709551616 := by unfold cyB; split <;> decide
  rw [e1, u64_or_nat _ _ h2 h3, wd_up (hitF p c o f) i (cyB p c o fr f i) (decide (fr < i) && hitF p c o f (64 * i - 1)) rfl, u64_and_nat _ _ (wd_lt _ _) (wd_lt _ _), wd_and, u64_or_nat _ _ (wd_lt _ _) (wd_lt _ _), wd_or]
  congr 1
  refine wd_congr _ _ _ (fun b hb => ?_)
  have e0 : mix p c o (64 * fr) f (i + 1) (64 * i + b) = ((decide (64 * fr < 64 * i + b) && (f (64 * i + b - 1) && hit p c o (64 * i + b - 1))) || (f (64 * i + b) && stays p c (64 * i + b))) := by
    unfold mix stp; rw [if_pos (by omega), if_neg (by omega)]
  rw [e0, ← hg]
  by_cases e : b = 0
  · subst e
    have e2 : decide (64 * fr < 64 * i + 0) = decide (fr < i) := by congr 1; apply propext; omega
    rw [e2]; simp [hitF]
  · have e2 : decide (64 * fr < 64 * i + b) = true := decide_eq_true (by omega)
    have e3 : ¬ 64 * i + b = 64 * i := by omega
    rw [e2]; simp only [if_neg e3, hitF, Bool.true_and]
theorem top_word (p : List UInt8) (c o : UInt8) (f : Nat → Bool) (fr i : Nat) (hi : fr ≤ i) :
    ((wd (hitF p c o f) i : Nat) : Int) / 9223372036854775808 = ((cyB p c o fr f (i + 1) : Nat) : Int) := by
  have h := wd_top (hitF p c o f) i
  rw [Nat.shiftRight_eq_div_pow] at h
  have e : cyB p c o fr f (i + 1) = wd (hitF p c o f) i / 2 ^ 63 := by
    rw [h]; unfold cyB
    have e2 : decide (fr < i + 1) = true := decide_eq_true (by omega)
    rw [e2, Bool.true_and, show 64 * (i + 1) - 1 = 64 * i + 63 by omega]
  rw [e, show 2 ^ 63 = 9223372036854775808 from rfl]; omega
theorem any_word (p : List UInt8) (g : Nat → Bool) (i : Nat) :
    (Go.bits .and .u64 ((wd g i : Nat) : Int) ((wd (anyA p) i : Nat) : Int) != 0) = (wd (fun j => g j && anyA p j) i != 0) := by
  rw [u64_and_nat _ _ (wd_lt _ _) (wd_lt _ _), wd_and]
  generalize wd (fun j => g j && anyA p j) i = x
  cases x with
  | zero => rfl
  | succ x =>
    have h1 : (((x + 1 : Nat) : Int) != 0) = true := by simp; omega
    have h2 : (x + 1 != 0) = true := by simp
    rw [h1, h2]
theorem wd_some (g : Nat → Bool) (i : Nat) (h : wd g i ≠ 0) : ∃ q, 64 * i ≤ q ∧ q < 64 * i + 64 ∧ g q = true := by
  by_cases e : ∀ b, b < 64 → g (64 * i + b) = false
  · exact absurd ((wd_zero g i).2 e) h
  · simp only [Classical.not_forall] at e
    obtain ⟨b, hb, e⟩ := e
    exact ⟨64 * i + b, by omega, by omega, by simpa using e⟩
theorem Wk.congr {w : World} {P T Bp Ba n : Nat} {ah : Nat → Option Nat} {p : List UInt8} {f g : Nat → Bool} {fr tt : Nat} (h : Wk w P T Bp Ba n ah p f fr tt) (e : ∀ i, i < n → wd f i = wd g i) : Wk w P T Bp Ba n ah p g fr tt :=
  ⟨h.blk, h.pas, h.any, ⟨fun i hi => by rw [← e i hi]; exact h.att.cells i hi, h.att.free⟩, h.ahs, h.ahn, h.d1, h.d2, h.d3, h.d4, h.d5⟩
/-- Behind the last word nothing is but what is carried. -/
theorem stp_far (p : List UInt8) (c o : UInt8) (f : Nat → Bool) (fr tt : Nat) (hft : fr ≤ tt) (hz : ∀ j, 64 * (tt + 1) ≤ j → f j = false) (j : Nat) (hj : 64 * (tt + 1) ≤ j) :
    stp p c o (64 * fr) f j = (decide (j = 64 * (tt + 1)) && hitF p c o f (64 * (tt + 1) - 1)) := by
  unfold stp
  rw [if_neg (by omega), hz j hj]
  have e2 : decide (64 * fr < j) = true := decide_eq_true (by omega)
  rw [e2]
  by_cases e : j = 64 * (tt + 1)
  · subst e; simp [hitF]
  · have : f (j - 1) = false := hz _ (by omega)
    simp [this, e]
theorem mix_end0 (p : List UInt8) (c o : UInt8) (f : Nat → Bool) (fr tt k : Nat) (hft : fr ≤ tt) (hz : ∀ j, 64 * (tt + 1) ≤ j → f j = false) (h : k ≠ tt + 1 ∨ hitF p c o f (64 * (tt + 1) - 1) = false) :
    wd (mix p c o (64 * fr) f (tt + 1)) k = wd (stp p c o (64 * fr) f) k :=
  wd_congr _ _ _ (fun b hb => by
    unfold mix
    by_cases e : 64 * k + b < 64 * (tt + 1)
    · rw [if_pos e]
    · rw [if_neg e, hz _ (by omega), stp_far p c o f fr tt hft hz _ (by omega)]
      rcases h with h | h
      · have : ¬ 64 * k + b = 64 * (tt + 1) := by omega
        simp [this]
      · simp [h])
theorem mix_end1 (p : List UInt8) (c o : UInt8) (f : Nat → Bool) (fr tt : Nat) (hft : fr ≤ tt) (hz : ∀ j, 64 * (tt + 1) ≤ j → f j = false) (h : hitF p c o f (64 * (tt + 1) - 1) = true) :
    wd (stp p c o (64 * fr) f) (tt + 1) = 1 := by
  symm
  refine wd_eq _ _ _ (by decide) (fun b hb => ?_)
  rw [stp_far p c o f fr tt hft hz _ (by omega), h]
  by_cases e : b = 0
  · subst e; simp
  · have h2 : Nat.testBit 1 b = false := by
      cases hh : Nat.testBit 1 b with
      | false => rfl
      | true => exfalso; rw [Nat.testBit_one_eq_true_iff_self_eq_zero] at hh; omega
    simp [e, h2]
theorem drop_ok (p : List UInt8) (g : Nat → Bool) (fr fr1 k : Nat) (hf1 : fr1 = fr ∨ fr < fr1 ∧ ∃ q, 64 * fr1 ≤ q ∧ q < 64 * fr1 + 64 ∧ anyA p q = true ∧ g q = true) (hk : fr1 ≤ k)
    (hz : ∀ j, 64 * fr1 ≤ j → j < 64 * k → g j = false) : ∀ j, 64 * fr ≤ j → j < 64 * k → g j = true → ∃ q, 64 * k ≤ q ∧ anyA p q = true ∧ g q = true := by
  intro j h1 h2 h3
  rcases hf1 with rfl | ⟨_, q, q1, q2, q3, q4⟩
  · rw [hz j h1 h2] at h3; cases h3
  · refine ⟨q, ?_, q3, q4⟩
    by_cases e : fr1 = k
    · omega
    · rw [hz q q1 (by omega)] at q4; cases q4

set_option maxHeartbeats 1000000 in
set_option maxRecDepth 100000 in
theorem step_any {B0 : Nat} {w : World} {P T Bp Ba n : Nat} {ah : Nat → Option Nat} {p : List UInt8} {f : Nat → Bool} {fr tt : Nat} (h : Wk w P T Bp Ba n ah p f fr tt)
    (hP : B0 ≤ P) (hT : B0 ≤ T) (hn : n = (ltr p).length / 64 + 1) (hnn : n ≤ 1099511627776) (hft : fr ≤ tt) (hto : tt < n) (hz : ∀ j, 64 * (tt + 1) ≤ j → f j = false) (c o : UInt8) :
    Calls Try.prog 12 #[.pointer (some ⟨P, 0, none⟩), .int .u8 (c.toNat : Int), .int .u8 (o.toNat : Int)] w fun e w' => e = .returned (.tuple #[]) ∧ Below B0 w w' ∧
      ∃ fr' tt', Wk w' P T Bp Ba n ah p (stp p c o (64 * fr) f) fr' tt' ∧ fr ≤ fr' ∧ fr' ≤ tt' ∧ tt' < n ∧ (∀ j, 64 * (tt' + 1) ≤ j → stp p c o (64 * fr) f j = false) ∧
        (∀ j, 64 * fr ≤ j → j < 64 * fr' → stp p c o (64 * fr) f j = true → ∃ q, 64 * fr' ≤ q ∧ anyA p q = true ∧ stp p c o (64 * fr) f q = true) := by
  have HN := Lib.hid hn
  have HZ := Lib.hid hz
  clear hn hz
  have hc8 := c.toNat_lt
  have ho8 := o.toNat_lt
  have k256 := h.blk.c256
  have k257 := h.blk.c257
  have k259 := h.blk.c259
  by_cases h47 : c = 47
  · have t47 : (((c.toNat : Nat) : Int) == 47) = true := by subst h47; rfl
    have hst : ∀ j, anyA p j = stays p c j := fun j => by unfold stays; rw [if_pos h47]
    have HST := Lib.hid hst
    clear hst h47
    simp only [sl] at k256 k257
    go_enter Try.func12, Try.ntmps12
    go_wp2
    go_loopw [7, 8, 9] (fun fv cv iv wr => ∃ fr1 i : Nat, fv = .int .i64 (fr1 : Int) ∧ cv = .int .u64 ((cyB p c o fr f i : Nat) : Int) ∧ iv = .int .i64 (i : Int) ∧ fr ≤ i ∧ i ≤ tt + 1 ∧
        (fr1 = fr ∨ fr < fr1 ∧ fr1 < i ∧ ∃ q, 64 * fr1 ≤ q ∧ q < 64 * fr1 + 64 ∧ anyA p q = true ∧ stp p c o (64 * fr) f q = true) ∧ Wk wr P T Bp Ba n ah p (mix p c o (64 * fr) f i) fr tt ∧ Below B0 w wr) (fun _ _ iv _ => tt + 1 - (intOf iv).toNat)
    case atStart =>
      refine ⟨fr, fr, rfl, ?_, rfl, Nat.le_refl _, by omega, .inl rfl, h.congr (fun i _ => mix_start p c o f fr i), Below.refl _ _⟩
      have : cyB p c o fr f fr = 0 := by unfold cyB; simp
      rw [this]; rfl
    case round =>
      obtain ⟨fr1, i, rfl, rfl, rfl, hi0, hi1, hf1, hw, hb⟩ := hrel
      clear k256 k257 k259
      have HF1 := Lib.hid hf1
      have HB := Lib.hid hb
      clear hf1 hb
      have k256 := hw.blk.c256
      have k257 := hw.blk.c257
      have k258 := hw.blk.c258
      have k259 := hw.blk.c259
      have k260 := hw.blk.c260
      simp only [sl] at k256 k257 k258
      by_cases hlt : i ≤ tt
      · have ac := hw.blk.ahd c.toNat hc8
        have ao := hw.blk.ahd o.toNat ho8
        have wc := Lib.hid (fun X (hX : Wk X P T Bp Ba n ah p (mix p c o (64 * fr) f i) fr tt) => hX.word c i (by omega))
        have wo := Lib.hid (fun X (hX : Wk X P T Bp Ba n ah p (mix p c o (64 * fr) f i) fr tt) => hX.word o i (by omega))
        generalize sl n (ah c.toNat) = vc at ac wc
        generalize sl n (ah o.toNat) = vo at ao wo
        have tc := hw.att.cells i (by omega)
        have tf := hw.att.free i (by omega)
        rw [mix_word] at tc
        have pc := hw.any.cells i (by omega)
        have hin : i < n := by omega
        have hinI : (i : Int) < (n : Int) := by omega
        have hin0 : (0 : Int) ≤ (i : Int) := by omega
        have hc8I : (c.toNat : Int) < 256 := by omega
        have ho8I : (o.toNat : Int) < 256 := by omega
        have eh := hit_word p c o f i
        have en := new_word p c o f (anyA p) fr i hi0 HST.out
        have et := top_word p c o f fr i hi0
        go_wp2
        go_quiet ((go_at_call 23; first | with_reducible exact Calls.quiet_of_same (wc.out _ (hw.drewN _)) | with_reducible exact Calls.quiet_of_same (wo.out _ (hw.drewN _))))
        go_upto_region 8 with fail
        go_region
        have hw2 := (hw.drewN (nq + 1)).turn i hin _ rfl (fun k _ hk => mix_next p c o (64 * fr) f i k hk)
        have hb2 := (show Below B0 w (wr.drewN (nq + 1)) from ⟨HB.out.os, HB.out.tape, HB.out.output, HB.out.size, HB.out.block⟩).setCell (p := ⟨T, i, none⟩) hT (.int .u64 ((wd (mix p c o (64 * fr) f (i + 1)) i : Nat) : Int))
        clear k256 k257 k258 k259 k260 ac ao wc wo tc tf pc eh en
        try rw [new_word p c o f (anyA p) fr i hi0 HST.out]
        generalize (wr.drewN (nq + 1)).setCell ⟨T, i, none⟩ (.int .u64 ((wd (mix p c o (64 * fr) f (i + 1)) i : Nat) : Int)) = X at hw2 hb2 ⊢
        clear hw
        have k257 := hw2.blk.c257
        have k258 := hw2.blk.c258
        simp only [sl] at k257 k258
        have tc := hw2.att.cells i hin
        have yc := hw2.any.cells i hin
        have HB2 := Lib.hid hb2
        clear hb2
        have ew := any_word p (mix p c o (64 * fr) f (i + 1)) i
        by_cases hy : wd (fun j => mix p c o (64 * fr) f (i + 1) j && anyA p j) i = 0
        · rw [hy] at ew
          have ew' : (Go.bits .and .u64 ((wd (mix p c o (64 * fr) f (i + 1)) i : Nat) : Int) ((wd (anyA p) i : Nat) : Int) != 0) = false := ew
          clear ew hy
          go_upto_region 10 with fail
          go_quiet (fail)
          go_wp2
          go_roundw
          case rel => exact ⟨fr1, i + 1, rfl, rfl, by push_cast; rfl, by omega, by omega, HF1.out.imp id (fun x => ⟨x.1, by omega, x.2.2⟩), hw2.drewN _, ⟨HB2.out.os, HB2.out.tape, HB2.out.output, HB2.out.size, HB2.out.block⟩⟩
          case measure => simp [intOf]; omega
        · have hs := wd_some _ i hy
          have ew' : (Go.bits .and .u64 ((wd (mix p c o (64 * fr) f (i + 1)) i : Nat) : Int) ((wd (anyA p) i : Nat) : Int) != 0) = true := by rw [ew]; simpa using hy
          have HS := Lib.hid hs
          clear ew hy hs
          go_upto_region 10 with fail
          go_quiet (fail)
          go_wp2
          go_roundw
          case rel =>
            refine ⟨i, i + 1, rfl, rfl, by push_cast; rfl, by omega, by omega, ?_, hw2.drewN _, ⟨HB2.out.os, HB2.out.tape, HB2.out.output, HB2.out.size, HB2.out.block⟩⟩
            by_cases e : i = fr
            · exact .inl e
            · refine .inr ⟨by omega, by omega, ?_⟩
              obtain ⟨q, q1, q2, q3⟩ := HS.out
              simp only [Bool.and_eq_true] at q3
              refine ⟨q, q1, q2, q3.2, ?_⟩
              have := q3.1
              unfold mix at this; rw [if_pos (by omega)] at this; exact this
          case measure => simp [intOf]; omega
      · have hie : i = tt + 1 := by omega
        have hf1t : fr ≤ fr1 ∧ fr1 ≤ tt := by rcases HF1.out with e | e <;> omega
        have hf1a := hf1t.1
        have hf1b := hf1t.2
        clear hf1t
        by_cases hcy : hitF p c o f (64 * (tt + 1) - 1) = true
        · have ecy : cyB p c o fr f i = 1 := by
            subst hie
            unfold cyB; rw [hcy]
            have : decide (fr < tt + 1) = true := decide_eq_true (by omega)
            rw [this]; rfl
          have hroom : i < n := by
            have h1 : hit p c o (64 * (tt + 1) - 1) = true := by unfold hitF at hcy; simp at hcy; exact hcy.2
            have := hit_lt h1
            rw [HN.out]; omega
          have H1 := Lib.hid (mix_end1 p c o f fr tt hft HZ.out hcy)
          rw [← hie] at H1
          have HE : Hid (∀ k, k < n → k ≠ i → wd (mix p c o (64 * fr) f i) k = wd (stp p c o (64 * fr) f) k) := Lib.hid (fun k _ hk => by
            subst hie; exact mix_end0 p c o f fr tt k hft HZ.out (.inl hk))
          clear hcy
          rw [ecy]
          clear ecy
          have hti : (tt : Int) + 1 = (i : Int) := by omega
          have HI := Lib.hid hie
          clear hie
          have kf := hw.blk.free 260 (by omega)
          have hwT := hw.setTo i
          have hbT := HB.out.setCell (p := ⟨P, 260, none⟩) hP (.int .i64 (i : Int))
          go_upto_region 14 with fail
          have HWT := Lib.hid hwT
          have HBT := Lib.hid hbT
          clear hwT hbT k256 k257 k258 k259 k260 kf hw
          generalize wr.setCell ⟨P, 260, none⟩ (.int .i64 (i : Int)) = X at HWT HBT ⊢
          have k258 := HWT.out.blk.c258
          have k260 := HWT.out.blk.c260
          simp only [sl] at k258
          have tf := HWT.out.att.free i hroom
          have tc := HWT.out.att.cells i hroom
          have hrI : (i : Int) < (n : Int) := by omega
          go_region
          have hw3 := (HWT.out.turn (g := stp p c o (64 * fr) f) i hroom 1 (by rw [H1.out]; rfl) HE.out).drew
          have hb3 := (HBT.out.setCell (p := ⟨T, i, none⟩) hT (.int .u64 1)).drew
          have HW3 := Lib.hid hw3
          have HB3 := Lib.hid hb3
          clear hw3 hb3 k258 k260 tf tc
          generalize (X.setCell ⟨T, i, none⟩ (.int .u64 1)).drew = Y at HW3 HB3 ⊢
          have HZ2 : Hid (∀ j, 64 * (i + 1) ≤ j → stp p c o (64 * fr) f j = false) := Lib.hid (fun j hj => by
            have hie := HI.out
            rw [stp_far p c o f fr tt hft HZ.out j (by omega)]
            have : ¬ j = 64 * (tt + 1) := by omega
            simp [this])
          have hf1c : fr1 ≤ i := by have := HI.out; omega
          have kk260 := HW3.out.blk.c260
          have kk258 := HW3.out.blk.c258
          simp only [sl] at kk258
          clear hti
          go_wp2
          go_loopw [7] (fun fv wq => ∃ k : Nat, fv = .int .i64 (k : Int) ∧ fr1 ≤ k ∧ k ≤ i ∧ (∀ j, 64 * fr1 ≤ j → j < 64 * k → stp p c o (64 * fr) f j = false) ∧ wq = Y) (fun fv _ => i - (intOf fv).toNat)
          case atStart => exact ⟨fr1, rfl, Nat.le_refl _, by omega, fun j h1 h2 => by omega, rfl⟩
          case round =>
            obtain ⟨k, rfl, hk1, hk2, hk3, rfl⟩ := hrel
            have k258 := HW3.out.blk.c258
            have k259 := HW3.out.blk.c259
            have k260 := HW3.out.blk.c260
            simp only [sl] at k258
            have kf := HW3.out.blk.free 259 (by omega)
            have ck := HW3.out.att.cells k (by omega)
            have HK := Lib.hid hk3
            clear hk3
            have hkn : k < n := by omega
            have hkI : (k : Int) < (n : Int) := by omega
            have fin : Below B0 w (wr.setCell ⟨P, 259, none⟩ (.int .i64 (k : Int))) ∧ ∃ fr' tt', Wk (wr.setCell ⟨P, 259, none⟩ (.int .i64 (k : Int))) P T Bp Ba n ah p (stp p c o (64 * fr) f) fr' tt' ∧ fr ≤ fr' ∧ fr' ≤ tt' ∧ tt' < n ∧ (∀ j, 64 * (tt' + 1) ≤ j → stp p c o (64 * fr) f j = false) ∧
                  (∀ j, 64 * fr ≤ j → j < 64 * fr' → stp p c o (64 * fr) f j = true → ∃ q, 64 * fr' ≤ q ∧ anyA p q = true ∧ stp p c o (64 * fr) f q = true) := by
              refine ⟨HB3.out.setCell (p := ⟨P, 259, none⟩) hP _, k, i, HW3.out.setFrom k, ?_, hk2, by omega, HZ2.out, drop_ok p _ fr fr1 k (HF1.out.imp id (fun x => ⟨x.1, x.2.2⟩)) hk1 HK.out⟩
              rcases HF1.out with e | e <;> omega
            have FIN := Lib.hid fin
            clear fin
            by_cases hkt : k < i
            · have t1 : decide ((k : Int) < ((i : Nat) : Int)) = true := by simp; omega
              by_cases hw0 : wd (stp p c o (64 * fr) f) k = 0
              · rw [hw0] at ck
                go_wp2
                go_roundw
                case rel =>
                  refine ⟨k + 1, by push_cast; rfl, by omega, by omega, fun j h1 h2 => ?_, by first | rfl | trivial⟩
                  by_cases e : j < 64 * k
                  · exact HK.out j h1 e
                  · have := (wd_zero _ _).1 hw0 (j - 64 * k) (by omega)
                    rw [show 64 * k + (j - 64 * k) = j by omega] at this; exact this
                case measure => simp [intOf]; omega
              · have t2 : (((wd (stp p c o (64 * fr) f) k : Nat) : Int) == 0) = false := by rw [beq_eq_false_iff_ne]; omega
                go_wp2
                first | refine bodyPost_end (results_none rfl _ _ _) rfl ?_ | refine bodyPost_ret (results_none rfl _ _ _) rfl ?_
                exact ⟨rfl, FIN.out⟩
            · have t1 : decide ((k : Int) < ((i : Nat) : Int)) = false := by simp; omega
              have t3 : ¬ (k : Int) < ((i : Nat) : Int) := by omega
              go_wp2
              first | refine bodyPost_end (results_none rfl _ _ _) rfl ?_ | refine bodyPost_ret (results_none rfl _ _ _) rfl ?_
              exact ⟨rfl, FIN.out⟩
        · have hcy' : hitF p c o f (64 * (tt + 1) - 1) = false := by simpa using hcy
          have ecy : cyB p c o fr f i = 0 := by
            subst hie
            unfold cyB; rw [hcy']; simp
          have HW3 := Lib.hid (hw.congr (g := stp p c o (64 * fr) f) (fun k _ => by subst hie; exact mix_end0 p c o f fr tt k hft HZ.out (.inr hcy')))
          have HI := Lib.hid hie
          have HB3 := HB
          have HZ2 : Hid (∀ j, 64 * (tt + 1) ≤ j → stp p c o (64 * fr) f j = false) := Lib.hid (fun j hj => by
            rw [stp_far p c o f fr tt hft HZ.out j hj, hcy']; simp)
          clear hcy hcy' hw hie
          rw [ecy]
          go_wp2
          go_loopw [7] (fun fv wq => ∃ k : Nat, fv = .int .i64 (k : Int) ∧ fr1 ≤ k ∧ k ≤ tt ∧ (∀ j, 64 * fr1 ≤ j → j < 64 * k → stp p c o (64 * fr) f j = false) ∧ wq = wr) (fun fv _ => tt - (intOf fv).toNat)
          case atStart => exact ⟨fr1, rfl, Nat.le_refl _, by omega, fun j h1 h2 => by omega, rfl⟩
          case round =>
            obtain ⟨k, rfl, hk1, hk2, hk3, rfl⟩ := hrel
            have k258 := HW3.out.blk.c258
            have k259 := HW3.out.blk.c259
            have k260 := HW3.out.blk.c260
            simp only [sl] at k258
            have kf := HW3.out.blk.free 259 (by omega)
            have ck := HW3.out.att.cells k (by omega)
            have HK := Lib.hid hk3
            clear hk3
            have hkn : k < n := by omega
            have hkI : (k : Int) < (n : Int) := by omega
            have fin : Below B0 w (wr.setCell ⟨P, 259, none⟩ (.int .i64 (k : Int))) ∧ ∃ fr' tt', Wk (wr.setCell ⟨P, 259, none⟩ (.int .i64 (k : Int))) P T Bp Ba n ah p (stp p c o (64 * fr) f) fr' tt' ∧ fr ≤ fr' ∧ fr' ≤ tt' ∧ tt' < n ∧ (∀ j, 64 * (tt' + 1) ≤ j → stp p c o (64 * fr) f j = false) ∧
                  (∀ j, 64 * fr ≤ j → j < 64 * fr' → stp p c o (64 * fr) f j = true → ∃ q, 64 * fr' ≤ q ∧ anyA p q = true ∧ stp p c o (64 * fr) f q = true) := by
              refine ⟨HB3.out.setCell (p := ⟨P, 259, none⟩) hP _, k, tt, HW3.out.setFrom k, ?_, hk2, by omega, HZ2.out, drop_ok p _ fr fr1 k (HF1.out.imp id (fun x => ⟨x.1, x.2.2⟩)) hk1 HK.out⟩
              rcases HF1.out with e | e <;> omega
            have FIN := Lib.hid fin
            clear fin
            by_cases hkt : k < tt
            · have t1 : decide ((k : Int) < ((tt : Nat) : Int)) = true := by simp; omega
              by_cases hw0 : wd (stp p c o (64 * fr) f) k = 0
              · rw [hw0] at ck
                go_wp2
                go_roundw
                case rel =>
                  refine ⟨k + 1, by push_cast; rfl, by omega, by omega, fun j h1 h2 => ?_, by first | rfl | trivial⟩
                  by_cases e : j < 64 * k
                  · exact HK.out j h1 e
                  · have := (wd_zero _ _).1 hw0 (j - 64 * k) (by omega)
                    rw [show 64 * k + (j - 64 * k) = j by omega] at this; exact this
                case measure => simp [intOf]; omega
              · have t2 : (((wd (stp p c o (64 * fr) f) k : Nat) : Int) == 0) = false := by rw [beq_eq_false_iff_ne]; omega
                go_wp2
                first | refine bodyPost_end (results_none rfl _ _ _) rfl ?_ | refine bodyPost_ret (results_none rfl _ _ _) rfl ?_
                exact ⟨rfl, FIN.out⟩
            · have t1 : decide ((k : Int) < ((tt : Nat) : Int)) = false := by simp; omega
              have t3 : ¬ (k : Int) < ((tt : Nat) : Int) := by omega
              go_wp2
              first | refine bodyPost_end (results_none rfl _ _ _) rfl ?_ | refine bodyPost_ret (results_none rfl _ _ _) rfl ?_
              exact ⟨rfl, FIN.out⟩
  · have t47 : (((c.toNat : Nat) : Int) == 47) = false := by
      rw [beq_eq_false_iff_ne]; intro e; exact h47 (UInt8.toNat_inj.1 (by show c.toNat = 47; omega))
    have hst : ∀ j, passA p j = stays p c j := fun j => by unfold stays; rw [if_neg h47]
    have HST := Lib.hid hst
    clear hst h47
    simp only [sl] at k256 k257
    go_enter Try.func12, Try.ntmps12
    go_wp2
    go_loopw [7, 8, 9] (fun fv cv iv wr => ∃ fr1 i : Nat, fv = .int .i64 (fr1 : Int) ∧ cv = .int .u64 ((cyB p c o fr f i : Nat) : Int) ∧ iv = .int .i64 (i : Int) ∧ fr ≤ i ∧ i ≤ tt + 1 ∧
        (fr1 = fr ∨ fr < fr1 ∧ fr1 < i ∧ ∃ q, 64 * fr1 ≤ q ∧ q < 64 * fr1 + 64 ∧ anyA p q = true ∧ stp p c o (64 * fr) f q = true) ∧ Wk wr P T Bp Ba n ah p (mix p c o (64 * fr) f i) fr tt ∧ Below B0 w wr) (fun _ _ iv _ => tt + 1 - (intOf iv).toNat)
    case atStart =>
      refine ⟨fr, fr, rfl, ?_, rfl, Nat.le_refl _, by omega, .inl rfl, h.congr (fun i _ => mix_start p c o f fr i), Below.refl _ _⟩
      have : cyB p c o fr f fr = 0 := by unfold cyB; simp
      rw [this]; rfl
    case round =>
      obtain ⟨fr1, i, rfl, rfl, rfl, hi0, hi1, hf1, hw, hb⟩ := hrel
      clear k256 k257 k259
      have HF1 := Lib.hid hf1
      have HB := Lib.hid hb
      clear hf1 hb
      have k256 := hw.blk.c256
      have k257 := hw.blk.c257
      have k258 := hw.blk.c258
      have k259 := hw.blk.c259
      have k260 := hw.blk.c260
      simp only [sl] at k256 k257 k258
      by_cases hlt : i ≤ tt
      · have ac := hw.blk.ahd c.toNat hc8
        have ao := hw.blk.ahd o.toNat ho8
        have wc := Lib.hid (fun X (hX : Wk X P T Bp Ba n ah p (mix p c o (64 * fr) f i) fr tt) => hX.word c i (by omega))
        have wo := Lib.hid (fun X (hX : Wk X P T Bp Ba n ah p (mix p c o (64 * fr) f i) fr tt) => hX.word o i (by omega))
        generalize sl n (ah c.toNat) = vc at ac wc
        generalize sl n (ah o.toNat) = vo at ao wo
        have tc := hw.att.cells i (by omega)
        have tf := hw.att.free i (by omega)
        rw [mix_word] at tc
        have pc := hw.pas.cells i (by omega)
        have hin : i < n := by omega
        have hinI : (i : Int) < (n : Int) := by omega
        have hin0 : (0 : Int) ≤ (i : Int) := by omega
        have hc8I : (c.toNat : Int) < 256 := by omega
        have ho8I : (o.toNat : Int) < 256 := by omega
        have eh := hit_word p c o f i
        have en := new_word p c o f (passA p) fr i hi0 HST.out
        have et := top_word p c o f fr i hi0
        go_wp2
        go_quiet ((go_at_call 23; first | with_reducible exact Calls.quiet_of_same (wc.out _ (hw.drewN _)) | with_reducible exact Calls.quiet_of_same (wo.out _ (hw.drewN _))))
        go_upto_region 8 with fail
        go_region
        have hw2 := (hw.drewN (nq + 1)).turn i hin _ rfl (fun k _ hk => mix_next p c o (64 * fr) f i k hk)
        have hb2 := (show Below B0 w (wr.drewN (nq + 1)) from ⟨HB.out.os, HB.out.tape, HB.out.output, HB.out.size, HB.out.block⟩).setCell (p := ⟨T, i, none⟩) hT (.int .u64 ((wd (mix p c o (64 * fr) f (i + 1)) i : Nat) : Int))
        clear k256 k257 k258 k259 k260 ac ao wc wo tc tf pc eh en
        try rw [new_word p c o f (passA p) fr i hi0 HST.out]
        generalize (wr.drewN (nq + 1)).setCell ⟨T, i, none⟩ (.int .u64 ((wd (mix p c o (64 * fr) f (i + 1)) i : Nat) : Int)) = X at hw2 hb2 ⊢
        clear hw
        have k257 := hw2.blk.c257
        have k258 := hw2.blk.c258
        simp only [sl] at k257 k258
        have tc := hw2.att.cells i hin
        have yc := hw2.any.cells i hin
        have HB2 := Lib.hid hb2
        clear hb2
        have ew := any_word p (mix p c o (64 * fr) f (i + 1)) i
        by_cases hy : wd (fun j => mix p c o (64 * fr) f (i + 1) j && anyA p j) i = 0
        · rw [hy] at ew
          have ew' : (Go.bits .and .u64 ((wd (mix p c o (64 * fr) f (i + 1)) i : Nat) : Int) ((wd (anyA p) i : Nat) : Int) != 0) = false := ew
          clear ew hy
          go_upto_region 10 with fail
          go_quiet (fail)
          go_wp2
          go_roundw
          case rel => exact ⟨fr1, i + 1, rfl, rfl, by push_cast; rfl, by omega, by omega, HF1.out.imp id (fun x => ⟨x.1, by omega, x.2.2⟩), hw2.drewN _, ⟨HB2.out.os, HB2.out.tape, HB2.out.output, HB2.out.size, HB2.out.block⟩⟩
          case measure => simp [intOf]; omega
        · have hs := wd_some _ i hy
          have ew' : (Go.bits .and .u64 ((wd (mix p c o (64 * fr) f (i + 1)) i : Nat) : Int) ((wd (anyA p) i : Nat) : Int) != 0) = true := by rw [ew]; simpa using hy
          have HS := Lib.hid hs
          clear ew hy hs
          go_upto_region 10 with fail
          go_quiet (fail)
          go_wp2
          go_roundw
          case rel =>
            refine ⟨i, i + 1, rfl, rfl, by push_cast; rfl, by omega, by omega, ?_, hw2.drewN _, ⟨HB2.out.os, HB2.out.tape, HB2.out.output, HB2.out.size, HB2.out.block⟩⟩
            by_cases e : i = fr
            · exact .inl e
            · refine .inr ⟨by omega, by omega, ?_⟩
              obtain ⟨q, q1, q2, q3⟩ := HS.out
              simp only [Bool.and_eq_true] at q3
              refine ⟨q, q1, q2, q3.2, ?_⟩
              have := q3.1
              unfold mix at this; rw [if_pos (by omega)] at this; exact this
          case measure => simp [intOf]; omega
      · have hie : i = tt + 1 := by omega
        have hf1t : fr ≤ fr1 ∧ fr1 ≤ tt := by rcases HF1.out with e | e <;> omega
        have hf1a := hf1t.1
        have hf1b := hf1t.2
        clear hf1t
        by_cases hcy : hitF p c o f (64 * (tt + 1) - 1) = true
        · have ecy : cyB p c o fr f i = 1 := by
            subst hie
            unfold cyB; rw [hcy]
            have : decide (fr < tt + 1) = true := decide_eq_true (by omega)
            rw [this]; rfl
          have hroom : i < n := by
            have h1 : hit p c o (64 * (tt + 1) - 1) = true := by unfold hitF at hcy; simp at hcy; exact hcy.2
            have := hit_lt h1
            rw [HN.out]; omega
          have H1 := Lib.hid (mix_end1 p c o f fr tt hft HZ.out hcy)
          rw [← hie] at H1
          have HE : Hid (∀ k, k < n → k ≠ i → wd (mix p c o (64 * fr) f i) k = wd (stp p c o (64 * fr) f) k) := Lib.hid (fun k _ hk => by
            subst hie; exact mix_end0 p c o f fr tt k hft HZ.out (.inl hk))
          clear hcy
          rw [ecy]
          clear ecy
          have hti : (tt : Int) + 1 = (i : Int) := by omega
          have HI := Lib.hid hie
          clear hie
          have kf := hw.blk.free 260 (by omega)
          have hwT := hw.setTo i
          have hbT := HB.out.setCell (p := ⟨P, 260, none⟩) hP (.int .i64 (i : Int))
          go_upto_region 14 with fail
          have HWT := Lib.hid hwT
          have HBT := Lib.hid hbT
          clear hwT hbT k256 k257 k258 k259 k260 kf hw
          generalize wr.setCell ⟨P, 260, none⟩ (.int .i64 (i : Int)) = X at HWT HBT ⊢
          have k258 := HWT.out.blk.c258
          have k260 := HWT.out.blk.c260
          simp only [sl] at k258
          have tf := HWT.out.att.free i hroom
          have tc := HWT.out.att.cells i hroom
          have hrI : (i : Int) < (n : Int) := by omega
          go_region
          have hw3 := (HWT.out.turn (g := stp p c o (64 * fr) f) i hroom 1 (by rw [H1.out]; rfl) HE.out).drew
          have hb3 := (HBT.out.setCell (p := ⟨T, i, none⟩) hT (.int .u64 1)).drew
          have HW3 := Lib.hid hw3
          have HB3 := Lib.hid hb3
          clear hw3 hb3 k258 k260 tf tc
          generalize (X.setCell ⟨T, i, none⟩ (.int .u64 1)).drew = Y at HW3 HB3 ⊢
          have HZ2 : Hid (∀ j, 64 * (i + 1) ≤ j → stp p c o (64 * fr) f j = false) := Lib.hid (fun j hj => by
            have hie := HI.out
            rw [stp_far p c o f fr tt hft HZ.out j (by omega)]
            have : ¬ j = 64 * (tt + 1) := by omega
            simp [this])
          have hf1c : fr1 ≤ i := by have := HI.out; omega
          have kk260 := HW3.out.blk.c260
          have kk258 := HW3.out.blk.c258
          simp only [sl] at kk258
          clear hti
          go_wp2
          go_loopw [7] (fun fv wq => ∃ k : Nat, fv = .int .i64 (k : Int) ∧ fr1 ≤ k ∧ k ≤ i ∧ (∀ j, 64 * fr1 ≤ j → j < 64 * k → stp p c o (64 * fr) f j = false) ∧ wq = Y) (fun fv _ => i - (intOf fv).toNat)
          case atStart => exact ⟨fr1, rfl, Nat.le_refl _, by omega, fun j h1 h2 => by omega, rfl⟩
          case round =>
            obtain ⟨k, rfl, hk1, hk2, hk3, rfl⟩ := hrel
            have k258 := HW3.out.blk.c258
            have k259 := HW3.out.blk.c259
            have k260 := HW3.out.blk.c260
            simp only [sl] at k258
            have kf := HW3.out.blk.free 259 (by omega)
            have ck := HW3.out.att.cells k (by omega)
            have HK := Lib.hid hk3
            clear hk3
            have hkn : k < n := by omega
            have hkI : (k : Int) < (n : Int) := by omega
            have fin : Below B0 w (wr.setCell ⟨P, 259, none⟩ (.int .i64 (k : Int))) ∧ ∃ fr' tt', Wk (wr.setCell ⟨P, 259, none⟩ (.int .i64 (k : Int))) P T Bp Ba n ah p (stp p c o (64 * fr) f) fr' tt' ∧ fr ≤ fr' ∧ fr' ≤ tt' ∧ tt' < n ∧ (∀ j, 64 * (tt' + 1) ≤ j → stp p c o (64 * fr) f j = false) ∧
                  (∀ j, 64 * fr ≤ j → j < 64 * fr' → stp p c o (64 * fr) f j = true → ∃ q, 64 * fr' ≤ q ∧ anyA p q = true ∧ stp p c o (64 * fr) f q = true) := by
              refine ⟨HB3.out.setCell (p := ⟨P, 259, none⟩) hP _, k, i, HW3.out.setFrom k, ?_, hk2, by omega, HZ2.out, drop_ok p _ fr fr1 k (HF1.out.imp id (fun x => ⟨x.1, x.2.2⟩)) hk1 HK.out⟩
              rcases HF1.out with e | e <;> omega
            have FIN := Lib.hid fin
            clear fin
            by_cases hkt : k < i
            · have t1 : decide ((k : Int) < ((i : Nat) : Int)) = true := by simp; omega
              by_cases hw0 : wd (stp p c o (64 * fr) f) k = 0
              · rw [hw0] at ck
                go_wp2
                go_roundw
                case rel =>
                  refine ⟨k + 1, by push_cast; rfl, by omega, by omega, fun j h1 h2 => ?_, by first | rfl | trivial⟩
                  by_cases e : j < 64 * k
                  · exact HK.out j h1 e
                  · have := (wd_zero _ _).1 hw0 (j - 64 * k) (by omega)
                    rw [show 64 * k + (j - 64 * k) = j by omega] at this; exact this
                case measure => simp [intOf]; omega
              · have t2 : (((wd (stp p c o (64 * fr) f) k : Nat) : Int) == 0) = false := by rw [beq_eq_false_iff_ne]; omega
                go_wp2
                first | refine bodyPost_end (results_none rfl _ _ _) rfl ?_ | refine bodyPost_ret (results_none rfl _ _ _) rfl ?_
                exact ⟨rfl, FIN.out⟩
            · have t1 : decide ((k : Int) < ((i : Nat) : Int)) = false := by simp; omega
              have t3 : ¬ (k : Int) < ((i : Nat) : Int) := by omega
              go_wp2
              first | refine bodyPost_end (results_none rfl _ _ _) rfl ?_ | refine bodyPost_ret (results_none rfl _ _ _) rfl ?_
              exact ⟨rfl, FIN.out⟩
        · have hcy' : hitF p c o f (64 * (tt + 1) - 1) = false := by simpa using hcy
          have ecy : cyB p c o fr f i = 0 := by
            subst hie
            unfold cyB; rw [hcy']; simp
          have HW3 := Lib.hid (hw.congr (g := stp p c o (64 * fr) f) (fun k _ => by subst hie; exact mix_end0 p c o f fr tt k hft HZ.out (.inr hcy')))
          have HI := Lib.hid hie
          have HB3 := HB
          have HZ2 : Hid (∀ j, 64 * (tt + 1) ≤ j → stp p c o (64 * fr) f j = false) := Lib.hid (fun j hj => by
            rw [stp_far p c o f fr tt hft HZ.out j hj, hcy']; simp)
          clear hcy hcy' hw hie
          rw [ecy]
          go_wp2
          go_loopw [7] (fun fv wq => ∃ k : Nat, fv = .int .i64 (k : Int) ∧ fr1 ≤ k ∧ k ≤ tt ∧ (∀ j, 64 * fr1 ≤ j → j < 64 * k → stp p c o (64 * fr) f j = false) ∧ wq = wr) (fun fv _ => tt - (intOf fv).toNat)
          case atStart => exact ⟨fr1, rfl, Nat.le_refl _, by omega, fun j h1 h2 => by omega, rfl⟩
          case round =>
            obtain ⟨k, rfl, hk1, hk2, hk3, rfl⟩ := hrel
            have k258 := HW3.out.blk.c258
            have k259 := HW3.out.blk.c259
            have k260 := HW3.out.blk.c260
            simp only [sl] at k258
            have kf := HW3.out.blk.free 259 (by omega)
            have ck := HW3.out.att.cells k (by omega)
            have HK := Lib.hid hk3
            clear hk3
            have hkn : k < n := by omega
            have hkI : (k : Int) < (n : Int) := by omega
            have fin : Below B0 w (wr.setCell ⟨P, 259, none⟩ (.int .i64 (k : Int))) ∧ ∃ fr' tt', Wk (wr.setCell ⟨P, 259, none⟩ (.int .i64 (k : Int))) P T Bp Ba n ah p (stp p c o (64 * fr) f) fr' tt' ∧ fr ≤ fr' ∧ fr' ≤ tt' ∧ tt' < n ∧ (∀ j, 64 * (tt' + 1) ≤ j → stp p c o (64 * fr) f j = false) ∧
                  (∀ j, 64 * fr ≤ j → j < 64 * fr' → stp p c o (64 * fr) f j = true → ∃ q, 64 * fr' ≤ q ∧ anyA p q = true ∧ stp p c o (64 * fr) f q = true) := by
              refine ⟨HB3.out.setCell (p := ⟨P, 259, none⟩) hP _, k, tt, HW3.out.setFrom k, ?_, hk2, by omega, HZ2.out, drop_ok p _ fr fr1 k (HF1.out.imp id (fun x => ⟨x.1, x.2.2⟩)) hk1 HK.out⟩
              rcases HF1.out with e | e <;> omega
            have FIN := Lib.hid fin
            clear fin
            by_cases hkt : k < tt
            · have t1 : decide ((k : Int) < ((tt : Nat) : Int)) = true := by simp; omega
              by_cases hw0 : wd (stp p c o (64 * fr) f) k = 0
              · rw [hw0] at ck
                go_wp2
                go_roundw
                case rel =>
                  refine ⟨k + 1, by push_cast; rfl, by omega, by omega, fun j h1 h2 => ?_, by first | rfl | trivial⟩
                  by_cases e : j < 64 * k
                  · exact HK.out j h1 e
                  · have := (wd_zero _ _).1 hw0 (j - 64 * k) (by omega)
                    rw [show 64 * k + (j - 64 * k) = j by omega] at this; exact this
                case measure => simp [intOf]; omega
              · have t2 : (((wd (stp p c o (64 * fr) f) k : Nat) : Int) == 0) = false := by rw [beq_eq_false_iff_ne]; omega
                go_wp2
                first | refine bodyPost_end (results_none rfl _ _ _) rfl ?_ | refine bodyPost_ret (results_none rfl _ _ _) rfl ?_
                exact ⟨rfl, FIN.out⟩
            · have t1 : decide ((k : Int) < ((tt : Nat) : Int)) = false := by simp; omega
              have t3 : ¬ (k : Int) < ((tt : Nat) : Int) := by omega
              go_wp2
              first | refine bodyPost_end (results_none rfl _ _ _) rfl ?_ | refine bodyPost_ret (results_none rfl _ _ _) rfl ?_
              exact ⟨rfl, FIN.out⟩

end Go.Proofs.Ytedegnngdlkbhaa
