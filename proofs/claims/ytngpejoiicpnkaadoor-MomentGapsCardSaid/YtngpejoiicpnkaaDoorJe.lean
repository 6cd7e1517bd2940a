/- The statement MomentGaps: the facts of the walk; a moment that may not be. -/
import Derived.Test.YtngpejoiicpnkaaDoorJd
namespace Go.Proofs.YtngpejoiicpnkaaDoor
open Go.RowKit

theorem S_ext (a b c : List UInt8) : (S (a ++ b ++ c)).extract a.length (a.length + b.length) = S b := by
  apply ByteArray.ext
  unfold S
  simp only [ByteArray.data_extract, List.extract_toArray, Array.mk.injEq]
  rw [List.extract_eq_take_drop]
  simp
theorem S_ext2 {l a b c : List UInt8} {i j : Nat} (h : l = a ++ b ++ c) (hi : i = a.length) (hj : j = a.length + b.length) : (S l).extract i j = S b := by
  subst h hi hj
  exact S_ext a b c
theorem stp_x : (stp [120]).k ≠ 0 := by decide +kernel
theorem stp_p : (stp [40, 120]).k = 0 := by decide +kernel
def a0L (wk : Bool) (g : Nat → List UInt8) : List UInt8 := if wk then g 0 ++ [119, 69, 68] ++ g 1 ++ [44] else g 0
def a1L (wk : Bool) (g : Nat → List UInt8) (Y M D H N : Nat) : List UInt8 := a0L wk g ++ g 2 ++ pad2 D ++ g 3 ++ monN (M - 1) ++ g 4 ++ pad4 Y ++ g 5 ++ pad2 H ++ g 6 ++ [58] ++ g 7 ++ pad2 N
def a2L (wk sec : Bool) (g : Nat → List UInt8) (Y M D H N E : Nat) : List UInt8 := if sec then a1L wk g Y M D H N ++ g 8 ++ [58] ++ pad2 E else a1L wk g Y M D H N
def zsL (z : Int) : List UInt8 := if z < 0 then [45] else [43]
theorem gaT_eq (wk sec : Bool) (g : Nat → List UInt8) (Y M D H N E : Nat) (z : Int) (X : List UInt8) :
    a2L wk sec g Y M D H N E ++ g 9 ++ zsL z ++ pad2 (z.natAbs / 60) ++ pad2 (z.natAbs % 60) ++ X = gaT wk sec g Y M D H N E z X := by
  unfold a2L a1L a0L gaT gaR zoneL zsL
  by_cases hz : z < 0
  · cases wk <;> cases sec <;> simp [hz]
  · cases wk <;> cases sec <;> simp [hz]
theorem pad2_len (n : Nat) : (pad2 n).length = 2 := rfl
theorem pad4_len (n : Nat) : (pad4 n).length = 4 := rfl
theorem a0L_len (wk : Bool) (g : Nat → List UInt8) (hg : ∀ i, (g i).length ≤ 900) : (a0L wk g).length ≤ 1804 := by
  have h0 := hg 0; have h1 := hg 1
  unfold a0L; split <;> simp <;> omega
theorem a1L_len (wk : Bool) (g : Nat → List UInt8) (Y M D H N : Nat) (hg : ∀ i, (g i).length ≤ 900) (hM : M - 1 < 12) : (a1L wk g Y M D H N).length ≤ 7300 := by
  have h0 := a0L_len wk g hg; have h2 := hg 2; have h3 := hg 3; have h4 := hg 4; have h5 := hg 5; have h6 := hg 6; have h7 := hg 7
  have hm := monN_len (M - 1) hM
  unfold a1L; simp only [List.length_append, pad2_len, pad4_len, hm, List.length_cons, List.length_nil]; omega
theorem a2L_len (wk sec : Bool) (g : Nat → List UInt8) (Y M D H N E : Nat) (hg : ∀ i, (g i).length ≤ 900) (hM : M - 1 < 12) : (a2L wk sec g Y M D H N E).length ≤ 8300 := by
  have h1 := a1L_len wk g Y M D H N hg hM; have h8 := hg 8
  unfold a2L; split
  · simp only [List.length_append, pad2_len, List.length_cons, List.length_nil]; omega
  · omega
/-- A date with gaps is read. -/
theorem gaps_call (wk sec : Bool) (g : Nat → List UInt8) (hg : ∀ i, Gap (g i)) (hl : ∀ i, (g i).length ≤ 900) (Y M D H N E : Nat) (z : Int) (X : List UInt8) (hXl : X.length ≤ 1000) (hX : NoDig X) (hf : isDayB Y M D = true) (hM1 : 1 ≤ M) (hM2 : M ≤ 12) (hY : Y < 10000) (hD : D < 100) (h1 : H ≤ 23) (h2 : N ≤ 59) (h3 : E ≤ 59) (h4 : -1439 ≤ z) (h5 : z ≤ 1439) (b : Bool) (hb : b = decide ((stp X).k = 0)) (W : World) (he : Env W) :
    Calls Tryd.prog 21 #[.string (S (a2L wk sec g Y M D H N E ++ g 9 ++ zsL z ++ pad2 (z.natAbs / 60) ++ pad2 (z.natAbs % 60) ++ X))] W fun e w' =>
      e = .returned (.tuple #[if b then mom Y M D H N (if sec then E else 0 : Nat) z else mom 0 0 0 0 0 0 0, .int .i64 (if b then 0 else 20)]) ∧ Below W.heap.size W w' := by
  have hlen := a2L_len wk sec g Y M D H N E hl (by omega)
  have h9 := hl 9
  have hzs : (zsL z).length = 1 := by unfold zsL; split <;> rfl
  have := momReadHeader_any (S (a2L wk sec g Y M D H N E ++ g 9 ++ zsL z ++ pad2 (z.natAbs / 60) ++ pad2 (z.natAbs % 60) ++ X)) W he (by rw [S_size]; simp only [List.length_append, pad2_len, hzs]; omega)
  rw [L_S, gaT_eq] at this
  obtain ⟨r1, r2, _⟩ := gaps_read wk sec g hg Y M D H N E z (nzI (hc3 (gaT wk sec g Y M D H N E z X)).p) X hX hY hM1 hM2 hD h1 h2 h3 h4 h5
  rw [r1, r2, ← hb] at this
  rw [gaT_eq]
  have e1 : judV b Y M D H N ((if sec then E else 0 : Nat) : Int) z = if b then mom Y M D H N (if sec then E else 0 : Nat) z else mom 0 0 0 0 0 0 0 := by
    unfold judV; rw [hf, Bool.and_true]
  have e2 : judE b Y M D = if b then 0 else 20 := by
    unfold judE; rw [hf]; rfl
  rw [e1, e2] at this
  exact this
set_option maxHeartbeats 4000000 in
theorem MomentGaps_yes (y m d h n s z : Int) (v : Value) (ss : List ByteArray) (wk sec : Bool) (w : World) (he : Env w) (hs : Strs w v ss) (hv : validB y m d h n s z = true) :
    Calls Tryd.prog 7 #[mom y m d h n s z, v, .bool wk, .bool sec] w fun e w' => e = .returned (.bool true) ∧ Below w.heap.size w w' := by
  have hf := valid_day hv
  obtain ⟨t1, t2, t3, t4, t5, t6, t7, t8⟩ := valid_time y m d h n s z hv
  have hp : pdL y m d = dayL y.toNat m.toNat d.toNat := by unfold pdL; rw [hf]; rfl
  have hpe : pdE y m d = 0 := by unfold pdE; rw [hf]; rfl
  have hdl := dayL_len y m d hf
  obtain ⟨Y, M, D, rfl, rfl, rfl, hd⟩ := isDay_parts hf
  obtain ⟨H, rfl⟩ := Int.eq_ofNat_of_zero_le t1
  obtain ⟨N, rfl⟩ := Int.eq_ofNat_of_zero_le t3
  obtain ⟨E, rfl⟩ := Int.eq_ofNat_of_zero_le t5
  have hml := mlen_bounds Y M
  have hd2 := hd.d2
  have hy2 := hd.y2
  have hm1 := hd.m1
  have hm2 := hd.m2
  simp only [Int.toNat_natCast] at hp hdl
  obtain ⟨ao, len, cap, rfl⟩ : ∃ ao len cap, v = .slice ao len cap := by
    rcases hs with ⟨_, ao, cap, rfl⟩ | ⟨b, off, cap, rfl, _⟩
    · exact ⟨_, _, _, rfl⟩
    · exact ⟨_, _, _, rfl⟩
  have hg : ∀ i, Gap (gapL ss i) := fun i => gapL_gap ss i
  have hl : ∀ i, (gapL ss i).length ≤ 900 := fun i => gapL_len ss i
  have hq : ∀ (i : Nat) (s' : Int) (X : World), SG w Y M D H N s' z X → Calls Tryd.prog 22 #[.slice ao len cap, .int .i64 i] X fun e w' => e = .returned (.string (S (gapL ss i))) ∧ SG w Y M D H N s' z w' ∧ Below X.heap.size X w' := fun i s' X st => by
    refine (gap_any (.slice ao len cap) ss i X (hs.on st.2.2.2.2.2.2.2.2.2)).mono ?_
    rintro e w' ⟨rfl, hb⟩
    exact ⟨rfl, st.on he hb, hb⟩
  have hr : ∀ (i : Nat) (s' : Int) (X : World), i < 100 → SG w Y M D H N s' z X → Calls Tryd.prog 23 #[.int .i64 i] X fun e w' => e = .returned (.string (S (pad2 i))) ∧ SG w Y M D H N s' z w' ∧ Below X.heap.size X w' := fun i s' X hi st => by
    refine (two_any i X hi).mono ?_
    rintro e w' ⟨rfl, hb⟩
    exact ⟨rfl, st.on he hb, hb⟩
  have hX0 : NoDig (gapL ss 10) := by have := (hg 10).nd []; rwa [List.append_nil] at this
  have hk0 : (stp (gapL ss 10)).k = 0 := by have := (hg 10).stp []; rw [List.append_nil] at this; rw [this]; rfl
  have hh : ∀ (X : World) (R : List UInt8) (b : Bool), R.length ≤ 2 → b = decide ((stp (gapL ss 10 ++ R)).k = 0) → SG w Y M D H N ((if sec then E else 0 : Nat) : Int) z X → Calls Tryd.prog 21 #[.string (S (a2L wk sec (gapL ss) Y M D H N E ++ gapL ss 9 ++ zsL z ++ pad2 (z.natAbs / 60) ++ pad2 (z.natAbs % 60) ++ (gapL ss 10 ++ R)))] X fun e w' =>
      e = .returned (.tuple #[if b then mom Y M D H N (if sec then E else 0 : Nat) z else mom 0 0 0 0 0 0 0, .int .i64 (if b then 0 else 20)]) ∧ SG w Y M D H N ((if sec then E else 0 : Nat) : Int) z w' ∧ Below X.heap.size X w' := fun X R b hR hb st => by
    have h10 := hl 10
    refine (gaps_call wk sec (gapL ss) hg hl Y M D H N E z (gapL ss 10 ++ R) (by rw [List.length_append]; omega) ((hg 10).nd R) hf hm1 hm2 (by omega) (by omega) (by omega) (by omega) (by omega) t7 t8 b hb X st.2.2.2.2.2.2.2.2.1).mono ?_
    rintro e w' ⟨rfl, hb'⟩
    exact ⟨rfl, st.on he hb', hb'⟩
  have hT : ∀ R, S (a2L wk sec (gapL ss) Y M D H N E) ++ S (gapL ss 9) ++ S (zsL z) ++ S (pad2 (z.natAbs / 60)) ++ S (pad2 (z.natAbs % 60)) ++ S (gapL ss 10) ++ S R = S (a2L wk sec (gapL ss) Y M D H N E ++ gapL ss 9 ++ zsL z ++ pad2 (z.natAbs / 60) ++ pad2 (z.natAbs % 60) ++ (gapL ss 10 ++ R)) := fun R => by
    simp only [S_appJ, List.append_assoc]
  have hT0 : S (a2L wk sec (gapL ss) Y M D H N E) ++ S (gapL ss 9) ++ S (zsL z) ++ S (pad2 (z.natAbs / 60)) ++ S (pad2 (z.natAbs % 60)) ++ S (gapL ss 10) = S (a2L wk sec (gapL ss) Y M D H N E ++ gapL ss 9 ++ zsL z ++ pad2 (z.natAbs / 60) ++ pad2 (z.natAbs % 60) ++ (gapL ss 10 ++ [])) := by
    simp only [S_appJ, List.append_assoc, List.append_nil]
  have hF : GaF w ao len cap Y M D H N E ((if sec then E else 0 : Nat) : Int) z ((z.natAbs / 60 : Nat) : Int) ((z.natAbs % 60 : Nat) : Int) (S (dayL Y M D)) (S (a2L wk sec (gapL ss) Y M D H N E)) (S (zsL z)) (S (gapL ss 0)) (S (gapL ss 1)) (S (gapL ss 2)) (S (gapL ss 3)) (S (gapL ss 4)) (S (gapL ss 5)) (S (gapL ss 6)) (S (gapL ss 7)) (S (gapL ss 8)) (S (gapL ss 9)) (S (gapL ss 10)) (S (pad2 D)) (S (pad2 H)) (S (pad2 N)) (S (pad2 E)) (S (pad2 (z.natAbs / 60))) (S (pad2 (z.natAbs % 60))) := by
    constructor
    case kn =>
      intro X st
      refine (known_any X st.2.2.2.2.2.2.2.2.1).mono ?_
      rintro e w' ⟨rfl, hb⟩
      exact ⟨rfl, st.on he hb, hb⟩
    case va =>
      intro X st
      have := momValid_any Y M D H N E z X st.2.2.2.2.2.2.2.2.1
      rw [hv] at this
      refine this.mono ?_
      rintro e w' ⟨rfl, hb⟩
      exact ⟨rfl, st.on he hb, hb⟩
    case pd =>
      intro X st
      have := momPrintDay_any Y M D H N E z X st.2.2.2.2.2.2.2.2.1
      rw [hp, hpe] at this
      refine this.mono ?_
      rintro e w' ⟨rfl, hb⟩
      exact ⟨rfl, st.on he hb, hb⟩
    case q0 => exact fun s' X st => hq 0 s' X st
    case q1 => exact fun s' X st => hq 1 s' X st
    case q2 => exact fun s' X st => hq 2 s' X st
    case q3 => exact fun s' X st => hq 3 s' X st
    case q4 => exact fun s' X st => hq 4 s' X st
    case q5 => exact fun s' X st => hq 5 s' X st
    case q6 => exact fun s' X st => hq 6 s' X st
    case q7 => exact fun s' X st => hq 7 s' X st
    case q8 => exact fun s' X st => hq 8 s' X st
    case q9 => exact fun s' X st => hq 9 s' X st
    case q10 => exact fun s' X st => hq 10 s' X st
    case rtd => exact fun s' X st => hr D s' X (by omega) st
    case rth => exact fun s' X st => hr H s' X (by omega) st
    case rtn => exact fun s' X st => hr N s' X (by omega) st
    case rts => exact fun s' X st => hr E s' X (by omega) st
    case rta => exact fun s' X st => hr _ s' X (by omega) st
    case rtb => exact fun s' X st => hr _ s' X (by omega) st
    case rh =>
      intro X st
      rw [hT0]
      exact hh X [] true (by simp) (by rw [List.append_nil, hk0]; rfl) st
    case rx =>
      intro X st
      rw [show (⟨#[120]⟩ : ByteArray) = S [120] from rfl, hT]
      exact hh X [120] false (by simp) (by rw [(hg 10).stp]; exact (decide_eq_false stp_x).symm) st
    case rp =>
      intro X st
      rw [show (⟨#[40, 120]⟩ : ByteArray) = S [40, 120] from rfl, hT]
      exact hh X [40, 120] true (by simp) (by rw [(hg 10).stp, stp_p]; rfl) st
  have hzs : (zsL z).length = 1 := by unfold zsL; split <;> rfl
  have h0l := a0L_len wk (gapL ss) hl
  have h1l := a1L_len wk (gapL ss) Y M D H N hl (by omega)
  have h2l := a2L_len wk sec (gapL ss) Y M D H N E hl (by omega)
  have hm3 := monN_len (M - 1) (by omega)
  have hdd : dayL Y M D = (Lib.decDigits D ++ [45] ++ monN (M - 1) ++ [45]) ++ pad4 Y ++ [] := by unfold dayL; simp
  have hdm : dayL Y M D = (Lib.decDigits D ++ [45]) ++ monN (M - 1) ++ ([45] ++ pad4 Y) := by unfold dayL; simp
  have hdec : (Lib.decDigits D).length + 9 = (dayL Y M D).length := by rw [hdd]; simp [pad4_len, hm3]
  refine gaps_go w ao len cap Y M D H N E _ z (z.natAbs : Int) _ _ wk sec _ (S (pad4 Y)) (S (monN (M - 1))) _ (S (a0L wk (gapL ss))) (S (a1L wk (gapL ss) Y M D H N)) _ _ _ _ _ _ _ _ _ _ _ _ _ _ _ _ _ _ (dayL Y M D).length _ _ _ _ _ _ _ _ _ _ _ _ _ _ hF ?_ (Lib.hid he) ?_ rfl ?_ ?_ rfl hm3 hzs ?_ t7 t8 ?_ ?_ ?_ ?_ rfl (hl 0) rfl (hl 1) rfl (hl 2) rfl (hl 3) rfl (hl 4) rfl (hl 5) rfl (hl 6) rfl (hl 7) rfl (hl 8) rfl (hl 9) rfl (hl 10) rfl rfl rfl rfl rfl rfl (Lib.hid ?_) rfl ?_ (Lib.hid ?_) rfl ?_ (Lib.hid ?_) rfl ?_ (Lib.hid ?_)
  · exact SG.mk' ⟨heap_alloc_new w _⟩ he ((Below.refl _ _).alloc (Nat.le_refl _) _)
  · rw [hdl]; split <;> simp
  · exact S_ext2 hdd (by simp [hm3]; omega) (by simp [hm3, pad4_len]; omega)
  · exact S_ext2 hdm (by simp; omega) (by simp [hm3]; omega)
  · by_cases hz : z < 0
    · exact .inl ⟨hz, by unfold zsL; rw [if_pos hz]; rfl, by omega⟩
    · exact .inr ⟨by omega, by unfold zsL; rw [if_neg hz]; rfl, by omega⟩
  · rw [Int.tdiv_eq_ediv_of_nonneg (by omega)]; omega
  · rw [Int.tmod_eq_emod_of_nonneg (by omega)]; omega
  · omega
  · omega
  · unfold a0L; cases wk <;> simp only [Bool.false_eq_true, if_false, if_true]
    rw [show (⟨#[119, 69, 68]⟩ : ByteArray) = S [119, 69, 68] from rfl, show (⟨#[44]⟩ : ByteArray) = S [44] from rfl]
    simp only [S_appJ]
  · rw [S_size]; omega
  · rw [show (⟨#[58]⟩ : ByteArray) = S [58] from rfl]
    simp only [S_appJ]; rfl
  · rw [S_size]; omega
  · unfold a2L; cases sec <;> simp only [Bool.false_eq_true, if_false, if_true]
    rw [show (⟨#[58]⟩ : ByteArray) = S [58] from rfl]
    simp only [S_appJ]
  · rw [S_size]; omega
  · cases sec <;> rfl
set_option maxHeartbeats 4000000 in
theorem MomentGaps_no (y m d h n s z : Int) (v : Value) (wk sec : Bool) (w : World) (he : Env w) (hv : validB y m d h n s z = false) :
    Calls Tryd.prog 7 #[mom y m d h n s z, v, .bool wk, .bool sec] w fun e w' => e = .returned (.bool true) ∧ Below w.heap.size w w' := by
  have HK := Lib.hid (fun W hW => known_any W hW)
  have H4 := Lib.hid (fun W hW => momValid_any y m d h n s z W hW)
  rw [hv] at H4
  have st0 := At7.new w y m d h n s z he
  clear he hv
  unfold mom at H4 ⊢
  go_enter Tryd.func7, Tryd.ntmps7
  obtain ⟨x0, x1, x2, x3, x4, x5, x6⟩ := st0.c
  go_wp2_with fail
  refine (HK.out _ st0.e).mono ?_
  rintro e w1 ⟨rfl, hb1⟩
  have st1 := st0.on hb1
  clear hb1 st0 x0 x1 x2 x3 x4 x5 x6
  obtain ⟨x0, x1, x2, x3, x4, x5, x6⟩ := st1.c
  go_wp2_with fail
  refine (H4.out _ st1.e).mono ?_
  rintro e w2 ⟨rfl, hb2⟩
  have st2 := st1.on hb2
  go_wp2_with fail
  go_ret
  exact ⟨rfl, by first | exact st2.q | exact st2.q.drew⟩
theorem MomentGaps_walk (y m d h n s z : Int) (v : Value) (ss : List ByteArray) (wk sec : Bool) (w : World) (he : Env w) (hs : Strs w v ss) :
    Calls Tryd.prog 7 #[mom y m d h n s z, v, .bool wk, .bool sec] w fun e w' => e = .returned (.bool true) ∧ Below w.heap.size w w' := by
  cases hv : validB y m d h n s z with
  | false => exact MomentGaps_no y m d h n s z v wk sec w he hv
  | true => exact MomentGaps_yes y m d h n s z v ss wk sec w he hs hv
end Go.Proofs.YtngpejoiicpnkaaDoor
