/- moment: dayAt, At. -/
import Derived.Test.YtngpejoiicpnkaaDoorDd
namespace Go.Proofs.YtngpejoiicpnkaaDoor
open Go.RowKit

theorem year_uniq (a b n : Nat) (ha : 1 ≤ a) (hb : 1 ≤ b) (h1 : dby a ≤ n) (h2 : n < dby (a + 1)) (h3 : dby b ≤ n) (h4 : n < dby (b + 1)) : a = b := by
  rcases Nat.lt_trichotomy a b with k | k | k
  · have := dby_mono (a + 1) b (by omega) k; omega
  · exact k
  · have := dby_mono (b + 1) a (by omega) k; omega
theorem year_parts (c h f o : Nat) (hh : h ≤ 3) (hf : f ≤ 24) (ho : o ≤ 3) : dby (1 + 400 * c + 100 * h + 4 * f + o) = 146097 * c + 36524 * h + 1461 * f + 365 * o := by
  have e : 1 + 400 * c + 100 * h + 4 * f + o - 1 = 400 * c + 100 * h + 4 * f + o := by omega
  unfold dby
  rw [e]
  have h4 : (400 * c + 100 * h + 4 * f + o) / 4 = 100 * c + 25 * h + f := by omega
  have h100 : (400 * c + 100 * h + 4 * f + o) / 100 = 4 * c + h := by omega
  have h400 : (400 * c + 100 * h + 4 * f + o) / 400 = c := by omega
  rw [h4, h100, h400]
  omega
/-- The year out of a day's number, by the cycles of the calendar. -/
theorem year_by (N Y M D : Nat) (hd : IsDay Y M D) (hN : dno Y M D = N) (c r1 h r2 f r3 o r4 : Int) (hc : c = (N : Int) / 146097) (h1 : r1 = (N : Int) % 146097)
    (hh : h = if 3 < r1 / 36524 then 3 else r1 / 36524) (h2 : r2 = r1 - h * 36524) (hf : f = r2 / 1461) (h3 : r3 = r2 % 1461)
    (ho : o = if 3 < r3 / 365 then 3 else r3 / 365) (h4 : r4 = r3 - o * 365) : 1 + 400 * c + 100 * h + 4 * f + o = (Y : Int) ∧ (N : Int) - (dby Y : Int) = r4 := by
  have a1 : 0 ≤ r1 ∧ r1 < 146097 := by omega
  have a2 : 0 ≤ h ∧ h ≤ 3 ∧ 0 ≤ r2 ∧ r2 ≤ 36524 ∧ (h < 3 → r2 < 36524) := by
    rw [hh] at h2 ⊢
    split at h2 <;> rename_i k <;> simp only [k, if_true, if_false] <;> omega
  have a3 : 0 ≤ f ∧ f ≤ 24 ∧ 0 ≤ r3 ∧ r3 < 1461 := by omega
  have a4 : 0 ≤ o ∧ o ≤ 3 ∧ 0 ≤ r4 ∧ r4 ≤ 365 ∧ (o < 3 → r4 < 365) := by
    rw [ho] at h4 ⊢
    split at h4 <;> rename_i k <;> simp only [k, if_true, if_false] <;> omega
  clear hh ho
  obtain ⟨C, rfl⟩ := Int.eq_ofNat_of_zero_le (show 0 ≤ c by omega)
  obtain ⟨H, rfl⟩ := Int.eq_ofNat_of_zero_le (show 0 ≤ h by omega)
  obtain ⟨F, rfl⟩ := Int.eq_ofNat_of_zero_le (show 0 ≤ f by omega)
  obtain ⟨O, rfl⟩ := Int.eq_ofNat_of_zero_le (show 0 ≤ o by omega)
  have hy := year_parts C H F O (by omega) (by omega) (by omega)
  have hNr : (N : Int) = (dby (1 + 400 * C + 100 * H + 4 * F + O) : Int) + r4 := by rw [hy]; omega
  have hs := dby_succ (1 + 400 * C + 100 * H + 4 * F + O) (by omega)
  have hl : r4 < (ylen (1 + 400 * C + 100 * H + 4 * F + O) : Int) := by
    have hb := ylen_le (1 + 400 * C + 100 * H + 4 * F + O)
    rcases Int.lt_or_le r4 365 with k | k
    · omega
    · have hO : O = 3 := by omega
      have h1460 : r3 = 1460 := by omega
      have hleap : leapY (1 + 400 * C + 100 * H + 4 * F + O) = true := by
        rw [leapY_iff]
        refine ⟨by omega, ?_⟩
        rcases Nat.lt_or_ge F 24 with kf | kf
        · left; omega
        · right
          have hF : F = 24 := by omega
          have hr2 : r2 = 36524 := by omega
          have hH : H = 3 := by omega
          omega
      unfold ylen
      rw [hleap]
      simp
      omega
  have hyr := dno_year Y M D hd
  rw [hN] at hyr
  have hY : Y = 1 + 400 * C + 100 * H + 4 * F + O := year_uniq Y _ N hd.y1 (by omega) hyr.1 hyr.2 (by omega) (by omega)
  subst hY
  exact ⟨by omega, by omega⟩

structure DayAtF (N Y M D : Nat) (c r1 h r2 f r3 o r4 : Int) : Prop where
  s1 : ∀ W, Calls Tryd.prog 29 #[.int .i64 N, .int .i64 146097] W fun e w' => e = .returned (.tuple #[.int .i64 c, .int .i64 r1]) ∧ w' = W.drew
  s2 : ∀ W, Calls Tryd.prog 50 #[.int .i64 r1, .int .i64 36524, .int .i64 3] W fun e w' => e = .returned (.tuple #[.int .i64 h, .int .i64 r2]) ∧ w' = W.drew
  s3 : ∀ W, Calls Tryd.prog 29 #[.int .i64 r2, .int .i64 1461] W fun e w' => e = .returned (.tuple #[.int .i64 f, .int .i64 r3]) ∧ w' = W.drew
  s4 : ∀ W, Calls Tryd.prog 50 #[.int .i64 r3, .int .i64 365, .int .i64 3] W fun e w' => e = .returned (.tuple #[.int .i64 o, .int .i64 r4]) ∧ w' = W.drew
  y : 1 + 400 * c + 100 * h + 4 * f + o = (Y : Int)
  r : (N : Int) - (dby Y : Int) = r4
theorem dayAtF (N Y M D : Nat) (hd : IsDay Y M D) (hN : dno Y M D = N) : ∃ c r1 h r2 f r3 o r4, DayAtF N Y M D c r1 h r2 f r3 o r4 ∧ (0 ≤ c ∧ c ≤ 25 ∧ 0 ≤ h ∧ h ≤ 3 ∧ 0 ≤ f ∧ f ≤ 24 ∧ 0 ≤ o ∧ o ≤ 3 ∧ 0 ≤ r4 ∧ r4 ≤ 366) := by
  have hl := dno_lt Y M D hd
  rw [hN] at hl
  obtain ⟨c, hc⟩ : ∃ c, c = (N : Int) / 146097 := ⟨_, rfl⟩
  obtain ⟨r1, h1⟩ : ∃ r, r = (N : Int) % 146097 := ⟨_, rfl⟩
  obtain ⟨h, hh⟩ : ∃ h, h = if 3 < r1 / 36524 then 3 else r1 / 36524 := ⟨_, rfl⟩
  obtain ⟨r2, h2⟩ : ∃ r, r = r1 - h * 36524 := ⟨_, rfl⟩
  obtain ⟨f, hf⟩ : ∃ f, f = r2 / 1461 := ⟨_, rfl⟩
  obtain ⟨r3, h3⟩ : ∃ r, r = r2 % 1461 := ⟨_, rfl⟩
  obtain ⟨o, ho⟩ : ∃ o, o = if 3 < r3 / 365 then 3 else r3 / 365 := ⟨_, rfl⟩
  obtain ⟨r4, h4⟩ : ∃ r, r = r3 - o * 365 := ⟨_, rfl⟩
  have a1 : 0 ≤ r1 ∧ r1 < 146097 := by omega
  have a2 : 0 ≤ h ∧ h ≤ 3 ∧ 0 ≤ r2 ∧ r2 ≤ 36524 := by
    rw [hh] at h2 ⊢
    split at h2 <;> rename_i k <;> simp only [k, if_true, if_false] <;> omega
  have a3 : 0 ≤ f ∧ f ≤ 24 ∧ 0 ≤ r3 ∧ r3 < 1461 := by omega
  have a4 : 0 ≤ o ∧ o ≤ 3 ∧ 0 ≤ r4 ∧ r4 ≤ 365 := by
    rw [ho] at h4 ⊢
    split at h4 <;> rename_i k <;> simp only [k, if_true, if_false] <;> omega
  have hy := year_by N Y M D hd hN c r1 h r2 f r3 o r4 hc h1 hh h2 hf h3 ho h4
  refine ⟨c, r1, h, r2, f, r3, o, r4, ⟨fun W => ?_, fun W => splitMost_any r1 36524 3 W (by omega) (by omega) a1.1 (by omega) (by omega) (by omega) h r2 hh h2, fun W => ?_, fun W => splitMost_any r3 365 3 W (by omega) (by omega) (by omega) (by omega) (by omega) (by omega) o r4 ho h4, hy.1, hy.2⟩, by omega⟩
  · rw [hc, h1]; exact split_any N 146097 W (by omega) (by omega) (by omega) (by omega)
  · rw [hf, h3]; exact split_any r2 1461 W (by omega) (by omega) (by omega) (by omega)

set_option maxRecDepth 100000 in
set_option maxHeartbeats 4000000 in
theorem dayAt_any (Y M D N : Nat) (w : World) (he : Env w) (hd : IsDay Y M D) (hN : dno Y M D = N) :
    Calls Tryd.prog 30 #[.int .i64 ((N : Int) - 719162)] w fun e w' => e = .returned (mom Y M D 0 0 0 0) ∧ Below w.heap.size w w' := by
  obtain ⟨c, r1, h, r2, f, r3, o, r4, hF, b1, b2, b3, b4, b5, b6, b7, b8, b9, b10⟩ := dayAtF N Y M D hd hN
  have hNl : N < 3652059 := by rw [← hN]; exact dno_lt Y M D hd
  have HY := Lib.hid hF.y
  have hY1 := hd.y1
  have hY2 := hd.y2
  have m1 := hd.m1
  have m2 := hd.m2
  have d1 := hd.d1
  have hmo := dno_month Y M D hd
  have hDn : dno Y M D = dby Y + dbm Y M + (D - 1) := rfl
  rw [hN] at hmo hDn
  have hr := hF.r
  obtain ⟨P, rfl⟩ := Int.eq_ofNat_of_zero_le b9
  have hP1 : dbm Y M ≤ P ∧ P < dbm Y (M + 1) := by omega
  have HPD : Hid (P = dbm Y M + (D - 1)) := Lib.hid (by omega)
  have hPl : P ≤ 366 := by omega
  have hx : (N : Int) - 719162 - -719162 = (N : Int) := by omega
  have HE := Lib.hid he
  clear he hd hN hmo hDn hr b9 b10
  go_enter Tryd.func30, Tryd.ntmps30
  go_wp2_with (first | (go_at_call_of 29 (N : Int); refine (hF.s1 _).mono ?_; rintro e w' ⟨rfl, rfl⟩) | (go_at_call_of 29 r2; refine (hF.s3 _).mono ?_; rintro e w' ⟨rfl, rfl⟩) | (go_at_call_of 50 r1; refine (hF.s2 _).mono ?_; rintro e w' ⟨rfl, rfl⟩) | (go_at_call_of 50 r3; refine (hF.s4 _).mono ?_; rintro e w' ⟨rfl, rfl⟩))
  rw [HY.out]
  have Q0 : Below w.heap.size w (((w.alloc (.cells #[.int .i64 0, .int .i64 0, .int .i64 0, .int .i64 0, .int .i64 0, .int .i64 0, .int .i64 0] 23)).alloc (.cells #[.int .i64 (Y : Int), .int .i64 1, .int .i64 0, .int .i64 0, .int .i64 0, .int .i64 0, .int .i64 0] 23)).drew.drew.drew.drew) := ((((((Below.refl _ _).alloc (Nat.le_refl _) _).alloc (by simp) _).drew).drew).drew).drew
  have G0 : Hid ((((w.alloc (.cells #[.int .i64 0, .int .i64 0, .int .i64 0, .int .i64 0, .int .i64 0, .int .i64 0, .int .i64 0] 23)).alloc (.cells #[.int .i64 (Y : Int), .int .i64 1, .int .i64 0, .int .i64 0, .int .i64 0, .int .i64 0, .int .i64 0] 23)).drew.drew.drew.drew).heap[w.heap.size]? = some (.cells #[.int .i64 0, .int .i64 0, .int .i64 0, .int .i64 0, .int .i64 0, .int .i64 0, .int .i64 0] 23 (0, 0))) := Lib.hid ((heap_alloc_old (w.alloc (.cells #[.int .i64 0, .int .i64 0, .int .i64 0, .int .i64 0, .int .i64 0, .int .i64 0, .int .i64 0] 23)) (.cells #[.int .i64 (Y : Int), .int .i64 1, .int .i64 0, .int .i64 0, .int .i64 0, .int .i64 0, .int .i64 0] 23) (by simp)).trans (heap_alloc_new w (.cells #[.int .i64 0, .int .i64 0, .int .i64 0, .int .i64 0, .int .i64 0, .int .i64 0, .int .i64 0] 23)))
  have G1 : Hid ((((w.alloc (.cells #[.int .i64 0, .int .i64 0, .int .i64 0, .int .i64 0, .int .i64 0, .int .i64 0, .int .i64 0] 23)).alloc (.cells #[.int .i64 (Y : Int), .int .i64 1, .int .i64 0, .int .i64 0, .int .i64 0, .int .i64 0, .int .i64 0] 23)).drew.drew.drew.drew).heap[w.heap.size + 1]? = some (.cells #[.int .i64 (Y : Int), .int .i64 1, .int .i64 0, .int .i64 0, .int .i64 0, .int .i64 0, .int .i64 0] 23 (0, 0))) := Lib.hid (heap_alloc2_new w (.cells #[.int .i64 0, .int .i64 0, .int .i64 0, .int .i64 0, .int .i64 0, .int .i64 0, .int .i64 0] 23) (.cells #[.int .i64 (Y : Int), .int .i64 1, .int .i64 0, .int .i64 0, .int .i64 0, .int .i64 0, .int .i64 0] 23))
  have HQ0 := Lib.hid Q0
  clear Q0 HY hF hx b1 b2 b3 b4 b5 b6 b7 b8
  go_loopw [4] (fun dv wr => ∃ i : Nat, 1 ≤ i ∧ i ≤ M ∧ dv = .int .i64 ((P : Int) - (dbm Y i : Int)) ∧ wr.heap[w.heap.size]? = some (.cells #[.int .i64 0, .int .i64 0, .int .i64 0, .int .i64 0, .int .i64 0, .int .i64 0, .int .i64 0] 23 (0, 0)) ∧ wr.heap[w.heap.size + 1]? = some (.cells #[.int .i64 (Y : Int), .int .i64 i, .int .i64 0, .int .i64 0, .int .i64 0, .int .i64 0, .int .i64 0] 23 (0, 0)) ∧ Below w.heap.size w wr) (fun dv _ => (intOf dv).toNat)
  case atStart => exact ⟨1, Nat.le_refl _, m1, by rw [dbm_one]; simp, G0.out, G1.out, HQ0.out⟩
  case round =>
    clear G0 G1 HQ0
    obtain ⟨i, hi1, hi2, rfl, hr0, hr1, hbw⟩ := hrel
    have he1 := Lib.hid (HE.out.on hbw)
    have cc0 := cell_of_row wr (w.heap.size + 1) 0 _ _ _ hr1
    have cc1 := cell_of_row wr (w.heap.size + 1) 1 _ _ _ hr1
    have cc2 := cell_of_row wr (w.heap.size + 1) 2 _ _ _ hr1
    have f1 := frozen_of_row wr (w.heap.size + 1) 1 _ _ hr1
    have f2 := frozen_of_row wr (w.heap.size + 1) 2 _ _ hr1
    simp only [List.getElem?_toArray, List.getElem?_cons_succ, List.getElem?_cons_zero] at cc0 cc1 cc2
    have hMk := Lib.hid (fun W hW => monthLength_any Y i W hW (by omega) hi1 (by omega))
    have hmk := dbm_succ Y i hi1
    have hml := mlen_bounds Y i
    by_cases hlt2 : i < M
    · have hle := dbm_mono Y (i + 1) M (by omega) hlt2
      have HQ1 := Lib.hid (heap_setCell_same wr (w.heap.size + 1) 1 _ _ (.int .i64 ((i : Int) + 1)) hr1)
      have HQ0 := Lib.hid ((heap_setCell_other wr ⟨w.heap.size + 1, 1, none⟩ w.heap.size (.int .i64 ((i : Int) + 1)) (by simp)).trans hr0)
      have HMK := Lib.hid hmk
      have hge : (mlen Y i : Int) ≤ (P : Int) - (dbm Y i : Int) := by omega
      clear hr0 hr1 hmk hle cc2 f2
      generalize mlen Y i = Lm at *
      generalize dbm Y i = Bm at *
      go_wp2_with (go_at_call 49; refine (hMk.out _ he1.out).mono ?_; rintro e w2 ⟨rfl, rfl⟩)
      go_roundw
      case rel => exact ⟨i + 1, by omega, by omega, by rw [HMK.out]; congr 1; push_cast; omega, HQ0.out, by have := HQ1.out; simpa using this, hbw.setCell (p := ⟨w.heap.size + 1, 1, none⟩) (by simp) _⟩
      case measure => simp [intOf]; omega
    · have hiM : i = M := by omega
      subst hiM
      have hlt3 : ¬ ((mlen Y i : Int) ≤ (P : Int) - (dbm Y i : Int)) := by omega
      have hDay : (P : Int) - (dbm Y i : Int) + 1 = (D : Int) := by have := HPD.out; omega
      have HC := Lib.hid (heap_setCell_same wr (w.heap.size + 1) 2 _ _ (.int .i64 (D : Int)) hr1)
      have HZ := Lib.hid ((heap_setCell_other wr ⟨w.heap.size + 1, 2, none⟩ w.heap.size (.int .i64 (D : Int)) (by simp)).trans hr0)
      have HC2 : Hid ((wr.setCell ⟨w.heap.size + 1, 2, none⟩ (.int .i64 (D : Int))).heap[w.heap.size + 1]? = some (.cells #[.int .i64 (Y : Int), .int .i64 i, .int .i64 D, .int .i64 0, .int .i64 0, .int .i64 0, .int .i64 0] 23 (0, 0))) := Lib.hid (by have := HC.out; simpa using this)
      have hb9 := hbw.setCell (p := ⟨w.heap.size + 1, 2, none⟩) (by simp) (.int .i64 (D : Int))
      have HB9 := Lib.hid hb9
      clear hr0 hr1 hmk HC hb9 hbw
      generalize mlen Y i = Lm at *
      generalize dbm Y i = Bm at *
      go_wp2_with (first | (go_at_call 49; refine (hMk.out _ he1.out).mono ?_; rintro e w2 ⟨rfl, rfl⟩) | (refine wpList_load_row rfl 23 _ rfl (w.heap.size + 1) rfl 23 _ (0, 0) _ HC2.out Tryd.underlying23 rfl Tryd.sizeMom ?_) | (refine wpList_store_row rfl 23 _ _ rfl w.heap.size #[.int .i64 (Y : Int), .int .i64 i, .int .i64 D, .int .i64 0, .int .i64 0, .int .i64 0, .int .i64 0] rfl rfl 23 _ HZ.out Tryd.sizeMom rfl (mom_one _ _ _ _ _ _ _) ?_))
      exact bodyPost_ret (v := mom Y i D 0 0 0 0) (results_cell_row Tryd.results30 _ _ w.heap.size 23 #[.int .i64 (Y : Int), .int .i64 i, .int .i64 D, .int .i64 0, .int .i64 0, .int .i64 0, .int .i64 0] (0, 0) _ rfl (setRow_heap _ _ _ #[.int .i64 (Y : Int), .int .i64 i, .int .i64 D, .int .i64 0, .int .i64 0, .int .i64 0, .int .i64 0] _ _ HZ.out) Tryd.underlying23 rfl Tryd.sizeMom) rfl ⟨rfl, below_setRow HB9.out (Nat.le_refl _) _⟩
end Go.Proofs.YtngpejoiicpnkaaDoor
