/- postbagref2: At. -/
import Derived.Test.YtmhkfdnaldeijabDoorCd
import Derived.Laws.ResultCell
import Derived.Laws.CopyOwn
namespace Go.Proofs.YtmhkfdnaldeijabDoor
open Go.RowKit

set_option maxRecDepth 100000 in
set_option maxHeartbeats 1000000 in
theorem refAt_zone (st z : Int) (w : World) (hz : z < -1439 ∨ 1439 < z) :
    Calls Tryd.prog 13 #[.int .i64 st, .int .i64 z] w fun e w' => e = .returned (.tuple #[mom 0 0 0 0 0 0 0, .int .i64 1]) ∧ Below w.heap.size w w' := by
  rcases hz with hz | hz
  all_goals (
    go_enter Tryd.func13, Tryd.ntmps13
    go_wp2
    exact bodyPost_ret (v := .tuple #[mom 0 0 0 0 0 0 0, .int .i64 1]) (res2 Tryd.results13 _ _ w.heap.size 26 _ (0, 0) _ rfl (heap_alloc_new w _) Tryd.underlying26 rfl Tryd.sizeMom) rfl ⟨rfl, (Below.refl _ _).alloc (Nat.le_refl _) _⟩)

set_option maxRecDepth 100000 in
set_option maxHeartbeats 2000000 in
theorem refAt_range (st z : Int) (w : World) (hz1 : -1439 ≤ z) (hz2 : z ≤ 1439) (hs : st + 60 * z < -62135596800 ∨ 253402300799 < st + 60 * z) (h64 : -9223372036854775808 ≤ st) (h65 : st ≤ 9223372036854775807) :
    Calls Tryd.prog 13 #[.int .i64 st, .int .i64 z] w fun e w' => e = .returned (.tuple #[mom 0 0 0 0 0 0 0, .int .i64 22]) ∧ Below w.heap.size w w' := by
  rcases (by omega : st < -62135696800 ∨ (-62135696800 ≤ st ∧ 253402400799 < st) ∨ (-62135696800 ≤ st ∧ st ≤ 253402400799 ∧ st + 60 * z < -62135596800) ∨ (-62135696800 ≤ st ∧ st ≤ 253402400799 ∧ -62135596800 ≤ st + 60 * z ∧ 253402300799 < st + 60 * z)) with h1 | ⟨h1, h2⟩ | ⟨h1, h2, h3⟩ | ⟨h1, h2, h3, h4⟩
  all_goals (
    clear hs
    go_enter Tryd.func13, Tryd.ntmps13
    go_wp2
    exact bodyPost_ret (v := .tuple #[mom 0 0 0 0 0 0 0, .int .i64 22]) (res2 Tryd.results13 _ _ w.heap.size 26 _ (0, 0) _ rfl (heap_alloc_new w _) Tryd.underlying26 rfl Tryd.sizeMom) rfl ⟨rfl, (Below.refl _ _).alloc (Nat.le_refl _) _⟩)

set_option maxRecDepth 100000 in
set_option maxHeartbeats 4000000 in
theorem refAt_ok (st z : Int) (w : World) (hz1 : -1439 ≤ z) (hz2 : z ≤ 1439) (h3 : -62135596800 ≤ st + 60 * z) (h4 : st + 60 * z ≤ 253402300799) (Y M D N : Nat) (hd : IsDay Y M D) (hN : dno Y M D = N) (H Mi S : Int)
    (hdv : (N : Int) = (st + 60 * z + 62135596800) / 86400) (hH : H = (st + 60 * z + 62135596800) % 86400 / 3600) (hMi : Mi = (st + 60 * z + 62135596800) % 86400 / 60 % 60) (hS : S = (st + 60 * z + 62135596800) % 86400 % 60) :
    Calls Tryd.prog 13 #[.int .i64 st, .int .i64 z] w fun e w' => e = .returned (.tuple #[mom Y M D H Mi S z, .int .i64 0]) ∧ Below w.heap.size w w' := by
  have s1 : -62135696800 ≤ st := by omega
  have s2 : st ≤ 253402400799 := by omega
  have T0 : Hid (st + 60 * z + 62135596800 = st + 60 * z + 62135596800) := Lib.hid rfl
  obtain ⟨X, hX⟩ : ∃ X, X = st + 60 * z + 62135596800 := ⟨_, rfl⟩
  have x1 : 0 ≤ X := by omega
  have x2 : X ≤ 315537897599 := by omega
  have hsub : st + 60 * z - -62135596800 = X := by omega
  rw [← hX] at hdv hH hMi hS
  clear hX T0
  obtain ⟨R, hR⟩ : ∃ R, X % 86400 = R := ⟨_, rfl⟩
  have hq : X / 86400 = (N : Int) := hdv.symm
  have r1 : 0 ≤ R := by omega
  have r2 : R < 86400 := by omega
  rw [hR] at hH hMi hS
  clear hdv
  have HH := Lib.hid hH
  have HM := Lib.hid hMi
  have HS := Lib.hid hS
  clear hH hMi hS
  have e1 : decide (z < -1439) = false := by rw [decide_eq_false_iff_not]; omega
  have e2 : decide (1439 < z) = false := by rw [decide_eq_false_iff_not]; omega
  have e3 : decide (st < -62135696800) = false := by rw [decide_eq_false_iff_not]; omega
  have e4 : decide (253402400799 < st) = false := by rw [decide_eq_false_iff_not]; omega
  have e5 : decide (st + 60 * z < -62135596800) = false := by rw [decide_eq_false_iff_not]; omega
  have e6 : decide (253402300799 < st + 60 * z) = false := by rw [decide_eq_false_iff_not]; omega
  go_enter Tryd.func13, Tryd.ntmps13
  go_wp2
  rw [hq, ← HH.out, ← HM.out, ← HS.out]
  have y1 := hd.y1
  have y2 := hd.y2
  have m1 := hd.m1
  have m2 := hd.m2
  have hyr := dno_year Y M D hd
  have hmo := dno_month Y M D hd
  have hDn : dno Y M D = dby Y + dbm Y M + (D - 1) := rfl
  have d1 := hd.d1
  rw [hN] at hyr hmo hDn
  have hNl : N < 3652059 := by rw [← hN]; exact dno_lt Y M D hd
  have G0 := Lib.hid ((heap_alloc_old (w.alloc (.cells #[.int .i64 0, .int .i64 0, .int .i64 0, .int .i64 0, .int .i64 0, .int .i64 0, .int .i64 0] 26)) (.cells #[.int .i64 1, .int .i64 1, .int .i64 0, .int .i64 H, .int .i64 Mi, .int .i64 S, .int .i64 z] 26) (by simp)).trans (heap_alloc_new w (.cells #[.int .i64 0, .int .i64 0, .int .i64 0, .int .i64 0, .int .i64 0, .int .i64 0, .int .i64 0] 26)))
  have G1 := Lib.hid (heap_alloc2_new w (.cells #[.int .i64 0, .int .i64 0, .int .i64 0, .int .i64 0, .int .i64 0, .int .i64 0, .int .i64 0] 26) (.cells #[.int .i64 1, .int .i64 1, .int .i64 0, .int .i64 H, .int .i64 Mi, .int .i64 S, .int .i64 z] 26))
  have HDn := Lib.hid hDn
  clear hDn HH HM HS hR hq hsub x1 x2 s1 s2 h3 h4 hd hN e1 e2 e3 e4 e5 e6 hz1 hz2
  go_loopw [7] (fun dv wr => ∃ k : Nat, 1 ≤ k ∧ k ≤ Y ∧ dv = .int .i64 ((N : Int) - (dby k : Int)) ∧ wr.heap[w.heap.size]? = some (.cells #[.int .i64 0, .int .i64 0, .int .i64 0, .int .i64 0, .int .i64 0, .int .i64 0, .int .i64 0] 26 (0, 0)) ∧ wr.heap[w.heap.size + 1]? = some (.cells #[.int .i64 k, .int .i64 1, .int .i64 0, .int .i64 H, .int .i64 Mi, .int .i64 S, .int .i64 z] 26 (0, 0)) ∧ Below w.heap.size w wr) (fun dv _ => (intOf dv).toNat)
  case atStart => exact ⟨1, Nat.le_refl _, y1, by rw [dby_one]; simp, G0.out, G1.out, ((Below.refl _ _).alloc (Nat.le_refl _) _).alloc (by simp) _⟩
  case round =>
    obtain ⟨k, hk1, hk2, rfl, hr0, hr1, hbw⟩ := hrel
    clear G0 G1
    have c0 := cell_of_row wr (w.heap.size + 1) 0 _ _ _ hr1
    have f0 := frozen_of_row wr (w.heap.size + 1) 0 _ _ hr1
    simp only [List.getElem?_toArray, List.getElem?_cons_zero] at c0
    have hYk := Lib.hid (fun W => year_any k W (by omega))
    have hyk := dby_succ k hk1
    have hyl := ylen_le k
    by_cases hlt : k < Y
    · have hle := dby_mono (k + 1) Y (by omega) hlt
      have HR1 := Lib.hid (heap_setCell_same wr (w.heap.size + 1) 0 _ _ (.int .i64 ((k : Int) + 1)) hr1)
      have HR0 := Lib.hid ((heap_setCell_other wr ⟨w.heap.size + 1, 0, none⟩ w.heap.size (.int .i64 ((k : Int) + 1)) (by simp)).trans hr0)
      have HYK := Lib.hid hyk
      have hge : (ylen k : Int) ≤ (N : Int) - (dby k : Int) := by omega
      have hB9 : dby k ≤ 3652059 := by omega
      clear hr0 hr1 hyk hle
      generalize ylen k = Lk at *
      generalize dby k = Bk at *
      go_wp2_with (go_at_call 35; refine (hYk.out _).mono ?_; rintro e w2 ⟨rfl, rfl⟩)
      go_roundw
      case rel => exact ⟨k + 1, by omega, by omega, by rw [HYK.out]; congr 1; push_cast; omega, HR0.out, by have := HR1.out; simpa using this, hbw.setCell (p := ⟨w.heap.size + 1, 0, none⟩) (by simp) _⟩
      case measure => simp [intOf]; omega
    · have hkY : k = Y := by omega
      subst hkY
      have hlt1 : ¬ ((ylen k : Int) ≤ (N : Int) - (dby k : Int)) := by omega
      have hmo' := hmo
      have HY2 := Lib.hid hyk
      clear hyk hyr hlt hk2
      have hBl : dby k ≤ N := by omega
      obtain ⟨P, hP⟩ : ∃ P : Nat, N = dby k + P := ⟨N - dby k, by omega⟩
      have hPI : (N : Int) - (dby k : Int) = (P : Int) := by omega
      have hP1 : dbm k M ≤ P ∧ P < dbm k (M + 1) := by omega
      have hPD : P = dbm k M + (D - 1) := by have := HDn.out; omega
      have hPl : P < 400 := by omega
      have HPD := Lib.hid hPD
      rw [hPI] at hlt1 ⊢
      have e7 : decide (ylen k ≤ P) = false := by rw [decide_eq_false_iff_not]; omega
      clear hlt1
      clear hmo hmo' hPI hPD HDn hBl hP hNl
      generalize hLk : ylen k = Lk at *
      clear hLk HY2
      go_wp2_with (go_at_call 35; refine (hYk.out _).mono ?_; rintro e w2 ⟨rfl, rfl⟩)
      have HR0 := Lib.hid hr0
      have HR1 := Lib.hid hr1
      clear hr0 hr1 c0 f0 hYk e7
      go_loopw [7] (fun dv wr => ∃ i : Nat, 1 ≤ i ∧ i ≤ M ∧ dv = .int .i64 ((P : Int) - (dbm k i : Int)) ∧ wr.heap[w.heap.size]? = some (.cells #[.int .i64 0, .int .i64 0, .int .i64 0, .int .i64 0, .int .i64 0, .int .i64 0, .int .i64 0] 26 (0, 0)) ∧ wr.heap[w.heap.size + 1]? = some (.cells #[.int .i64 k, .int .i64 i, .int .i64 0, .int .i64 H, .int .i64 Mi, .int .i64 S, .int .i64 z] 26 (0, 0)) ∧ Below w.heap.size w wr) (fun dv _ => (intOf dv).toNat)
      case atStart => exact ⟨1, Nat.le_refl _, m1, by rw [dbm_one]; simp, HR0.out, HR1.out, hbw⟩
      case round =>
        clear HR0 HR1 hbw
        obtain ⟨i, hi1, hi2, rfl, hr0, hr1, hbw⟩ := hrel
        have c0 := cell_of_row wr (w.heap.size + 1) 0 _ _ _ hr1
        have c1 := cell_of_row wr (w.heap.size + 1) 1 _ _ _ hr1
        have c2 := cell_of_row wr (w.heap.size + 1) 2 _ _ _ hr1
        have f1 := frozen_of_row wr (w.heap.size + 1) 1 _ _ hr1
        have f2 := frozen_of_row wr (w.heap.size + 1) 2 _ _ hr1
        simp only [List.getElem?_toArray, List.getElem?_cons_succ, List.getElem?_cons_zero] at c0 c1 c2
        have hMk := Lib.hid (fun W => length_any k i W (by omega) (by omega))
        have hmk := dbm_succ k i hi1
        have hml := mlen_bounds k i
        by_cases hlt2 : i < M
        · have hle := dbm_mono k (i + 1) M (by omega) hlt2
          have HQ1 := Lib.hid (heap_setCell_same wr (w.heap.size + 1) 1 _ _ (.int .i64 ((i : Int) + 1)) hr1)
          have HQ0 := Lib.hid ((heap_setCell_other wr ⟨w.heap.size + 1, 1, none⟩ w.heap.size (.int .i64 ((i : Int) + 1)) (by simp)).trans hr0)
          have HMK := Lib.hid hmk
          have hge : (mlen k i : Int) ≤ (P : Int) - (dbm k i : Int) := by omega
          clear hr0 hr1 hmk hle c2 f2
          generalize mlen k i = Lm at *
          generalize dbm k i = Bm at *
          go_wp2_with (go_at_call 36; refine (hMk.out _).mono ?_; rintro e w2 ⟨rfl, rfl⟩)
          go_roundw
          case rel => exact ⟨i + 1, by omega, by omega, by rw [HMK.out]; congr 1; push_cast; omega, HQ0.out, by have := HQ1.out; simpa using this, hbw.setCell (p := ⟨w.heap.size + 1, 1, none⟩) (by simp) _⟩
          case measure => simp [intOf]; omega
        · have hiM : i = M := by omega
          subst hiM
          have hlt3 : ¬ ((mlen k i : Int) ≤ (P : Int) - (dbm k i : Int)) := by omega
          have hDay : (P : Int) - (dbm k i : Int) + 1 = (D : Int) := by have := HPD.out; omega
          have HC := Lib.hid (heap_setCell_same wr (w.heap.size + 1) 2 _ _ (.int .i64 (D : Int)) hr1)
          have HZ := Lib.hid ((heap_setCell_other wr ⟨w.heap.size + 1, 2, none⟩ w.heap.size (.int .i64 (D : Int)) (by simp)).trans hr0)
          have HC2 : Hid ((wr.setCell ⟨w.heap.size + 1, 2, none⟩ (.int .i64 (D : Int))).heap[w.heap.size + 1]? = some (.cells #[.int .i64 k, .int .i64 i, .int .i64 D, .int .i64 H, .int .i64 Mi, .int .i64 S, .int .i64 z] 26 (0, 0))) := Lib.hid (by have := HC.out; simpa using this)
          have hb9 := hbw.setCell (p := ⟨w.heap.size + 1, 2, none⟩) (by simp) (.int .i64 (D : Int))
          have HB9 := Lib.hid hb9
          clear hr0 hr1 hmk HC hb9 hbw
          generalize mlen k i = Lm at *
          generalize dbm k i = Bm at *
          go_wp2_with (first | (go_at_call 36; refine (hMk.out _).mono ?_; rintro e w2 ⟨rfl, rfl⟩) | (refine wpList_load_row rfl 26 _ rfl (w.heap.size + 1) rfl 26 _ (0, 0) _ HC2.out Tryd.underlying26 rfl Tryd.sizeMom ?_) | (refine wpList_store_row rfl 26 _ _ rfl w.heap.size #[.int .i64 k, .int .i64 i, .int .i64 D, .int .i64 H, .int .i64 Mi, .int .i64 S, .int .i64 z] rfl rfl 26 _ HZ.out Tryd.sizeMom rfl (mom_one _ _ _ _ _ _ _) ?_))
          exact bodyPost_ret (v := .tuple #[mom k i D H Mi S z, .int .i64 0]) (res2 Tryd.results13 _ _ w.heap.size 26 #[.int .i64 k, .int .i64 i, .int .i64 D, .int .i64 H, .int .i64 Mi, .int .i64 S, .int .i64 z] (0, 0) _ rfl (setRow_heap _ _ _ #[.int .i64 k, .int .i64 i, .int .i64 D, .int .i64 H, .int .i64 Mi, .int .i64 S, .int .i64 z] _ _ HZ.out) Tryd.underlying26 rfl Tryd.sizeMom) rfl ⟨rfl, below_setRow HB9.out (Nat.le_refl _) _⟩
end Go.Proofs.YtmhkfdnaldeijabDoor
