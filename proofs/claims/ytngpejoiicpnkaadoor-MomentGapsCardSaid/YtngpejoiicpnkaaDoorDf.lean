/- moment: At. -/
import Derived.Test.YtngpejoiicpnkaaDoorDe
namespace Go.Proofs.YtngpejoiicpnkaaDoor
open Go.RowKit

set_option maxRecDepth 100000 in
set_option maxHeartbeats 1000000 in
theorem momAt_zone (st z : Int) (w : World) (hz : z < -1439 ∨ 1439 < z) :
    Calls Tryd.prog 15 #[.int .i64 st, .int .i64 z] w fun e w' => e = .returned (.tuple #[mom 0 0 0 0 0 0 0, .int .i64 1]) ∧ Below w.heap.size w w' := by
  have W1 := Lib.hid (fun W => within_val z (-1439) 1439 false W (wi_false (by omega)))
  go_enter Tryd.func15, Tryd.ntmps15
  go_wp2_with (go_at_call 27; refine (W1.out _).mono ?_; rintro e w' ⟨rfl, rfl⟩)
  exact bodyPost_ret (v := .tuple #[mom 0 0 0 0 0 0 0, .int .i64 1]) (res2 Tryd.results15 _ _ w.heap.size 23 _ (0, 0) _ rfl (heap_alloc_new w _) Tryd.underlying23 rfl Tryd.sizeMom) rfl ⟨rfl, (Below.refl _ _).alloc (Nat.le_refl _) _⟩

set_option maxRecDepth 100000 in
set_option maxHeartbeats 2000000 in
theorem momAt_range (st z : Int) (w : World) (hz1 : -1439 ≤ z) (hz2 : z ≤ 1439) (hs : st + 60 * z < -62135596800 ∨ 253402300799 < st + 60 * z) (h64 : -9223372036854775808 ≤ st) (h65 : st ≤ 9223372036854775807) :
    Calls Tryd.prog 15 #[.int .i64 st, .int .i64 z] w fun e w' => e = .returned (.tuple #[mom 0 0 0 0 0 0 0, .int .i64 22]) ∧ Below w.heap.size w w' := by
  have W1 := Lib.hid (fun W => within_val z (-1439) 1439 true W (wi_true hz1 hz2))
  rcases (by omega : ¬ (-62135683200 ≤ st ∧ st ≤ 253402387200) ∨ (-62135683200 ≤ st ∧ st ≤ 253402387200)) with h1 | h1
  · have W2 := Lib.hid (fun W => within_val st (-62135683200) 253402387200 false W (wi_false h1))
    clear hs h1
    go_enter Tryd.func15, Tryd.ntmps15
    go_wp2_with (first | (go_at_call_of 27 z; refine (W1.out _).mono ?_; rintro e w' ⟨rfl, rfl⟩) | (go_at_call_of 27 st; refine (W2.out _).mono ?_; rintro e w' ⟨rfl, rfl⟩))
    exact bodyPost_ret (v := .tuple #[mom 0 0 0 0 0 0 0, .int .i64 22]) (res2 Tryd.results15 _ _ w.heap.size 23 _ (0, 0) _ rfl (heap_alloc_new w _) Tryd.underlying23 rfl Tryd.sizeMom) rfl ⟨rfl, (Below.refl _ _).alloc (Nat.le_refl _) _⟩
  · obtain ⟨g1, g2⟩ := h1
    have W2 := Lib.hid (fun W => within_val st (-62135683200) 253402387200 true W (wi_true g1 g2))
    obtain ⟨q, hq⟩ : ∃ q, q = (st + 60 * z) / 86400 := ⟨_, rfl⟩
    obtain ⟨r, hr⟩ : ∃ r, r = (st + 60 * z) % 86400 := ⟨_, rfl⟩
    have W3 := Lib.hid (fun W => within_val q (-719162) 2932896 false W (wi_false (by omega)))
    have W4 := Lib.hid (fun W => hq ▸ hr ▸ split_any (st + 60 * z) 86400 W (by omega) (by omega) (by omega) (by omega))
    clear hs hq hr
    go_enter Tryd.func15, Tryd.ntmps15
    go_wp2_with (first | (go_at_call_of 27 q; refine (W3.out _).mono ?_; rintro e w' ⟨rfl, rfl⟩) | (go_at_call_of 27 z; refine (W1.out _).mono ?_; rintro e w' ⟨rfl, rfl⟩) | (go_at_call_of 27 st; refine (W2.out _).mono ?_; rintro e w' ⟨rfl, rfl⟩) | (go_at_call 29; refine (W4.out _).mono ?_; rintro e w' ⟨rfl, rfl⟩))
    exact bodyPost_ret (v := .tuple #[mom 0 0 0 0 0 0 0, .int .i64 22]) (res2 Tryd.results15 _ _ w.heap.size 23 _ (0, 0) _ rfl (heap_alloc_new w _) Tryd.underlying23 rfl Tryd.sizeMom) rfl ⟨rfl, ((Below.refl _ _).alloc (Nat.le_refl _) _).drew⟩

set_option maxRecDepth 100000 in
set_option maxHeartbeats 4000000 in
theorem momAt_ok (st z : Int) (w : World) (he : Env w) (hz1 : -1439 ≤ z) (hz2 : z ≤ 1439) (h3 : -62135596800 ≤ st + 60 * z) (h4 : st + 60 * z ≤ 253402300799) (Y M D N : Nat) (hd : IsDay Y M D) (hN : dno Y M D = N) (H Mi S : Int)
    (hdv : (N : Int) - 719162 = (st + 60 * z) / 86400) (hH : H = (st + 60 * z) % 86400 / 3600) (hMi : Mi = (st + 60 * z) % 86400 % 3600 / 60) (hS : S = (st + 60 * z) % 86400 % 3600 % 60) :
    Calls Tryd.prog 15 #[.int .i64 st, .int .i64 z] w fun e w' => e = .returned (.tuple #[mom Y M D H Mi S z, .int .i64 0]) ∧ Below w.heap.size w w' := by
  have hDA := Lib.hid (fun W hW => dayAt_any Y M D N W hW hd hN)
  unfold mom at hDA ⊢
  have g1 : -62135683200 ≤ st := by omega
  have g2 : st ≤ 253402387200 := by omega
  have W1 := Lib.hid (fun W => within_val z (-1439) 1439 true W (wi_true hz1 hz2))
  have W2 := Lib.hid (fun W => within_val st (-62135683200) 253402387200 true W (wi_true g1 g2))
  obtain ⟨r, hr⟩ : ∃ r, r = (st + 60 * z) % 86400 := ⟨_, rfl⟩
  obtain ⟨t, ht⟩ : ∃ t, t = r % 3600 := ⟨_, rfl⟩
  rw [← hr, ← ht] at hMi hS
  rw [← hr] at hH
  have r1 : 0 ≤ r ∧ r < 86400 := by omega
  have t1 : 0 ≤ t ∧ t < 3600 := by omega
  have W4 := Lib.hid (fun W => hdv ▸ hr ▸ split_any (st + 60 * z) 86400 W (by omega) (by omega) (by omega) (by omega))
  have W5 := Lib.hid (fun W => hH ▸ ht ▸ split_any r 3600 W (by omega) (by omega) (by omega) (by omega))
  have W6 := Lib.hid (fun W => hMi ▸ hS ▸ split_any t 60 W (by omega) (by omega) (by omega) (by omega))
  generalize hq : (N : Int) - 719162 = q at *
  have W3 := Lib.hid (fun W => within_val q (-719162) 2932896 true W (wi_true (by omega) (by omega)))
  have HE := Lib.hid he
  clear hr ht hMi hS hH hdv h3 h4 hd hN hq r1 t1 he
  go_enter Tryd.func15, Tryd.ntmps15
  go_wp2_with (first | (go_at_call_of 27 q; refine (W3.out _).mono ?_; rintro e w' ⟨rfl, rfl⟩) | (go_at_call_of 27 z; refine (W1.out _).mono ?_; rintro e w' ⟨rfl, rfl⟩) | (go_at_call_of 27 st; refine (W2.out _).mono ?_; rintro e w' ⟨rfl, rfl⟩) | (go_at_call 29; refine (W4.out _).mono ?_; rintro e w' ⟨rfl, rfl⟩))
  have q0 : Below w.heap.size w (w.alloc (.cells #[.int .i64 0, .int .i64 0, .int .i64 0, .int .i64 0, .int .i64 0, .int .i64 0, .int .i64 0] 23)).drew := ((Below.refl _ _).alloc (Nat.le_refl _) _).drew
  refine (hDA.out _ (HE.out.on q0)).mono ?_
  rintro e w1 ⟨rfl, hb1⟩
  have hr0 : w1.heap[w.heap.size]? = some (.cells #[.int .i64 0, .int .i64 0, .int .i64 0, .int .i64 0, .int .i64 0, .int .i64 0, .int .i64 0] 23 (0, 0)) := by
    rw [hb1.block w.heap.size (by simp)]
    exact heap_alloc_new w _
  have hlt : w.heap.size < w1.heap.size := (Array.getElem?_eq_some_iff.1 hr0).1
  have q1 := q0.trans (hb1.mono q0.size)
  have HZ : Hid (((w1.alloc (.cells #[.int .i64 Y, .int .i64 M, .int .i64 D, .int .i64 H, .int .i64 Mi, .int .i64 S, .int .i64 z] 23)).drew.drew).heap[w.heap.size]? = some (.cells #[.int .i64 0, .int .i64 0, .int .i64 0, .int .i64 0, .int .i64 0, .int .i64 0, .int .i64 0] 23 (0, 0))) := Lib.hid ((heap_alloc_old w1 (.cells #[.int .i64 Y, .int .i64 M, .int .i64 D, .int .i64 H, .int .i64 Mi, .int .i64 S, .int .i64 z] 23) hlt).trans hr0)
  have HB9 : Hid (Below w.heap.size w ((w1.alloc (.cells #[.int .i64 Y, .int .i64 M, .int .i64 D, .int .i64 H, .int .i64 Mi, .int .i64 S, .int .i64 z] 23)).drew.drew)) := Lib.hid (((q1.alloc (by omega) _).drew).drew)
  clear hb1 q0 W1 W2 W3 W4 hDA HE hr0 q1
  go_wp2_with (first | (go_at_call_of 29 r; refine (W5.out _).mono ?_; rintro e w' ⟨rfl, rfl⟩) | (go_at_call_of 29 t; refine (W6.out _).mono ?_; rintro e w' ⟨rfl, rfl⟩) | (refine wpList_store_row rfl 23 _ _ rfl w.heap.size #[.int .i64 Y, .int .i64 M, .int .i64 D, .int .i64 H, .int .i64 Mi, .int .i64 S, .int .i64 z] rfl rfl 23 _ HZ.out Tryd.sizeMom rfl (mom_one _ _ _ _ _ _ _) ?_))
  exact bodyPost_ret (v := .tuple #[mom Y M D H Mi S z, .int .i64 0]) (res2 Tryd.results15 _ _ w.heap.size 23 #[.int .i64 Y, .int .i64 M, .int .i64 D, .int .i64 H, .int .i64 Mi, .int .i64 S, .int .i64 z] (0, 0) _ rfl (setRow_heap _ _ _ #[.int .i64 Y, .int .i64 M, .int .i64 D, .int .i64 H, .int .i64 Mi, .int .i64 S, .int .i64 z] _ _ HZ.out) Tryd.underlying23 rfl Tryd.sizeMom) rfl ⟨rfl, below_setRow HB9.out (Nat.le_refl _) _⟩
end Go.Proofs.YtngpejoiicpnkaaDoor
