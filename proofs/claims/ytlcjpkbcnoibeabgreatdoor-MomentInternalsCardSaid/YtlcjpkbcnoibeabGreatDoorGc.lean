/- The reference of chapter 2: told, day, ReadDay. -/
import Derived.Test.YtlcjpkbcnoibeabGreatDoorGb
import Derived.Test.YtlcjpkbcnoibeabGreatDoorDk
import Derived.Test.YtlcjpkbcnoibeabGreatDoorCb
namespace Go.Proofs.YtlcjpkbcnoibeabGreatDoor
open Go.RowKit

set_option maxRecDepth 100000 in
set_option maxHeartbeats 4000000 in
theorem told_any (f : Bool) (y m d h n s z : Int) (w : World) :
    Calls Tryz.prog 61 #[mom y m d h n s z, .bool f] w fun e w' => e = .returned (.tuple #[judV f y m d h n s z, .int .i64 (judE f y m d)]) ∧ Below w.heap.size w w' := by
  have hD := Lib.hid (fun W => IsDay_any y m d h n s z W)
  have G1 := Lib.hid (heap_alloc2_new w (.cells #[.int .i64 y, .int .i64 m, .int .i64 d, .int .i64 h, .int .i64 n, .int .i64 s, .int .i64 z] 23) (.cells #[.int .i64 0, .int .i64 0, .int .i64 0, .int .i64 0, .int .i64 0, .int .i64 0, .int .i64 0] 23))
  have Q0 := Lib.hid (below2 w (.cells #[.int .i64 y, .int .i64 m, .int .i64 d, .int .i64 h, .int .i64 n, .int .i64 s, .int .i64 z] 23) (.cells #[.int .i64 0, .int .i64 0, .int .i64 0, .int .i64 0, .int .i64 0, .int .i64 0, .int .i64 0] 23))
  cases f with
  | false =>
    have HV : Hid (judV false y m d h n s z = mom 0 0 0 0 0 0 0) := Lib.hid rfl
    have HE2 : Hid (judE false y m d = 20) := Lib.hid rfl
    rw [HV.out, HE2.out]
    unfold mom
    go_enter Tryz.func61, Tryz.ntmps61
    go_wp2
    exact bodyPost_ret (v := .tuple #[mom 0 0 0 0 0 0 0, .int .i64 20]) (res2 Tryz.results61 _ _ (w.heap.size + 1) 23 _ (0, 0) _ rfl G1.out Tryz.underlying23 rfl Tryz.sizeMom) rfl ⟨rfl, Q0.out⟩
  | true =>
    cases hd : isDayB y m d with
    | false =>
      have HV : Hid (judV true y m d h n s z = mom 0 0 0 0 0 0 0) := Lib.hid (by unfold judV; rw [hd]; rfl)
      have HE2 : Hid (judE true y m d = 21) := Lib.hid (by unfold judE; rw [hd]; rfl)
      rw [HV.out, HE2.out]
      rw [hd] at hD
      unfold mom at hD ⊢
      go_enter Tryz.func61, Tryz.ntmps61
      go_wp2_with fail
      refine (hD.out _).mono ?_
      rintro e w1 ⟨rfl, hb1⟩
      have hr1 : w1.heap[w.heap.size + 1]? = some (.cells #[.int .i64 0, .int .i64 0, .int .i64 0, .int .i64 0, .int .i64 0, .int .i64 0, .int .i64 0] 23 (0, 0)) := by rw [hb1.block _ (by simp)]; exact G1.out
      have q1 := Q0.out.trans (hb1.mono Q0.out.size)
      have HR := Lib.hid hr1
      have HQ := Lib.hid q1
      clear hr1 q1 hb1 G1 Q0 hD HV HE2 hd
      go_wp2_with (refine wpList_store_row rfl 23 _ _ rfl (w.heap.size + 1) #[.int .i64 0, .int .i64 0, .int .i64 0, .int .i64 0, .int .i64 0, .int .i64 0, .int .i64 0] rfl rfl 23 _ HR.out Tryz.sizeMom rfl (mom_one _ _ _ _ _ _ _) ?_)
      exact bodyPost_ret (v := .tuple #[mom 0 0 0 0 0 0 0, .int .i64 21]) (res2 Tryz.results61 _ _ (w.heap.size + 1) 23 #[.int .i64 0, .int .i64 0, .int .i64 0, .int .i64 0, .int .i64 0, .int .i64 0, .int .i64 0] (0, 0) _ rfl (setRow_heap _ _ _ #[.int .i64 0, .int .i64 0, .int .i64 0, .int .i64 0, .int .i64 0, .int .i64 0, .int .i64 0] _ _ HR.out) Tryz.underlying23 rfl Tryz.sizeMom) rfl ⟨rfl, below_setRow HQ.out (by omega) _⟩
    | true =>
      have HV : Hid (judV true y m d h n s z = mom y m d h n s z) := Lib.hid (by unfold judV; rw [hd]; rfl)
      have HE2 : Hid (judE true y m d = 0) := Lib.hid (by unfold judE; rw [hd]; rfl)
      rw [HV.out, HE2.out]
      rw [hd] at hD
      unfold mom at hD ⊢
      go_enter Tryz.func61, Tryz.ntmps61
      go_wp2_with fail
      refine (hD.out _).mono ?_
      rintro e w1 ⟨rfl, hb1⟩
      have hr1 : w1.heap[w.heap.size + 1]? = some (.cells #[.int .i64 0, .int .i64 0, .int .i64 0, .int .i64 0, .int .i64 0, .int .i64 0, .int .i64 0] 23 (0, 0)) := by rw [hb1.block _ (by simp)]; exact G1.out
      have hr0 : w1.heap[w.heap.size]? = some (.cells #[.int .i64 y, .int .i64 m, .int .i64 d, .int .i64 h, .int .i64 n, .int .i64 s, .int .i64 z] 23 (0, 0)) := by
        rw [hb1.block _ (by simp; omega)]
        exact (heap_alloc_old (w.alloc (.cells #[.int .i64 y, .int .i64 m, .int .i64 d, .int .i64 h, .int .i64 n, .int .i64 s, .int .i64 z] 23)) (.cells #[.int .i64 0, .int .i64 0, .int .i64 0, .int .i64 0, .int .i64 0, .int .i64 0, .int .i64 0] 23) (by simp)).trans (heap_alloc_new w _)
      have q1 := Q0.out.trans (hb1.mono Q0.out.size)
      have c0 := cell_of_row w1 w.heap.size 0 _ _ _ hr0
      have c1 := cell_of_row w1 w.heap.size 1 _ _ _ hr0
      have c2 := cell_of_row w1 w.heap.size 2 _ _ _ hr0
      have c3 := cell_of_row w1 w.heap.size 3 _ _ _ hr0
      have c4 := cell_of_row w1 w.heap.size 4 _ _ _ hr0
      have c5 := cell_of_row w1 w.heap.size 5 _ _ _ hr0
      have c6 := cell_of_row w1 w.heap.size 6 _ _ _ hr0
      simp only [List.getElem?_toArray, List.getElem?_cons_succ, List.getElem?_cons_zero] at c0 c1 c2 c3 c4 c5 c6
      have HR := Lib.hid hr1
      have HQ := Lib.hid q1
      clear hr1 hr0 q1 hb1 G1 Q0 hD HV HE2 hd
      go_wp2_with (refine wpList_store_row rfl 23 _ _ rfl (w.heap.size + 1) #[.int .i64 y, .int .i64 m, .int .i64 d, .int .i64 h, .int .i64 n, .int .i64 s, .int .i64 z] rfl rfl 23 _ HR.out Tryz.sizeMom rfl (mom_one _ _ _ _ _ _ _) ?_)
      exact bodyPost_ret (v := .tuple #[mom y m d h n s z, .int .i64 0]) (res2 Tryz.results61 _ _ (w.heap.size + 1) 23 #[.int .i64 y, .int .i64 m, .int .i64 d, .int .i64 h, .int .i64 n, .int .i64 s, .int .i64 z] (0, 0) _ rfl (setRow_heap _ _ _ #[.int .i64 y, .int .i64 m, .int .i64 d, .int .i64 h, .int .i64 n, .int .i64 s, .int .i64 z] _ _ HR.out) Tryz.underlying23 rfl Tryz.sizeMom) rfl ⟨rfl, below_setRow HQ.out (by omega) _⟩
theorem num_count (l : List UInt8) (a b : Nat) (h1 : a ≤ l.length) (h2 : l.length ≤ b) (h3 : 1 ≤ l.length) (h4 : l.length ≤ 8) : numB l 1 8 = numB l a b ∧ numI l 1 8 = numI l a b := by
  have e : numB l 1 8 = numB l a b := by
    unfold numB
    rw [decide_eq_true h1, decide_eq_true h2, decide_eq_true h3, decide_eq_true h4]
  exact ⟨e, by unfold numI; rw [e]⟩
set_option maxHeartbeats 1000000 in
theorem count_any (s : ByteArray) (w : World) (h1 : 1 ≤ s.size) (h8 : s.size ≤ 8) :
    Calls Tryz.prog 63 #[.string s] w fun e w' => e = .returned (.tuple #[.int .i64 (numI (L s) 1 8), .bool (numB (L s) 1 8)]) ∧ w' = w := by
  go_enter Tryz.func63, Tryz.ntmps63
  go_wp2
  go_loop [4, 5] (fun n i => ∃ k : Nat, k ≤ s.size ∧ i = .int .i64 k ∧ n = .int .i64 (valD ((L s).take k) : Nat) ∧ ((L s).take k).all isDig = true) (fun _ i => s.size - (intOf i).toNat)
  case atStart => exact ⟨0, Nat.zero_le _, rfl, by simp [valD], by simp⟩
  case round =>
    obtain ⟨k, hk, rfl, rfl, hall⟩ := hrel
    by_cases hlt : k < s.size
    · have hv := valD_lt _ hall
      have hlen : ((L s).take k).length = k := by rw [List.length_take, L_length]; omega
      rw [hlen] at hv
      have hp : 10 ^ k ≤ 10 ^ 8 := Nat.pow_le_pow_right (by omega) (by omega)
      have hv2 : valD ((L s).take k) < 100000000 := by omega
      have HV := Lib.hid (valD_snoc ((L s).take k) (bt (L s) k))
      have ea := get_bt s k hlt
      have c0 : (bt (L s) k).toNat < 256 := bt_lt _ _
      have HN := Lib.hid (numB_no (L s) 1 8 k hlt)
      have HS := Lib.hid (all_snoc (L s) k hlt hall)
      have HT := Lib.hid (take_snoc (L s) k hlt)
      clear hall hv hlen hp
      cases hd : isDig (bt (L s) k) with
      | false =>
        have HB : Hid (numB (L s) 1 8 = false) := Lib.hid (HN.out hd)
        have HI : Hid (numI (L s) 1 8 = 0) := Lib.hid (by unfold numI; rw [HB.out]; rfl)
        have hc : (bt (L s) k).toNat < 48 ∨ (48 ≤ (bt (L s) k).toNat ∧ 57 < (bt (L s) k).toNat) := by
          have := mt (isDig_iff (bt (L s) k)).2 (by rw [hd]; simp)
          omega
        clear HN HS HT HV
        rcases hc with hc | ⟨hc1, hc2⟩
        all_goals (
          go_wp2
          go_ret2
          exact ⟨ret_ib HI.out.symm HB.out.symm, rfl⟩)
      | true =>
        have hd2 := (isDig_iff _).1 hd
        have HS2 := Lib.hid (HS.out hd)
        have HV2 : Hid (valD ((L s).take (k + 1)) = 10 * valD ((L s).take k) + ((bt (L s) k).toNat - 48)) := Lib.hid (by rw [HT.out]; exact HV.out)
        clear HS HT HV HN
        generalize hC : (bt (L s) k).toNat = c at *
        generalize valD ((L s).take k) = V at *
        go_wp2
        go_round
        case rel => exact ⟨k + 1, by omega, by go_num, by rw [HV2.out]; congr 1; omega, HS2.out⟩
        case measure => simp [intOf]; omega
    · have htk : (L s).take k = L s := List.take_of_length_le (by rw [L_length]; omega)
      rw [htk] at hall
      have HB : Hid (numB (L s) 1 8 = true) := Lib.hid (numB_yes (L s) 1 8 h1 h8 hall)
      have HI : Hid (numI (L s) 1 8 = (valD ((L s).take k) : Nat)) := Lib.hid (by unfold numI; rw [HB.out, htk]; rfl)
      clear hall htk
      go_wp2
      go_ret2
      exact ⟨ret_ib HI.out.symm (by rw [HB.out]; first | rfl | (symm; simp; omega) | (simp; omega)), rfl⟩
end Go.Proofs.YtlcjpkbcnoibeabGreatDoor
