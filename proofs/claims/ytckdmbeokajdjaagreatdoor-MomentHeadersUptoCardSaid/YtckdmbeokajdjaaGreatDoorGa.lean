/- The reference of chapter 2: lower, among (months), count. -/
import Derived.Test.YtckdmbeokajdjaaGreatDoorGo
import Derived.Test.YtckdmbeokajdjaaGreatDoorDg
import Derived.Test.YtckdmbeokajdjaaGreatDoorDl
import Derived.Test.YtckdmbeokajdjaaGreatDoorDk
import Derived.Test.YtckdmbeokajdjaaGreatDoorCb
namespace Go.Proofs.YtckdmbeokajdjaaGreatDoor
open Go.RowKit

set_option maxHeartbeats 400000 in
theorem rlower_any (s : ByteArray) (w : World) (hs : s.size ≤ 140737488355328) :
    Calls Tryz.prog 79 #[.string s] w fun e w' => e = .returned (.string (S (lower (L s)))) ∧ Below w.heap.size w w' := by
  go_enter Tryz.func79, Tryz.ntmps79
  go_wp2
  go_loopw [3, 4] (fun v i wr => ∃ k : Nat, k ≤ s.size ∧ i = .int .i64 k ∧ Own w.heap.size v (lower ((L s).take k)) w wr) (fun _ i _ => s.size - (intOf i).toNat)
  case atStart => exact ⟨0, Nat.zero_le _, rfl, Own.nil (Below.refl _ _) (Nat.le_refl _)⟩
  case round =>
    obtain ⟨k, hk, rfl, hown⟩ := hrel
    by_cases hlt : k < s.size
    · have ea := get_bt s k hlt
      have c0 : (bt (L s) k).toNat < 256 := bt_lt _ _
      have e1 : lower ((L s).take (k + 1)) = lower ((L s).take k) ++ [sm (bt (L s) k)] := by
        rw [take_snoc (L s) k hlt]; simp [lower]
      have hl : (lower ((L s).take k)).length + 1 ≤ 140737488355328 := by
        have : (lower ((L s).take k)).length ≤ k := by simp [lower]; omega
        omega
      have hsm := sm_toNat (bt (L s) k)
      have HE := Lib.hid e1
      have HL := Lib.hid hl
      clear e1 hl
      unfold smI at hsm
      by_cases h1 : (65 : Int) ≤ ((bt (L s) k).toNat : Int)
      · by_cases h2 : ((bt (L s) k).toNat : Int) ≤ 90
        · rw [if_pos ⟨h1, h2⟩] at hsm
          have HS := Lib.hid hsm.symm
          clear hsm
          generalize lower ((L s).take k) = o at *
          go_wp2_with (at_builtin; refine app1 rfl _ _ rfl _ (sm (bt (L s) k)) hown HS.out rfl rfl HL.out ?_; intro v2 w2 hown2)
          go_roundw
          case rel => exact ⟨k + 1, by omega, by go_num, by rw [HE.out]; exact hown2⟩
          case measure => simp [intOf]; omega
        · rw [if_neg (by omega)] at hsm
          have HS := Lib.hid hsm.symm
          clear hsm
          generalize lower ((L s).take k) = o at *
          go_wp2_with (at_builtin; refine app1 rfl _ _ rfl _ (sm (bt (L s) k)) hown HS.out rfl rfl HL.out ?_; intro v2 w2 hown2)
          go_roundw
          case rel => exact ⟨k + 1, by omega, by go_num, by rw [HE.out]; exact hown2⟩
          case measure => simp [intOf]; omega
      · rw [if_neg (by omega)] at hsm
        have HS := Lib.hid hsm.symm
        clear hsm
        generalize lower ((L s).take k) = o at *
        go_wp2_with (at_builtin; refine app1 rfl _ _ rfl _ (sm (bt (L s) k)) hown HS.out rfl rfl HL.out ?_; intro v2 w2 hown2)
        go_roundw
        case rel => exact ⟨k + 1, by omega, by go_num, by rw [HE.out]; exact hown2⟩
        case measure => simp [intOf]; omega
    · rw [List.take_of_length_le (by rw [L_length]; omega)] at hown
      have hcv := hown.back
      go_wp2
      go_ret
      exact ⟨rfl, hown.below⟩
def monsB : ByteArray := ⟨#[106, 97, 110, 102, 101, 98, 109, 97, 114, 97, 112, 114, 109, 97, 121, 106, 117, 110, 106, 117, 108, 97, 117, 103, 115, 101, 112, 111, 99, 116, 110, 111, 118, 100, 101, 99]⟩
theorem mons_at (k : Nat) (h : k < 12) : L (monsB.extract (3 * k) (3 * k + 3)) = lower (monN k) := by
  have : ∀ k : Fin 12, L (monsB.extract (3 * k.val) (3 * k.val + 3)) = lower (monN k.val) := by decide +kernel
  exact this ⟨k, h⟩
theorem mons_test (l : List UInt8) (k : Nat) (h : k < 12) : ((monsB.extract (3 * k) (3 * k + 3)).toList == (S (lower l)).toList) = same l (monN k) := by
  rw [toList_L, toList_L, mons_at k h, L_S]
  unfold same
  rw [Bool.eq_iff_iff, beq_iff_eq, beq_iff_eq]
  exact eq_comm
set_option maxHeartbeats 1000000 in
theorem among_any (s : ByteArray) (w : World) (hs : s.size ≤ 140737488355328) :
    Calls Tryz.prog 61 #[.string monsB, .string s] w fun e w' => e = .returned (.int .i64 (monI (L s))) ∧ Below w.heap.size w w' := by
  have hL := Lib.hid (fun W => rlower_any s W hs)
  have HT := Lib.hid (fun k hk => mons_test (L s) k hk)
  have hsz : monsB.size = 36 := rfl
  generalize S (lower (L s)) = t at *
  generalize monsB = N at *
  go_enter Tryz.func61, Tryz.ntmps61
  go_wp2_with fail
  refine (hL.out _).mono ?_
  rintro e w1 ⟨rfl, hb1⟩
  go_wp2
  go_loop [6] (fun i => ∃ k : Nat, k ≤ 12 ∧ i = .int .i64 k ∧ ∀ j, j < k → same (L s) (monT.getD j []) = false) (fun i => 12 - (intOf i).toNat)
  case atStart => exact ⟨0, Nat.zero_le _, rfl, fun j hj => by omega⟩
  case round =>
    obtain ⟨k, hk, rfl, hno⟩ := hrel
    have HP := Lib.hid hno
    clear hno
    by_cases hlt : k < 12
    · have ht := HT.out k hlt
      cases hsm : same (L s) (monN k) with
      | true =>
        rw [hsm] at ht
        have hix : Hid (monIx (L s) = k) := Lib.hid (findIdx_at monT (L s) k (by show k < 12; omega) HP.out hsm)
        have HR : Hid (monI (L s) = (k : Int) + 1) := Lib.hid (by unfold monI; rw [hix.out, if_pos hlt])
        go_wp2
        go_ret
        exact ⟨ret_int HR.out.symm, hb1⟩
      | false =>
        rw [hsm] at ht
        go_wp2
        go_round
        case rel => exact ⟨k + 1, by omega, by go_num, fun j hj => by
          rcases Nat.lt_or_ge j k with h | h
          · exact HP.out j h
          · obtain rfl : j = k := by omega
            exact hsm⟩
        case measure => simp [intOf]; omega
    · obtain rfl : k = 12 := by omega
      have HR : Hid (monI (L s) = 0) := Lib.hid (by
        have hix : monIx (L s) = 12 := findIdx_none monT (L s) HP.out
        unfold monI; rw [hix]; rfl)
      go_wp2
      go_ret
      exact ⟨ret_int HR.out.symm, hb1⟩
/-- count: the value of up to eight digits. -/
def cntB (l : List UInt8) : Bool := numB l 1 8
end Go.Proofs.YtckdmbeokajdjaaGreatDoor

/- The reference of chapter 2: count, text, zone. -/
namespace Go.Proofs.YtckdmbeokajdjaaGreatDoor
open Go.RowKit

theorem heap_new1 (w : World) (o : Obj) : (w.alloc o).heap[w.heap.size]? = some o := heap_alloc_new w o
theorem Own.lit1 (w : World) (b : UInt8) (c : Int) (hc : c = (b.toNat : Int)) : Own w.heap.size (.slice (some ⟨w.heap.size, 0, none⟩) 1 1) [b] w (w.alloc (.cells #[.int .u8 c] 5)) := by
  subst hc
  refine ⟨⟨rfl, .inr ⟨w.heap.size, 1, #[.int .u8 (b.toNat : Int)], rfl, Nat.le_refl _, heap_new1 w _, Nat.le_refl _, by unfold maxLen; omega, rfl, rfl⟩⟩, (Below.refl _ _).alloc (Nat.le_refl _) _, by simp⟩
def digs : Nat → Nat → List UInt8
  | 0, _ => []
  | j + 1, n => dg (n / 10 ^ j % 10) :: digs j n
theorem digs_len (j n : Nat) : (digs j n).length = j := by
  induction j with
  | zero => rfl
  | succ j ih => show (digs j n).length + 1 = j + 1; rw [ih]
theorem dg_nat (a : Nat) (h : a < 10) : ((dg a).toNat : Int) = 48 + (a : Int) := by
  have : (dg a).toNat = 48 + a := by unfold dg; simp; omega
  rw [this]; omega
def szOf : Value → Nat
  | .string b => b.size
  | _ => 0
set_option maxHeartbeats 2000000 in
theorem text_any (n least J : Nat) (w : World) (hn : n ≤ 1000000) (hJ : J ≤ 10) (h1 : n / 10 ^ J = 0) (h2 : least ≤ J) (h3 : ∀ j, j < J → 0 < n / 10 ^ j ∨ j < least) :
    Calls Tryz.prog 42 #[.int .i64 n, .int .i64 least] w fun e w' => e = .returned (.string (S (digs J n))) ∧ Below w.heap.size w w' := by
  go_enter Tryz.func42, Tryz.ntmps42
  go_wp2
  go_loopw [0, 5] (fun nv sv wr => ∃ j : Nat, j ≤ J ∧ nv = .int .i64 ((n / 10 ^ j : Nat) : Int) ∧ sv = .string (S (digs j n)) ∧ Below w.heap.size w wr) (fun _ sv _ => J - szOf sv)
  case atStart => exact ⟨0, Nat.zero_le _, by simp, rfl, Below.refl _ _⟩
  case round =>
    obtain ⟨j, hj, rfl, rfl, hb⟩ := hrel
    have hz : (S (digs j n)).size = j := digs_len j n
    by_cases hlt : j < J
    · have hc := h3 j hlt
      have HN : Hid (n / 10 ^ (j + 1) = n / 10 ^ j / 10) := Lib.hid (by rw [Nat.div_div_eq_div_mul, Nat.pow_succ])
      have HD : Hid (S (digs (j + 1) n) = S [dg (n / 10 ^ j % 10)] ++ S (digs j n)) := Lib.hid (by rw [S_app]; rfl)
      have hcc : 0 < n / 10 ^ j ∨ (n / 10 ^ j = 0 ∧ j < least) := by
        rcases Nat.eq_zero_or_pos (n / 10 ^ j) with h | h
        · refine .inr ⟨h, ?_⟩
          rcases hc with k | k
          · exact absurd k (by rw [h]; exact Nat.lt_irrefl 0)
          · exact k
        · exact .inl h
      rcases hcc with hc1 | ⟨hc1, hc2⟩
      · have ha : n / 10 ^ j ≤ 1000000 := Nat.le_trans (Nat.div_le_self _ _) hn
        generalize n / 10 ^ j = a at *
        have hcv := (Own.lit1 wr (dg (a % 10)) (48 + ((a % 10 : Nat) : Int)) (dg_nat (a % 10) (by omega)).symm).back
        have q1 : Int.tdiv (a : Int) 10 = ((a / 10 : Nat) : Int) := by rw [Int.tdiv_eq_ediv_of_nonneg (by omega)]; omega
        have q2 : Int.tmod (a : Int) 10 = ((a % 10 : Nat) : Int) := by rw [Int.tmod_eq_emod_of_nonneg (by omega)]; omega
        have b1 : a / 10 ≤ 1000000 := by omega
        have b2 : a % 10 ≤ 9 := by omega
        have z1 : (S [dg (a % 10)]).size = 1 := rfl
        have HB : Hid (Below w.heap.size w (wr.alloc (.cells #[.int .u8 (48 + ((a % 10 : Nat) : Int))] 5))) := Lib.hid (hb.alloc hb.size _)
        generalize S [dg (a % 10)] = bs at *
        generalize S (digs j n) = t at *
        generalize a / 10 = x at *
        generalize a % 10 = y at *
        clear h1 h3 hc
        go_wp2
        go_roundw
        case rel => exact ⟨j + 1, by omega, by rw [HN.out], by rw [HD.out], HB.out⟩
        case measure => simp [szOf]; omega
      · rw [hc1] at HN HD
        rw [show ((n / 10 ^ j : Nat) : Int) = 0 by rw [hc1]; rfl]
        have hcv := (Own.lit1 wr (dg 0) 48 rfl).back
        have z1 : (S [dg 0]).size = 1 := rfl
        have HB : Hid (Below w.heap.size w (wr.alloc (.cells #[.int .u8 48] 5))) := Lib.hid (hb.alloc hb.size _)
        change Hid (S (digs (j + 1) n) = S [dg 0] ++ S (digs j n)) at HD
        change Hid (n / 10 ^ (j + 1) = 0) at HN
        generalize S [dg 0] = bs at *
        generalize S (digs j n) = t at *
        clear h1 h3 hc hc1
        go_wp2
        go_roundw
        case rel => exact ⟨j + 1, by omega, by rw [HN.out]; rfl, by rw [HD.out], HB.out⟩
        case measure => simp [szOf]; omega
    · obtain rfl : j = J := by omega
      rw [h1]
      go_wp2
      go_ret
      exact ⟨rfl, hb⟩
end Go.Proofs.YtckdmbeokajdjaaGreatDoor

/- The reference of chapter 2: told, day, ReadDay. -/
namespace Go.Proofs.YtckdmbeokajdjaaGreatDoor
open Go.RowKit

set_option maxRecDepth 100000 in
set_option maxHeartbeats 4000000 in
theorem told_any (f : Bool) (y m d h n s z : Int) (w : World) :
    Calls Tryz.prog 37 #[mom y m d h n s z, .bool f] w fun e w' => e = .returned (.tuple #[judV f y m d h n s z, .int .i64 (judE f y m d)]) ∧ Below w.heap.size w w' := by
  have hD := Lib.hid (fun W => IsDay_any y m d h n s z W)
  have G1 := Lib.hid (heap_alloc2_new w (.cells #[.int .i64 y, .int .i64 m, .int .i64 d, .int .i64 h, .int .i64 n, .int .i64 s, .int .i64 z] 23) (.cells #[.int .i64 0, .int .i64 0, .int .i64 0, .int .i64 0, .int .i64 0, .int .i64 0, .int .i64 0] 23))
  have Q0 := Lib.hid (below2 w (.cells #[.int .i64 y, .int .i64 m, .int .i64 d, .int .i64 h, .int .i64 n, .int .i64 s, .int .i64 z] 23) (.cells #[.int .i64 0, .int .i64 0, .int .i64 0, .int .i64 0, .int .i64 0, .int .i64 0, .int .i64 0] 23))
  cases f with
  | false =>
    have HV : Hid (judV false y m d h n s z = mom 0 0 0 0 0 0 0) := Lib.hid rfl
    have HE2 : Hid (judE false y m d = 20) := Lib.hid rfl
    rw [HV.out, HE2.out]
    unfold mom
    go_enter Tryz.func37, Tryz.ntmps37
    go_wp2
    exact bodyPost_ret (v := .tuple #[mom 0 0 0 0 0 0 0, .int .i64 20]) (res2 Tryz.results37 _ _ (w.heap.size + 1) 23 _ (0, 0) _ rfl G1.out Tryz.underlying23 rfl Tryz.sizeMom) rfl ⟨rfl, Q0.out⟩
  | true =>
    cases hd : isDayB y m d with
    | false =>
      have HV : Hid (judV true y m d h n s z = mom 0 0 0 0 0 0 0) := Lib.hid (by unfold judV; rw [hd]; rfl)
      have HE2 : Hid (judE true y m d = 21) := Lib.hid (by unfold judE; rw [hd]; rfl)
      rw [HV.out, HE2.out]
      rw [hd] at hD
      unfold mom at hD ⊢
      go_enter Tryz.func37, Tryz.ntmps37
      go_wp2_with fail
      refine (hD.out _).mono ?_
      rintro e w1 ⟨rfl, hb1⟩
      have hr1 : w1.heap[w.heap.size + 1]? = some (.cells #[.int .i64 0, .int .i64 0, .int .i64 0, .int .i64 0, .int .i64 0, .int .i64 0, .int .i64 0] 23 (0, 0)) := by rw [hb1.block _ (by simp)]; exact G1.out
      have q1 := Q0.out.trans (hb1.mono Q0.out.size)
      have HR := Lib.hid hr1
      have HQ := Lib.hid q1
      clear hr1 q1 hb1 G1 Q0 hD HV HE2 hd
      go_wp2_with (refine wpList_store_row rfl 23 _ _ rfl (w.heap.size + 1) #[.int .i64 0, .int .i64 0, .int .i64 0, .int .i64 0, .int .i64 0, .int .i64 0, .int .i64 0] rfl rfl 23 _ HR.out Tryz.sizeMom rfl (mom_one _ _ _ _ _ _ _) ?_)
      exact bodyPost_ret (v := .tuple #[mom 0 0 0 0 0 0 0, .int .i64 21]) (res2 Tryz.results37 _ _ (w.heap.size + 1) 23 #[.int .i64 0, .int .i64 0, .int .i64 0, .int .i64 0, .int .i64 0, .int .i64 0, .int .i64 0] (0, 0) _ rfl (setRow_heap _ _ _ #[.int .i64 0, .int .i64 0, .int .i64 0, .int .i64 0, .int .i64 0, .int .i64 0, .int .i64 0] _ _ HR.out) Tryz.underlying23 rfl Tryz.sizeMom) rfl ⟨rfl, below_setRow HQ.out (by omega) _⟩
    | true =>
      have HV : Hid (judV true y m d h n s z = mom y m d h n s z) := Lib.hid (by unfold judV; rw [hd]; rfl)
      have HE2 : Hid (judE true y m d = 0) := Lib.hid (by unfold judE; rw [hd]; rfl)
      rw [HV.out, HE2.out]
      rw [hd] at hD
      unfold mom at hD ⊢
      go_enter Tryz.func37, Tryz.ntmps37
      go_wp2_with fail
      refine (hD.out _).mono ?_
      rintro e w1 ⟨rfl, hb1⟩
      have hr1 : w1.heap[w.heap.size + 1]? = some (.cells #[.int .i64 0, .int .i64 0, .int .i64 0, .int .i64 0, .int .i64 0, .int .i64 0, .int .i64 0] 23 (0, 0)) := by rw [hb1.block _ (by simp)]; exact G1.out
      have hr0 : w1.heap[w.heap.size]? = some (.cells #[.int .i64 y, .int .i64 m, .int .i64 d, .int .i64 h, .int .i64 n, .int .i64 s, .int .i64 z] 23 (0, 0)) := by
        rw [hb1.block _ (by simp; omega)]
        exact (heap_alloc_old (w.alloc (.cells #[.int .i64 y, .int .i64 m, .int .i64 d, .int .i64 h, .int .i64 n, .int .i64 s, .int .i64 z] 23)) (.cells #[.int .i64 0, .int .i64 0, .int .i64 0, .int .i64 0, .int .i64 0, .int .i64 0, .int .i64 0] 23) (by simp)).trans (heap_alloc_new w _)
      have q1 := Q0.out.trans (hb1.mono Q0.out.size)
      have c0 := cell_of_row w1 w.heap.size 0 _ _ _ hr0
      have c1 := cell_of_row w1 w.heap.size 1 _ _ _ hr0
      have c2 := cell_of_row w1 w.heap.size 2 _ _ _ hr0
      have c3 := cell_of_row w1 w.heap.size 3 _ _ _ hr0
      have c4 := cell_of_row w1 w.heap.size 4 _ _ _ hr0
      have c5 := cell_of_row w1 w.heap.size 5 _ _ _ hr0
      have c6 := cell_of_row w1 w.heap.size 6 _ _ _ hr0
      simp only [List.getElem?_toArray, List.getElem?_cons_succ, List.getElem?_cons_zero] at c0 c1 c2 c3 c4 c5 c6
      have HR := Lib.hid hr1
      have HQ := Lib.hid q1
      clear hr1 hr0 q1 hb1 G1 Q0 hD HV HE2 hd
      go_wp2_with (refine wpList_store_row rfl 23 _ _ rfl (w.heap.size + 1) #[.int .i64 y, .int .i64 m, .int .i64 d, .int .i64 h, .int .i64 n, .int .i64 s, .int .i64 z] rfl rfl 23 _ HR.out Tryz.sizeMom rfl (mom_one _ _ _ _ _ _ _) ?_)
      exact bodyPost_ret (v := .tuple #[mom y m d h n s z, .int .i64 0]) (res2 Tryz.results37 _ _ (w.heap.size + 1) 23 #[.int .i64 y, .int .i64 m, .int .i64 d, .int .i64 h, .int .i64 n, .int .i64 s, .int .i64 z] (0, 0) _ rfl (setRow_heap _ _ _ #[.int .i64 y, .int .i64 m, .int .i64 d, .int .i64 h, .int .i64 n, .int .i64 s, .int .i64 z] _ _ HR.out) Tryz.underlying23 rfl Tryz.sizeMom) rfl ⟨rfl, below_setRow HQ.out (by omega) _⟩
theorem num_count (l : List UInt8) (a b : Nat) (h1 : a ≤ l.length) (h2 : l.length ≤ b) (h3 : 1 ≤ l.length) (h4 : l.length ≤ 8) : numB l 1 8 = numB l a b ∧ numI l 1 8 = numI l a b := by
  have e : numB l 1 8 = numB l a b := by
    unfold numB
    rw [decide_eq_true h1, decide_eq_true h2, decide_eq_true h3, decide_eq_true h4]
  exact ⟨e, by unfold numI; rw [e]⟩
set_option maxHeartbeats 1000000 in
theorem count_any (s : ByteArray) (w : World) (h1 : 1 ≤ s.size) (h8 : s.size ≤ 8) :
    Calls Tryz.prog 80 #[.string s] w fun e w' => e = .returned (.tuple #[.int .i64 (numI (L s) 1 8), .bool (numB (L s) 1 8)]) ∧ w' = w := by
  go_enter Tryz.func80, Tryz.ntmps80
  go_wp2
  go_loop [4, 5] (fun n i => ∃ k : Nat, k ≤ s.size ∧ i = .int .i64 k ∧ n = .int .i64 (valD ((L s).take k) : Nat) ∧ ((L s).take k).all isDig = true) (fun _ i => s.size - (intOf i).toNat)
  case atStart => exact ⟨0, Nat.zero_le _, rfl, by simp [valD], by simp⟩
  case round =>
    obtain ⟨k, hk, rfl, rfl, hall⟩ := hrel
    by_cases hlt : k < s.size
    · have hv := valD_lt _ hall
      have hlen : ((L s).take k).length = k := by rw [List.length_take, L_length]; omega
      rw [hlen] at hv
      have hp : 10 ^ k ≤ 10 ^ 8 := Nat.pow_le_pow_right (by omega) (by omega)
      have hv2 : valD ((L s).take k) < 100000000 := by omega
      have HV := Lib.hid (valD_snoc ((L s).take k) (bt (L s) k))
      have ea := get_bt s k hlt
      have c0 : (bt (L s) k).toNat < 256 := bt_lt _ _
      have HN := Lib.hid (numB_no (L s) 1 8 k hlt)
      have HS := Lib.hid (all_snoc (L s) k hlt hall)
      have HT := Lib.hid (take_snoc (L s) k hlt)
      clear hall hv hlen hp
      cases hd : isDig (bt (L s) k) with
      | false =>
        have HB : Hid (numB (L s) 1 8 = false) := Lib.hid (HN.out hd)
        have HI : Hid (numI (L s) 1 8 = 0) := Lib.hid (by unfold numI; rw [HB.out]; rfl)
        have hc : (bt (L s) k).toNat < 48 ∨ (48 ≤ (bt (L s) k).toNat ∧ 57 < (bt (L s) k).toNat) := by
          have := mt (isDig_iff (bt (L s) k)).2 (by rw [hd]; simp)
          omega
        clear HN HS HT HV
        rcases hc with hc | ⟨hc1, hc2⟩
        all_goals (
          go_wp2
          go_ret2
          exact ⟨ret_ib HI.out.symm HB.out.symm, rfl⟩)
      | true =>
        have hd2 := (isDig_iff _).1 hd
        have HS2 := Lib.hid (HS.out hd)
        have HV2 : Hid (valD ((L s).take (k + 1)) = 10 * valD ((L s).take k) + ((bt (L s) k).toNat - 48)) := Lib.hid (by rw [HT.out]; exact HV.out)
        clear HS HT HV HN
        generalize hC : (bt (L s) k).toNat = c at *
        generalize valD ((L s).take k) = V at *
        go_wp2
        go_round
        case rel => exact ⟨k + 1, by omega, by go_num, by rw [HV2.out]; congr 1; omega, HS2.out⟩
        case measure => simp [intOf]; omega
    · have htk : (L s).take k = L s := List.take_of_length_le (by rw [L_length]; omega)
      rw [htk] at hall
      have HB : Hid (numB (L s) 1 8 = true) := Lib.hid (numB_yes (L s) 1 8 h1 h8 hall)
      have HI : Hid (numI (L s) 1 8 = (valD ((L s).take k) : Nat)) := Lib.hid (by unfold numI; rw [HB.out, htk]; rfl)
      clear hall htk
      go_wp2
      go_ret2
      exact ⟨ret_ib HI.out.symm (by rw [HB.out]; first | rfl | (symm; simp; omega) | (simp; omega)), rfl⟩
end Go.Proofs.YtckdmbeokajdjaaGreatDoor

/- The reference of chapter 2: day, ReadDay. -/
namespace Go.Proofs.YtckdmbeokajdjaaGreatDoor
open Go.RowKit

theorem monB_pos (l : List UInt8) : monB l = decide (0 < monI l) := by
  unfold monB monI
  by_cases h : monIx l < 12
  · rw [if_pos h, decide_eq_true h]; symm; rw [decide_eq_true_iff]; omega
  · rw [if_neg h, decide_eq_false h]; rfl
theorem monI_bounds (l : List UInt8) : 0 ≤ monI l ∧ monI l ≤ 12 := by
  unfold monI; split <;> omega
def rdDash (r : List UInt8) : Bool := (bt r 0 == 45) && (bt r 4 == 45)
def rdOk (d r : List UInt8) : Bool := rdDash r && (numB d 1 8 && numB (r.drop 5) 1 8 && monB ((r.drop 1).take 3))
end Go.Proofs.YtckdmbeokajdjaaGreatDoor
