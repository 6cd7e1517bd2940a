/- octet: pastBlanks, hexWorth, readEquals. -/
import Derived.Test.YtclegocofiigiabDoorPi
namespace Go.Proofs.YtclegocofiigiabDoor
open Go.RowKit Go.Shelf

set_option maxHeartbeats 400000 in
theorem pastBlanks_any (s : ByteArray) (i : Nat) (w : World) (hs : s.size ≤ 10000000) (hi : i ≤ s.size) :
    Calls Tryd.prog 42 #[.string s, .int .i64 i] w fun e w' => e = .returned (.int .i64 (past (L s) i : Nat)) ∧ w' = w := by
  go_enter Tryd.func42, Tryd.ntmps42
  go_wp2
  go_loop [1] (fun t => ∃ k : Nat, k ≤ s.size ∧ t = .int .i64 k ∧ past (L s) k = past (L s) i) (fun t => s.size - (intOf t).toNat)
  case atStart => exact ⟨i, hi, rfl, rfl⟩
  case round =>
    obtain ⟨k, hk, rfl, hp⟩ := hrel
    have HP := Lib.hid hp
    clear hp
    by_cases hlt : k < s.size
    · have ea := get_bt s k hlt
      have c0 : (bt (L s) k).toNat < 256 := bt_lt _ _
      cases hb : blankI (bt (L s) k).toNat with
      | true =>
        have H2 := Lib.hid ((past_step (L s) k hlt hb).symm.trans HP.out)
        go_wp2_with (go_at_call 41; refine (isBlank_any _ _ (by omega) (by omega)).mono ?_; rintro e w' ⟨rfl, rfl⟩)
        go_round
        case rel => exact ⟨k + 1, by omega, by go_num, H2.out⟩
        case measure => simp [intOf]; omega
      | false =>
        have H2 := Lib.hid ((past_stop (L s) k hlt hb).symm.trans HP.out)
        go_wp2_with (go_at_call 41; refine (isBlank_any _ _ (by omega) (by omega)).mono ?_; rintro e w' ⟨rfl, rfl⟩)
        go_ret
        exact ⟨ret_int (by rw [← H2.out]), rfl⟩
    · have H2 := Lib.hid ((past_end (L s) k (by rw [L_length]; omega)).symm.trans HP.out)
      go_wp2
      go_ret
      exact ⟨ret_int (by rw [← H2.out]), rfl⟩

set_option maxHeartbeats 400000 in
theorem hexWorth_any (c : Int) (w : World) (h0 : 0 ≤ c) (h1 : c ≤ 255) :
    Calls Tryd.prog 64 #[.int .u8 c] w fun e w' => e = .returned (.int .i64 (hexI c)) ∧ w' = w := by
  have H : Hid (hexI c = if 48 ≤ c ∧ c ≤ 57 then c - 48 else if 65 ≤ c ∧ c ≤ 70 then c - 55 else if 97 ≤ c ∧ c ≤ 102 then c - 87 else -1) := Lib.hid rfl
  rcases (show (c < 48) ∨ (48 ≤ c ∧ c ≤ 57) ∨ (57 < c ∧ c < 65) ∨ (65 ≤ c ∧ c ≤ 70) ∨ (70 < c ∧ c < 97) ∨ (97 ≤ c ∧ c ≤ 102) ∨ (102 < c) by omega) with h | h | h | h | h | h | h
  all_goals
    go_enter Tryd.func64, Tryd.ntmps64
    go_wp2
    go_ret
    refine ⟨ret_int ?_, rfl⟩
    rw [H.out]
    split <;> (try split) <;> (try split) <;> omega

theorem bt_drop (l : List UInt8) (i j : Nat) : bt (l.drop i) j = bt l (i + j) := by
  unfold bt; rw [List.getElem?_drop]
theorem or16 (a b : Int) (ha : 0 ≤ a) (ha' : a ≤ 15) (hb : 0 ≤ b) (hb' : b ≤ 15) : bits .or .i64 (a * 16) b = a * 16 + b := by
  obtain ⟨x, rfl⟩ := Int.eq_ofNat_of_zero_le ha
  obtain ⟨y, rfl⟩ := Int.eq_ofNat_of_zero_le hb
  have hx : x < 16 := by omega
  have hy : y < 16 := by omega
  have key : ∀ x y : Fin 16, bits .or .i64 ((x.val : Int) * 16) (y.val : Int) = (x.val : Int) * 16 + (y.val : Int) := by decide
  exact key ⟨x, hx⟩ ⟨y, hy⟩

set_option maxHeartbeats 400000 in
theorem readEquals_hit (s : ByteArray) (i : Nat) (w : World) {B : Nat} {v : Value} {o : List UInt8} {W0 : World} (hown : Own B v o W0 w) (hs : s.size ≤ 10000000) (hi : i + 2 < s.size) (hol : o.length ≤ 1000000000)
    (h0 : hexI (bt (L s) (i + 1)).toNat ≠ -1) (h1 : hexI (bt (L s) (i + 2)).toNat ≠ -1) :
    Calls Tryd.prog 40 #[v, .string s, .int .i64 i] w fun e w' => ∃ v', e = .returned (.tuple #[v', .int .i64 ((i + 1 + (eqRead ((L s).drop (i + 1))).2 : Nat) : Int)]) ∧ Own B v' (o ++ (eqRead ((L s).drop (i + 1))).1) W0 w' := by
  have e0 : eqRead ((L s).drop (i + 1)) = ([UInt8.ofNat (hexI (bt (L s) (i + 1)).toNat * 16 + hexI (bt (L s) (i + 2)).toNat).toNat], 2) := by
    unfold eqRead
    rw [if_pos]
    · rw [bt_drop, bt_drop]
    · rw [bt_drop, bt_drop, List.length_drop, L_length]
      exact ⟨by omega, h0, h1⟩
  rw [e0]
  clear e0
  have hw1 : IntKind.i64.wrap ((i : Int) + 1) = ((i + 1 : Nat) : Int) := by rw [IntKind.wrap_i64]; omega
  have hw2 : IntKind.i64.wrap ((i : Int) + 2) = ((i + 2 : Nat) : Int) := by rw [IntKind.wrap_i64]; omega
  have hi1 : i + 1 < s.size := by omega
  have hib : i < 10000000 := by omega
  generalize hI1 : i + 1 = i1 at hw1 hi1 h0 h1 ⊢
  generalize i + 2 = i2 at hw2 hi h0 h1 ⊢
  have HI1 := Lib.hid hI1
  clear hI1
  have ea := get_bt s i1 hi1
  have eb := get_bt s i2 hi
  have c0 : (bt (L s) i1).toNat < 256 := bt_lt _ _
  have c1 : (bt (L s) i2).toNat < 256 := bt_lt _ _
  have l0 := hexI_lo (bt (L s) i1).toNat
  have l1 := hexI_lo (bt (L s) i2).toNat
  have u0 := hexI_hi (bt (L s) i1).toNat
  have u1 := hexI_hi (bt (L s) i2).toNat
  have n0 : (hexI (bt (L s) i1).toNat != -1) = true := by simpa using h0
  have n1 : (hexI (bt (L s) i2).toNat != -1) = true := by simpa using h1
  have hor := or16 (hexI (bt (L s) i1).toNat) (hexI (bt (L s) i2).toNat) (by omega) u0 (by omega) u1
  have hl2 : o.length + 1 ≤ 140737488355328 := by omega
  go_enter Tryd.func40, Tryd.ntmps40
  go_wp2
  go_quiet ((go_at_call 64; exact Calls.quiet_of_same (hexWorth_any _ _ (by omega) (by omega))))
  have hx : hexI (bt (L s) i1).toNat * 16 + hexI (bt (L s) i2).toNat = ((UInt8.ofNat (hexI (bt (L s) i1).toNat * 16 + hexI (bt (L s) i2).toNat).toNat).toNat : Int) := by
    simp; omega
  have HX := Lib.hid hx
  clear hx
  go_wp2_with (at_builtin; refine app1 rfl _ _ rfl _ (UInt8.ofNat (hexI (bt (L s) i1).toNat * 16 + hexI (bt (L s) i2).toNat).toNat) (hown.drewN _) HX.out rfl rfl hl2 ?_; intro v' w2 hown2)
  go_ret2
  exact ⟨_, ret_tup (by have := HI1.out; omega), hown2⟩

theorem eqRead_miss (l : List UInt8) (i : Nat) (hm : ¬ (i + 2 < l.length ∧ hexI (bt l (i + 1)).toNat ≠ -1 ∧ hexI (bt l (i + 2)).toNat ≠ -1)) (hi : i < l.length) :
    eqRead (l.drop (i + 1)) = if l.length ≤ past l (i + 1) then ([], past l (i + 1) - (i + 1)) else if crlf l (past l (i + 1)) then ([], past l (i + 1) + 2 - (i + 1)) else ([61], 0) := by
  unfold eqRead
  rw [if_neg]
  · have e : blanks (l.drop (i + 1)) = past l (i + 1) - (i + 1) := by unfold past; omega
    have hp : i + 1 ≤ past l (i + 1) := by unfold past; omega
    rw [e, List.length_drop, List.drop_drop]
    unfold crlf
    have e2 : i + 1 + (past l (i + 1) - (i + 1)) = past l (i + 1) := by omega
    rw [e2]
    have e3 : l.length - (i + 1) ≤ past l (i + 1) - (i + 1) ↔ l.length ≤ past l (i + 1) := by omega
    have e4 : past l (i + 1) - (i + 1) + 2 = past l (i + 1) + 2 - (i + 1) := by omega
    simp only [e3, e4]
  · rw [bt_drop, bt_drop, List.length_drop]
    intro h
    exact hm ⟨by omega, h.2⟩

set_option maxHeartbeats 1000000 in
theorem readEquals_miss (s : ByteArray) (i : Nat) (w : World) {B : Nat} {v : Value} {o : List UInt8} {W0 : World} (hown : Own B v o W0 w) (hs : s.size ≤ 10000000) (hi : i < s.size) (hol : o.length ≤ 1000000000)
    (hm : ¬ (i + 2 < (L s).length ∧ hexI (bt (L s) (i + 1)).toNat ≠ -1 ∧ hexI (bt (L s) (i + 2)).toNat ≠ -1)) :
    Calls Tryd.prog 40 #[v, .string s, .int .i64 i] w fun e w' => ∃ v', e = .returned (.tuple #[v', .int .i64 ((i + 1 + (eqRead ((L s).drop (i + 1))).2 : Nat) : Int)]) ∧ Own B v' (o ++ (eqRead ((L s).drop (i + 1))).1) W0 w' := by
  rw [eqRead_miss (L s) i hm hi, L_length]
  rw [L_length] at hm
  have hp := past_le (L s) (i + 1) (by rw [L_length]; omega)
  rw [L_length] at hp
  have hge : i + 1 ≤ past (L s) (i + 1) := by unfold past; omega
  have hpb := fun W => pastBlanks_any s (i + 1) W hs (by omega)
  generalize past (L s) (i + 1) = q at *
  have HPB := Lib.hid hpb
  clear hpb
  have hl2 : o.length + 1 ≤ 140737488355328 := by omega
  have hw1 : IntKind.i64.wrap ((i : Int) + 1) = ((i + 1 : Nat) : Int) := by rw [IntKind.wrap_i64]; omega
  have hw2 : IntKind.i64.wrap ((i : Int) + 2) = ((i + 2 : Nat) : Int) := by rw [IntKind.wrap_i64]; omega
  by_cases hlen : i + 2 < s.size
  · have hi1 : i + 1 < s.size := by omega
    have hib : i < 10000000 := by omega
    have hn : hexI (bt (L s) (i + 1)).toNat = -1 ∨ hexI (bt (L s) (i + 2)).toNat = -1 := by
      by_cases h0 : hexI (bt (L s) (i + 1)).toNat = -1
      · exact .inl h0
      · by_cases h1 : hexI (bt (L s) (i + 2)).toNat = -1
        · exact .inr h1
        · exact absurd ⟨hlen, h0, h1⟩ hm
    clear hm
    generalize hI1 : i + 1 = i1 at *
    generalize i + 2 = i2 at *
    have HI1 := Lib.hid hI1
    clear hI1
    have ea := get_bt s i1 hi1
    have eb := get_bt s i2 hlen
    have c0 : (bt (L s) i1).toNat < 256 := bt_lt _ _
    have c1 : (bt (L s) i2).toNat < 256 := bt_lt _ _
    have l0 := hexI_lo (bt (L s) i1).toNat
    have l1 := hexI_lo (bt (L s) i2).toNat
    have u0 := hexI_hi (bt (L s) i1).toNat
    have u1 := hexI_hi (bt (L s) i2).toNat
    by_cases h0 : hexI (bt (L s) i1).toNat = -1
    · have n0 : (hexI (bt (L s) i1).toNat != -1) = false := by simp [h0]
      clear hn h0
      by_cases hq : s.size ≤ q
      · rw [if_pos hq]
        have hq1 : ((q : Int) == (s.size : Int)) = true := by simp; omega
        go_enter Tryd.func40, Tryd.ntmps40
        go_wp2
        go_quiet ((go_at_call 64; exact Calls.quiet_of_same (hexWorth_any _ _ (by omega) (by omega))))
        go_wp2_with (first | (go_at_call 42; refine (HPB.out _).mono ?_; rintro e w' ⟨rfl, rfl⟩))
        go_ret2
        exact ⟨_, ret_tup (by have := HI1.out; omega), by rw [List.append_nil]; exact (hown.drewN _)⟩
      · rw [if_neg hq]
        have hq1 : ((q : Int) == (s.size : Int)) = false := by simp; omega
        cases hc : crlf (L s) q with
        | true =>
          have hq2 := crlf_lt (L s) q hc
          rw [L_length] at hq2
          rw [if_pos rfl]
          go_enter Tryd.func40, Tryd.ntmps40
          go_wp2
          go_quiet ((go_at_call 64; exact Calls.quiet_of_same (hexWorth_any _ _ (by omega) (by omega))))
          go_wp2_with (first | (go_at_call 42; refine (HPB.out _).mono ?_; rintro e w' ⟨rfl, rfl⟩) | (go_at_call 34; refine (endsLine_any s q _ hp).mono ?_; rintro e w' ⟨rfl, rfl⟩))
          go_ret2
          exact ⟨_, ret_tup (by have := HI1.out; omega), by rw [List.append_nil]; exact (hown.drewN _)⟩
        | false =>
          rw [if_neg (by simp)]
          go_enter Tryd.func40, Tryd.ntmps40
          go_wp2
          go_quiet ((go_at_call 64; exact Calls.quiet_of_same (hexWorth_any _ _ (by omega) (by omega))))
          go_wp2_with (first | (go_at_call 42; refine (HPB.out _).mono ?_; rintro e w' ⟨rfl, rfl⟩) | (go_at_call 34; refine (endsLine_any s q _ hp).mono ?_; rintro e w' ⟨rfl, rfl⟩) | (at_builtin; refine app1 rfl _ _ rfl _ 61 (hown.drewN _) rfl rfl rfl hl2 ?_; intro v' w2 hown2))
          go_ret2
          exact ⟨_, ret_tup (by have := HI1.out; omega), hown2⟩
    · have n0 : (hexI (bt (L s) i1).toNat != -1) = true := by simp [h0]
      have n1 : (hexI (bt (L s) i2).toNat != -1) = false := by
        rcases hn with h | h
        · exact absurd h h0
        · simp [h]
      clear hn h0
      by_cases hq : s.size ≤ q
      · rw [if_pos hq]
        have hq1 : ((q : Int) == (s.size : Int)) = true := by simp; omega
        go_enter Tryd.func40, Tryd.ntmps40
        go_wp2
        go_quiet ((go_at_call 64; exact Calls.quiet_of_same (hexWorth_any _ _ (by omega) (by omega))))
        go_wp2_with (first | (go_at_call 42; refine (HPB.out _).mono ?_; rintro e w' ⟨rfl, rfl⟩))
        go_ret2
        exact ⟨_, ret_tup (by have := HI1.out; omega), by rw [List.append_nil]; exact (hown.drewN _)⟩
      · rw [if_neg hq]
        have hq1 : ((q : Int) == (s.size : Int)) = false := by simp; omega
        cases hc : crlf (L s) q with
        | true =>
          have hq2 := crlf_lt (L s) q hc
          rw [L_length] at hq2
          rw [if_pos rfl]
          go_enter Tryd.func40, Tryd.ntmps40
          go_wp2
          go_quiet ((go_at_call 64; exact Calls.quiet_of_same (hexWorth_any _ _ (by omega) (by omega))))
          go_wp2_with (first | (go_at_call 42; refine (HPB.out _).mono ?_; rintro e w' ⟨rfl, rfl⟩) | (go_at_call 34; refine (endsLine_any s q _ hp).mono ?_; rintro e w' ⟨rfl, rfl⟩))
          go_ret2
          exact ⟨_, ret_tup (by have := HI1.out; omega), by rw [List.append_nil]; exact (hown.drewN _)⟩
        | false =>
          rw [if_neg (by simp)]
          go_enter Tryd.func40, Tryd.ntmps40
          go_wp2
          go_quiet ((go_at_call 64; exact Calls.quiet_of_same (hexWorth_any _ _ (by omega) (by omega))))
          go_wp2_with (first | (go_at_call 42; refine (HPB.out _).mono ?_; rintro e w' ⟨rfl, rfl⟩) | (go_at_call 34; refine (endsLine_any s q _ hp).mono ?_; rintro e w' ⟨rfl, rfl⟩) | (at_builtin; refine app1 rfl _ _ rfl _ 61 (hown.drewN _) rfl rfl rfl hl2 ?_; intro v' w2 hown2))
          go_ret2
          exact ⟨_, ret_tup (by have := HI1.out; omega), hown2⟩
  · clear hm hw1 hw2
    by_cases hq : s.size ≤ q
    · rw [if_pos hq]
      have hq1 : ((q : Int) == (s.size : Int)) = true := by simp; omega
      go_enter Tryd.func40, Tryd.ntmps40
      go_wp2_with (first | (go_at_call 42; refine (HPB.out _).mono ?_; rintro e w' ⟨rfl, rfl⟩))
      go_ret2
      exact ⟨_, ret_tup (by omega), by rw [List.append_nil]; exact hown⟩
    · rw [if_neg hq]
      have hq1 : ((q : Int) == (s.size : Int)) = false := by simp; omega
      cases hc : crlf (L s) q with
      | true =>
        have hq2 := crlf_lt (L s) q hc
        rw [L_length] at hq2
        rw [if_pos rfl]
        exfalso; omega
      | false =>
        rw [if_neg (by simp)]
        go_enter Tryd.func40, Tryd.ntmps40
        go_wp2_with (first | (go_at_call 42; refine (HPB.out _).mono ?_; rintro e w' ⟨rfl, rfl⟩) | (go_at_call 34; refine (endsLine_any s q _ hp).mono ?_; rintro e w' ⟨rfl, rfl⟩) | (at_builtin; refine app1 rfl _ _ rfl _ 61 hown rfl rfl rfl hl2 ?_; intro v' w2 hown2))
        go_ret2
        exact ⟨_, ret_tup (by omega), hown2⟩

theorem readEquals_any (s : ByteArray) (i : Nat) (w : World) {B : Nat} {v : Value} {o : List UInt8} {W0 : World} (hown : Own B v o W0 w) (hs : s.size ≤ 10000000) (hi : i < s.size) (hol : o.length ≤ 1000000000) :
    Calls Tryd.prog 40 #[v, .string s, .int .i64 i] w fun e w' => ∃ v', e = .returned (.tuple #[v', .int .i64 ((i + 1 + (eqRead ((L s).drop (i + 1))).2 : Nat) : Int)]) ∧ Own B v' (o ++ (eqRead ((L s).drop (i + 1))).1) W0 w' := by
  by_cases hm : i + 2 < (L s).length ∧ hexI (bt (L s) (i + 1)).toNat ≠ -1 ∧ hexI (bt (L s) (i + 2)).toNat ≠ -1
  · exact readEquals_hit s i w hown hs hm.1 hol hm.2.1 hm.2.2
  · exact readEquals_miss s i w hown hs hi hol hm
end Go.Proofs.YtclegocofiigiabDoor
