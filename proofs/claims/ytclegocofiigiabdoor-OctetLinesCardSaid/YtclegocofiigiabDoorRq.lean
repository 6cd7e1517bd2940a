/- postbagref1: breaks, white, hex, behind. -/
import Derived.Test.YtclegocofiigiabDoorLi
import Derived.Deep.RegionHeld3
import Derived.Deep.AppendLies
namespace Go.Proofs.YtclegocofiigiabDoor
open Go.RowKit Go.Shelf

theorem beqc (a b : UInt8) : (a == b) = (b == a) := by rw [Bool.eq_iff_iff, beq_iff_eq, beq_iff_eq]; exact eq_comm
theorem crlf_iff (l : List UInt8) (i : Nat) : crlf l i = (decide (i + 1 < l.length) && (bt l i == 13 && bt l (i + 1) == 10)) := by
  by_cases h : i + 1 < l.length
  · unfold crlf Lib.hasPrefix
    rw [drop_cons l i (by omega), drop_cons l (i + 1) h]
    simp only [List.isPrefixOf, Bool.and_true, h, decide_true, Bool.true_and]
    rw [beqc 13, beqc 10]
  · rw [decide_eq_false h, Bool.false_and]
    cases hc : crlf l i with
    | false => rfl
    | true => have := crlf_lt l i hc; omega
theorem beqI (c : UInt8) (n : Nat) (hn : n < 256) : ((c.toNat : Int) == (n : Int)) = (c == UInt8.ofNat n) := by
  rw [beq_u8 c n hn]
  rw [Bool.eq_iff_iff]; simp

set_option maxHeartbeats 400000 in
theorem breaks_any (s : ByteArray) (i : Nat) (w : World) (hs : s.size ≤ 10000000) (hi : i ≤ s.size) :
    Calls Tryd.prog 33 #[.string s, .int .i64 i] w fun e w' => e = .returned (.bool (crlf (L s) i)) ∧ w' = w := by
  have HC := Lib.hid (crlf_iff (L s) i)
  by_cases h : i + 1 < s.size
  · have HC2 : Hid (crlf (L s) i = (bt (L s) i == 13 && bt (L s) (i + 1) == 10)) := Lib.hid (by
      rw [HC.out, decide_eq_true (by rw [L_length]; exact h), Bool.true_and])
    clear HC
    have h0 : i < s.size := by omega
    have b1 := beqI (bt (L s) i) 13 (by omega)
    have b2 := beqI (bt (L s) (i + 1)) 10 (by omega)
    change (((bt (L s) i).toNat : Int) == 13) = (bt (L s) i == 13) at b1
    change (((bt (L s) (i + 1)).toNat : Int) == 10) = (bt (L s) (i + 1) == 10) at b2
    have ea := get_bt s i h0
    have eb := get_bt s (i + 1) h
    cases h1 : (bt (L s) i == 13) with
    | false =>
      rw [h1] at b1
      have HC3 : Hid (crlf (L s) i = false) := Lib.hid (by rw [HC2.out, h1]; rfl)
      clear b2 h1
      go_enter Tryd.func33, Tryd.ntmps33
      go_wp2
      go_ret
      exact ⟨ret_bool HC3.out.symm, rfl⟩
    | true =>
      rw [h1] at b1
      cases h2 : (bt (L s) (i + 1) == 10) with
      | false =>
        rw [h2] at b2
        have HC3 : Hid (crlf (L s) i = false) := Lib.hid (by rw [HC2.out, h1, h2]; rfl)
        clear h1 h2
        go_enter Tryd.func33, Tryd.ntmps33
        go_wp2
        go_ret
        exact ⟨ret_bool HC3.out.symm, rfl⟩
      | true =>
        rw [h2] at b2
        have HC3 : Hid (crlf (L s) i = true) := Lib.hid (by rw [HC2.out, h1, h2]; rfl)
        clear h1 h2
        go_enter Tryd.func33, Tryd.ntmps33
        go_wp2
        go_ret
        exact ⟨ret_bool HC3.out.symm, rfl⟩
  · have HC2 : Hid (crlf (L s) i = false) := Lib.hid (by
      rw [HC.out, decide_eq_false (by rw [L_length]; exact h), Bool.false_and])
    go_enter Tryd.func33, Tryd.ntmps33
    go_wp2
    go_ret
    exact ⟨ret_bool HC2.out.symm, rfl⟩

set_option maxHeartbeats 400000 in
theorem white_any (c : Int) (w : World) (h0 : 0 ≤ c) (h1 : c ≤ 255) :
    Calls Tryd.prog 39 #[.int .u8 c] w fun e w' => e = .returned (.bool (blankI c)) ∧ w' = w := by
  by_cases a : c = 32
  · subst a
    go_enter Tryd.func39, Tryd.ntmps39
    go_wp2
    go_ret
    exact ⟨rfl, rfl⟩
  · have ha : (c == 32) = false := by simp [a]
    by_cases b : c = 9
    · subst b
      go_enter Tryd.func39, Tryd.ntmps39
      go_wp2
      go_ret
      exact ⟨rfl, rfl⟩
    · have hb : (c == 9) = false := by simp [b]
      have e : blankI c = false := by simp [blankI, a, b]
      rw [e]; clear e
      go_enter Tryd.func39, Tryd.ntmps39
      go_wp2
      go_ret
      exact ⟨rfl, rfl⟩

def hexHit (i : Nat) (c : Int) : Bool := ((bt hexL i).toNat : Int) == c || (decide (9 < i) && ((bt hexL i).toNat : Int) + 32 == c)
theorem hex_yes : ∀ (i : Nat) (c : Nat), i < 16 → c < 256 → hexHit i c = true → hexI c = i := by
  have : ∀ (i : Fin 16) (c : Fin 256), hexHit i.val c.val = true → hexI c.val = i.val := by decide +kernel
  exact fun i c hi hc => this ⟨i, hi⟩ ⟨c, hc⟩
theorem hex_no : ∀ (c : Nat), c < 256 → (∀ i, i < 16 → hexHit i c = false) → hexI c = -1 := by
  have : ∀ (c : Fin 256), (∀ i : Fin 16, hexHit i.val c.val = false) → hexI c.val = -1 := by decide +kernel
  exact fun c hc h => this ⟨c, hc⟩ (fun i => h i.val i.isLt)
theorem hexL_le : ∀ i, i < 16 → (bt hexL i).toNat ≤ 70 := by
  have : ∀ i : Fin 16, (bt hexL i.val).toNat ≤ 70 := by decide +kernel
  exact fun i hi => this ⟨i, hi⟩

set_option maxHeartbeats 400000 in
theorem hex_any (c : Nat) (w : World) (hc : c < 256) :
    Calls Tryd.prog 43 #[.int .u8 c] w fun e w' => e = .returned (.int .i64 (hexI c)) ∧ w' = w := by
  go_enter Tryd.func43, Tryd.ntmps43
  go_wp2
  go_loop [3] (fun i => ∃ k : Nat, k ≤ 16 ∧ i = .int .i64 k ∧ ∀ j, j < k → hexHit j c = false) (fun i => 16 - (intOf i).toNat)
  case atStart => exact ⟨0, by omega, rfl, fun j hj => by omega⟩
  case round =>
    obtain ⟨k, hk, rfl, hno⟩ := hrel
    have HN := Lib.hid hno
    clear hno
    by_cases hlt : k < 16
    · have e1 := hexB_at k hlt
      have hle := hexL_le k hlt
      have HH : Hid (hexHit k c = (((bt hexL k).toNat : Int) == (c : Int) || (decide (9 < k) && ((bt hexL k).toNat : Int) + 32 == (c : Int)))) := Lib.hid rfl
      have HY := Lib.hid (hex_yes k c hlt hc)
      have HNX : Hid (hexHit k c = false → ∀ j, j < k + 1 → hexHit j c = false) := Lib.hid (fun h j hj => by
        by_cases e : j = k
        · rw [e]; exact h
        · exact HN.out j (by omega))
      clear HN
      cases h1 : (((bt hexL k).toNat : Int) == (c : Int)) with
      | true =>
        have HF : Hid (hexI c = k) := Lib.hid (HY.out (by rw [HH.out, h1]; rfl))
        go_wp2
        go_ret
        exact ⟨ret_int HF.out.symm, rfl⟩
      | false =>
        by_cases h9 : (9 : Int) < (k : Int)
        · cases h2 : (((bt hexL k).toNat : Int) + 32 == (c : Int)) with
          | true =>
            have HF : Hid (hexI c = k) := Lib.hid (HY.out (by rw [HH.out, h1, h2, decide_eq_true (by omega)]; rfl))
            go_wp2
            go_ret
            exact ⟨ret_int HF.out.symm, rfl⟩
          | false =>
            have HF := Lib.hid (HNX.out (by rw [HH.out, h1, h2, Bool.and_false]; rfl))
            go_wp2
            go_round
            case rel => exact ⟨k + 1, by omega, by go_num, HF.out⟩
            case measure => simp [intOf]; omega
        · have HF := Lib.hid (HNX.out (by rw [HH.out, h1, decide_eq_false (by omega)]; rfl))
          go_wp2
          go_round
          case rel => exact ⟨k + 1, by omega, by go_num, HF.out⟩
          case measure => simp [intOf]; omega
    · have HF : Hid (hexI c = -1) := Lib.hid (hex_no c hc (fun i hi => HN.out i (by omega)))
      go_wp2
      go_ret
      exact ⟨ret_int HF.out.symm, rfl⟩

set_option maxHeartbeats 400000 in
theorem behind_any (s : ByteArray) (i : Nat) (w : World) (hs : s.size ≤ 10000000) (hi : i ≤ s.size) :
    Calls Tryd.prog 44 #[.string s, .int .i64 i] w fun e w' => e = .returned (.tuple #[.int .i64 (past (L s) i : Nat), .bool (decide (s.size ≤ past (L s) i) || crlf (L s) (past (L s) i))]) ∧ w' = w := by
  have hple := past_le (L s) i (by rw [L_length]; exact hi)
  rw [L_length] at hple
  go_enter Tryd.func44, Tryd.ntmps44
  go_wp2
  go_loop [1] (fun t => ∃ k : Nat, k ≤ s.size ∧ t = .int .i64 k ∧ past (L s) k = past (L s) i) (fun t => s.size - (intOf t).toNat)
  case atStart => exact ⟨i, hi, rfl, rfl⟩
  case round =>
    obtain ⟨k, hk, rfl, hp⟩ := hrel
    have HP := Lib.hid hp
    clear hp
    by_cases hlt : k < s.size
    · have ea := get_bt s k hlt
      have c0 : (bt (L s) k).toNat < 256 := bt_lt _ _
      have hke : ((k : Int) == (s.size : Int)) = false := by simp; omega
      cases hb : blankI (bt (L s) k).toNat with
      | true =>
        have H2 := Lib.hid ((past_step (L s) k hlt hb).symm.trans HP.out)
        go_wp2_with (go_at_call 39; refine (white_any _ _ (by omega) (by omega)).mono ?_; rintro e w' ⟨rfl, rfl⟩)
        go_round
        case rel => exact ⟨k + 1, by omega, by go_num, H2.out⟩
        case measure => simp [intOf]; omega
      | false =>
        have H2 := Lib.hid ((past_stop (L s) k hlt hb).symm.trans HP.out)
        go_wp2_with (first | (go_at_call 39; refine (white_any _ _ (by omega) (by omega)).mono ?_; rintro e w' ⟨rfl, rfl⟩) | (go_at_call 33; refine (breaks_any s k _ hs hk).mono ?_; rintro e w' ⟨rfl, rfl⟩))
        go_ret2
        exact ⟨by rw [← H2.out, decide_eq_false (by omega), Bool.false_or]; rfl, rfl⟩
    · have H2 := Lib.hid ((past_end (L s) k (by rw [L_length]; omega)).symm.trans HP.out)
      have hke : ((k : Int) == (s.size : Int)) = true := by simp; omega
      go_wp2
      go_ret2
      exact ⟨by rw [← H2.out, decide_eq_true (by omega), Bool.true_or]; rfl, rfl⟩
end Go.Proofs.YtclegocofiigiabDoor
