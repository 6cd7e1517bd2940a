/- The document's ReadHeader: isLetter, isDigit, run, skip. -/
import Derived.Test.YtckdmbeokajdjaaGreatDoorH2c
namespace Go.Proofs.YtckdmbeokajdjaaGreatDoor
open Go.RowKit

set_option maxHeartbeats 400000 in
theorem risLetter_any (c : UInt8) (w : World) :
    Calls Tryz.prog 57 #[.int .u8 (c.toNat : Int)] w fun e w' => e = .returned (.bool (isLet c)) ∧ w' = w := by
  have hc := c.toNat_lt
  have e0 : isLet c = (decide (97 ≤ smI (c.toNat : Int)) && decide (smI (c.toNat : Int) ≤ 122)) := rfl
  unfold smI at e0
  by_cases h1 : (c.toNat : Int) ≥ 97
  · have h1' : (97 : Int) ≤ (c.toNat : Int) := h1
    rw [if_neg (by omega), decide_eq_true h1', Bool.true_and] at e0
    by_cases h2 : (c.toNat : Int) ≤ 122
    · rw [decide_eq_true h2] at e0
      rw [e0]; clear e0
      go_enter Tryz.func57, Tryz.ntmps57
      go_wp2
      go_ret
      exact ⟨rfl, rfl⟩
    · rw [decide_eq_false h2] at e0
      rw [e0]; clear e0
      have h3 : (c.toNat : Int) ≥ 65 := by omega
      have h3' : (65 : Int) ≤ (c.toNat : Int) := h3
      have h4 : ¬ (c.toNat : Int) ≤ 90 := by omega
      go_enter Tryz.func57, Tryz.ntmps57
      go_wp2
      go_ret
      exact ⟨rfl, rfl⟩
  · have h1' : ¬ (97 : Int) ≤ (c.toNat : Int) := h1
    by_cases h3 : (c.toNat : Int) ≥ 65
    · have h3' : (65 : Int) ≤ (c.toNat : Int) := h3
      by_cases h4 : (c.toNat : Int) ≤ 90
      · rw [if_pos ⟨h3', h4⟩, decide_eq_true (by omega : (97 : Int) ≤ (c.toNat : Int) + 32), decide_eq_true (by omega : (c.toNat : Int) + 32 ≤ 122)] at e0
        rw [e0]; clear e0
        go_enter Tryz.func57, Tryz.ntmps57
        go_wp2
        go_ret
        exact ⟨rfl, rfl⟩
      · rw [if_neg (by omega), decide_eq_false h1', Bool.false_and] at e0
        rw [e0]; clear e0
        go_enter Tryz.func57, Tryz.ntmps57
        go_wp2
        go_ret
        exact ⟨rfl, rfl⟩
    · have h3' : ¬ (65 : Int) ≤ (c.toNat : Int) := h3
      rw [if_neg (by omega), decide_eq_false h1', Bool.false_and] at e0
      rw [e0]; clear e0
      go_enter Tryz.func57, Tryz.ntmps57
      go_wp2
      go_ret
      exact ⟨rfl, rfl⟩

set_option maxHeartbeats 400000 in
theorem risDigit_any (c : UInt8) (w : World) :
    Calls Tryz.prog 59 #[.int .u8 (c.toNat : Int)] w fun e w' => e = .returned (.bool (isDig c)) ∧ w' = w := by
  have hc := c.toNat_lt
  have e0 : isDig c = (decide (48 ≤ c.toNat) && decide (c.toNat ≤ 57)) := rfl
  by_cases h1 : (c.toNat : Int) ≥ 48
  · have h1' : (48 : Int) ≤ (c.toNat : Int) := h1
    rw [decide_eq_true (by omega : 48 ≤ c.toNat), Bool.true_and] at e0
    by_cases h2 : (c.toNat : Int) ≤ 57
    · rw [decide_eq_true (by omega : c.toNat ≤ 57)] at e0
      rw [e0]; clear e0
      go_enter Tryz.func59, Tryz.ntmps59
      go_wp2
      go_ret
      exact ⟨rfl, rfl⟩
    · rw [decide_eq_false (by omega : ¬ c.toNat ≤ 57)] at e0
      rw [e0]; clear e0
      go_enter Tryz.func59, Tryz.ntmps59
      go_wp2
      go_ret
      exact ⟨rfl, rfl⟩
  · have h1' : ¬ (48 : Int) ≤ (c.toNat : Int) := h1
    rw [decide_eq_false (by omega : ¬ 48 ≤ c.toNat), Bool.false_and] at e0
    rw [e0]; clear e0
    go_enter Tryz.func59, Tryz.ntmps59
    go_wp2
    go_ret
    exact ⟨rfl, rfl⟩

def rnF (d : Bool) : UInt8 → Bool := if d then isDig else isLet
def rnN (d : Bool) (l : List UInt8) : Nat := (l.takeWhile (rnF d)).length
theorem drop_bt (l : List UInt8) (k : Nat) (h : k < l.length) : l.drop k = bt l k :: l.drop (k + 1) := by
  rw [List.drop_eq_getElem_cons h, bt_getElem l k h]
theorem rnN_hit (d : Bool) (l : List UInt8) (k : Nat) (h : k < l.length) (hf : rnF d (bt l k) = true) : rnN d (l.drop k) = 1 + rnN d (l.drop (k + 1)) := by
  unfold rnN; rw [drop_bt l k h, List.takeWhile_cons, hf]; simp; omega
theorem rnN_miss (d : Bool) (l : List UInt8) (k : Nat) (h : k < l.length) (hf : rnF d (bt l k) = false) : rnN d (l.drop k) = 0 := by
  unfold rnN; rw [drop_bt l k h, List.takeWhile_cons, hf]; simp
set_option maxRecDepth 100000 in
set_option maxHeartbeats 1000000 in
theorem rrun_any (s : ByteArray) (i : Nat) (d : Bool) (w : World) (hi : i ≤ s.size) (hs : s.size ≤ 140737488355328) :
    Calls Tryz.prog 58 #[.string s, .int .i64 (i : Int), .bool d] w fun e w' => e = .returned (.int .i64 ((i + rnN d ((L s).drop i) : Nat) : Int)) ∧ w' = w := by
  obtain ⟨T, hT⟩ : ∃ T, T = i + rnN d ((L s).drop i) := ⟨_, rfl⟩
  rw [← hT]
  go_enter Tryz.func58, Tryz.ntmps58
  go_wp2
  go_loopw [1] (fun v wr => ∃ k : Nat, v = .int .i64 (k : Int) ∧ k ≤ s.size ∧ k + rnN d ((L s).drop k) = T ∧ wr = w) (fun v _ => s.size - (intOf v).toNat)
  case atStart => exact ⟨i, rfl, hi, hT.symm, rfl⟩
  case round =>
    clear hT
    obtain ⟨k, rfl, hk, hkT, hwr⟩ := hrel
    obtain rfl : w = wr := hwr.symm
    have HT := Lib.hid hkT
    clear hkT
    by_cases hlt : k < s.size
    · have ea := get_bt s k hlt
      have hc8 := bt_lt (L s) k
      have hL := Lib.hid (fun W => risLetter_any (bt (L s) k) W)
      have hD := Lib.hid (fun W => risDigit_any (bt (L s) k) W)
      cases hf : rnF d (bt (L s) k) with
      | true =>
        have HN := Lib.hid (rnN_hit d (L s) k hlt hf)
        cases d with
        | true =>
          have hf' : isDig (bt (L s) k) = true := hf
          rw [hf'] at hD
          clear hf hf'
          go_wp2_with (go_at_call 59; refine (hD.out _).mono ?_; rintro e w' ⟨rfl, hw'⟩; rw [hw']; clear hw' w')
          go_roundw
          case rel => exact ⟨k + 1, by push_cast; rfl, by omega, by have := HN.out; have := HT.out; omega, by first | rfl | trivial⟩
          case measure => simp [intOf]; omega
        | false =>
          have hf' : isLet (bt (L s) k) = true := hf
          rw [hf'] at hL
          clear hf hf'
          go_wp2_with (go_at_call 57; refine (hL.out _).mono ?_; rintro e w' ⟨rfl, hw'⟩; rw [hw']; clear hw' w')
          go_roundw
          case rel => exact ⟨k + 1, by push_cast; rfl, by omega, by have := HN.out; have := HT.out; omega, by first | rfl | trivial⟩
          case measure => simp [intOf]; omega
      | false =>
        have HN := Lib.hid (rnN_miss d (L s) k hlt hf)
        have HR : Hid (k = T) := Lib.hid (by have := HN.out; have := HT.out; omega)
        cases d with
        | true =>
          have hf' : isDig (bt (L s) k) = false := hf
          rw [hf'] at hD
          clear hf hf'
          go_wp2_with (go_at_call 59; refine (hD.out _).mono ?_; rintro e w' ⟨rfl, hw'⟩; rw [hw']; clear hw' w')
          go_ret
          exact ⟨by rw [HR.out]; rfl, rfl⟩
        | false =>
          have hf' : isLet (bt (L s) k) = false := hf
          rw [hf'] at hL
          clear hf hf'
          go_wp2_with (go_at_call 57; refine (hL.out _).mono ?_; rintro e w' ⟨rfl, hw'⟩; rw [hw']; clear hw' w')
          go_ret
          exact ⟨by rw [HR.out]; rfl, rfl⟩
    · have HR : Hid (k = T) := Lib.hid (by
        have := HT.out
        rw [List.drop_eq_nil_of_le (by rw [L_length]; omega)] at this
        simpa [rnN] using this)
      go_wp2
      go_ret
      exact ⟨by rw [HR.out]; rfl, rfl⟩

end Go.Proofs.YtckdmbeokajdjaaGreatDoor

/- The document's ReadHeader: skip. -/
namespace Go.Proofs.YtckdmbeokajdjaaGreatDoor
open Go.RowKit

/-- Where skip has come to. -/
def SkI (l : List UInt8) (T k d : Nat) : Prop := (k ≤ l.length ∧ k + skD (l.drop k) d false = T) ∨ (k = l.length + 1 ∧ T = l.length)
theorem rsk_40 (l : List UInt8) (T k d : Nat) (hk : k < l.length) (h : SkI l T k d) (hc : bt l k = 40) : SkI l T (k + 1) (d + 1) := by
  rcases h with ⟨_, h⟩ | ⟨h, _⟩
  · rw [drop_bt l k hk, hc] at h
    exact .inl ⟨by omega, by simp only [skD, if_true] at h; omega⟩
  · omega
theorem rsk_41 (l : List UInt8) (T k d : Nat) (hk : k < l.length) (h : SkI l T k d) (hd : 0 < d) (hc : bt l k = 41) : SkI l T (k + 1) (d - 1) := by
  rcases h with ⟨_, h⟩ | ⟨h, _⟩
  · rw [drop_bt l k hk, hc] at h
    refine .inl ⟨by omega, ?_⟩
    have e : skD (41 :: l.drop (k + 1)) d false = 1 + skD (l.drop (k + 1)) (d - 1) false := by
      rw [skD, if_neg (by decide), if_pos hd, if_pos rfl]
    rw [e] at h
    omega
  · omega
theorem rsk_92 (l : List UInt8) (T k d : Nat) (hk : k < l.length) (h : SkI l T k d) (hd : 0 < d) (hc : bt l k = 92) : SkI l T (k + 2) d := by
  rcases h with ⟨_, h⟩ | ⟨h, _⟩
  · rw [drop_bt l k hk, hc] at h
    have e : skD (92 :: l.drop (k + 1)) d false = 1 + skD (l.drop (k + 1)) d true := by
      rw [skD, if_neg (by decide), if_pos hd, if_neg (by decide), if_pos rfl]
    rw [e] at h
    by_cases hk2 : k + 1 < l.length
    · rw [drop_bt l (k + 1) hk2] at h
      simp only [skD] at h
      exact .inl ⟨by omega, by rw [show k + 2 = k + 1 + 1 from rfl]; omega⟩
    · rw [List.drop_eq_nil_of_le (by omega)] at h
      simp only [skD] at h
      exact .inr ⟨by omega, by omega⟩
  · omega
theorem rsk_in (l : List UInt8) (T k d : Nat) (hk : k < l.length) (h : SkI l T k d) (hd : 0 < d) (h40 : bt l k ≠ 40) (h41 : bt l k ≠ 41) (h92 : bt l k ≠ 92) : SkI l T (k + 1) d := by
  rcases h with ⟨_, h⟩ | ⟨h, _⟩
  · rw [drop_bt l k hk] at h
    refine .inl ⟨by omega, ?_⟩
    simp only [skD] at h
    rw [if_neg h40, if_pos hd, if_neg h41, if_neg h92] at h
    omega
  · omega
theorem rsk_bl (l : List UInt8) (T k : Nat) (hk : k < l.length) (h : SkI l T k 0) (h40 : bt l k ≠ 40) (hb : blankB (bt l k) = true) : SkI l T (k + 1) 0 := by
  rcases h with ⟨_, h⟩ | ⟨h, _⟩
  · rw [drop_bt l k hk] at h
    refine .inl ⟨by omega, ?_⟩
    simp only [skD] at h
    rw [if_neg h40, if_neg (by omega), if_pos hb] at h
    omega
  · omega
theorem rsk_no (l : List UInt8) (T k : Nat) (hk : k < l.length) (h : SkI l T k 0) (h40 : bt l k ≠ 40) (hb : blankB (bt l k) = false) : k = T := by
  rcases h with ⟨_, h⟩ | ⟨h, _⟩
  · rw [drop_bt l k hk] at h
    simp only [skD] at h
    rw [if_neg h40, if_neg (by omega), hb] at h
    simpa using h
  · omega
theorem rsk_end (l : List UInt8) (T k d : Nat) (hk : ¬ k < l.length) (h : SkI l T k d) : T = l.length := by
  rcases h with ⟨h1, h⟩ | ⟨_, h⟩
  · rw [List.drop_eq_nil_of_le (by omega)] at h
    simp only [skD] at h; omega
  · exact h
theorem rsk_le (l : List UInt8) (T k d : Nat) (h : SkI l T k d) : k ≤ l.length + 1 := by rcases h with ⟨h, _⟩ | ⟨h, _⟩ <;> omega

set_option maxRecDepth 100000 in
set_option maxHeartbeats 2000000 in
theorem rskip_any (s : ByteArray) (i : Nat) (w : World) (hi : i ≤ s.size) (hs : s.size ≤ 140737488355328) :
    Calls Tryz.prog 56 #[.string s, .int .i64 (i : Int)] w fun e w' => e = .returned (.int .i64 ((i + skD ((L s).drop i) 0 false : Nat) : Int)) ∧ w' = w := by
  obtain ⟨T, hT⟩ : ∃ T, T = i + skD ((L s).drop i) 0 false := ⟨_, rfl⟩
  rw [← hT]
  go_enter Tryz.func56, Tryz.ntmps56
  go_wp2
  go_loopw [1, 5] (fun v dv wr => ∃ k d : Nat, v = .int .i64 (k : Int) ∧ dv = .int .i64 (d : Int) ∧ d ≤ k ∧ SkI (L s) T k d ∧ wr = w) (fun v _ _ => s.size + 1 - (intOf v).toNat)
  case atStart => exact ⟨i, 0, rfl, rfl, Nat.zero_le _, .inl ⟨hi, hT.symm⟩, rfl⟩
  case round =>
    clear hT
    obtain ⟨k, d, rfl, rfl, hdk, hI, hwr⟩ := hrel
    obtain rfl : w = wr := hwr.symm
    have hk1 := rsk_le _ _ _ _ hI
    rw [L_length] at hk1
    by_cases hlt : k < s.size
    · have ea := get_bt s k hlt
      have hc8 := bt_lt (L s) k
      have q40 := byte_test (bt (L s) k) 40 40 rfl
      have q41 := byte_test (bt (L s) k) 41 41 rfl
      have q92 := byte_test (bt (L s) k) 92 92 rfl
      cases h40 : (bt (L s) k == 40) with
      | true =>
        rw [h40] at q40
        have HI := Lib.hid (rsk_40 (L s) T k d hlt hI (by simpa using h40))
        clear hI h40 q41 q92
        go_wp2
        go_roundw
        case rel => exact ⟨k + 1, d + 1, by push_cast; rfl, by push_cast; rfl, by omega, HI.out, by first | rfl | trivial⟩
        case measure => simp [intOf]; omega
      | false =>
        rw [h40] at q40
        have n40 : bt (L s) k ≠ 40 := by simpa using h40
        by_cases hd : 0 < d
        · have hdI : (0 : Int) < (d : Int) := by omega
          have hdI' : (d : Int) > 0 := hdI
          cases h41 : (bt (L s) k == 41) with
          | true =>
            rw [h41] at q41
            have HI := Lib.hid (rsk_41 (L s) T k d hlt hI hd (by simpa using h41))
            clear hI h40 h41 q92 n40
            obtain ⟨d', hd'⟩ : ∃ d', d' = d - 1 := ⟨_, rfl⟩
            have hdd : (d : Int) - 1 = (d' : Int) := by omega
            rw [← hd'] at HI
            have hdl : d' ≤ k + 1 := by omega
            clear hd'
            go_wp2
            go_roundw
            case rel => exact ⟨k + 1, d', by push_cast; rfl, rfl, hdl, HI.out, by first | rfl | trivial⟩
            case measure => simp [intOf]; omega
          | false =>
            rw [h41] at q41
            cases h92 : (bt (L s) k == 92) with
            | true =>
              rw [h92] at q92
              have HI := Lib.hid (rsk_92 (L s) T k d hlt hI hd (by simpa using h92))
              clear hI h40 h41 h92 n40
              obtain ⟨k', hk'⟩ : ∃ k', k' = k + 2 := ⟨_, rfl⟩
              have hkk : (k : Int) + 1 + 1 = (k' : Int) := by omega
              rw [← hk'] at HI
              have hkl : k < k' := by omega
              clear hk'
              go_wp2
              go_roundw
              case rel => exact ⟨k', d, by first | rfl | (congr 1; omega), rfl, by omega, HI.out, by first | rfl | trivial⟩
              case measure => simp [intOf]; omega
            | false =>
              rw [h92] at q92
              have HI := Lib.hid (rsk_in (L s) T k d hlt hI hd n40 (by simpa using h41) (by simpa using h92))
              have hd0 : ((d : Int) == 0) = false := by rw [beq_eq_false_iff_ne]; omega
              clear hI h40 h41 h92 n40
              go_wp2
              go_roundw
              case rel => exact ⟨k + 1, d, by push_cast; rfl, rfl, by omega, HI.out, by first | rfl | trivial⟩
              case measure => simp [intOf]; omega
        · obtain rfl : d = 0 := by omega
          clear hd q41 q92
          have b32 := neq_test (bt (L s) k) 32 32 rfl
          have b9 := neq_test (bt (L s) k) 9 9 rfl
          have b13 := neq_test (bt (L s) k) 13 13 rfl
          have b10 := neq_test (bt (L s) k) 10 10 rfl
          have eb : blankB (bt (L s) k) = (bt (L s) k == 32 || bt (L s) k == 9 || bt (L s) k == 13 || bt (L s) k == 10) := rfl
          have HBl := Lib.hid (fun h => rsk_bl (L s) T k hlt hI n40 h)
          have HNo := Lib.hid (fun h => rsk_no (L s) T k hlt hI n40 h)
          clear hI h40 n40
          cases h32 : (bt (L s) k == 32) with
          | true =>
            rw [h32] at eb b32
            have HI := Lib.hid (HBl.out (by rw [eb]; rfl))
            clear eb h32
            go_wp2
            go_roundw
            case rel => exact ⟨k + 1, 0, by push_cast; rfl, rfl, by omega, HI.out, by first | rfl | trivial⟩
            case measure => simp [intOf]; omega
          | false =>
            rw [h32] at eb b32
            cases h9 : (bt (L s) k == 9) with
            | true =>
              rw [h9] at eb b9
              have HI := Lib.hid (HBl.out (by rw [eb]; rfl))
              clear eb h32 h9
              go_wp2
              go_roundw
              case rel => exact ⟨k + 1, 0, by push_cast; rfl, rfl, by omega, HI.out, by first | rfl | trivial⟩
              case measure => simp [intOf]; omega
            | false =>
              rw [h9] at eb b9
              cases h13 : (bt (L s) k == 13) with
              | true =>
                rw [h13] at eb b13
                have HI := Lib.hid (HBl.out (by rw [eb]; rfl))
                clear eb h32 h9 h13
                go_wp2
                go_roundw
                case rel => exact ⟨k + 1, 0, by push_cast; rfl, rfl, by omega, HI.out, by first | rfl | trivial⟩
                case measure => simp [intOf]; omega
              | false =>
                rw [h13] at eb b13
                cases h10 : (bt (L s) k == 10) with
                | true =>
                  rw [h10] at eb b10
                  have HI := Lib.hid (HBl.out (by rw [eb]; rfl))
                  clear eb h32 h9 h13 h10
                  go_wp2
                  go_roundw
                  case rel => exact ⟨k + 1, 0, by push_cast; rfl, rfl, by omega, HI.out, by first | rfl | trivial⟩
                  case measure => simp [intOf]; omega
                | false =>
                  rw [h10] at eb b10
                  have HR := Lib.hid (HNo.out (by rw [eb]; rfl))
                  clear eb h32 h9 h13 h10
                  go_wp2
                  go_ret
                  exact ⟨by rw [HR.out]; rfl, rfl⟩
    · have HR := Lib.hid (rsk_end (L s) T k d (by rw [L_length]; exact hlt) hI)
      have hkI : ¬ (k : Int) < (s.size : Int) := by omega
      clear hI
      go_wp2
      go_ret
      exact ⟨by rw [HR.out, L_length]; rfl, rfl⟩

end Go.Proofs.YtckdmbeokajdjaaGreatDoor

/- The document's ReadHeader: is, small, years. -/
namespace Go.Proofs.YtckdmbeokajdjaaGreatDoor
open Go.RowKit

/-- Pieces as they are cut. -/
def GdL (N : Nat) (ps : List Pc) : Prop := ∀ x, x ∈ ps → (1 ≤ x.1 ∧ x.1 ≤ 5) ∧ (x.1 = 2 → x.2.all isDig = true ∧ 1 ≤ x.2.length) ∧ (x.1 = 1 → x.2.all isLet = true) ∧ x.2.length ≤ N
theorem kb_eq (a b : Nat) (ha : 1 ≤ a ∧ a ≤ 5) (hb : 1 ≤ b ∧ b ≤ 5) : (((kb a).toNat : Int) == ((kb b).toNat : Int)) = (a == b) := by
  have h : ∀ a b : Fin 6, 1 ≤ a.val → 1 ≤ b.val → ((((kb a.val).toNat : Int) == ((kb b.val).toNat : Int)) = (a.val == b.val)) := by decide +kernel
  exact h ⟨a, by omega⟩ ⟨b, by omega⟩ ha.1 hb.1
theorem kd_at (ps : List Pc) (i : Nat) (h : i < ps.length) : kd ps i = (ps.getD i (0, [])).1 ∧ tx ps i = (ps.getD i (0, [])).2 ∧ ps.getD i (0, []) ∈ ps := by
  unfold kd tx
  rw [List.drop_eq_getElem_cons h, List.getD_eq_getElem?_getD, List.getElem?_eq_getElem h]
  exact ⟨rfl, rfl, List.getElem_mem h⟩
theorem kd_out (ps : List Pc) (i : Nat) (h : ¬ i < ps.length) : kd ps i = 0 := by
  unfold kd; rw [List.drop_eq_nil_of_le (by omega)]; rfl
set_option maxHeartbeats 400000 in
theorem ris_any (N : Nat) (v : Value) (ps : List Pc) (i k : Nat) (c : Int) (w : World) (hv : PsAt w v ps) (hg : GdL N ps) (hk : 1 ≤ k ∧ k ≤ 5) (hc : c = ((kb k).toNat : Int)) :
    Calls Tryz.prog 60 #[v, .int .i64 (i : Int), .int .u8 c] w fun e w' => e = .returned (.bool (kd ps i == k)) ∧ w' = w := by
  by_cases hi : i < ps.length
  · rcases hv with ⟨rfl, rfl⟩ | ⟨g, cap, rfl, hgl, hcs⟩
    · simp at hi
    · obtain ⟨k1, k2, k3⟩ := kd_at ps i hi
      have cc := (hcs i hi).1
      have hiI : (i : Int) < (ps.length : Int) := by omega
      have he := kb_eq _ k (hg _ k3).1 hk
      rw [k1, hc]
      generalize ps.getD i (0, []) = x at *
      have HR : Hid (∀ b, b = (((kb x.1).toNat : Int) == ((kb k).toNat : Int)) → b = (x.1 == k)) := Lib.hid (fun b hb => by rw [hb, he])
      clear he hcs hc k1 k2 k3
      go_enter Tryz.func60, Tryz.ntmps60
      go_wp2
      go_ret
      exact ⟨ret_bool (HR.out _ rfl), rfl⟩
  · have hk0 : (kd ps i == k) = false := by rw [kd_out ps i hi, beq_eq_false_iff_ne]; omega
    rw [hk0]
    rcases hv with ⟨rfl, rfl⟩ | ⟨g, cap, rfl, hgl, hcs⟩
    · have hiI : ¬ (i : Int) < 0 := by omega
      go_enter Tryz.func60, Tryz.ntmps60
      go_wp2
      go_ret
      exact ⟨rfl, rfl⟩
    · have hiI : ¬ (i : Int) < (ps.length : Int) := by omega
      clear hcs
      go_enter Tryz.func60, Tryz.ntmps60
      go_wp2
      go_ret
      exact ⟨rfl, rfl⟩
/-- The piece of digits at a place. -/
theorem dig_at {N : Nat} {ps : List Pc} {i : Nat} (hg : GdL N ps) (hk : kd ps i = 2) : i < ps.length ∧ (tx ps i).all isDig = true ∧ 1 ≤ (tx ps i).length := by
  by_cases hi : i < ps.length
  · obtain ⟨k1, k2, k3⟩ := kd_at ps i hi
    have := (hg _ k3).2.1 (by rw [← k1]; exact hk)
    rw [← k2] at this
    exact ⟨hi, this⟩
  · rw [kd_out ps i hi] at hk; cases hk
theorem PsAt.text {w : World} {v : Value} {ps : List Pc} (h : PsAt w v ps) {i : Nat} (hi : i < ps.length) : ∃ g cap, v = .slice (some ⟨g, 0, none⟩) ps.length cap ∧ w.cell? ⟨g, i * 2 + 1, none⟩ = some (.string (S (tx ps i))) := by
  rcases h with ⟨rfl, rfl⟩ | ⟨g, cap, rfl, hgl, hcs⟩
  · simp at hi
  · refine ⟨g, cap, rfl, ?_⟩
    rw [(kd_at ps i hi).2.1]; exact (hcs i hi).2
set_option maxHeartbeats 1000000 in
set_option maxRecDepth 100000 in
theorem rsmall_any (N : Nat) (v : Value) (ps : List Pc) (i : Nat) (g : Int) (w : World) (hv : PsAt w v ps) (hg : GdL N ps) :
    Calls Tryz.prog 62 #[v, .int .i64 (i : Int), .int .i64 g] w fun e w' => e = .returned (.tuple #[.int .i64 (shL (ps.drop i) g).1.1, .bool (shL (ps.drop i) g).1.2]) ∧ w' = w := by
  have hI := Lib.hid (fun W (hW : PsAt W v ps) => ris_any N v ps i 2 100 W hW hg (by omega) rfl)
  by_cases hk : kd ps i = 2
  · obtain ⟨hi, hd, hl⟩ := dig_at hg hk
    have ek : (kd ps i == 2) = true := by rw [hk]; rfl
    rw [ek] at hI
    rw [shL_hit (ps.drop i) g hk]
    obtain ⟨gb, cap, rfl, cc⟩ := hv.text hi
    have hiI : (i : Int) < (ps.length : Int) := by omega
    show Calls _ _ _ _ (fun e w' => e = .returned (.tuple #[.int .i64 (numI (tx ps i) 1 2), .bool (numB (tx ps i) 1 2 && decide (numI (tx ps i) 1 2 ≤ g))]) ∧ w' = w)
    have HV := Lib.hid hv
    clear hv hk ek
    generalize tx ps i = t at *
    have hz : (S t).size = t.length := S_size t
    by_cases h2 : t.length ≤ 2
    · have h2I : ¬ ((S t).size : Int) > 2 := by rw [hz]; omega
      have h2J : ¬ 2 < ((S t).size : Int) := by rw [hz]; omega
      have hC := Lib.hid (fun W => count_any (S t) W (by omega) (by omega))
      have hnc := num_count t 1 2 hl h2 hl (by omega)
      rw [L_S, hnc.1, hnc.2] at hC
      have hnb : numB t 1 2 = true := by unfold numB; rw [decide_eq_true hl, decide_eq_true h2, hd]; rfl
      rw [hnb] at hC ⊢
      rw [Bool.true_and]
      generalize numI t 1 2 = n at *
      clear hnc hnb hd
      go_enter Tryz.func62, Tryz.ntmps62
      go_wp2_with (first | (go_at_call 60; refine (hI.out _ HV.out).mono ?_; rintro e w' ⟨rfl, hw'⟩; rw [hw']; clear hw' w') | (go_at_call 80; refine (hC.out _).mono ?_; rintro e w' ⟨rfl, hw'⟩; rw [hw']; clear hw' w'))
      go_ret2
      exact ⟨rfl, rfl⟩
    · have h2I : ((S t).size : Int) > 2 := by rw [hz]; omega
      have h2J : 2 < ((S t).size : Int) := by rw [hz]; omega
      have hnb : numB t 1 2 = false := by unfold numB; rw [decide_eq_false h2]; simp
      have hni : numI t 1 2 = 0 := by unfold numI; rw [hnb]; rfl
      rw [hnb, hni]
      clear hnb hni hd
      go_enter Tryz.func62, Tryz.ntmps62
      go_wp2_with (go_at_call 60; refine (hI.out _ HV.out).mono ?_; rintro e w' ⟨rfl, hw'⟩; rw [hw']; clear hw' w')
      go_ret2
      exact ⟨rfl, rfl⟩
  · have ek : (kd ps i == 2) = false := by rw [beq_eq_false_iff_ne]; exact hk
    rw [ek] at hI
    rw [shL_miss (ps.drop i) g hk]
    have HV := Lib.hid hv
    clear hv hk ek
    go_enter Tryz.func62, Tryz.ntmps62
    go_wp2_with (go_at_call 60; refine (hI.out _ HV.out).mono ?_; rintro e w' ⟨rfl, hw'⟩; rw [hw']; clear hw' w')
    go_ret2
    exact ⟨rfl, rfl⟩
set_option maxHeartbeats 1000000 in
set_option maxRecDepth 100000 in
theorem ryears_any (N : Nat) (v : Value) (ps : List Pc) (i : Nat) (w : World) (hv : PsAt w v ps) (hg : GdL N ps) :
    Calls Tryz.prog 63 #[v, .int .i64 (i : Int)] w fun e w' => e = .returned (.tuple #[.int .i64 (fyI (tkL (ps.drop i) 2).1.1), .bool (fyB (tkL (ps.drop i) 2).1.1)]) ∧ w' = w := by
  have hI := Lib.hid (fun W (hW : PsAt W v ps) => ris_any N v ps i 2 100 W hW hg (by omega) rfl)
  by_cases hk : kd ps i = 2
  · obtain ⟨hi, hd, hl⟩ := dig_at hg hk
    have ek : (kd ps i == 2) = true := by rw [hk]; rfl
    rw [ek] at hI
    rw [tkL_hit (ps.drop i) 2 (by omega) hk]
    obtain ⟨gb, cap, rfl, cc⟩ := hv.text hi
    have hiI : (i : Int) < (ps.length : Int) := by omega
    show Calls _ _ _ _ (fun e w' => e = .returned (.tuple #[.int .i64 (fyI (tx ps i)), .bool (fyB (tx ps i))]) ∧ w' = w)
    have HV := Lib.hid hv
    clear hv hk ek
    generalize tx ps i = t at *
    have hz : (S t).size = t.length := S_size t
    by_cases h2 : 2 ≤ t.length
    · have h2I : ¬ ((S t).size : Int) < 2 := by rw [hz]; omega
      by_cases h4 : t.length ≤ 4
      · have h4I : ¬ ((S t).size : Int) > 4 := by rw [hz]; omega
        have h4J : ¬ 4 < ((S t).size : Int) := by rw [hz]; omega
        have hC := Lib.hid (fun W => count_any (S t) W (by omega) (by omega))
        have hnc := num_count t 2 4 h2 h4 hl (by omega)
        rw [L_S, hnc.1, hnc.2] at hC
        have hnb : numB t 2 4 = true := by unfold numB; rw [decide_eq_true h2, decide_eq_true h4, hd]; rfl
        have hb := numI_bounds t 2 4
        have hfB : fyB t = true := hnb
        have hfI : fyI t = if t.length = 4 then numI t 2 4 else if t.length = 2 ∧ numI t 2 4 < 50 then 2000 + numI t 2 4 else 1900 + numI t 2 4 := by unfold fyI; rw [hnb]; rfl
        rw [hnb] at hC
        rw [hfB, hfI]
        generalize numI t 2 4 = n at *
        clear hnc hnb hd hfB hfI
        by_cases e2 : t.length = 2
        · have q2 : (((S t).size : Int) == 2) = true := by rw [hz, e2]; rfl
          by_cases hn : n < 50
          · rw [if_neg (by omega), if_pos ⟨e2, hn⟩]
            have HC : Hid (n + 2000 = 2000 + n) := Lib.hid (by omega)
            go_enter Tryz.func63, Tryz.ntmps63
            go_wp2_with (first | (go_at_call 60; refine (hI.out _ HV.out).mono ?_; rintro e w' ⟨rfl, hw'⟩; rw [hw']; clear hw' w') | (go_at_call 80; refine (hC.out _).mono ?_; rintro e w' ⟨rfl, hw'⟩; rw [hw']; clear hw' w'))
            go_ret2
            exact ⟨by rw [← HC.out]; rfl, rfl⟩
          · rw [if_neg (by omega), if_neg (by omega)]
            have HC : Hid (n + 1900 = 1900 + n) := Lib.hid (by omega)
            have q4 : ((S t).size : Int) < 4 := by rw [hz]; omega
            go_enter Tryz.func63, Tryz.ntmps63
            go_wp2_with (first | (go_at_call 60; refine (hI.out _ HV.out).mono ?_; rintro e w' ⟨rfl, hw'⟩; rw [hw']; clear hw' w') | (go_at_call 80; refine (hC.out _).mono ?_; rintro e w' ⟨rfl, hw'⟩; rw [hw']; clear hw' w'))
            go_ret2
            exact ⟨by rw [← HC.out]; rfl, rfl⟩
        · have q2 : (((S t).size : Int) == 2) = false := by rw [hz, beq_eq_false_iff_ne]; omega
          by_cases e4 : t.length = 4
          · rw [if_pos e4]
            have q4 : ¬ ((S t).size : Int) < 4 := by rw [hz]; omega
            go_enter Tryz.func63, Tryz.ntmps63
            go_wp2_with (first | (go_at_call 60; refine (hI.out _ HV.out).mono ?_; rintro e w' ⟨rfl, hw'⟩; rw [hw']; clear hw' w') | (go_at_call 80; refine (hC.out _).mono ?_; rintro e w' ⟨rfl, hw'⟩; rw [hw']; clear hw' w'))
            go_ret2
            exact ⟨rfl, rfl⟩
          · rw [if_neg e4, if_neg (by omega)]
            have HC : Hid (n + 1900 = 1900 + n) := Lib.hid (by omega)
            have q4 : ((S t).size : Int) < 4 := by rw [hz]; omega
            go_enter Tryz.func63, Tryz.ntmps63
            go_wp2_with (first | (go_at_call 60; refine (hI.out _ HV.out).mono ?_; rintro e w' ⟨rfl, hw'⟩; rw [hw']; clear hw' w') | (go_at_call 80; refine (hC.out _).mono ?_; rintro e w' ⟨rfl, hw'⟩; rw [hw']; clear hw' w'))
            go_ret2
            exact ⟨by rw [← HC.out]; rfl, rfl⟩
      · have h4I : ((S t).size : Int) > 4 := by rw [hz]; omega
        have h4J : 4 < ((S t).size : Int) := by rw [hz]; omega
        have hnb : fyB t = false := by unfold fyB numB; rw [decide_eq_false h4]; simp
        have hni : fyI t = 0 := by unfold fyI; rw [show numB t 2 4 = false from hnb]; rfl
        rw [hnb, hni]
        clear hnb hni hd
        go_enter Tryz.func63, Tryz.ntmps63
        go_wp2_with (go_at_call 60; refine (hI.out _ HV.out).mono ?_; rintro e w' ⟨rfl, hw'⟩; rw [hw']; clear hw' w')
        go_ret2
        exact ⟨rfl, rfl⟩
    · have h2I : ((S t).size : Int) < 2 := by rw [hz]; omega
      have hnb : fyB t = false := by unfold fyB numB; rw [decide_eq_false h2]; simp
      have hni : fyI t = 0 := by unfold fyI; rw [show numB t 2 4 = false from hnb]; rfl
      rw [hnb, hni]
      clear hnb hni hd
      go_enter Tryz.func63, Tryz.ntmps63
      go_wp2_with (go_at_call 60; refine (hI.out _ HV.out).mono ?_; rintro e w' ⟨rfl, hw'⟩; rw [hw']; clear hw' w')
      go_ret2
      exact ⟨rfl, rfl⟩
  · have ek : (kd ps i == 2) = false := by rw [beq_eq_false_iff_ne]; exact hk
    rw [ek] at hI
    rw [tkL_miss (ps.drop i) 2 hk, fyB_nil, show fyI [] = 0 from rfl]
    have HV := Lib.hid hv
    clear hv hk ek
    go_enter Tryz.func63, Tryz.ntmps63
    go_wp2_with (go_at_call 60; refine (hI.out _ HV.out).mono ?_; rintro e w' ⟨rfl, hw'⟩; rw [hw']; clear hw' w')
    go_ret2
    exact ⟨rfl, rfl⟩

end Go.Proofs.YtckdmbeokajdjaaGreatDoor

/- The document's ReadHeader: pieces. -/
namespace Go.Proofs.YtckdmbeokajdjaaGreatDoor
open Go.RowKit

/-- The pieces of a text that begins with one. -/
def pcA (r : List UInt8) : Option (List Pc) := pl ⟨cutK r, r.take (cutN r), r.drop (cutN r)⟩
theorem pcs_A (r : List UInt8) : pcs r = pcA (r.drop (skD r 0 false)) := pcs_pl r
theorem pcA_nil : pcA [] = some [] := rfl
theorem pcA_6 (r : List UInt8) (h : cutK r = 6) : pcA r = none := by
  unfold pcA pl; rw [if_neg (by show ¬ cutK r = 0; omega), if_pos h]
theorem pcA_cons (r : List UInt8) (k n : Nat) (h : cutK r = k) (hn : cutN r = n) (h1 : 1 ≤ k) (h5 : k ≤ 5) : pcA r = (pcs (r.drop n)).map (fun t => (k, r.take n) :: t) := by
  subst h hn
  unfold pcA pl
  rw [if_neg (by show ¬ cutK r = 0; omega), if_neg (by show ¬ cutK r = 6; omega)]
/-- What pieces has behind it. -/
structure PcI (H : Nat) (l : List UInt8) (v : Value) (ps : List Pc) (k : Nat) (w0 w : World) : Prop where
  own : OwnP H v ps w0 w
  le : k ≤ l.length
  rest : pcs l = (pcA (l.drop k)).map (fun t => ps ++ t)
  few : ps.length ≤ k
  good : GdL l.length ps
theorem PcI.done {H : Nat} {l : List UInt8} {v : Value} {ps : List Pc} {w0 w : World} (h : PcI H l v ps l.length w0 w) : pcs l = some ps := by
  have := h.rest
  rw [List.drop_length, pcA_nil] at this
  rw [this]; simp
theorem PcI.bad {H : Nat} {l : List UInt8} {v : Value} {ps : List Pc} {k : Nat} {w0 w : World} (h : PcI H l v ps k w0 w) (h6 : cutK (l.drop k) = 6) : pcs l = none := by
  rw [h.rest, pcA_6 _ h6]; rfl
theorem PcI.next {H : Nat} {l : List UInt8} {v v' : Value} {ps : List Pc} {k q n e : Nat} {w0 w w' : World} (h : PcI H l v ps k w0 w) (hq : cutK (l.drop k) = q) (hn : cutN (l.drop k) = n) (h1 : 1 ≤ q) (h5 : q ≤ 5) (he : e = k + n)
    (hg : (q = 2 → ((l.drop k).take n).all isDig = true ∧ 1 ≤ ((l.drop k).take n).length) ∧ (q = 1 → ((l.drop k).take n).all isLet = true))
    (hown : OwnP H v' (ps ++ [(q, (l.drop k).take n)]) w0 w') : PcI H l v' (ps ++ [(q, (l.drop k).take n)]) (e + skD (l.drop e) 0 false) w0 w' := by
  have hn1 : 1 ≤ n := by rw [← hn]; exact cutN_pos _ (by omega)
  have hnl : n ≤ (l.drop k).length := by rw [← hn]; exact cutN_le _
  rw [List.length_drop] at hnl
  have hle := h.le
  have hsk := skD_le (l.drop e) 0 false
  rw [List.length_drop] at hsk
  refine ⟨hown, by omega, ?_, ?_, ?_⟩
  · rw [h.rest, pcA_cons _ q n hq hn h1 h5, List.drop_drop, ← he, pcs_A, List.drop_drop, Option.map_map]
    congr 1
    funext t
    simp
  · rw [List.length_append]; have := h.few; simp; omega
  · intro x hx
    rcases List.mem_append.1 hx with hx | hx
    · exact h.good x hx
    · have : x = (q, (l.drop k).take n) := by simpa using hx
      subst this
      exact ⟨⟨h1, h5⟩, hg.1, hg.2, by rw [List.length_take, List.length_drop]; omega⟩
theorem tw_all (f : UInt8 → Bool) (l : List UInt8) : (l.take (l.takeWhile f).length).all f = true := by rw [take_takeWhile]; exact all_takeWhile f l
theorem rcut_let (l : List UInt8) (k : Nat) (hk : k < l.length) (h : isLet (bt l k) = true) : cutK (l.drop k) = 1 ∧ cutN (l.drop k) = rnN false (l.drop k) ∧ ((l.drop k).take (rnN false (l.drop k))).all isLet = true := by
  refine ⟨?_, ?_, tw_all isLet _⟩
  · rw [drop_bt l k hk]; unfold cutK; simp only [h, if_true]
  · rw [drop_bt l k hk]; unfold cutN; simp only [h, if_true]; rfl
theorem rcut_dig (l : List UInt8) (k : Nat) (hk : k < l.length) (h0 : isLet (bt l k) = false) (h : isDig (bt l k) = true) : cutK (l.drop k) = 2 ∧ cutN (l.drop k) = rnN true (l.drop k) ∧ ((l.drop k).take (rnN true (l.drop k))).all isDig = true ∧ 1 ≤ ((l.drop k).take (rnN true (l.drop k))).length := by
  refine ⟨?_, ?_, tw_all isDig _, ?_⟩
  · rw [drop_bt l k hk]; unfold cutK; simp only [h0, h, if_true, Bool.false_eq_true, if_false]
  · rw [drop_bt l k hk]; unfold cutN; simp only [h0, h, if_true, Bool.false_eq_true, if_false]; rfl
  · have := rnN_hit true l k hk h
    rw [List.length_take, List.length_drop]; omega
theorem rcut_sign (l : List UInt8) (k : Nat) (hk : k < l.length) (h0 : isLet (bt l k) = false) (h1 : isDig (bt l k) = false) (h : bt l k = 43 ∨ bt l k = 45) : cutN (l.drop k) = 1 + rnN true (l.drop (k + 1)) ∧ (0 < rnN true (l.drop (k + 1)) → cutK (l.drop k) = 3) ∧ (rnN true (l.drop (k + 1)) = 0 → cutK (l.drop k) = 6) := by
  have h44 : ¬ bt l k = 44 := by rcases h with h | h <;> rw [h] <;> decide
  have h58 : ¬ bt l k = 58 := by rcases h with h | h <;> rw [h] <;> decide
  refine ⟨?_, fun hp => ?_, fun hp => ?_⟩
  · rw [drop_bt l k hk]; unfold cutN; simp only [h0, h1, h, if_true, Bool.false_eq_true, if_false]; rfl
  · rw [drop_bt l k hk]; unfold cutK; simp only [h0, h1, Bool.false_eq_true, if_false, if_neg h44, if_neg h58]
    exact if_pos ⟨h, hp⟩
  · rw [drop_bt l k hk]; unfold cutK; simp only [h0, h1, Bool.false_eq_true, if_false, if_neg h44, if_neg h58]
    exact if_neg (fun e => by have := e.2; have : 0 < rnN true (l.drop (k + 1)) := this; omega)
theorem rcut_mark (l : List UInt8) (k : Nat) (hk : k < l.length) (h0 : isLet (bt l k) = false) (h1 : isDig (bt l k) = false) (h43 : bt l k ≠ 43) (h45 : bt l k ≠ 45) : cutN (l.drop k) = 1 ∧ (bt l k = 44 → cutK (l.drop k) = 4) ∧ (bt l k = 58 → cutK (l.drop k) = 5) ∧ (bt l k ≠ 44 → bt l k ≠ 58 → cutK (l.drop k) = 6) := by
  have hs : ¬ (bt l k = 43 ∨ bt l k = 45) := fun h => h.elim h43 h45
  refine ⟨?_, fun e => ?_, fun e => ?_, fun e1 e2 => ?_⟩
  · rw [drop_bt l k hk]; unfold cutN; simp only [h0, h1, Bool.false_eq_true, if_false, if_neg hs]
  · rw [drop_bt l k hk]; unfold cutK; simp only [h0, h1, Bool.false_eq_true, if_false, if_pos e]
  · rw [drop_bt l k hk]; unfold cutK; simp only [h0, h1, Bool.false_eq_true, if_false, if_pos e, if_neg (show ¬ bt l k = 44 by rw [e]; decide)]
  · rw [drop_bt l k hk]; unfold cutK; simp only [h0, h1, Bool.false_eq_true, if_false, if_neg e1, if_neg e2]
    exact if_neg (fun e => hs e.1)

end Go.Proofs.YtckdmbeokajdjaaGreatDoor
