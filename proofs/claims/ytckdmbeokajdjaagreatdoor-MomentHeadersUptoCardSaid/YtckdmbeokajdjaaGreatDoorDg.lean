/- moment: small, same, isDigit, number, monthOf, isWeekday. -/
import Derived.Test.YtckdmbeokajdjaaGreatDoorDa
import Derived.BigQuiet
import Derived.Laws.Rows
import Derived.Lib.Slices
import Derived.Lib.Strings
namespace Go.Proofs.YtckdmbeokajdjaaGreatDoor
open Go.RowKit

theorem get_bt (s : ByteArray) (k : Nat) (h : k < s.size) : (s[k]'h) = bt (L s) k := by
  rw [bt_getElem (L s) k h]; rfl
theorem extract_S (s : ByteArray) (a b : Nat) : s.extract a b = S (((L s).drop a).take (b - a)) := by
  have h := Lib.extract_data s a b
  have : s.extract a b = S ((s.extract a b).data.toList) := rfl
  rw [this, h]; rfl
def isDig (c : UInt8) : Bool := decide (48 ≤ c.toNat) && decide (c.toNat ≤ 57)
theorem isDig_iff (c : UInt8) : isDig c = true ↔ (48 ≤ c.toNat ∧ c.toNat ≤ 57) := by unfold isDig; simp
def valD (l : List UInt8) : Nat := l.foldl (fun a c => 10 * a + (c.toNat - 48)) 0
theorem valD_snoc (l : List UInt8) (c : UInt8) : valD (l ++ [c]) = 10 * valD l + (c.toNat - 48) := by unfold valD; rw [List.foldl_append]; rfl
/-- number: from least to most digits. -/
def numB (l : List UInt8) (a b : Nat) : Bool := decide (a ≤ l.length) && decide (l.length ≤ b) && l.all isDig
def numI (l : List UInt8) (a b : Nat) : Int := if numB l a b then (valD l : Int) else 0
theorem numB_len (l : List UInt8) (a b : Nat) (h : ¬ (a ≤ l.length ∧ l.length ≤ b)) : numB l a b = false := by
  unfold numB
  rw [Bool.and_eq_false_iff, Bool.and_eq_false_iff, decide_eq_false_iff_not, decide_eq_false_iff_not]
  omega
theorem numB_no (l : List UInt8) (a b k : Nat) (hk : k < l.length) (h : isDig (bt l k) = false) : numB l a b = false := by
  unfold numB
  rw [Bool.and_eq_false_iff]
  right
  rw [List.all_eq_false]
  exact ⟨bt l k, by rw [bt_getElem l k hk]; exact List.getElem_mem hk, by rw [h]; simp⟩
theorem numB_yes (l : List UInt8) (a b : Nat) (h1 : a ≤ l.length) (h2 : l.length ≤ b) (h : l.all isDig = true) : numB l a b = true := by
  unfold numB
  rw [h, decide_eq_true h1, decide_eq_true h2]; rfl
theorem all_snoc (l : List UInt8) (k : Nat) (hk : k < l.length) (h : (l.take k).all isDig = true) (hd : isDig (bt l k) = true) : (l.take (k + 1)).all isDig = true := by
  rw [take_snoc l k hk, List.all_append, h]; simp [hd]
theorem valD_go (l : List UInt8) : ∀ a, l.all isDig = true → l.foldl (fun a c => 10 * a + (c.toNat - 48)) a < (a + 1) * 10 ^ l.length := by
  induction l with
  | nil => intro a _; simp
  | cons c l ih =>
    intro a h
    rw [List.all_cons, Bool.and_eq_true, isDig_iff] at h
    have := ih (10 * a + (c.toNat - 48)) h.2
    rw [List.foldl_cons, List.length_cons, Nat.pow_succ]
    have h2 : (10 * a + (c.toNat - 48) + 1) * 10 ^ l.length ≤ (10 * (a + 1)) * 10 ^ l.length := Nat.mul_le_mul_right _ (by omega)
    have h3 : (a + 1) * (10 ^ l.length * 10) = (10 * (a + 1)) * 10 ^ l.length := by rw [Nat.mul_comm (10 ^ l.length) 10, ← Nat.mul_assoc, Nat.mul_comm (a + 1) 10]
    omega
theorem valD_lt (l : List UInt8) (h : l.all isDig = true) : valD l < 10 ^ l.length := by
  have := valD_go l 0 h
  unfold valD
  omega
def monIx (l : List UInt8) : Nat := monT.findIdx (fun n => same l n)
def wdIx (l : List UInt8) : Nat := wdT.findIdx (fun n => same l n)
theorem findIdx_at (ns : List (List UInt8)) (l : List UInt8) (k : Nat) (hk : k < ns.length) (h : ∀ j, j < k → same l (ns.getD j []) = false) (hy : same l (ns.getD k []) = true) : ns.findIdx (fun n => same l n) = k := by
  rw [List.findIdx_eq hk]
  refine ⟨by rw [List.getD_eq_getElem?_getD, List.getElem?_eq_getElem hk] at hy; exact hy, fun j hj => ?_⟩
  have := h j hj
  rw [List.getD_eq_getElem?_getD, List.getElem?_eq_getElem (by omega)] at this
  simpa using this
theorem findIdx_none (ns : List (List UInt8)) (l : List UInt8) (h : ∀ j, j < ns.length → same l (ns.getD j []) = false) : ns.findIdx (fun n => same l n) = ns.length := by
  rw [List.findIdx_eq_length]
  intro x hx
  obtain ⟨j, hj, rfl⟩ := List.getElem_of_mem hx
  have := h j hj
  rw [List.getD_eq_getElem?_getD, List.getElem?_eq_getElem hj] at this
  simpa using this

set_option maxHeartbeats 400000 in
theorem small_any (c : Int) (w : World) (h0 : 0 ≤ c) (h1 : c ≤ 255) :
    Calls Tryz.prog 92 #[.int .u8 c] w fun e w' => e = .returned (.int .u8 (smI c)) ∧ w' = w := by
  by_cases h : 65 ≤ c ∧ c ≤ 90
  · have HR : Hid (smI c = c + 32) := Lib.hid (by unfold smI; rw [if_pos h])
    obtain ⟨a, b⟩ := h
    go_enter Tryz.func92, Tryz.ntmps92
    go_wp2
    go_ret
    exact ⟨ret_int HR.out.symm, rfl⟩
  · have HR : Hid (smI c = c) := Lib.hid (by unfold smI; rw [if_neg h])
    rcases (by omega : c < 65 ∨ (65 ≤ c ∧ 90 < c)) with h2 | ⟨h2, h3⟩
    all_goals (
      clear h
      go_enter Tryz.func92, Tryz.ntmps92
      go_wp2
      go_ret
      exact ⟨ret_int HR.out.symm, rfl⟩)

set_option maxHeartbeats 400000 in
theorem msame_any (a b : ByteArray) (w : World) (ha : a.size ≤ maxLen) :
    Calls Tryz.prog 73 #[.string a, .string b] w fun e w' => e = .returned (.bool (same (L a) (L b))) ∧ Below w.heap.size w w' := by
  unfold maxLen at ha
  by_cases hl : (a.size : Int) = (b.size : Int)
  · have hlb : ((a.size : Int) != (b.size : Int)) = false := by simp [hl]
    go_enter Tryz.func73, Tryz.ntmps73
    go_wp2
    go_loopw [13] (fun i wr => ∃ k : Nat, k ≤ a.size ∧ i = .int .i64 k ∧ samePre (L a) (L b) k ∧ Below w.heap.size w wr) (fun i _ => a.size - (intOf i).toNat)
    case atStart => exact ⟨0, Nat.zero_le _, rfl, samePre_zero _ _, Below.refl _ _⟩
    case round =>
      obtain ⟨k, hk, rfl, hp, hbe⟩ := hrel
      by_cases hlt : k < a.size
      · have hltb : k < b.size := by omega
        have ea := get_bt a k hlt
        have eb := get_bt b k hltb
        have c0 : (bt (L a) k).toNat < 256 := bt_lt _ _
        have c1 : (bt (L b) k).toNat < 256 := bt_lt _ _
        go_wp2
        go_quiet ((go_at_call 92; exact Calls.quiet_of_same (small_any _ _ (by omega) (by omega))))
        go_wp2
        · have hne : (smI ((bt (L a) k).toNat : Int) != smI ((bt (L b) k).toNat : Int)) = true := by assumption
          go_ret
          exact ⟨ret_bool (same_no (L a) (L b) k hlt hltb (by simpa using hne)).symm, below_drewN hbe _⟩
        · have heq : (smI ((bt (L a) k).toNat : Int) != smI ((bt (L b) k).toNat : Int)) = false := by assumption
          go_roundw
          case rel => exact ⟨k + 1, by omega, by go_num, samePre_succ (L a) (L b) k hlt hltb hp (by simpa using heq), below_drewN hbe _⟩
          case measure => simp [intOf]; omega
      · go_wp2
        go_ret
        exact ⟨ret_bool (samePre_all (L a) (L b) k (by rw [L_length]; omega) (by rw [L_length]; omega) hp).symm, hbe⟩
  · have hlb : ((a.size : Int) != (b.size : Int)) = true := by simp; omega
    go_enter Tryz.func73, Tryz.ntmps73
    go_wp2
    go_ret
    exact ⟨ret_bool (same_len (L a) (L b) (by rw [L_length, L_length]; omega)).symm, Below.refl _ _⟩

set_option maxHeartbeats 400000 in
theorem isDigit_any (c : UInt8) (w : World) :
    Calls Tryz.prog 72 #[.int .u8 (c.toNat : Int)] w fun e w' => e = .returned (.bool (isDig c)) ∧ w' = w := by
  have h256 : c.toNat < 256 := c.toNat_lt
  have HI : Hid (isDig c = (decide (48 ≤ c.toNat) && decide (c.toNat ≤ 57))) := Lib.hid rfl
  by_cases h : 48 ≤ c.toNat
  · by_cases h2 : c.toNat ≤ 57
    · have HR : Hid (isDig c = true) := Lib.hid ((isDig_iff c).2 ⟨h, h2⟩)
      go_enter Tryz.func72, Tryz.ntmps72
      go_wp2
      go_ret
      exact ⟨ret_bool (by first | exact HR.out.symm | (rw [HR.out, decide_eq_true_iff]; omega) | (rw [HR.out, decide_eq_false_iff_not]; omega)), rfl⟩
    · have HR : Hid (isDig c = false) := Lib.hid (by rw [← Bool.not_eq_true, isDig_iff]; omega)
      go_enter Tryz.func72, Tryz.ntmps72
      go_wp2
      go_ret
      exact ⟨ret_bool (by first | exact HR.out.symm | (rw [HR.out, decide_eq_true_iff]; omega) | (rw [HR.out, decide_eq_false_iff_not]; omega)), rfl⟩
  · have HR : Hid (isDig c = false) := Lib.hid (by rw [← Bool.not_eq_true, isDig_iff]; omega)
    go_enter Tryz.func72, Tryz.ntmps72
    go_wp2
    go_ret
    exact ⟨ret_bool (by first | exact HR.out.symm | (rw [HR.out, decide_eq_true_iff]; omega) | (rw [HR.out, decide_eq_false_iff_not]; omega)), rfl⟩
theorem ret_ib {a b : Int} {c d : Bool} (h1 : a = b) (h2 : c = d) : Ending.returned (.tuple #[.int .i64 a, .bool c]) = .returned (.tuple #[.int .i64 b, .bool d]) := by rw [h1, h2]
set_option maxHeartbeats 1000000 in
theorem number_any (s : ByteArray) (a b : Nat) (w : World) (hs : s.size ≤ 140737488355328) (hb : b ≤ 9) :
    Calls Tryz.prog 45 #[.string s, .int .i64 a, .int .i64 b] w fun e w' => e = .returned (.tuple #[.int .i64 (numI (L s) a b), .bool (numB (L s) a b)]) ∧ w' = w := by
  by_cases hl : a ≤ s.size ∧ s.size ≤ b
  · have W1 := Lib.hid (fun W => within_val s.size a b true W (wi_true (by omega) (by omega)))
    have hsb : s.size ≤ 9 := by omega
    have HL := Lib.hid hl
    clear hl hb
    go_enter Tryz.func45, Tryz.ntmps45
    go_wp2_with (go_at_call 32; refine (W1.out _).mono ?_; rintro e w' ⟨rfl, rfl⟩)
    go_loop [8, 18] (fun n i => ∃ k : Nat, k ≤ s.size ∧ i = .int .i64 k ∧ n = .int .i64 (valD ((L s).take k) : Nat) ∧ ((L s).take k).all isDig = true) (fun _ i => s.size - (intOf i).toNat)
    case atStart => exact ⟨0, Nat.zero_le _, rfl, by simp [valD], by simp⟩
    case round =>
      obtain ⟨k, hk, rfl, rfl, hall⟩ := hrel
      by_cases hlt : k < s.size
      · have hv := valD_lt _ hall
        have hlen : ((L s).take k).length = k := by rw [List.length_take, L_length]; omega
        rw [hlen] at hv
        have hp : 10 ^ k ≤ 10 ^ 8 := Nat.pow_le_pow_right (by omega) (by omega)
        have hv2 : valD ((L s).take k) < 100000000 := by omega
        have HA := Lib.hid hall
        have HV := Lib.hid (valD_snoc ((L s).take k) (bt (L s) k))
        have ea := get_bt s k hlt
        have hD := Lib.hid (fun W => isDigit_any (bt (L s) k) W)
        have HN := Lib.hid (numB_no (L s) a b k hlt)
        have HS := Lib.hid (all_snoc (L s) k hlt hall)
        have HT := Lib.hid (take_snoc (L s) k hlt)
        clear hall hv hlen hp
        cases hd : isDig (bt (L s) k) with
        | false =>
          rw [hd] at hD
          have HB : Hid (numB (L s) a b = false) := Lib.hid (HN.out hd)
          have HI : Hid (numI (L s) a b = 0) := Lib.hid (by unfold numI; rw [HB.out]; rfl)
          go_wp2_with (go_at_call 72; refine (hD.out _).mono ?_; rintro e w' ⟨rfl, rfl⟩)
          go_ret2
          exact ⟨ret_ib HI.out.symm HB.out.symm, rfl⟩
        | true =>
          rw [hd] at hD
          have hd2 := (isDig_iff _).1 hd
          have HS2 := Lib.hid (HS.out hd)
          have HV2 : Hid (valD ((L s).take (k + 1)) = 10 * valD ((L s).take k) + ((bt (L s) k).toNat - 48)) := Lib.hid (by rw [HT.out]; exact HV.out)
          clear HS HT HV HN
          obtain ⟨c, hc⟩ : ∃ c : Nat, c = (bt (L s) k).toNat := ⟨_, rfl⟩
          rw [← hc] at hd2 HV2
          generalize valD ((L s).take k) = V at *
          go_wp2_with (go_at_call 72; refine (hD.out _).mono ?_; rintro e w' ⟨rfl, rfl⟩)
          go_round
          case rel => exact ⟨k + 1, by omega, by go_num, by rw [HV2.out]; congr 1; omega, HS2.out⟩
          case measure => simp [intOf]; omega
      · have hks : k = s.size := by omega
        have htk : (L s).take k = L s := List.take_of_length_le (by rw [L_length]; omega)
        rw [htk] at hall
        have HB : Hid (numB (L s) a b = true) := Lib.hid (numB_yes (L s) a b HL.out.1 HL.out.2 hall)
        have HI : Hid (numI (L s) a b = (valD (L s) : Int)) := Lib.hid (by unfold numI; rw [HB.out]; rfl)
        have HT := Lib.hid htk
        clear htk hall
        go_wp2
        go_ret2
        exact ⟨ret_ib (by rw [HI.out, List.take_of_length_le (by rw [L_length]; omega)]) HB.out.symm, rfl⟩
  · have W1 := Lib.hid (fun W => within_val s.size a b false W (wi_false (by omega)))
    have HB : Hid (numB (L s) a b = false) := Lib.hid (numB_len (L s) a b (by rw [L_length]; exact hl))
    have HI : Hid (numI (L s) a b = 0) := Lib.hid (by unfold numI; rw [HB.out]; rfl)
    clear hl
    go_enter Tryz.func45, Tryz.ntmps45
    go_wp2_with (go_at_call 32; refine (W1.out _).mono ?_; rintro e w' ⟨rfl, rfl⟩)
    go_ret2
    exact ⟨ret_ib HI.out.symm HB.out.symm, rfl⟩

theorem monAt0 (w : World) : (Instr.index 59 (.agg #[.string (S [74, 97, 110]), .string (S [70, 101, 98]), .string (S [77, 97, 114]), .string (S [65, 112, 114]), .string (S [77, 97, 121]), .string (S [74, 117, 110]), .string (S [74, 117, 108]), .string (S [65, 117, 103]), .string (S [83, 101, 112]), .string (S [79, 99, 116]), .string (S [78, 111, 118]), .string (S [68, 101, 99])]) (.int .i64 0)).run Tryz.prog w = .ok (.string (S [74, 97, 110])) w := by kernel_rfl
theorem monAt1 (w : World) : (Instr.index 59 (.agg #[.string (S [74, 97, 110]), .string (S [70, 101, 98]), .string (S [77, 97, 114]), .string (S [65, 112, 114]), .string (S [77, 97, 121]), .string (S [74, 117, 110]), .string (S [74, 117, 108]), .string (S [65, 117, 103]), .string (S [83, 101, 112]), .string (S [79, 99, 116]), .string (S [78, 111, 118]), .string (S [68, 101, 99])]) (.int .i64 1)).run Tryz.prog w = .ok (.string (S [70, 101, 98])) w := by kernel_rfl
theorem monAt2 (w : World) : (Instr.index 59 (.agg #[.string (S [74, 97, 110]), .string (S [70, 101, 98]), .string (S [77, 97, 114]), .string (S [65, 112, 114]), .string (S [77, 97, 121]), .string (S [74, 117, 110]), .string (S [74, 117, 108]), .string (S [65, 117, 103]), .string (S [83, 101, 112]), .string (S [79, 99, 116]), .string (S [78, 111, 118]), .string (S [68, 101, 99])]) (.int .i64 2)).run Tryz.prog w = .ok (.string (S [77, 97, 114])) w := by kernel_rfl
theorem monAt3 (w : World) : (Instr.index 59 (.agg #[.string (S [74, 97, 110]), .string (S [70, 101, 98]), .string (S [77, 97, 114]), .string (S [65, 112, 114]), .string (S [77, 97, 121]), .string (S [74, 117, 110]), .string (S [74, 117, 108]), .string (S [65, 117, 103]), .string (S [83, 101, 112]), .string (S [79, 99, 116]), .string (S [78, 111, 118]), .string (S [68, 101, 99])]) (.int .i64 3)).run Tryz.prog w = .ok (.string (S [65, 112, 114])) w := by kernel_rfl
theorem monAt4 (w : World) : (Instr.index 59 (.agg #[.string (S [74, 97, 110]), .string (S [70, 101, 98]), .string (S [77, 97, 114]), .string (S [65, 112, 114]), .string (S [77, 97, 121]), .string (S [74, 117, 110]), .string (S [74, 117, 108]), .string (S [65, 117, 103]), .string (S [83, 101, 112]), .string (S [79, 99, 116]), .string (S [78, 111, 118]), .string (S [68, 101, 99])]) (.int .i64 4)).run Tryz.prog w = .ok (.string (S [77, 97, 121])) w := by kernel_rfl
theorem monAt5 (w : World) : (Instr.index 59 (.agg #[.string (S [74, 97, 110]), .string (S [70, 101, 98]), .string (S [77, 97, 114]), .string (S [65, 112, 114]), .string (S [77, 97, 121]), .string (S [74, 117, 110]), .string (S [74, 117, 108]), .string (S [65, 117, 103]), .string (S [83, 101, 112]), .string (S [79, 99, 116]), .string (S [78, 111, 118]), .string (S [68, 101, 99])]) (.int .i64 5)).run Tryz.prog w = .ok (.string (S [74, 117, 110])) w := by kernel_rfl
theorem monAt6 (w : World) : (Instr.index 59 (.agg #[.string (S [74, 97, 110]), .string (S [70, 101, 98]), .string (S [77, 97, 114]), .string (S [65, 112, 114]), .string (S [77, 97, 121]), .string (S [74, 117, 110]), .string (S [74, 117, 108]), .string (S [65, 117, 103]), .string (S [83, 101, 112]), .string (S [79, 99, 116]), .string (S [78, 111, 118]), .string (S [68, 101, 99])]) (.int .i64 6)).run Tryz.prog w = .ok (.string (S [74, 117, 108])) w := by kernel_rfl
theorem monAt7 (w : World) : (Instr.index 59 (.agg #[.string (S [74, 97, 110]), .string (S [70, 101, 98]), .string (S [77, 97, 114]), .string (S [65, 112, 114]), .string (S [77, 97, 121]), .string (S [74, 117, 110]), .string (S [74, 117, 108]), .string (S [65, 117, 103]), .string (S [83, 101, 112]), .string (S [79, 99, 116]), .string (S [78, 111, 118]), .string (S [68, 101, 99])]) (.int .i64 7)).run Tryz.prog w = .ok (.string (S [65, 117, 103])) w := by kernel_rfl
theorem monAt8 (w : World) : (Instr.index 59 (.agg #[.string (S [74, 97, 110]), .string (S [70, 101, 98]), .string (S [77, 97, 114]), .string (S [65, 112, 114]), .string (S [77, 97, 121]), .string (S [74, 117, 110]), .string (S [74, 117, 108]), .string (S [65, 117, 103]), .string (S [83, 101, 112]), .string (S [79, 99, 116]), .string (S [78, 111, 118]), .string (S [68, 101, 99])]) (.int .i64 8)).run Tryz.prog w = .ok (.string (S [83, 101, 112])) w := by kernel_rfl
theorem monAt9 (w : World) : (Instr.index 59 (.agg #[.string (S [74, 97, 110]), .string (S [70, 101, 98]), .string (S [77, 97, 114]), .string (S [65, 112, 114]), .string (S [77, 97, 121]), .string (S [74, 117, 110]), .string (S [74, 117, 108]), .string (S [65, 117, 103]), .string (S [83, 101, 112]), .string (S [79, 99, 116]), .string (S [78, 111, 118]), .string (S [68, 101, 99])]) (.int .i64 9)).run Tryz.prog w = .ok (.string (S [79, 99, 116])) w := by kernel_rfl
theorem monAt10 (w : World) : (Instr.index 59 (.agg #[.string (S [74, 97, 110]), .string (S [70, 101, 98]), .string (S [77, 97, 114]), .string (S [65, 112, 114]), .string (S [77, 97, 121]), .string (S [74, 117, 110]), .string (S [74, 117, 108]), .string (S [65, 117, 103]), .string (S [83, 101, 112]), .string (S [79, 99, 116]), .string (S [78, 111, 118]), .string (S [68, 101, 99])]) (.int .i64 10)).run Tryz.prog w = .ok (.string (S [78, 111, 118])) w := by kernel_rfl
theorem monAt11 (w : World) : (Instr.index 59 (.agg #[.string (S [74, 97, 110]), .string (S [70, 101, 98]), .string (S [77, 97, 114]), .string (S [65, 112, 114]), .string (S [77, 97, 121]), .string (S [74, 117, 110]), .string (S [74, 117, 108]), .string (S [65, 117, 103]), .string (S [83, 101, 112]), .string (S [79, 99, 116]), .string (S [78, 111, 118]), .string (S [68, 101, 99])]) (.int .i64 11)).run Tryz.prog w = .ok (.string (S [68, 101, 99])) w := by kernel_rfl
theorem wdAt0 (w : World) : (Instr.index 61 (.agg #[.string (S [83, 117, 110]), .string (S [77, 111, 110]), .string (S [84, 117, 101]), .string (S [87, 101, 100]), .string (S [84, 104, 117]), .string (S [70, 114, 105]), .string (S [83, 97, 116])]) (.int .i64 0)).run Tryz.prog w = .ok (.string (S [83, 117, 110])) w := by kernel_rfl
theorem wdAt1 (w : World) : (Instr.index 61 (.agg #[.string (S [83, 117, 110]), .string (S [77, 111, 110]), .string (S [84, 117, 101]), .string (S [87, 101, 100]), .string (S [84, 104, 117]), .string (S [70, 114, 105]), .string (S [83, 97, 116])]) (.int .i64 1)).run Tryz.prog w = .ok (.string (S [77, 111, 110])) w := by kernel_rfl
theorem wdAt2 (w : World) : (Instr.index 61 (.agg #[.string (S [83, 117, 110]), .string (S [77, 111, 110]), .string (S [84, 117, 101]), .string (S [87, 101, 100]), .string (S [84, 104, 117]), .string (S [70, 114, 105]), .string (S [83, 97, 116])]) (.int .i64 2)).run Tryz.prog w = .ok (.string (S [84, 117, 101])) w := by kernel_rfl
theorem wdAt3 (w : World) : (Instr.index 61 (.agg #[.string (S [83, 117, 110]), .string (S [77, 111, 110]), .string (S [84, 117, 101]), .string (S [87, 101, 100]), .string (S [84, 104, 117]), .string (S [70, 114, 105]), .string (S [83, 97, 116])]) (.int .i64 3)).run Tryz.prog w = .ok (.string (S [87, 101, 100])) w := by kernel_rfl
theorem wdAt4 (w : World) : (Instr.index 61 (.agg #[.string (S [83, 117, 110]), .string (S [77, 111, 110]), .string (S [84, 117, 101]), .string (S [87, 101, 100]), .string (S [84, 104, 117]), .string (S [70, 114, 105]), .string (S [83, 97, 116])]) (.int .i64 4)).run Tryz.prog w = .ok (.string (S [84, 104, 117])) w := by kernel_rfl
theorem wdAt5 (w : World) : (Instr.index 61 (.agg #[.string (S [83, 117, 110]), .string (S [77, 111, 110]), .string (S [84, 117, 101]), .string (S [87, 101, 100]), .string (S [84, 104, 117]), .string (S [70, 114, 105]), .string (S [83, 97, 116])]) (.int .i64 5)).run Tryz.prog w = .ok (.string (S [70, 114, 105])) w := by kernel_rfl
theorem wdAt6 (w : World) : (Instr.index 61 (.agg #[.string (S [83, 117, 110]), .string (S [77, 111, 110]), .string (S [84, 117, 101]), .string (S [87, 101, 100]), .string (S [84, 104, 117]), .string (S [70, 114, 105]), .string (S [83, 97, 116])]) (.int .i64 6)).run Tryz.prog w = .ok (.string (S [83, 97, 116])) w := by kernel_rfl
/-- monthOf. -/
def monI (l : List UInt8) : Int := if monIx l < 12 then ((monIx l : Nat) : Int) + 1 else 0
def monB (l : List UInt8) : Bool := decide (monIx l < 12)
structure SameF (s : ByteArray) : Prop where
  c : ∀ (b : ByteArray) (W : World), Calls Tryz.prog 73 #[.string s, .string b] W fun e w' => e = .returned (.bool (same (L s) (L b))) ∧ Below W.heap.size W w'
set_option maxRecDepth 100000 in
set_option maxHeartbeats 2000000 in
theorem monthOf_any (s : ByteArray) (w : World) (he : Env w) (hs : s.size ≤ 140737488355328) :
    Calls Tryz.prog 46 #[.string s] w fun e w' => e = .returned (.tuple #[.int .i64 (monI (L s)), .bool (monB (L s))]) ∧ Below w.heap.size w w' := by
  have hF : SameF s := ⟨fun b W => msame_any s b W (by unfold maxLen; omega)⟩
  obtain ⟨t, fr, hm⟩ := he.mon
  unfold monA monT at hm
  simp only [List.map] at hm
  clear he
  go_enter Tryz.func46, Tryz.ntmps46
  go_wp2_with (refine wpList_load_row rfl 59 _ rfl 0 rfl t _ fr _ hm Tryz.underlying59 rfl (by kernel_rfl) ?_)
  go_loopw [7] (fun i wr => ∃ k : Nat, k ≤ 12 ∧ i = .int .i64 k ∧ (∀ j, j < k → same (L s) (monN j) = false) ∧ Below w.heap.size w wr) (fun i _ => 12 - (intOf i).toNat)
  case atStart => exact ⟨0, Nat.zero_le _, rfl, fun j hj => by omega, Below.refl _ _⟩
  case round =>
    obtain ⟨k, hk, rfl, hp, hb⟩ := hrel
    have HP := Lib.hid hp
    clear hp hm
    by_cases h12 : k = 12
    · subst h12
      have hix : Hid (monIx (L s) = 12) := Lib.hid (findIdx_none monT (L s) HP.out)
      have HI : Hid (monI (L s) = 0) := Lib.hid (by unfold monI; rw [hix.out]; rfl)
      have HB : Hid (monB (L s) = false) := Lib.hid (by unfold monB; rw [hix.out]; rfl)
      go_wp2
      go_ret2
      exact ⟨ret_ib HI.out.symm HB.out.symm, hb⟩
    · cases hsm : same (L s) (monN k) with
      | true =>
        have hix : Hid (monIx (L s) = k) := Lib.hid (findIdx_at monT (L s) k (by show k < 12; omega) HP.out hsm)
        have hC := Lib.hid (fun W => hF.c (S (monN k)) W)
        rw [L_S, hsm] at hC
        clear HP hsm hF
        generalize hK : (k : Int) = K
        have x0 := monAt0
        have x1 := monAt1
        have x2 := monAt2
        have x3 := monAt3
        have x4 := monAt4
        have x5 := monAt5
        have x6 := monAt6
        have x7 := monAt7
        have x8 := monAt8
        have x9 := monAt9
        have x10 := monAt10
        have x11 := monAt11
        rcases (by omega : k = 0 ∨ k = 1 ∨ k = 2 ∨ k = 3 ∨ k = 4 ∨ k = 5 ∨ k = 6 ∨ k = 7 ∨ k = 8 ∨ k = 9 ∨ k = 10 ∨ k = 11) with rfl | rfl | rfl | rfl | rfl | rfl | rfl | rfl | rfl | rfl | rfl | rfl
        all_goals (
          simp at hK
          subst hK
          simp only [monN, monT, List.getD_eq_getElem?_getD, List.getElem?_cons_succ, List.getElem?_cons_zero, Option.getD_some] at hC
          go_wp2_with (go_at_call 73; refine (hC.out _).mono ?_; rintro e w2 ⟨rfl, hb2⟩)
          go_ret2
          exact ⟨ret_ib (by unfold monI; rw [hix.out]; rfl) (by unfold monB; rw [hix.out]; rfl), hb.trans (hb2.mono hb.size)⟩)
      | false =>
        have HP2 : Hid (∀ j, j < k + 1 → same (L s) (monN j) = false) := Lib.hid (fun j hj => by
          rcases Nat.lt_or_ge j k with h | h
          · exact HP.out j h
          · obtain rfl : j = k := by omega
            exact hsm)
        have hC := Lib.hid (fun W => hF.c (S (monN k)) W)
        rw [L_S, hsm] at hC
        clear HP hsm hF
        generalize hK : (k : Int) = K
        have x0 := monAt0
        have x1 := monAt1
        have x2 := monAt2
        have x3 := monAt3
        have x4 := monAt4
        have x5 := monAt5
        have x6 := monAt6
        have x7 := monAt7
        have x8 := monAt8
        have x9 := monAt9
        have x10 := monAt10
        have x11 := monAt11
        rcases (by omega : k = 0 ∨ k = 1 ∨ k = 2 ∨ k = 3 ∨ k = 4 ∨ k = 5 ∨ k = 6 ∨ k = 7 ∨ k = 8 ∨ k = 9 ∨ k = 10 ∨ k = 11) with rfl | rfl | rfl | rfl | rfl | rfl | rfl | rfl | rfl | rfl | rfl | rfl
        all_goals (
          simp at hK
          subst hK
          simp only [monN, monT, List.getD_eq_getElem?_getD, List.getElem?_cons_succ, List.getElem?_cons_zero, Option.getD_some] at hC
          go_wp2_with (go_at_call 73; refine (hC.out _).mono ?_; rintro e w2 ⟨rfl, hb2⟩)
          go_roundw
          case rel =>
            refine ⟨_, ?_, ?_, HP2.out, hb.trans (hb2.mono hb.size)⟩
            · omega
            · rfl
          case measure => simp [intOf])

def wdB (l : List UInt8) : Bool := decide (wdIx l < 7)
set_option maxRecDepth 100000 in
set_option maxHeartbeats 2000000 in
theorem isWeekday_any (s : ByteArray) (w : World) (he : Env w) (hs : s.size ≤ 140737488355328) :
    Calls Tryz.prog 50 #[.string s] w fun e w' => e = .returned (.bool (wdB (L s))) ∧ Below w.heap.size w w' := by
  have hF : SameF s := ⟨fun b W => msame_any s b W (by unfold maxLen; omega)⟩
  obtain ⟨t, fr, hm⟩ := he.wd
  unfold wdA wdT at hm
  simp only [List.map] at hm
  clear he
  go_enter Tryz.func50, Tryz.ntmps50
  go_wp2_with (refine wpList_load_row rfl 61 _ rfl 1 rfl t _ fr _ hm Tryz.underlying61 rfl (by kernel_rfl) ?_)
  go_loopw [6] (fun i wr => ∃ k : Nat, k ≤ 7 ∧ i = .int .i64 k ∧ (∀ j, j < k → same (L s) (wdN j) = false) ∧ Below w.heap.size w wr) (fun i _ => 7 - (intOf i).toNat)
  case atStart => exact ⟨0, Nat.zero_le _, rfl, fun j hj => by omega, Below.refl _ _⟩
  case round =>
    obtain ⟨k, hk, rfl, hp, hb⟩ := hrel
    have HP := Lib.hid hp
    clear hp hm
    by_cases h7 : k = 7
    · subst h7
      have hix : Hid (wdIx (L s) = 7) := Lib.hid (findIdx_none wdT (L s) HP.out)
      have HB : Hid (wdB (L s) = false) := Lib.hid (by unfold wdB; rw [hix.out]; rfl)
      go_wp2
      go_ret
      exact ⟨ret_bool HB.out.symm, hb⟩
    · cases hsm : same (L s) (wdN k) with
      | true =>
        have hix : Hid (wdIx (L s) = k) := Lib.hid (findIdx_at wdT (L s) k (by show k < 7; omega) HP.out hsm)
        have hC := Lib.hid (fun W => hF.c (S (wdN k)) W)
        rw [L_S, hsm] at hC
        clear HP hsm hF
        generalize hK : (k : Int) = K
        have x0 := wdAt0
        have x1 := wdAt1
        have x2 := wdAt2
        have x3 := wdAt3
        have x4 := wdAt4
        have x5 := wdAt5
        have x6 := wdAt6
        rcases (by omega : k = 0 ∨ k = 1 ∨ k = 2 ∨ k = 3 ∨ k = 4 ∨ k = 5 ∨ k = 6) with rfl | rfl | rfl | rfl | rfl | rfl | rfl
        all_goals (
          simp at hK
          subst hK
          simp only [wdN, wdT, List.getD_eq_getElem?_getD, List.getElem?_cons_succ, List.getElem?_cons_zero, Option.getD_some] at hC
          go_wp2_with (go_at_call 73; refine (hC.out _).mono ?_; rintro e w2 ⟨rfl, hb2⟩)
          go_ret
          exact ⟨ret_bool (by unfold wdB; rw [hix.out]; rfl), hb.trans (hb2.mono hb.size)⟩)
      | false =>
        have HP2 : Hid (∀ j, j < k + 1 → same (L s) (wdN j) = false) := Lib.hid (fun j hj => by
          rcases Nat.lt_or_ge j k with h | h
          · exact HP.out j h
          · obtain rfl : j = k := by omega
            exact hsm)
        have hC := Lib.hid (fun W => hF.c (S (wdN k)) W)
        rw [L_S, hsm] at hC
        clear HP hsm hF
        generalize hK : (k : Int) = K
        have x0 := wdAt0
        have x1 := wdAt1
        have x2 := wdAt2
        have x3 := wdAt3
        have x4 := wdAt4
        have x5 := wdAt5
        have x6 := wdAt6
        rcases (by omega : k = 0 ∨ k = 1 ∨ k = 2 ∨ k = 3 ∨ k = 4 ∨ k = 5 ∨ k = 6) with rfl | rfl | rfl | rfl | rfl | rfl | rfl
        all_goals (
          simp at hK
          subst hK
          simp only [wdN, wdT, List.getD_eq_getElem?_getD, List.getElem?_cons_succ, List.getElem?_cons_zero, Option.getD_some] at hC
          go_wp2_with (go_at_call 73; refine (hC.out _).mono ?_; rintro e w2 ⟨rfl, hb2⟩)
          go_roundw
          case rel =>
            refine ⟨_, ?_, ?_, HP2.out, hb.trans (hb2.mono hb.size)⟩
            · omega
            · rfl
          case measure => simp [intOf])
end Go.Proofs.YtckdmbeokajdjaaGreatDoor
