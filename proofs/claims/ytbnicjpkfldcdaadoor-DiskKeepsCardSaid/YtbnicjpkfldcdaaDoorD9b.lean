/- disk: names; maps; the small functions; New. -/
import Derived.Test.YtbnicjpkfldcdaaDoorRows
import Derived.Test.YtbnicjpkfldcdaaDoorD9a
namespace Go.Proofs.YtbnicjpkfldcdaaDoor
open Go.RowKit

theorem get_btx (s : ByteArray) (k : Nat) (h : k < s.size) : (s[k]'h) = bt (L s) k := by
  rw [bt_getElem (L s) k h]; rfl
theorem all_bytes {p : UInt8 → Prop} (h : ∀ c : Fin 256, p (UInt8.ofNat c.val)) (c : UInt8) : p c := by
  have := h ⟨c.toNat, c.toNat_lt⟩
  simpa using this
theorem beqI_no {n k : Int} (h : n ≠ k) : (n == k) = false := by rw [beq_eq_false_iff_ne]; exact h
theorem all_snocP (p : UInt8 → Bool) (l : List UInt8) (k : Nat) (hk : k < l.length) (h : (l.take k).all p = true) (hd : p (bt l k) = true) : (l.take (k + 1)).all p = true := by
  rw [take_snoc l k hk, List.all_append, h]; simp [hd]
theorem all_noP (p : UInt8 → Bool) (l : List UInt8) (k : Nat) (hk : k < l.length) (hd : p (bt l k) = false) : l.all p = false := by
  rw [List.all_eq_false]
  exact ⟨bt l k, by rw [bt_getElem l k hk]; exact List.getElem_mem hk, by rw [hd]; simp⟩

/-- A byte of a name. -/
def nmB (c : UInt8) : Bool := (decide (97 ≤ c.toNat) && decide (c.toNat ≤ 122)) || (decide (48 ≤ c.toNat) && decide (c.toNat ≤ 57)) || c == 46 || c == 45 || c == 95
def isNm (s : ByteArray) : Bool := decide (1 ≤ s.size) && (decide (s.size ≤ 32) && (L s).all nmB)
theorem nm_class (c : UInt8) : (c.toNat ≤ 44 ∧ nmB c = false) ∨ (c.toNat = 45 ∧ nmB c = true) ∨ (c.toNat = 46 ∧ nmB c = true) ∨ (c.toNat = 47 ∧ nmB c = false) ∨ ((48 ≤ c.toNat ∧ c.toNat ≤ 57) ∧ nmB c = true)
    ∨ ((58 ≤ c.toNat ∧ c.toNat ≤ 94) ∧ nmB c = false) ∨ (c.toNat = 95 ∧ nmB c = true) ∨ (c.toNat = 96 ∧ nmB c = false) ∨ ((97 ≤ c.toNat ∧ c.toNat ≤ 122) ∧ nmB c = true) ∨ (123 ≤ c.toNat ∧ nmB c = false) :=
  all_bytes (p := fun c => (c.toNat ≤ 44 ∧ nmB c = false) ∨ (c.toNat = 45 ∧ nmB c = true) ∨ (c.toNat = 46 ∧ nmB c = true) ∨ (c.toNat = 47 ∧ nmB c = false) ∨ ((48 ≤ c.toNat ∧ c.toNat ≤ 57) ∧ nmB c = true)
    ∨ ((58 ≤ c.toNat ∧ c.toNat ≤ 94) ∧ nmB c = false) ∨ (c.toNat = 95 ∧ nmB c = true) ∨ (c.toNat = 96 ∧ nmB c = false) ∨ ((97 ≤ c.toNat ∧ c.toNat ≤ 122) ∧ nmB c = true) ∨ (123 ≤ c.toNat ∧ nmB c = false)) (by decide +kernel) c
set_option maxHeartbeats 1000000 in
theorem isNameByte_any (c : UInt8) (w : World) :
    Calls Tryd.prog 53 #[.int .u8 (c.toNat : Int)] w fun e w' => e = .returned (.bool (nmB c)) ∧ w' = w := by
  have h256 : c.toNat < 256 := c.toNat_lt
  rcases nm_class c with ⟨h, e⟩ | ⟨h, e⟩ | ⟨h, e⟩ | ⟨h, e⟩ | ⟨⟨h, h1⟩, e⟩ | ⟨⟨h, h1⟩, e⟩ | ⟨h, e⟩ | ⟨h, e⟩ | ⟨⟨h, h1⟩, e⟩ | ⟨h, e⟩
  all_goals rw [e]
  all_goals clear e
  all_goals generalize c.toNat = n at *
  all_goals try subst h
  all_goals try have a0 := beqI_no (n := (n : Int)) (k := 46) (by omega)
  all_goals try have a1 := beqI_no (n := (n : Int)) (k := 45) (by omega)
  all_goals try have a2 := beqI_no (n := (n : Int)) (k := 95) (by omega)
  all_goals (
    go_enter Tryd.func53, Tryd.ntmps53
    go_wp2
    go_ret
    exact ⟨ret_bool (by first | rfl | (simp; omega)), rfl⟩)
theorem isNm_out (s : ByteArray) (h : s.size < 1 ∨ 32 < s.size) : isNm s = false := by
  unfold isNm
  rcases h with h | h
  · rw [decide_eq_false (by omega)]; rfl
  · rw [decide_eq_false (p := s.size ≤ 32) (by omega)]; simp
theorem isNm_in (s : ByteArray) (h : 1 ≤ s.size) (h' : s.size ≤ 32) : isNm s = (L s).all nmB := by
  unfold isNm
  rw [decide_eq_true h, decide_eq_true h']; rfl
set_option maxHeartbeats 1000000 in
theorem isName_any (s : ByteArray) (w : World) (hs : s.size ≤ 140737488355328) :
    Calls Tryd.prog 33 #[.string s] w fun e w' => e = .returned (.bool (isNm s)) ∧ w' = w := by
  by_cases h1 : s.size < 1
  · rw [isNm_out s (.inl h1)]
    go_enter Tryd.func33, Tryd.ntmps33
    go_wp2
    go_ret
    exact ⟨rfl, rfl⟩
  · by_cases h2 : 32 < s.size
    · rw [isNm_out s (.inr h2)]
      go_enter Tryd.func33, Tryd.ntmps33
      go_wp2
      go_ret
      exact ⟨rfl, rfl⟩
    · rw [isNm_in s (by omega) (by omega)]
      go_enter Tryd.func33, Tryd.ntmps33
      go_wp2
      go_loop [14] (fun i => ∃ k : Nat, k ≤ s.size ∧ i = .int .i64 k ∧ ((L s).take k).all nmB = true) (fun i => s.size - (intOf i).toNat)
      case atStart => exact ⟨0, Nat.zero_le _, rfl, by simp⟩
      case round =>
        obtain ⟨k, hk, rfl, hall⟩ := hrel
        by_cases hlt : k < s.size
        · have ea := get_btx s k hlt
          have hD := Lib.hid (fun W => isNameByte_any (bt (L s) k) W)
          have HS := Lib.hid (all_snocP nmB (L s) k hlt hall)
          have HN := Lib.hid (all_noP nmB (L s) k hlt)
          have c0 : (bt (L s) k).toNat < 256 := bt_lt _ _
          clear hall
          obtain ⟨q, hq⟩ : ∃ q, nmB (bt (L s) k) = q := ⟨_, rfl⟩
          rw [hq] at hD HS HN
          clear hq
          cases q with
          | false =>
            have HF : Hid ((L s).all nmB = false) := Lib.hid (HN.out rfl)
            clear HN HS
            go_wp2_with (go_at_call 53; refine (hD.out _).mono ?_; rintro e w' ⟨rfl, rfl⟩)
            go_ret
            exact ⟨ret_bool HF.out.symm, rfl⟩
          | true =>
            have HS2 := Lib.hid (HS.out rfl)
            clear HN HS
            go_wp2_with (go_at_call 53; refine (hD.out _).mono ?_; rintro e w' ⟨rfl, rfl⟩)
            go_round
            case rel => exact ⟨k + 1, by omega, by go_num, HS2.out⟩
            case measure => simp [intOf]; omega
        · have HF : Hid ((L s).all nmB = true) := Lib.hid (by rw [List.take_of_length_le (by rw [L_length]; omega)] at hall; exact hall)
          clear hall
          go_wp2
          go_ret
          exact ⟨ret_bool HF.out.symm, rfl⟩
/-- n, or the end of 0 to most that is next to it. -/
def wth (n most : Int) : Int := max 0 (min n most)
theorem within_any (n k : Int) (w : World) (hn : -9223372036854775808 ≤ n) (hn' : n ≤ 9223372036854775807) (hk : 0 ≤ k) (hk' : k ≤ 140737488355328) :
    Calls Tryd.prog 38 #[.int .i64 n, .int .i64 k] w fun e w' => e = .returned (.int .i64 (wth n k)) ∧ w' = w := by
  unfold wth
  go_enter Tryd.func38, Tryd.ntmps38
  go_wp2
  all_goals (go_ret; exact ⟨ret_int (by first | omega | (split <;> omega) | (simp; omega)), rfl⟩)
end Go.Proofs.YtbnicjpkfldcdaaDoor
