/- lex, plain: announcements at the end of a line. -/
import Derived.Test.YtonfchpfhdoefabDoorBt
namespace Go.Proofs.YtonfchpfhdoefabDoor
open Go.RowKit

/-- Outside of quotes (0), in quotes (1), behind a \ in quotes (2). -/
def qstep (s : Nat) (c : UInt8) : Nat := if s = 0 then (if c = 34 then 1 else 0) else if s = 1 then (if c = 34 then 0 else if c = 92 then 2 else 1) else 1
def qst : List UInt8 → Nat → Nat
  | [], s => s
  | c :: r, s => qst r (qstep s c)
def endsQ (l : List UInt8) : Bool := !(qst l 0 == 0)
theorem qst_append (a b : List UInt8) (s : Nat) : qst (a ++ b) s = qst b (qst a s) := by
  induction a generalizing s with
  | nil => rfl
  | cons c a ih => exact ih _
/-- The place of the last brace. -/
def lastAt : List UInt8 → Option Nat
  | [] => none
  | c :: r => match lastAt r with
    | some k => some (k + 1)
    | none => if c = 123 then some 0 else none
theorem lastAt_none : ∀ (l : List UInt8), (∀ j, j < l.length → bt l j ≠ 123) → lastAt l = none
  | [], _ => rfl
  | c :: r, h => by
    have h1 := lastAt_none r (fun j hj => h (j + 1) (by simpa using hj))
    have h2 : c ≠ 123 := h 0 (by simp)
    simp only [lastAt, h1, if_neg h2]
theorem lastAt_some : ∀ (l : List UInt8) (k : Nat), k < l.length → bt l k = 123 → (∀ j, k < j → j < l.length → bt l j ≠ 123) → lastAt l = some k
  | [], _, h, _, _ => by simp at h
  | c :: r, 0, _, h, hj => by
    have h1 := lastAt_none r (fun j hj' => hj (j + 1) (by omega) (by simpa using hj'))
    have h2 : c = 123 := h
    simp only [lastAt, h1, if_pos h2]
  | c :: r, k + 1, hk, h, hj => by
    have h1 := lastAt_some r k (by simpa using hk) h (fun j h1 h2 => hj (j + 1) (by omega) (by simpa using h2))
    simp only [lastAt, h1]
theorem lastAt_lt : ∀ (l : List UInt8) (k : Nat), lastAt l = some k → k < l.length ∧ bt l k = 123
  | [], k, h => by simp [lastAt] at h
  | c :: r, k, h => by
    rw [lastAt] at h
    split at h
    · rename_i k' hk'
      obtain rfl := Option.some.inj h
      have := lastAt_lt r k' hk'
      exact ⟨by simpa using this.1, this.2⟩
    · split at h
      · rename_i hc
        obtain rfl := Option.some.inj h
        exact ⟨by simp, hc⟩
      · cases h
/-- What a line announces at its end. -/
def hitB (l : List UInt8) : Bool := l.head? == some 123 && annS l == l.length
def anced (l : List UInt8) : Option (Nat × Bool) := match lastAt l with
  | none => none
  | some k => if endsQ (l.take k) then none else if hitB (l.drop k) then some (annN (l.drop k), annQ (l.drop k)) else none
def refA : List UInt8 → Nat → Option (Nat × Bool)
  | [], _ => none
  | c :: r, s => if s = 0 ∧ hitB (c :: r) = true then some (annN (c :: r), annQ (c :: r)) else refA r (qstep s c)
theorem dig_ne {c : UInt8} (h : isDig c = true) : c ≠ 123 := by
  rintro rfl
  exact absurd h (by decide)
theorem tw_all {p : UInt8 → Bool} (r : List UInt8) : ∀ x ∈ r.takeWhile p, p x = true := by
  induction r with
  | nil => intro x hx; cases hx
  | cons a r ih =>
    intro x hx
    cases hp : p a with
    | false => rw [List.takeWhile_cons_of_neg (by simp [hp])] at hx; cases hx
    | true =>
      rw [List.takeWhile_cons_of_pos hp, List.mem_cons] at hx
      rcases hx with rfl | hx
      · exact hp
      · exact ih x hx
theorem tw_app (p : UInt8 → Bool) (r : List UInt8) : r = r.takeWhile p ++ r.drop (r.takeWhile p).length := by
  induction r with
  | nil => rfl
  | cons a r ih =>
    cases hp : p a with
    | false => rw [List.takeWhile_cons_of_neg (by simp [hp])]; rfl
    | true => rw [List.takeWhile_cons_of_pos hp]; simpa using ih
/-- An announcement that is all of a text has no brace further on. -/
theorem hit_parts {l : List UInt8} (h : hitB l = true) : ∃ d p, l = 123 :: (d ++ p ++ [125]) ∧ (∀ x ∈ d, isDig x = true) ∧ d ≠ [] ∧ (p = [] ∨ p = [43]) := by
  unfold hitB at h
  rw [Bool.and_eq_true, beq_iff_eq, beq_iff_eq] at h
  obtain ⟨h1, h2⟩ := h
  obtain ⟨r, rfl⟩ : ∃ r, l = 123 :: r := by
    cases l with
    | nil => cases h1
    | cons a r => simp at h1; exact ⟨r, by rw [h1]⟩
  have hB : annB (123 :: r) = true := by
    cases hb : annB (123 :: r) with
    | true => rfl
    | false => unfold annS at h2; rw [hb] at h2; simp at h2
  unfold annS at h2
  rw [if_pos hB] at h2
  have hE := annE_len (123 :: r)
  have hB2 := hB
  unfold annB at hB2
  rw [Bool.and_eq_true, beq_iff_eq] at hB2
  have hlen : (annE (123 :: r)).length = 1 := by
    cases he : annE (123 :: r) with
    | nil => rw [he] at hB2; cases hB2.2
    | cons a q =>
      rw [he] at hE h2
      simp only [List.length_cons] at *
      omega
  have hEE : annE (123 :: r) = [125] := by
    match hm : annE (123 :: r), hlen with
    | [x], _ =>
      rw [hm] at hB2
      simp at hB2
      rw [hB2.2]
  have hr : r = annD (123 :: r) ++ annR (123 :: r) := by
    have := tw_app isDig r
    unfold annR annD
    simp only [List.drop_succ_cons, List.drop_zero, Nat.add_comm 1]
    exact this
  have hd : annD (123 :: r) ≠ [] := by
    intro e
    rw [e] at hB2
    simp at hB2
  have hda : ∀ x ∈ annD (123 :: r), isDig x = true := by
    unfold annD
    exact tw_all _
  unfold annE at hEE
  split at hEE
  · rename_i hp
    unfold annP at hp
    rw [beq_iff_eq] at hp
    cases hR : annR (123 :: r) with
    | nil => rw [hR] at hp; cases hp
    | cons a q =>
      rw [hR] at hp hEE hr
      simp at hp hEE
      subst hp
      subst hEE
      exact ⟨_, [43], by rw [List.append_assoc]; exact congrArg _ hr, hda, hd, .inr rfl⟩
  · rw [hEE] at hr
    exact ⟨_, [], by rw [List.append_nil]; exact congrArg _ hr, hda, hd, .inl rfl⟩
theorem lastAt_mem : ∀ (l : List UInt8), 123 ∉ l → lastAt l = none
  | [], _ => rfl
  | c :: r, h => by
    rw [List.mem_cons, not_or] at h
    simp only [lastAt, lastAt_mem r h.2, if_neg (fun e => h.1 (Eq.symm e))]
theorem hit_last {c : UInt8} {r : List UInt8} (h : hitB (c :: r) = true) : lastAt r = none := by
  obtain ⟨d, p, hl, hd, _, hp⟩ := hit_parts h
  injection hl with _ hl
  apply lastAt_mem
  rw [hl]
  intro hm
  simp only [List.mem_append, List.mem_singleton] at hm
  rcases hm with (hm | hm) | hm
  · exact dig_ne (hd _ hm) rfl
  · rcases hp with rfl | rfl
    · cases hm
    · simp at hm
  · exact absurd hm (by decide)
theorem refA_eq : ∀ (l : List UInt8) (s : Nat), refA l s = match lastAt l with
    | none => none
    | some k => if qst (l.take k) s = 0 then (if hitB (l.drop k) then some (annN (l.drop k), annQ (l.drop k)) else none) else none
  | [], s => rfl
  | c :: r, s => by
    have ih := refA_eq r (qstep s c)
    rw [refA, lastAt]
    cases hl : lastAt r with
    | some k =>
      rw [hl] at ih
      have hno : ¬ (s = 0 ∧ hitB (c :: r) = true) := fun h => by
        rw [hit_last h.2] at hl
        cases hl
      rw [if_neg hno, ih]
      rfl
    | none =>
      rw [hl] at ih
      by_cases hc : c = 123
      · subst hc
        rw [if_pos rfl]
        simp only [List.take_zero, List.drop_zero, qst]
        by_cases hs : s = 0
        · by_cases hh : hitB (123 :: r) = true
          · rw [if_pos ⟨hs, hh⟩, if_pos hs, if_pos hh]
          · rw [if_neg (fun h => hh h.2), if_pos hs, if_neg hh, ih]
        · rw [if_neg (fun h => hs h.1), if_neg hs, ih]
      · have hno : ¬ (s = 0 ∧ hitB (c :: r) = true) := fun h => by
          obtain ⟨d, p, hl', _⟩ := hit_parts h.2
          injection hl' with e
          exact hc e
        rw [if_neg hno, if_neg hc, ih]
theorem refA_anced (l : List UInt8) : refA l 0 = anced l := by
  rw [refA_eq, anced]
  cases lastAt l with
  | none => rfl
  | some k =>
    show (if qst (l.take k) 0 = 0 then (if hitB (l.drop k) = true then some (annN (l.drop k), annQ (l.drop k)) else none) else none) = if endsQ (l.take k) = true then none else if hitB (l.drop k) = true then some (annN (l.drop k), annQ (l.drop k)) else none
    by_cases h : qst (l.take k) 0 = 0
    · have he : ¬ endsQ (l.take k) = true := by unfold endsQ; rw [h]; decide
      rw [if_pos h, if_neg he]
    · have he : endsQ (l.take k) = true := by unfold endsQ; simpa using h
      rw [if_neg h, if_pos he]
end Go.Proofs.YtonfchpfhdoefabDoor

/- lex: Announced. -/
namespace Go.Proofs.YtonfchpfhdoefabDoor
open Go.RowKit

/-- The place of the last brace, as a number. -/
def lastZ (l : List UInt8) : Int := match lastAt l with
  | none => -1
  | some k => (k : Int)
theorem lastZ_none {l : List UInt8} (h : lastAt l = none) : lastZ l = -1 := by unfold lastZ; rw [h]
theorem lastZ_some {l : List UInt8} {k : Nat} (h : lastAt l = some k) : lastZ l = k := by unfold lastZ; rw [h]
set_option maxRecDepth 100000 in
set_option maxHeartbeats 4000000 in
theorem lastByte_any (s : ByteArray) (w : World) (hs : s.size ≤ 140737488355328) :
    Calls Tryd.prog 63 #[.string s, .int .u8 123] w fun e w' => e = .returned (.int .i64 (lastZ (L s))) ∧ w' = w := by
  have hll := L_length s
  go_enter Tryd.func63, Tryd.ntmps63
  go_wp2_with fail
  go_loop [5] (fun a => ∃ k : Nat, k ≤ s.size ∧ a = .int .i64 ((k : Int) - 1) ∧ Hid (∀ j, k ≤ j → j < s.size → bt (L s) j ≠ 123)) (fun a => (intOf a + 1).toNat)
  case atStart => exact ⟨s.size, Nat.le_refl _, by go_num, Lib.hid (fun j h1 h2 => absurd h2 (by omega))⟩
  case round =>
    obtain ⟨k, hk, rfl, HI⟩ := hrel
    cases k with
    | zero =>
      have HN := Lib.hid (lastZ_none (lastAt_none (L s) (fun j hj => HI.out j (Nat.zero_le _) (by omega))))
      go_wp2_with fail
      go_ret
      exact ⟨by rw [HN.out]; rfl, rfl⟩
    | succ k =>
      have ea := get_btx s k (by omega)
      have h1 : ((k + 1 : Nat) : Int) - 1 = (k : Int) := by omega
      rw [h1]
      have hk0 : (0 : Int) ≤ (k : Int) := by omega
      have hkz : (k : Int) < (s.size : Int) := by omega
      have h256 := bt_lt (L s) k
      by_cases hc : bt (L s) k = 123
      · have HS := Lib.hid (lastZ_some (lastAt_some (L s) k (by omega) hc (fun j h1 h2 => HI.out j (by omega) (by omega))))
        have hcz : ((bt (L s) k).toNat : Int) = 123 := by rw [hc]; rfl
        clear HI hc
        generalize bt (L s) k = c at *
        go_wp2_with fail
        go_ret
        exact ⟨by rw [HS.out]; rfl, rfl⟩
      · have hcz : ¬ ((bt (L s) k).toNat : Int) = 123 := fun e => hc (UInt8.toNat_inj.1 (by have : (123 : UInt8).toNat = 123 := rfl; omega))
        have HI2 : Hid (∀ j, k ≤ j → j < s.size → bt (L s) j ≠ 123) := Lib.hid (fun j h1 h2 => by
          by_cases hj : j = k
          · rw [hj]; exact hc
          · exact HI.out j (by omega) h2)
        clear HI hc
        generalize bt (L s) k = c at *
        go_wp2_with fail
        go_round
        case rel => exact ⟨k, by omega, by go_num, HI2⟩
        case measure => simp [intOf]
theorem lastIndex_any (s : ByteArray) (w : World) (hs : s.size ≤ 140737488355328) :
    Calls Tryd.prog 40 #[.string s, .int .u8 123] w fun e w' => e = .returned (.int .i64 (lastZ (L s))) ∧ w' = w := by
  have H := Lib.hid (lastByte_any s w hs)
  go_enter Tryd.func40, Tryd.ntmps40
  go_wp2_with (go_at_call 63; refine H.out.mono ?_; rintro e w' ⟨rfl, hw'⟩; rw [hw']; clear hw' w')
  go_ret
  exact ⟨rfl, rfl⟩
theorem bt_cons (l : List UInt8) (k : Nat) (hk : k < l.length) : l.drop k = bt l k :: l.drop (k + 1) := by
  rw [List.drop_eq_getElem_cons hk]
  unfold bt
  rw [List.getElem?_eq_getElem hk]
  rfl
theorem qst_drop (l : List UInt8) (k s : Nat) (hk : k < l.length) : qst (l.drop k) s = qst (l.drop (k + 1)) (qstep s (bt l k)) := by rw [bt_cons l k hk]; rfl
theorem qst_skip (l : List UInt8) (k : Nat) (hk : k < l.length) (hc : bt l k = 92) : (!(qst (l.drop k) 1 == 0)) = !(qst (l.drop (k + 2)) 1 == 0) := by
  rw [qst_drop l k 1 hk, hc, show qstep 1 92 = 2 from rfl]
  by_cases h : k + 1 < l.length
  · rw [qst_drop l (k + 1) 2 h]; rfl
  · rw [List.drop_of_length_le (by omega), List.drop_of_length_le (by omega)]; rfl
def b2n (b : Bool) : Nat := if b then 1 else 0
set_option maxRecDepth 100000 in
set_option maxHeartbeats 4000000 in
theorem endsInQuotes_any (s : ByteArray) (w : World) (hs : s.size ≤ 140737488355328) :
    Calls Tryd.prog 41 #[.string s] w fun e w' => e = .returned (.bool (endsQ (L s))) ∧ w' = w := by
  have hll := L_length s
  go_enter Tryd.func41, Tryd.ntmps41
  go_wp2_with fail
  go_loop [3, 4] (fun a b => ∃ (q : Bool) (k : Nat), k ≤ s.size + 1 ∧ a = .bool q ∧ b = .int .i64 (k : Int) ∧ Hid (endsQ (L s) = !(qst ((L s).drop k) (b2n q) == 0))) (fun _ b => s.size + 1 - (intOf b).toNat)
  case atStart => exact ⟨false, 0, Nat.zero_le _, rfl, rfl, Lib.hid rfl⟩
  case round =>
    obtain ⟨q, k, hk, rfl, rfl, HI⟩ := hrel
    by_cases hlt : k < s.size
    · have ea := get_btx s k hlt
      have hk0 : (0 : Int) ≤ (k : Int) := by omega
      have hkz : (k : Int) < (s.size : Int) := by omega
      have h256 := bt_lt (L s) k
      have HD := Lib.hid (qst_drop (L s) k (b2n q) (by omega))
      by_cases hc : bt (L s) k = 34
      · have hcz : ((bt (L s) k).toNat : Int) = 34 := by rw [hc]; rfl
        have HI2 : Hid (endsQ (L s) = !(qst ((L s).drop (k + 1)) (b2n (!q)) == 0)) := Lib.hid (by rw [HI.out, HD.out, hc]; cases q <;> rfl)
        clear HI HD hc
        generalize bt (L s) k = c at *
        go_wp2_with fail
        go_round
        case rel => exact ⟨!q, k + 1, by omega, by simp, by go_num, HI2⟩
        case measure => simp [intOf]; omega
      · have hcz : ¬ ((bt (L s) k).toNat : Int) = 34 := fun e => hc (UInt8.toNat_inj.1 (by have : (34 : UInt8).toNat = 34 := rfl; omega))
        by_cases hd : bt (L s) k = 92 ∧ q = true
        · have hdz : ((bt (L s) k).toNat : Int) = 92 := by rw [hd.1]; rfl
          have HI2 : Hid (endsQ (L s) = !(qst ((L s).drop (k + 2)) (b2n true) == 0)) := Lib.hid (by rw [HI.out, hd.2]; exact qst_skip (L s) k (by omega) hd.1)
          obtain ⟨_, rfl⟩ := hd
          clear HI HD hc
          generalize bt (L s) k = c at *
          go_wp2_with fail
          go_round
          case rel => exact ⟨true, k + 2, by omega, rfl, by go_num, HI2⟩
          case measure => simp [intOf]; omega
        · have HI2 : Hid (endsQ (L s) = !(qst ((L s).drop (k + 1)) (b2n q) == 0)) := Lib.hid (by
            rw [HI.out, HD.out]
            cases q with
            | false => simp only [qstep, b2n]; simp [hc]
            | true =>
              have hn : ¬ bt (L s) k = 92 := fun e => hd ⟨e, rfl⟩
              simp only [qstep, b2n]; simp [hc, hn])
          have hdz : q = true → ¬ ((bt (L s) k).toNat : Int) = 92 := fun hq e => hd ⟨UInt8.toNat_inj.1 (by have : (92 : UInt8).toNat = 92 := rfl; omega), hq⟩
          clear HI HD hc hd
          generalize bt (L s) k = c at *
          cases q with
          | false =>
            go_wp2_with fail
            all_goals (go_round)
            all_goals first | (exact ⟨false, k + 1, by omega, rfl, by go_num, HI2⟩) | (simp [intOf]; omega)
          | true =>
            have hdz2 := hdz rfl
            clear hdz
            go_wp2_with fail
            go_round
            case rel => exact ⟨true, k + 1, by omega, rfl, by go_num, HI2⟩
            case measure => simp [intOf]; omega
    · have hkz : ¬ (k : Int) < (s.size : Int) := by omega
      have HF : Hid (endsQ (L s) = q) := Lib.hid (by rw [HI.out, List.drop_of_length_le (by omega)]; cases q <;> rfl)
      clear HI
      go_wp2_with fail
      go_ret
      exact ⟨ret_bool HF.out.symm, rfl⟩
theorem S_front (s : ByteArray) (k : Nat) : s.extract 0 k = S ((L s).take k) := by
  apply ByteArray.ext
  unfold S L
  simp only [ByteArray.data_extract]
  apply Array.ext'
  simp [List.extract_eq_take_drop]
def ancN (l : List UInt8) : Int := match anced l with
  | none => 0
  | some p => (p.1 : Int)
def ancP (l : List UInt8) : Bool := match anced l with
  | none => false
  | some p => p.2
def ancI (l : List UInt8) : Bool := (anced l).isSome
theorem anc_no {l : List UInt8} (h : anced l = none) : ancN l = 0 ∧ ancP l = false ∧ ancI l = false := by
  unfold ancN ancP ancI
  rw [h]
  exact ⟨rfl, rfl, rfl⟩
theorem anc_yes {l : List UInt8} {n : Nat} {p : Bool} (h : anced l = some (n, p)) : ancN l = n ∧ ancP l = p ∧ ancI l = true := by
  unfold ancN ancP ancI
  rw [h]
  exact ⟨rfl, rfl, rfl⟩
set_option maxRecDepth 100000 in
set_option maxHeartbeats 4000000 in
theorem Announced_any (s : ByteArray) (w : World) (hs : s.size ≤ 140737488355328) :
    Calls Tryd.prog 13 #[.string s] w fun e w' => e = .returned (.tuple #[.int .i64 (ancN (L s)), .bool (ancP (L s)), .bool (ancI (L s))]) ∧ w' = w := by
  have hll := L_length s
  have HI := Lib.hid (lastIndex_any s w hs)
  cases hl : lastAt (L s) with
  | none =>
    rw [lastZ_none hl] at HI
    obtain ⟨e1, e2, e3⟩ := anc_no (l := L s) (by unfold anced; rw [hl])
    rw [e1, e2, e3]
    clear hl e1 e2 e3
    go_enter Tryd.func13, Tryd.ntmps13
    go_wp2_with (go_at_call 40; refine HI.out.mono ?_; rintro e w' ⟨rfl, hw'⟩; rw [hw']; clear hw' w')
    go_ret3
    exact ⟨rfl, rfl⟩
  | some k =>
    rw [lastZ_some hl] at HI
    obtain ⟨hk, hb⟩ := lastAt_lt _ _ hl
    rw [hll] at hk
    have hA : anced (L s) = if endsQ ((L s).take k) = true then none else if hitB ((L s).drop k) = true then some (annN ((L s).drop k), annQ ((L s).drop k)) else none := by
      conv => lhs; unfold anced
      rw [hl]
    have HQ := Lib.hid (fun W => endsInQuotes_any (S ((L s).take k)) W (by rw [S_size, List.length_take]; omega))
    rw [L_S] at HQ
    have HR := Lib.hid (fun W => ann_any (S ((L s).drop k)) W (by rw [S_size, List.length_drop]; omega) (by rw [S_size, List.length_drop]; omega))
    rw [L_S] at HR
    have hx1 := S_front s k
    have hx2 := S_drop s k
    have hk0 : (0 : Int) ≤ (k : Int) := by omega
    have hkz : (k : Int) ≤ (s.size : Int) := by omega
    have hkn : ¬ (k : Int) < 0 := by omega
    have HH : Hid (hitB ((L s).drop k) = decide ((annS ((L s).drop k) : Int) = (s.size : Int) - (k : Int))) := Lib.hid (by
      unfold hitB
      have h1 : ((L s).drop k).head? = some 123 := by rw [bt_cons (L s) k (by omega), hb]; rfl
      rw [h1, List.length_drop, hll]
      by_cases hh : annS ((L s).drop k) = s.size - k
      · rw [hh]; simp; omega
      · have : ¬ (annS ((L s).drop k) : Int) = (s.size : Int) - (k : Int) := by omega
        simp [hh, this])
    have HA := Lib.hid hA
    clear hl hb hA
    cases hq : endsQ ((L s).take k) with
    | true =>
      rw [hq] at HQ
      obtain ⟨e1, e2, e3⟩ := anc_no (l := L s) (by rw [HA.out, hq]; rfl)
      rw [e1, e2, e3]
      clear HA HH HR hq e1 e2 e3
      go_enter Tryd.func13, Tryd.ntmps13
      go_wp2_with (first | (go_at_call 40; refine HI.out.mono ?_; rintro e w' ⟨rfl, hw'⟩; rw [hw']; clear hw' w') | (go_at_call 41; refine (HQ.out _).mono ?_; rintro e w' ⟨rfl, hw'⟩; rw [hw']; clear hw' w'))
      go_ret3
      exact ⟨rfl, rfl⟩
    | false =>
      rw [hq] at HQ
      by_cases hh : (annS ((L s).drop k) : Int) = (s.size : Int) - (k : Int)
      · obtain ⟨e1, e2, e3⟩ := anc_yes (l := L s) (n := annN ((L s).drop k)) (p := annQ ((L s).drop k)) (by rw [HA.out, hq, HH.out, decide_eq_true hh]; rfl)
        rw [e1, e2, e3]
        have hne : ((annS ((L s).drop k) : Int) != (s.size : Int) - (k : Int)) = false := by rw [hh]; simp
        clear HA HH hq e1 e2 e3 hh
        generalize annS ((L s).drop k) = az at *
        generalize annN ((L s).drop k) = an at *
        generalize annQ ((L s).drop k) = aq at *
        go_enter Tryd.func13, Tryd.ntmps13
        go_wp2_with (first | (go_at_call 40; refine HI.out.mono ?_; rintro e w' ⟨rfl, hw'⟩; rw [hw']; clear hw' w') | (go_at_call 41; refine (HQ.out _).mono ?_; rintro e w' ⟨rfl, hw'⟩; rw [hw']; clear hw' w') | (go_at_call 42; refine (HR.out _).mono ?_; rintro e w' ⟨rfl, hw'⟩; rw [hw']; clear hw' w'))
        go_ret3
        exact ⟨rfl, rfl⟩
      · obtain ⟨e1, e2, e3⟩ := anc_no (l := L s) (by rw [HA.out, hq, HH.out, decide_eq_false hh]; rfl)
        rw [e1, e2, e3]
        have hne : ((annS ((L s).drop k) : Int) != (s.size : Int) - (k : Int)) = true := by simpa using hh
        clear HA HH hq e1 e2 e3 hh
        generalize annS ((L s).drop k) = az at *
        generalize annN ((L s).drop k) = an at *
        generalize annQ ((L s).drop k) = aq at *
        go_enter Tryd.func13, Tryd.ntmps13
        go_wp2_with (first | (go_at_call 40; refine HI.out.mono ?_; rintro e w' ⟨rfl, hw'⟩; rw [hw']; clear hw' w') | (go_at_call 41; refine (HQ.out _).mono ?_; rintro e w' ⟨rfl, hw'⟩; rw [hw']; clear hw' w') | (go_at_call 42; refine (HR.out _).mono ?_; rintro e w' ⟨rfl, hw'⟩; rw [hw']; clear hw' w'))
        go_ret3
        exact ⟨rfl, rfl⟩
end Go.Proofs.YtonfchpfhdoefabDoor
