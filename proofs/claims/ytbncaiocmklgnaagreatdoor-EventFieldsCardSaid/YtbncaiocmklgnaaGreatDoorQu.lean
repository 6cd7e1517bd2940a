/- Plain mathematics: quoted-printable. Nothing of the program. -/
import Derived.Test.YtbncaiocmklgnaaGreatDoorPu
import Derived.Lib.Strings
namespace Go.Proofs.YtbncaiocmklgnaaGreatDoor
open Go.RowKit

def bareI (c : Int) : Bool := decide (33 ≤ c ∧ c ≤ 126 ∧ c ≠ 61)
def blankI (c : Int) : Bool := decide (c = 32 ∨ c = 9)
def crlf (l : List UInt8) (i : Nat) : Bool := Lib.hasPrefix (l.drop i) [13, 10]
def hexL : List UInt8 := [48, 49, 50, 51, 52, 53, 54, 55, 56, 57, 65, 66, 67, 68, 69, 70]
def coded (c : UInt8) : List UInt8 := [61, bt hexL (c.toNat / 16), bt hexL (c.toNat % 16)]
/-- What a byte is written as; r is what stands behind it. -/
def pieceOf (c : UInt8) (r : List UInt8) : List UInt8 :=
  if bareI c.toNat || (blankI c.toNat && (!r.isEmpty && !Lib.hasPrefix r [13, 10])) then [c] else coded c
def piece (l : List UInt8) (i : Nat) : List UInt8 := pieceOf (bt l i) (l.drop (i + 1))
theorem piece_len (l : List UInt8) (i : Nat) : 1 ≤ (piece l i).length ∧ (piece l i).length ≤ 3 := by
  unfold piece pieceOf coded; split <;> simp
def quo : List UInt8 → Bool → Nat → List UInt8
  | [], _, _ => []
  | _ :: r, true, n => quo r false n
  | c :: r, false, n =>
    if Lib.hasPrefix (c :: r) [13, 10] then 13 :: 10 :: quo r true 0
    else if 75 < n + (pieceOf c r).length then 61 :: 13 :: 10 :: (pieceOf c r ++ quo r false (pieceOf c r).length)
    else pieceOf c r ++ quo r false (n + (pieceOf c r).length)
theorem extract_S (s : ByteArray) (a b : Nat) : s.extract a b = S (((L s).drop a).take (b - a)) := by
  have h := Lib.extract_data s a b
  have : s.extract a b = S ((s.extract a b).data.toList) := rfl
  rw [this, h]; rfl
theorem take_one (l : List UInt8) (i : Nat) (h : i < l.length) : (l.drop i).take (i + 1 - i) = [bt l i] := by
  rw [bt_getElem l i h, Nat.add_sub_cancel_left, List.drop_eq_getElem_cons h]; rfl
def quoted (l : List UInt8) : List UInt8 := quo l false 0
theorem drop_cons (l : List UInt8) (i : Nat) (h : i < l.length) : l.drop i = bt l i :: l.drop (i + 1) := by
  rw [bt_getElem l i h]; exact List.drop_eq_getElem_cons h
theorem crlf_lt (l : List UInt8) (i : Nat) (h : crlf l i = true) : i + 2 ≤ l.length := by
  unfold crlf Lib.hasPrefix at h
  have := (List.isPrefixOf_iff_prefix.1 h).length_le
  simp at this; omega
theorem quo_crlf (l : List UInt8) (i n : Nat) (h : crlf l i = true) : quo (l.drop i) false n = 13 :: 10 :: quo (l.drop (i + 2)) false 0 := by
  have h2 := crlf_lt l i h
  have h' : Lib.hasPrefix (l.drop i) [13, 10] = true := h
  rw [drop_cons l i (by omega)] at h' ⊢
  rw [quo, if_pos h', drop_cons l (i + 1) (by omega), quo]
theorem quo_long (l : List UInt8) (i n : Nat) (hi : i < l.length) (h : crlf l i = false) (hn : 75 < n + (piece l i).length) :
    quo (l.drop i) false n = 61 :: 13 :: 10 :: (piece l i ++ quo (l.drop (i + 1)) false (piece l i).length) := by
  have h' : Lib.hasPrefix (l.drop i) [13, 10] = false := h
  rw [drop_cons l i hi] at h' ⊢
  unfold piece at hn ⊢
  rw [quo, if_neg (by simp [h']), if_pos hn]
theorem quo_short (l : List UInt8) (i n : Nat) (hi : i < l.length) (h : crlf l i = false) (hn : ¬ 75 < n + (piece l i).length) :
    quo (l.drop i) false n = piece l i ++ quo (l.drop (i + 1)) false (n + (piece l i).length) := by
  have h' : Lib.hasPrefix (l.drop i) [13, 10] = false := h
  rw [drop_cons l i hi] at h' ⊢
  unfold piece at hn ⊢
  rw [quo, if_neg (by simp [h']), if_neg hn]
theorem quo_len (l : List UInt8) : ∀ (b : Bool) (n : Nat), (quo l b n).length ≤ 6 * l.length := by
  induction l with
  | nil => intro b n; simp [quo]
  | cons c r ih =>
    intro b n
    have hp : (pieceOf c r).length ≤ 3 := by unfold pieceOf coded; split <;> simp
    cases b with
    | true => rw [quo]; have := ih false n; simp only [List.length_cons]; omega
    | false =>
      rw [quo]
      split
      · have := ih true 0; simp only [List.length_cons]; omega
      · split
        · have := ih false (pieceOf c r).length; simp only [List.length_cons, List.length_append]; omega
        · have := ih false (n + (pieceOf c r).length); simp only [List.length_cons, List.length_append]; omega
def blanks : List UInt8 → Nat
  | [] => 0
  | c :: r => if blankI c.toNat then blanks r + 1 else 0
theorem blanks_le (l : List UInt8) : blanks l ≤ l.length := by
  induction l with
  | nil => simp [blanks]
  | cons c r ih => rw [blanks]; split <;> simp only [List.length_cons] <;> omega
def past (l : List UInt8) (i : Nat) : Nat := i + blanks (l.drop i)
theorem past_le (l : List UInt8) (i : Nat) (h : i ≤ l.length) : past l i ≤ l.length := by
  unfold past; have := blanks_le (l.drop i); rw [List.length_drop] at this; omega
theorem past_step (l : List UInt8) (i : Nat) (h : i < l.length) (hb : blankI (bt l i).toNat = true) : past l i = past l (i + 1) := by
  unfold past; rw [drop_cons l i h, blanks, if_pos hb]; omega
theorem past_stop (l : List UInt8) (i : Nat) (h : i < l.length) (hb : blankI (bt l i).toNat = false) : past l i = i := by
  unfold past; rw [drop_cons l i h, blanks, if_neg (by simp [hb])]; rfl
theorem past_end (l : List UInt8) (i : Nat) (h : l.length ≤ i) : past l i = i := by
  unfold past; rw [List.drop_eq_nil_of_le h]; rfl
def hexI (c : Int) : Int := if 48 ≤ c ∧ c ≤ 57 then c - 48 else if 65 ≤ c ∧ c ≤ 70 then c - 55 else if 97 ≤ c ∧ c ≤ 102 then c - 87 else -1
theorem hexI_lo (c : Int) : -1 ≤ hexI c := by unfold hexI; split <;> (try split) <;> (try split) <;> omega
theorem hexI_hi (c : Int) : hexI c ≤ 15 := by unfold hexI; split <;> (try split) <;> (try split) <;> omega
/-- Behind an equals sign: what it means, and how many bytes that took. -/
def eqRead (r : List UInt8) : List UInt8 × Nat :=
  if 2 ≤ r.length ∧ hexI (bt r 0).toNat ≠ -1 ∧ hexI (bt r 1).toNat ≠ -1 then ([UInt8.ofNat (hexI (bt r 0).toNat * 16 + hexI (bt r 1).toNat).toNat], 2)
  else if r.length ≤ blanks r then ([], blanks r)
  else if Lib.hasPrefix (r.drop (blanks r)) [13, 10] then ([], blanks r + 2) else ([61], 0)
def fq : List UInt8 → Nat → List UInt8
  | [], _ => []
  | _ :: r, n + 1 => fq r n
  | c :: r, 0 =>
    if c = 61 then (eqRead r).1 ++ fq r (eqRead r).2
    else if blankI c.toNat then
      if r.length ≤ blanks r ∨ Lib.hasPrefix (r.drop (blanks r)) [13, 10] = true then fq r (blanks r) else c :: (r.take (blanks r) ++ fq r (blanks r))
    else c :: fq r 0
def fromQuoted (l : List UInt8) : List UInt8 := fq l 0
theorem fq_skip (n : Nat) : ∀ l : List UInt8, fq l n = fq (l.drop n) 0 := by
  induction n with
  | zero => intro l; rfl
  | succ n ih =>
    intro l
    cases l with
    | nil => rfl
    | cons c r => rw [fq, ih r]; rfl
theorem fq_eq (l : List UInt8) (i : Nat) (h : i < l.length) (hc : bt l i = 61) :
    fq (l.drop i) 0 = (eqRead (l.drop (i + 1))).1 ++ fq (l.drop (i + 1 + (eqRead (l.drop (i + 1))).2)) 0 := by
  rw [drop_cons l i h, fq, if_pos hc, fq_skip, List.drop_drop]
theorem fq_other (l : List UInt8) (i : Nat) (h : i < l.length) (hc : bt l i ≠ 61) (hb : blankI (bt l i).toNat = false) :
    fq (l.drop i) 0 = bt l i :: fq (l.drop (i + 1)) 0 := by
  rw [drop_cons l i h, fq, if_neg hc, if_neg (by simp [hb])]
theorem past_blank (l : List UInt8) (i : Nat) (h : i < l.length) (hb : blankI (bt l i).toNat = true) : past l i = i + 1 + blanks (l.drop (i + 1)) := by
  rw [past_step l i h hb]; rfl
theorem fq_gone (l : List UInt8) (i : Nat) (h : i < l.length) (hc : bt l i ≠ 61) (hb : blankI (bt l i).toNat = true)
    (he : l.length ≤ past l i ∨ crlf l (past l i) = true) : fq (l.drop i) 0 = fq (l.drop (past l i)) 0 := by
  rw [past_blank l i h hb] at he ⊢
  rw [drop_cons l i h, fq, if_neg hc, if_pos hb, if_pos, fq_skip, List.drop_drop]
  unfold crlf at he
  rw [List.drop_drop]
  rcases he with he | he
  · left; rw [List.length_drop]; omega
  · right; exact he
theorem fq_kept (l : List UInt8) (i : Nat) (h : i < l.length) (hc : bt l i ≠ 61) (hb : blankI (bt l i).toNat = true)
    (h1 : past l i < l.length) (h2 : crlf l (past l i) = false) : fq (l.drop i) 0 = (l.drop i).take (past l i - i) ++ fq (l.drop (past l i)) 0 := by
  have hp := past_blank l i h hb
  rw [hp] at h1 h2 ⊢
  unfold crlf at h2
  rw [drop_cons l i h, fq, if_neg hc, if_pos hb, if_neg, fq_skip, List.drop_drop]
  · have : i + 1 + blanks (l.drop (i + 1)) - i = blanks (l.drop (i + 1)) + 1 := by omega
    rw [this, List.take_succ_cons]
    rfl
  · rw [List.drop_drop, List.length_drop, not_or]
    exact ⟨by omega, by simp [h2]⟩
theorem eqRead_le (r : List UInt8) : (eqRead r).2 ≤ r.length ∧ (eqRead r).1.length ≤ 1 := by
  unfold eqRead
  split
  · rename_i h; exact ⟨h.1, by simp⟩
  · split
    · exact ⟨blanks_le r, by simp⟩
    · split
      · rename_i h
        have := (List.isPrefixOf_iff_prefix.1 h).length_le
        rw [List.length_drop] at this
        simp at this ⊢; omega
      · simp
theorem fq_len (l : List UInt8) : ∀ n, (fq l n).length ≤ l.length - n := by
  induction l with
  | nil => intro n; simp [fq]
  | cons c r ih =>
    intro n
    cases n with
    | succ n => rw [fq]; have := ih n; simp only [List.length_cons]; omega
    | zero =>
      rw [fq]
      split
      · have h1 := ih (eqRead r).2; have h2 := (eqRead_le r).2
        simp only [List.length_cons, List.length_append]; omega
      · split
        · split
          · have := ih (blanks r); simp only [List.length_cons]; omega
          · have h1 := ih (blanks r); have h2 := blanks_le r
            simp only [List.length_cons, List.length_append, List.length_take]; omega
        · have := ih 0; simp only [List.length_cons]; omega
end Go.Proofs.YtbncaiocmklgnaaGreatDoor
