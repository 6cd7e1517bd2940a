/- Plain: texts of sets there and back. -/
import Derived.Test.YtkclcjnfjielfabDoorVu
namespace Go.Proofs.YtkclcjnfjielfabDoor
open Go.RowKit

/-- A digit. -/
def digC (c : UInt8) : Prop := 48 ≤ c.toNat ∧ c.toNat ≤ 57
theorem parse_snoc (c : UInt8) : ∀ (l : List UInt8) (acc n : Nat), Lib.parseUintM 18446744073709551615 acc l = .ok n → digC c → n * 10 + (c.toNat - 48) ≤ 18446744073709551615 → n < 1844674407370955162 → Lib.parseUintM 18446744073709551615 acc (l ++ [c]) = .ok (n * 10 + (c.toNat - 48))
  | [], acc, n, h, hc, hm, hn => by
    simp only [Lib.parseUintM] at h
    injection h with h
    subst h
    rw [List.nil_append, Lib.parseUintM, if_pos (show 48 ≤ c.toNat ∧ c.toNat ≤ 57 from hc), if_neg (by omega), if_neg (by omega)]
    rfl
  | d :: r, acc, n, h, hc, hm, hn => by
    rw [Lib.parseUintM] at h
    rw [List.cons_append, Lib.parseUintM]
    split at h
    · rename_i hd
      rw [if_pos hd]
      split at h
      · cases h
      · rename_i h1
        rw [if_neg h1]
        split at h
        · cases h
        · rename_i h2
          rw [if_neg h2]
          exact parse_snoc c r _ n h hc hm hn
    · cases h
theorem dig_toNat (u : Nat) (h : u < 10) : (UInt8.ofNat (48 + u)).toNat = 48 + u := by
  rw [UInt8.toNat_ofNat']; omega
theorem parse_dec (u : Nat) (h : u ≤ 4294967295) : Lib.parseUintM 18446744073709551615 0 (Lib.decDigits u) = .ok u := by
  induction u using Nat.strongRecOn with
  | _ u ih =>
    by_cases hs : u < 10
    · rw [Lib.decDigits_one hs, Lib.parseUintM]
      have e := dig_toNat u hs
      rw [if_pos (by omega), if_neg (by omega), e, if_neg (by omega)]
      rw [show 0 * 10 + (48 + u - 48) = u by omega]
      rfl
    · rw [Lib.decDigits, dif_neg hs]
      have e := dig_toNat (u % 10) (by omega)
      have := parse_snoc (UInt8.ofNat (48 + u % 10)) (Lib.decDigits (u / 10)) 0 (u / 10) (ih (u / 10) (by omega) (by omega)) (by unfold digC; omega) (by omega) (by omega)
      rw [this, e]
      congr 1
      omega
theorem dec_ne (u : Nat) : Lib.decDigits u ≠ [] := by
  intro h
  have := Lib.decDigits_length u
  rw [h] at this
  have := Lib.nDigits_pos u
  simp at *
  omega
theorem dec_digits (u : Nat) : ∀ c ∈ Lib.decDigits u, digC c := by
  induction u using Nat.strongRecOn with
  | _ u ih =>
    by_cases hs : u < 10
    · rw [Lib.decDigits_one hs]
      intro c hc
      rw [List.mem_singleton] at hc
      subst hc
      have e := dig_toNat u hs
      unfold digC; omega
    · rw [Lib.decDigits, dif_neg hs]
      intro c hc
      rcases List.mem_append.1 hc with hc | hc
      · exact ih _ (by omega) c hc
      · rw [List.mem_singleton] at hc
        subst hc
        have e := dig_toNat (u % 10) (by omega)
        unfold digC; omega
theorem dec_head (u : Nat) (h : 1 ≤ u) : (bt (Lib.decDigits u) 0).toNat ≠ 48 := by
  induction u using Nat.strongRecOn with
  | _ u ih =>
    by_cases hs : u < 10
    · rw [Lib.decDigits_one hs]
      have e := dig_toNat u hs
      show (UInt8.ofNat (48 + u)).toNat ≠ 48
      omega
    · rw [Lib.decDigits, dif_neg hs]
      have hne := dec_ne (u / 10)
      have hb : bt (Lib.decDigits (u / 10) ++ [UInt8.ofNat (48 + u % 10)]) 0 = bt (Lib.decDigits (u / 10)) 0 := by
        unfold bt
        rw [List.getElem?_append_left (List.length_pos_iff.2 hne)]
      rw [hb]
      exact ih _ (by omega) (by omega)
/-- The only text of a number. -/
theorem parse_ge : ∀ (l : List UInt8) (acc n : Nat), Lib.parseUintM 18446744073709551615 acc l = .ok n → acc ≤ n
  | [], acc, n, h => by simp only [Lib.parseUintM] at h; injection h with h; omega
  | d :: r, acc, n, h => by
    rw [Lib.parseUintM] at h
    split at h
    · split at h
      · cases h
      · split at h
        · cases h
        · have := parse_ge r _ n h; omega
    · cases h
theorem parse_unsnoc (c : UInt8) : ∀ (l : List UInt8) (acc n : Nat), Lib.parseUintM 18446744073709551615 acc (l ++ [c]) = .ok n → ∃ m, Lib.parseUintM 18446744073709551615 acc l = .ok m ∧ digC c ∧ n = m * 10 + (c.toNat - 48)
  | [], acc, n, h => by
    rw [List.nil_append, Lib.parseUintM] at h
    split at h
    · rename_i hc
      split at h
      · cases h
      · split at h
        · cases h
        · simp only [Lib.parseUintM] at h
          injection h with h
          exact ⟨acc, rfl, hc, h.symm⟩
    · cases h
  | d :: r, acc, n, h => by
    rw [List.cons_append, Lib.parseUintM] at h
    rw [Lib.parseUintM]
    split at h
    · rename_i hd
      rw [if_pos hd]
      split at h
      · cases h
      · rename_i h1
        rw [if_neg h1]
        split at h
        · cases h
        · rename_i h2
          rw [if_neg h2]
          exact parse_unsnoc c r _ n h
    · cases h
theorem parse_text (l : List UInt8) (n : Nat) (hne : l ≠ []) (h0 : bt l 0 ≠ 48) (h : Lib.parseUintM 18446744073709551615 0 l = .ok n) : l = Lib.decDigits n ∧ 1 ≤ n := by
  have key : ∀ (k : Nat) (l : List UInt8) (n : Nat), l.length = k → l ≠ [] → bt l 0 ≠ 48 → Lib.parseUintM 18446744073709551615 0 l = .ok n → l = Lib.decDigits n ∧ 1 ≤ n := by
    intro k
    induction k with
    | zero => intro l n hl hne; exact absurd (List.eq_nil_of_length_eq_zero hl) hne
    | succ k ih =>
      intro l n hl hne h0 h
      obtain ⟨l', c, rfl⟩ : ∃ l' c, l = l' ++ [c] := ⟨l.dropLast, l.getLast hne, (List.dropLast_concat_getLast hne).symm⟩
      obtain ⟨m, hm, hc, rfl⟩ := parse_unsnoc c l' 0 n h
      unfold digC at hc
      have ec : UInt8.ofNat (48 + (c.toNat - 48)) = c := by
        apply UInt8.toNat_inj.1
        rw [dig_toNat _ (by omega)]
        omega
      by_cases hl' : l' = []
      · subst hl'
        simp only [Lib.parseUintM] at hm
        injection hm with hm
        subst hm
        have hc48 : c ≠ 48 := h0
        have : c.toNat ≠ 48 := fun e => hc48 (UInt8.toNat_inj.1 e)
        rw [show 0 * 10 + (c.toNat - 48) = c.toNat - 48 by omega, Lib.decDigits_one (by omega), ec]
        exact ⟨rfl, by omega⟩
      · have hb : bt (l' ++ [c]) 0 = bt l' 0 := by
          unfold bt
          rw [List.getElem?_append_left (List.length_pos_iff.2 hl')]
        rw [hb] at h0
        obtain ⟨e1, e2⟩ := ih l' m (by simpa using hl) hl' h0 hm
        have hbig : ¬ m * 10 + (c.toNat - 48) < 10 := by omega
        rw [Lib.decDigits, dif_neg hbig, show (m * 10 + (c.toNat - 48)) / 10 = m by omega, show (m * 10 + (c.toNat - 48)) % 10 = c.toNat - 48 by omega, ec, ← e1]
        exact ⟨rfl, by omega⟩
  exact key _ l n rfl hne h0 h

theorem pow64 : (2 : Nat) ^ 64 - 1 = 18446744073709551615 := by decide
/-- An end's text says the end. -/
theorem endV_endT (x : Int) (h0 : 0 ≤ x) (h1 : x ≤ 4294967295) : endV (endT x) = some x := by
  unfold endT
  by_cases hx : x = 0
  · rw [if_pos hx, hx]; rfl
  · rw [if_neg hx]
    obtain ⟨u, rfl⟩ := Int.eq_ofNat_of_zero_le h0
    rw [Lib.itoa_nonneg]
    have hn : Lib.decDigits u ≠ [42] := by
      intro e
      have := dec_digits u 42 (by rw [e]; simp)
      unfold digC at this
      have : (42 : UInt8).toNat = 42 := rfl
      omega
    unfold endV Lib.parseUintB
    rw [if_neg hn, if_neg (dec_ne u), pow64, parse_dec u (by omega)]
    show (if bt (Lib.decDigits u) 0 = 48 ∨ 4294967295 < u then none else some (u : Int)) = some (u : Int)
    rw [if_neg]
    rintro (h | h)
    · exact dec_head u (by omega) (by rw [h]; rfl)
    · omega
/-- What says an end is its text. -/
theorem endT_endV {l : List UInt8} {x : Int} (h : endV l = some x) : l = endT x ∧ 0 ≤ x ∧ x ≤ 4294967295 := by
  unfold endV at h
  by_cases hl : l = [42]
  · rw [if_pos hl] at h
    injection h with h
    subst h
    exact ⟨hl, by omega, by omega⟩
  · rw [if_neg hl] at h
    unfold Lib.parseUintB at h
    by_cases hne : l = []
    · rw [if_pos hne] at h; cases h
    · rw [if_neg hne, pow64] at h
      cases hp : Lib.parseUintM 18446744073709551615 0 l with
      | ok n =>
        rw [hp] at h
        simp only at h
        split at h
        · cases h
        · rename_i hc
          injection h with h
          subst h
          have h48 : bt l 0 ≠ 48 := fun e => hc (.inl e)
          obtain ⟨e1, e2⟩ := parse_text l n hne h48 hp
          refine ⟨?_, by omega, by omega⟩
          unfold endT
          rw [if_neg (by omega), Lib.itoa_nonneg]
          exact e1
      | «syntax» => rw [hp] at h; cases h
      | range => rw [hp] at h; cases h
theorem endT_plain {x : Int} (h0 : 0 ≤ x) : ∀ c ∈ endT x, c ≠ 44 ∧ c ≠ 58 := by
  intro c hc
  unfold endT at hc
  by_cases hx : x = 0
  · rw [if_pos hx] at hc
    simp at hc
    subst hc
    exact ⟨by decide, by decide⟩
  · rw [if_neg hx] at hc
    obtain ⟨u, rfl⟩ := Int.eq_ofNat_of_zero_le h0
    rw [Lib.itoa_nonneg] at hc
    have := dec_digits u c hc
    unfold digC at this
    have e1 : (44 : UInt8).toNat = 44 := rfl
    have e2 : (58 : UInt8).toNat = 58 := rfl
    exact ⟨fun e => by rw [e] at this; omega, fun e => by rw [e] at this; omega⟩
/-- Bytes that are no signs go to the segment. -/
theorem scn_seg : ∀ (s r seg : List UInt8) (pd : Bool) (pc : Rg) (acc : List Rg), (∀ c ∈ s, c ≠ 44 ∧ c ≠ 58) → scn (s ++ r) seg pd pc acc = scn r (seg ++ s) pd pc acc
  | [], r, seg, pd, pc, acc, _ => by simp
  | c :: s, r, seg, pd, pc, acc, h => by
    have hc := h c List.mem_cons_self
    rw [List.cons_append, scn_other _ _ _ _ _ _ hc.1 hc.2, scn_seg s r (seg ++ [c]) pd pc acc (fun d hd => h d (List.mem_cons_of_mem _ hd))]
    simp
/-- A piece's text and a comma behind it. -/
theorem scn_piece (p : Rg) (hp : pieceB p = true) (r : List UInt8) (q : Rg) (acc : List Rg) : ∃ q', scn (pieceT p ++ (44 :: r)) [] false q acc = scn r [] false q' (acc ++ [p]) := by
  have hb := (pieceB_iff p).1 hp
  obtain ⟨q1, q2⟩ := q
  unfold pieceT
  by_cases he : p.1 = p.2
  · rw [if_pos he, scn_seg _ _ _ _ _ _ (endT_plain hb.1), List.nil_append, scn_comma _ _ false q1 q2 acc p.1 (endV_endT p.1 hb.1 hb.2.1)]
    refine ⟨p, ?_⟩
    simp only [Bool.false_eq_true, if_false]
    rw [show ((p.1, p.1) : Rg) = p from Prod.ext rfl he]
  · rw [if_neg he, List.append_assoc, List.append_assoc, scn_seg _ _ _ _ _ _ (endT_plain hb.1), List.nil_append]
    show ∃ q', scn (58 :: (endT p.2 ++ 44 :: r)) (endT p.1) false (q1, q2) acc = _
    rw [scn_colon _ _ q1 q2 acc p.1 (endV_endT p.1 hb.1 hb.2.1), scn_seg _ _ _ _ _ _ (endT_plain hb.2.2.1), List.nil_append, scn_comma _ _ true p.1 p.1 acc p.2 (endV_endT p.2 hb.2.2.1 hb.2.2.2)]
    exact ⟨_, rfl⟩
/-- The text of pieces, each with a comma behind it. -/
def textA (l : List Rg) : List UInt8 := l.flatMap fun p => pieceT p ++ [44]
theorem scn_textA : ∀ (l : List Rg) (q : Rg) (acc : List Rg), l.all pieceB = true → scn (textA l) [] false q acc = some (acc ++ l)
  | [], q, acc, _ => by simp [textA, scn]
  | p :: r, q, acc, h => by
    rw [List.all_cons, Bool.and_eq_true] at h
    have e : textA (p :: r) = pieceT p ++ (44 :: textA r) := by simp [textA]
    obtain ⟨q', hq⟩ := scn_piece p h.1 (textA r) q acc
    rw [e, hq, scn_textA r q' (acc ++ [p]) h.2]
    simp
theorem textA_snoc (l : List Rg) (p : Rg) : textA (l ++ [p]) = textA l ++ (pieceT p ++ [44]) := by simp [textA]
theorem textK_textA (l : List Rg) : ∀ k, k ≤ l.length → 0 < k → textK l k ++ [44] = textA (l.take k)
  | 0, _, h => by omega
  | k + 1, hk, _ => by
    rw [take_snocR l k (by omega), textA_snoc]
    unfold textK
    by_cases h0 : k = 0
    · subst h0; simp [textA]
    · rw [if_neg h0, textK_textA l k (by omega) (by omega)]
      simp
theorem pcs_print (l : List Rg) (h : setB l = true) : pcs (textK l l.length) = some l := by
  unfold setB at h
  rw [Bool.and_eq_true, decide_eq_true_iff] at h
  unfold pcs
  rw [textK_textA l l.length (Nat.le_refl _) h.1, List.take_of_length_le (Nat.le_refl _), scn_textA l _ _ h.2]
  simp
end Go.Proofs.YtkclcjnfjielfabDoor
