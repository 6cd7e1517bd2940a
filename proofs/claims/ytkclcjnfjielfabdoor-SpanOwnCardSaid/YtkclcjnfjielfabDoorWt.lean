/- The reference's reading of a set against mine, plain. -/
import Derived.Test.YtkclcjnfjielfabDoorWq
import Derived.Test.YtkclcjnfjielfabDoorWf
namespace Go.Proofs.YtkclcjnfjielfabDoor
open Go.RowKit

theorem isD_iff {c : UInt8} : isD c = true ↔ 48 ≤ c.toNat ∧ c.toNat ≤ 57 := by unfold isD; simp
def noD : List UInt8 → Prop
  | [] => True
  | c :: _ => isD c = false
theorem dg_done {n : Nat} : ∀ {t : List UInt8}, noD t → dg n t = some (n, t)
  | [], _ => rfl
  | _ :: _, h => dg_other h
theorem dg_parse : ∀ (l t : List UInt8) (n m : Nat), Lib.parseUintM 18446744073709551615 n l = .ok m → m ≤ 4294967295 → noD t → dg n (l ++ t) = some (m, t)
  | [], t, n, m, h, _, ht => by
    simp only [Lib.parseUintM] at h
    injection h with h
    subst h
    exact dg_done ht
  | c :: r, t, n, m, h, hm, ht => by
    rw [Lib.parseUintM] at h
    split at h
    · rename_i hc
      split at h
      · cases h
      · split at h
        · cases h
        · have hg := parse_ge r _ m h
          rw [List.cons_append, dg_digit (isD_iff.2 hc), if_neg (by omega), Nat.mul_comm 10 n]
          exact dg_parse r t _ m h hm ht
    · cases h
theorem parse_dg : ∀ (r : List UInt8) (n m : Nat) (r1 : List UInt8), n ≤ 4294967295 → dg n r = some (m, r1) → ∃ l, r = l ++ r1 ∧ Lib.parseUintM 18446744073709551615 n l = .ok m ∧ m ≤ 4294967295
  | [], n, m, r1, hn, h => by
    have h2 : some (n, ([] : List UInt8)) = some (m, r1) := h
    cases h2
    exact ⟨[], rfl, rfl, hn⟩
  | c :: r, n, m, r1, hn, h => by
    cases hc : isD c with
    | false =>
      rw [dg_other hc] at h
      cases h
      exact ⟨[], rfl, rfl, hn⟩
    | true =>
      rw [dg_digit hc] at h
      split at h
      · cases h
      · rename_i hb
        obtain ⟨l, h1, h2, h3⟩ := parse_dg r _ m r1 (by omega) h
        refine ⟨c :: l, by rw [h1]; rfl, ?_, h3⟩
        rw [Lib.parseUintM, if_pos (isD_iff.1 hc), if_neg (by omega), if_neg (by omega), Nat.mul_comm n 10]
        exact h2
/-- What the reference reads as an end is an end's text. -/
theorem rE_sound {r r1 : List UInt8} {n : Int} (h : rE r = some (n, r1)) : r = endT n ++ r1 ∧ 0 ≤ n ∧ n ≤ 4294967295 := by
  match r, h with
  | [], h => cases h
  | c :: t, h =>
    have h2 : (if c = 42 then some ((0 : Int), t) else if 49 ≤ c.toNat ∧ c.toNat ≤ 57 then (dg 0 (c :: t)).map (fun p => ((p.1 : Int), p.2)) else none) = some (n, r1) := h
    split at h2
    · rename_i hc
      cases h2
      exact ⟨by rw [hc]; rfl, by omega, by omega⟩
    · split at h2
      · rename_i h42 hd
        cases hg : dg 0 (c :: t) with
        | none => rw [hg] at h2; cases h2
        | some p =>
          rw [hg] at h2
          cases h2
          obtain ⟨l, e1, e2, e3⟩ := parse_dg (c :: t) 0 p.1 p.2 (by omega) hg
          have hne : l ≠ [] := by
            rintro rfl
            rw [List.nil_append] at e1
            rw [dg_digit (isD_iff.2 ⟨by omega, hd.2⟩)] at hg
            split at hg
            · cases hg
            · obtain ⟨l2, f1, _, _⟩ := parse_dg t _ p.1 p.2 (by omega) hg
              have f2 := congrArg List.length f1
              rw [← e1, List.length_append, List.length_cons] at f2
              omega
          have hb : bt l 0 ≠ 48 := by
            match l, hne with
            | d :: l', _ =>
              rw [List.cons_append] at e1
              have e : c = d := (List.cons.inj e1).1
              show d ≠ 48
              rw [← e]
              intro h
              have : c.toNat = 48 := by rw [h]; rfl
              omega
          obtain ⟨k1, k2⟩ := parse_text l p.1 hne hb e2
          refine ⟨?_, by omega, by omega⟩
          unfold endT
          rw [if_neg (by omega), Lib.itoa_nonneg, ← k1]
          exact e1
      · cases h2
/-- An end's text is read as the end. -/
theorem rE_full {x : Int} (h0 : 0 ≤ x) (h1 : x ≤ 4294967295) {t : List UInt8} (ht : noD t) : rE (endT x ++ t) = some (x, t) := by
  unfold endT
  by_cases hx : x = 0
  · rw [if_pos hx, hx]; rfl
  · rw [if_neg hx]
    obtain ⟨u, rfl⟩ := Int.eq_ofNat_of_zero_le h0
    rw [Lib.itoa_nonneg]
    have hp := dg_parse _ t 0 u (parse_dec u (by omega)) (by omega) ht
    have hh := dec_head u (by omega)
    have hd := dec_digits u
    have hne := dec_ne u
    generalize Lib.decDigits u = l at *
    match l, hne with
    | c :: l', _ =>
      have hc := hd c List.mem_cons_self
      unfold digC at hc
      have hh2 : c.toNat ≠ 48 := hh
      show (if c = 42 then some ((0 : Int), l' ++ t) else if 49 ≤ c.toNat ∧ c.toNat ≤ 57 then (dg 0 (c :: (l' ++ t))).map (fun p => ((p.1 : Int), p.2)) else none) = _
      rw [if_neg (by intro h; rw [h] at hc; have : (42 : UInt8).toNat = 42 := rfl; omega), if_pos ⟨by omega, hc.2⟩]
      rw [List.cons_append] at hp
      rw [hp]
      rfl
/-- A text up to its first sign. -/
def signed : List UInt8 → Prop
  | [] => True
  | c :: _ => c = 44 ∨ c = 58
theorem signed_noD : ∀ {t : List UInt8}, signed t → noD t
  | [], _ => trivial
  | c :: t, h => by
    show isD c = false
    rcases h with h | h <;> rw [h] <;> decide
theorem parts : ∀ (r : List UInt8), ∃ seg t, r = seg ++ t ∧ (∀ c ∈ seg, c ≠ 44 ∧ c ≠ 58) ∧ signed t
  | [] => ⟨[], [], rfl, by simp, trivial⟩
  | c :: r => by
    by_cases h : c = 44 ∨ c = 58
    · exact ⟨[], c :: r, rfl, by simp, h⟩
    · obtain ⟨seg, t, h1, h2, h3⟩ := parts r
      refine ⟨c :: seg, t, by rw [h1]; rfl, fun d hd => ?_, h3⟩
      rcases List.mem_cons.1 hd with h4 | h4
      · rw [h4]; exact ⟨fun e => h (.inl e), fun e => h (.inr e)⟩
      · exact h2 d h4
theorem scn_bad {seg t : List UInt8} {pd : Bool} {pc : Rg} {acc : List Rg} (hs : ∀ c ∈ seg, c ≠ 44 ∧ c ≠ 58) (ht : signed t) (h : endV seg = none) : scn (seg ++ t ++ [44]) [] pd pc acc = none := by
  rw [List.append_assoc, scn_seg _ _ _ _ _ _ hs, List.nil_append]
  match t, ht with
  | [], _ => exact scn_none _ _ _ _ _ _ (.inl rfl) h
  | c :: t', ht => exact scn_none _ _ _ _ _ _ ht h
/-- No end: nothing is read. -/
theorem scn_rE_none {r : List UInt8} (pd : Bool) (pc : Rg) (acc : List Rg) (h : rE r = none) : scn (r ++ [44]) [] pd pc acc = none := by
  obtain ⟨seg, t, h1, h2, h3⟩ := parts r
  subst h1
  cases hv : endV seg with
  | none => exact scn_bad h2 h3 hv
  | some x =>
    obtain ⟨e1, e2, e3⟩ := endT_endV hv
    rw [e1, rE_full e2 e3 (signed_noD h3)] at h
    cases h
/-- An end, and something behind it that is no sign: nothing is read. -/
theorem scn_rE_other {r r2 : List UInt8} {n : Int} {c : UInt8} (pd : Bool) (pc : Rg) (acc : List Rg) (h : rE r = some (n, c :: r2)) (h1 : c ≠ 44) (h2 : c ≠ 58) : scn (r ++ [44]) [] pd pc acc = none := by
  obtain ⟨seg, t, g1, g2, g3⟩ := parts r
  subst g1
  cases hv : endV seg with
  | none => exact scn_bad g2 g3 hv
  | some x =>
    obtain ⟨e1, e2, e3⟩ := endT_endV hv
    rw [e1, rE_full e2 e3 (signed_noD g3)] at h
    cases h
    rcases g3 with h | h
    · exact absurd h h1
    · exact absurd h h2
theorem scn_rE {r r1 : List UInt8} {n : Int} (pd : Bool) (pc : Rg) (acc : List Rg) (h : rE r = some (n, r1)) : scn (r ++ [44]) [] pd pc acc = scn (r1 ++ [44]) (endT n) pd pc acc ∧ endV (endT n) = some n := by
  obtain ⟨e1, e2, e3⟩ := rE_sound h
  refine ⟨?_, endV_endT n e2 e3⟩
  rw [e1, List.append_assoc, scn_seg _ _ _ _ _ _ (endT_plain e2), List.nil_append]
theorem scn_rE_end {r : List UInt8} {n : Int} (pd : Bool) (p1 p2 : Int) (acc : List Rg) (h : rE r = some (n, [])) : scn (r ++ [44]) [] pd (p1, p2) acc = some (acc ++ [(if pd = true then p1 else n, n)]) := by
  obtain ⟨h1, h2⟩ := scn_rE pd (p1, p2) acc h
  rw [h1, List.nil_append, scn_comma _ _ _ _ _ _ _ h2]
  rfl
theorem scn_rE_comma {r r2 : List UInt8} {n : Int} (pd : Bool) (p1 p2 : Int) (acc : List Rg) (h : rE r = some (n, 44 :: r2)) : scn (r ++ [44]) [] pd (p1, p2) acc = scn (r2 ++ [44]) [] false (if pd = true then p1 else n, n) (acc ++ [(if pd = true then p1 else n, n)]) := by
  obtain ⟨h1, h2⟩ := scn_rE pd (p1, p2) acc h
  rw [h1, List.cons_append, scn_comma _ _ _ _ _ _ _ h2]
theorem scn_rE_colon {r r2 : List UInt8} {n : Int} (p1 p2 : Int) (acc : List Rg) (h : rE r = some (n, 58 :: r2)) : scn (r ++ [44]) [] false (p1, p2) acc = scn (r2 ++ [44]) [] true (n, n) acc := by
  obtain ⟨h1, h2⟩ := scn_rE false (p1, p2) acc h
  rw [h1, List.cons_append, scn_colon _ _ _ _ _ _ h2]
theorem scn_rE_colon2 {r r2 : List UInt8} {n : Int} (p1 p2 : Int) (acc : List Rg) (h : rE r = some (n, 58 :: r2)) : scn (r ++ [44]) [] true (p1, p2) acc = none := by
  obtain ⟨h1, h2⟩ := scn_rE true (p1, p2) acc h
  rw [h1, List.cons_append, scn_colon2 _ _ _ _ _ _ h2]
end Go.Proofs.YtkclcjnfjielfabDoor
