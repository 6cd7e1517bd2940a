/- Plain mathematics: texts as rows of scalars. -/
import Derived.Test.YtclegocofiigiabDoorPs
import Derived.Test.YtclegocofiigiabDoorBk
import Derived.Lib.ValidLaws
namespace Go.Proofs.YtclegocofiigiabDoor

def sc (r : Nat) : Prop := r < 55296 ∨ (57344 ≤ r ∧ r ≤ 1114111)
def en (r : Nat) : List UInt8 := Lib.encodeRune (r : Int)
def encL (rs : List Nat) : List UInt8 := rs.flatMap en
theorem encL_cons (r : Nat) (rs : List Nat) : encL (r :: rs) = en r ++ encL rs := rfl
theorem encL_append (a b : List Nat) : encL (a ++ b) = encL a ++ encL b := List.flatMap_append
theorem tb (z : Nat) (h : z < 256) : (((z : Nat) : Int).toNat.toUInt8).toNat = z := by simp; omega
theorem en1 (r : Nat) (h : r < 128) : en r = [UInt8.ofNat r] := by
  unfold en Lib.encodeRune; rw [Lib.encodeRuneZ_one (by omega) (by omega)]; rfl
theorem en2 (r : Nat) (h0 : 128 ≤ r) (h : r < 2048) : en r = [UInt8.ofNat (192 + r / 64), UInt8.ofNat (128 + r % 64)] := by
  unfold en Lib.encodeRune; rw [Lib.encodeRuneZ_two (by omega) (by omega)]
  have e1 : (192 + (r : Int) / 64) = ((192 + r / 64 : Nat) : Int) := by omega
  have e2 : (128 + (r : Int) % 64) = ((128 + r % 64 : Nat) : Int) := by omega
  rw [e1, e2]; rfl
theorem en3 (r : Nat) (h0 : 2048 ≤ r) (h : r < 65536) (hs : sc r) : en r = [UInt8.ofNat (224 + r / 4096), UInt8.ofNat (128 + r / 64 % 64), UInt8.ofNat (128 + r % 64)] := by
  unfold sc at hs
  unfold en Lib.encodeRune; rw [Lib.encodeRuneZ_three (by omega)]
  have e1 : (224 + (r : Int) / 4096) = ((224 + r / 4096 : Nat) : Int) := by omega
  have e2 : (128 + (r : Int) / 64 % 64) = ((128 + r / 64 % 64 : Nat) : Int) := by omega
  have e3 : (128 + (r : Int) % 64) = ((128 + r % 64 : Nat) : Int) := by omega
  rw [e1, e2, e3]; rfl
theorem en4 (r : Nat) (h0 : 65536 ≤ r) (h : r ≤ 1114111) : en r = [UInt8.ofNat (240 + r / 262144), UInt8.ofNat (128 + r / 4096 % 64), UInt8.ofNat (128 + r / 64 % 64), UInt8.ofNat (128 + r % 64)] := by
  unfold en Lib.encodeRune; rw [Lib.encodeRuneZ_four (by omega) (by omega)]
  have e0 : (240 + (r : Int) / 262144) = ((240 + r / 262144 : Nat) : Int) := by omega
  have e1 : (128 + (r : Int) / 4096 % 64) = ((128 + r / 4096 % 64 : Nat) : Int) := by omega
  have e2 : (128 + (r : Int) / 64 % 64) = ((128 + r / 64 % 64 : Nat) : Int) := by omega
  have e3 : (128 + (r : Int) % 64) = ((128 + r % 64 : Nat) : Int) := by omega
  rw [e0, e1, e2, e3]; rfl
theorem sc_lt (r : Nat) (h : sc r) : r ≤ 1114111 := by unfold sc at h; omega
theorem en_shape (r : Nat) (h : sc r) : (r < 128 ∧ en r = [UInt8.ofNat r]) ∨ (128 ≤ r ∧ ∀ c ∈ en r, 128 ≤ c.toNat) := by
  have := sc_lt r h
  rcases Nat.lt_or_ge r 128 with h1 | h1
  · exact .inl ⟨h1, en1 r h1⟩
  · refine .inr ⟨h1, ?_⟩
    rcases Nat.lt_or_ge r 2048 with h2 | h2
    · rw [en2 r h1 h2]; intro c hc; simp at hc; rcases hc with rfl | rfl <;> simp <;> omega
    · rcases Nat.lt_or_ge r 65536 with h3 | h3
      · rw [en3 r h2 h3 h]; intro c hc; simp at hc; rcases hc with rfl | rfl | rfl <;> simp <;> omega
      · rw [en4 r h3 this]; intro c hc; simp at hc; rcases hc with rfl | rfl | rfl | rfl <;> simp <;> omega
theorem on (x : Nat) (h : x < 256) : (UInt8.ofNat x).toNat = x := by simp; omega
theorem dN1 (n b0 b1 b2 b3 : Nat) (h : b0 < 128) : Lib.decodeN n b0 b1 b2 b3 = (b0, 1) := by
  unfold Lib.decodeN; rw [if_pos h]
theorem dN2 (n r b2 b3 : Nat) (h0 : 128 ≤ r) (h : r < 2048) (hn : 1 < n) : Lib.decodeN n (192 + r / 64) (128 + r % 64) b2 b3 = (r, 2) := by
  unfold Lib.decodeN
  rw [if_neg (by omega), if_pos (by omega), if_pos (by omega)]
  congr 1; omega
theorem dN3 (n r b3 : Nat) (h0 : 2048 ≤ r) (h : r < 65536) (hs : sc r) (hn : 2 < n) : Lib.decodeN n (224 + r / 4096) (128 + r / 64 % 64) (128 + r % 64) b3 = (r, 3) := by
  unfold sc at hs
  unfold Lib.decodeN
  have e : (224 + r / 4096) % 16 * 4096 + (128 + r / 64 % 64) % 64 * 64 + (128 + r % 64) % 64 = r := by omega
  rw [e, if_neg (by omega), if_neg (by omega), if_pos (by omega), if_pos (by omega)]
theorem dN4 (n r : Nat) (h0 : 65536 ≤ r) (h : r ≤ 1114111) (hn : 3 < n) : Lib.decodeN n (240 + r / 262144) (128 + r / 4096 % 64) (128 + r / 64 % 64) (128 + r % 64) = (r, 4) := by
  unfold Lib.decodeN
  have e : (240 + r / 262144) % 8 * 262144 + (128 + r / 4096 % 64) % 64 * 4096 + (128 + r / 64 % 64) % 64 * 64 + (128 + r % 64) % 64 = r := by omega
  rw [e, if_neg (by omega), if_neg (by omega), if_neg (by omega), if_pos (by omega), if_pos (by omega)]
theorem dec_en (r : Nat) (h : sc r) (t : List UInt8) : Lib.decodeL (en r ++ t) = (r, (en r).length) := by
  have hm := sc_lt r h
  rw [Lib.decodeL_N]
  rcases Nat.lt_or_ge r 128 with h1 | h1
  · rw [en1 r h1]
    show Lib.decodeN _ (UInt8.ofNat r).toNat _ _ _ = _
    rw [on r (by omega), dN1 _ _ _ _ _ h1]; rfl
  · rcases Nat.lt_or_ge r 2048 with h2 | h2
    · rw [en2 r h1 h2]
      show Lib.decodeN _ (UInt8.ofNat (192 + r / 64)).toNat (UInt8.ofNat (128 + r % 64)).toNat _ _ = _
      rw [on _ (by omega), on _ (by omega), dN2 _ _ _ _ h1 h2 (by simp)]; rfl
    · rcases Nat.lt_or_ge r 65536 with h3 | h3
      · rw [en3 r h2 h3 h]
        show Lib.decodeN _ (UInt8.ofNat (224 + r / 4096)).toNat (UInt8.ofNat (128 + r / 64 % 64)).toNat (UInt8.ofNat (128 + r % 64)).toNat _ = _
        rw [on _ (by omega), on _ (by omega), on _ (by omega), dN3 _ _ _ h2 h3 h (by simp)]; rfl
      · rw [en4 r h3 hm]
        show Lib.decodeN _ (UInt8.ofNat (240 + r / 262144)).toNat (UInt8.ofNat (128 + r / 4096 % 64)).toNat (UInt8.ofNat (128 + r / 64 % 64)).toNat (UInt8.ofNat (128 + r % 64)).toNat = _
        rw [on _ (by omega), on _ (by omega), on _ (by omega), on _ (by omega), dN4 _ _ h3 hm (by simp)]; rfl
theorem en_ne (r : Nat) : en r ≠ [] := by
  intro h
  have := (encLen (r : Int)).1
  unfold en at h
  rw [h] at this
  simp at this
theorem en_len (r : Nat) : 1 ≤ (en r).length := (encLen (r : Int)).1
theorem valid_enc (rs : List Nat) (h : ∀ r ∈ rs, sc r) : Lib.validD (encL rs) = true := by
  induction rs with
  | nil => rfl
  | cons r rs ih =>
    rw [encL_cons, Lib.validD_step _ (by simp [en_ne]), dec_en r (h r (by simp)), if_neg, List.drop_left]
    · exact ih (fun x hx => h x (by simp [hx]))
    · intro hc
      simp only at hc
      obtain ⟨rfl, h1⟩ := hc
      have : (en 65533).length = 3 := by decide
      omega
theorem dec_sc (l : List UInt8) (hv : ¬ ((Lib.decodeL l).1 = 65533 ∧ (Lib.decodeL l).2 = 1)) : sc (Lib.decodeL l).1 := by
  rw [Lib.decodeL_N] at hv ⊢
  have k0 := (l.getD 0 0).toNat_lt
  have k1 := (l.getD 1 0).toNat_lt
  unfold sc
  rcases Lib.decodeN_shape l.length (l.getD 0 0).toNat (l.getD 1 0).toNat (l.getD 2 0).toNat (l.getD 3 0).toNat with ⟨c, e⟩ | ⟨c1, c2, c3, cv, e⟩ | ⟨c1, c2, c3, c4, cv, cs, e⟩ | ⟨c1, c2, c3, c4, c5, cv, cw, e⟩ | e
  all_goals (rw [e] at hv ⊢; dsimp only at hv ⊢)
  · omega
  · omega
  · omega
  · omega
  · exact absurd ⟨rfl, rfl⟩ hv
theorem enc_valid (l : List UInt8) (h : Lib.validD l = true) : ∃ rs, (∀ r ∈ rs, sc r) ∧ l = encL rs := by
  have gen : ∀ n, ∀ l : List UInt8, l.length ≤ n → Lib.validD l = true → ∃ rs, (∀ r ∈ rs, sc r) ∧ l = encL rs := by
    intro n
    induction n with
    | zero =>
      intro l hl _
      have : l = [] := List.eq_nil_of_length_eq_zero (by omega)
      subst this
      exact ⟨[], by simp, rfl⟩
    | succ n ih =>
      intro l hl hv
      by_cases hne : l = []
      · subst hne; exact ⟨[], by simp, rfl⟩
      · rw [Lib.validD_step l hne] at hv
        by_cases hb : (Lib.decodeL l).1 = 65533 ∧ (Lib.decodeL l).2 = 1
        · rw [if_pos hb] at hv; cases hv
        · rw [if_neg hb] at hv
          have hw := Lib.decodeL_width l
          have hp : 0 < l.length := List.length_pos_iff.2 hne
          obtain ⟨rs, h1, h2⟩ := ih (l.drop (Lib.decodeL l).2) (by rw [List.length_drop]; omega) hv
          refine ⟨(Lib.decodeL l).1 :: rs, ?_, ?_⟩
          · intro x hx
            rcases List.mem_cons.1 hx with rfl | hx
            · exact dec_sc l hb
            · exact h1 x hx
          · rw [encL_cons, ← h2]
            unfold en
            rw [Lib.encode_decode l hne hb, List.take_append_drop]
  exact gen l.length l (Nat.le_refl _) h

/-- The scalars with their places. -/
def pos : Nat → List Nat → List (Nat × Nat)
  | _, [] => []
  | p, r :: rs => (p, r) :: pos (p + (en r).length) rs
theorem rn_pos : ∀ (rs : List Nat), (∀ r ∈ rs, sc r) → ∀ pre f, (encL rs).length ≤ f → rn (S (pre ++ encL rs)) f pre.length = pos pre.length rs := by
  intro rs
  induction rs with
  | nil =>
    intro _ pre f _
    rw [rn_end _ _ _ (by rw [S_size]; simp [encL])]; rfl
  | cons r rs ih =>
    intro h pre f hf
    have hl := en_len r
    rw [encL_cons, List.length_append] at hf
    obtain ⟨f, rfl⟩ : ∃ g, f = g + 1 := ⟨f - 1, by omega⟩
    have hd : Utf8.decode (S (pre ++ encL (r :: rs))) pre.length = (r, (en r).length) := by
      rw [← Lib.decodeL_drop]
      show Lib.decodeL ((pre ++ encL (r :: rs)).drop pre.length) = _
      rw [List.drop_left, encL_cons, dec_en r (h r (by simp))]
    rw [rn, if_pos (by rw [S_size, List.length_append, encL_cons, List.length_append]; omega), hd, pos]
    simp only
    have e : pre.length + (en r).length = (pre ++ en r).length := by simp
    have e2 : pre ++ encL (r :: rs) = (pre ++ en r) ++ encL rs := by rw [encL_cons, List.append_assoc]
    rw [e, e2, ih (fun x hx => h x (by simp [hx])) (pre ++ en r) f (by omega)]
theorem runes_enc (rs : List Nat) (h : ∀ r ∈ rs, sc r) : runes (S (encL rs)) = pos 0 rs := by
  have := rn_pos rs h [] (encL rs).length (Nat.le_refl _)
  simpa [runes, S_size] using this
end Go.Proofs.YtclegocofiigiabDoor
