/- Plain mathematics: UTF-8 as the reference reads it. -/
import Derived.Test.YtclegocofiigiabDoorNx
namespace Go.Proofs.YtclegocofiigiabDoor

def dAt (l : List UInt8) (i : Nat) : Nat × Nat := Lib.decodeN (l.length - i) (bt l i).toNat (bt l (i + 1)).toNat (bt l (i + 2)).toNat (bt l (i + 3)).toNat
theorem dAt_drop (l : List UInt8) (i : Nat) : Lib.decodeL (l.drop i) = dAt l i := by
  rw [Lib.decodeL_N, dAt, List.length_drop]
  have e : ∀ k, (l.drop i).getD k 0 = bt l (i + k) := fun k => by unfold bt; rw [List.getD_eq_getElem?_getD, List.getElem?_drop]
  rw [e, e, e, e]; rfl
theorem valid_app : ∀ (rs : List Nat), (∀ r ∈ rs, sc r) → ∀ t, Lib.validD (encL rs ++ t) = Lib.validD t := by
  intro rs
  induction rs with
  | nil => intro _ t; rfl
  | cons r rs ih =>
    intro h t
    rw [encL_cons, List.append_assoc, Lib.validD_step _ (by simp [en_ne]), dec_en r (h r (by simp)), if_neg, List.drop_left]
    · exact ih (fun x hx => h x (by simp [hx])) t
    · intro hc
      simp only at hc
      obtain ⟨rfl, h1⟩ := hc
      have : (en 65533).length = 3 := by decide
      omega
theorem bad_at (l : List UInt8) (rs : List Nat) (i : Nat) (hs : ∀ r ∈ rs, sc r) (h : l.take i = encL rs) (hi : i < l.length) (hd : dAt l i = (65533, 1)) : Lib.validD l = false := by
  rw [← List.take_append_drop i l, h, valid_app rs hs, Lib.validD_step _ (by intro e; have := congrArg List.length e; simp at this; omega), dAt_drop, hd, if_pos ⟨rfl, rfl⟩]
theorem good_at (l : List UInt8) (rs : List Nat) (i v n : Nat) (hs : ∀ r ∈ rs, sc r) (h : l.take i = encL rs) (hi : i < l.length) (hd : dAt l i = (v, n)) (hb : ¬ (v = 65533 ∧ n = 1)) : (∀ r ∈ rs ++ [v], sc r) ∧ l.take (i + n) = encL (rs ++ [v]) := by
  have hne : l.drop i ≠ [] := by intro e; have := congrArg List.length e; simp at this; omega
  have hv : sc v := by
    have := dec_sc (l.drop i) (by rw [dAt_drop, hd]; exact hb)
    rw [dAt_drop, hd] at this; exact this
  refine ⟨?_, ?_⟩
  · intro r hr
    rcases List.mem_append.1 hr with hr | hr
    · exact hs r hr
    · simp at hr; subst hr; exact hv
  · have := Lib.encode_decode (l.drop i) hne (by rw [dAt_drop, hd]; exact hb)
    rw [dAt_drop, hd] at this
    simp only at this
    rw [List.take_add, h, encL_append, ← this]
    simp [encL, en]
theorem valid_end (l : List UInt8) (rs : List Nat) (hs : ∀ r ∈ rs, sc r) (h : l = encL rs) : Lib.validD l = true := by rw [h]; exact valid_enc rs hs
theorem d1_ok (n b0 b1 b2 b3 : Nat) (h : b0 < 128) : Lib.decodeN n b0 b1 b2 b3 = (b0, 1) := dN1 n b0 b1 b2 b3 h
theorem d1_bad (n b0 b1 b2 b3 : Nat) (h0 : b0 < 256) (h : 128 ≤ b0) (h' : b0 < 192 ∨ 248 ≤ b0) : Lib.decodeN n b0 b1 b2 b3 = (65533, 1) := by
  rcases Lib.decodeN_shape n b0 b1 b2 b3 with ⟨c, e⟩ | ⟨c1, c2, c3, cv, e⟩ | ⟨c1, c2, c3, c4, cv, cs, e⟩ | ⟨c1, c2, c3, c4, c5, cv, cw, e⟩ | e
  · omega
  · omega
  · omega
  · omega
  · exact e
theorem d2_ok (n b0 b1 b2 b3 : Nat) (v : Nat) (h0 : 192 ≤ b0) (h1 : b0 < 224) (hn : 1 < n) (k0 : 128 ≤ b1) (k1 : b1 < 192) (hv : v + 128 = 64 * (b0 - 192) + b1) (hl : 128 ≤ v) : Lib.decodeN n b0 b1 b2 b3 = (v, 2) := by
  have e : b0 % 32 * 64 + b1 % 64 = v := by omega
  unfold Lib.decodeN
  rw [e, if_neg (by omega), if_pos ⟨by omega, by omega, by omega⟩, if_pos (by omega)]
theorem d2_bad (n b0 b1 b2 b3 : Nat) (h0 : 192 ≤ b0) (h1 : b0 < 224) (h : ¬ 1 < n ∨ b1 < 128 ∨ 192 ≤ b1 ∨ 64 * (b0 - 192) + b1 < 256) (hb : b1 < 256) : Lib.decodeN n b0 b1 b2 b3 = (65533, 1) := by
  rcases Lib.decodeN_shape n b0 b1 b2 b3 with ⟨c, e⟩ | ⟨c1, c2, c3, cv, e⟩ | ⟨c1, c2, c3, c4, cv, cs, e⟩ | ⟨c1, c2, c3, c4, c5, cv, cw, e⟩ | e
  · omega
  · omega
  · omega
  · omega
  · exact e
theorem d3_ok (n b0 b1 b2 b3 : Nat) (v : Nat) (h0 : 224 ≤ b0) (h1 : b0 < 240) (hn : 2 < n) (k0 : 128 ≤ b1) (k1 : b1 < 192) (j0 : 128 ≤ b2) (j1 : b2 < 192) (hv : v + 128 = 64 * (64 * (b0 - 224) + b1 - 128) + b2) (hl : 2048 ≤ v) (hs : v < 55296 ∨ 57344 ≤ v) : Lib.decodeN n b0 b1 b2 b3 = (v, 3) := by
  have e : b0 % 16 * 4096 + b1 % 64 * 64 + b2 % 64 = v := by omega
  unfold Lib.decodeN
  rw [e, if_neg (by omega), if_neg (by omega), if_pos ⟨by omega, by omega, by omega⟩, if_pos (by omega)]
theorem d3_bad (n b0 b1 b2 b3 : Nat) (h0 : 224 ≤ b0) (h1 : b0 < 240) (h : ¬ 2 < n ∨ b1 < 128 ∨ 192 ≤ b1 ∨ b2 < 128 ∨ 192 ≤ b2 ∨ 64 * (64 * (b0 - 224) + b1 - 128) + b2 < 2176 ∨ (55424 ≤ 64 * (64 * (b0 - 224) + b1 - 128) + b2 ∧ 64 * (64 * (b0 - 224) + b1 - 128) + b2 < 57472)) (hb : b1 < 256) (hc : b2 < 256) : Lib.decodeN n b0 b1 b2 b3 = (65533, 1) := by
  rcases Lib.decodeN_shape n b0 b1 b2 b3 with ⟨c, e⟩ | ⟨c1, c2, c3, cv, e⟩ | ⟨c1, c2, c3, c4, cv, cs, e⟩ | ⟨c1, c2, c3, c4, c5, cv, cw, e⟩ | e
  · omega
  · omega
  · omega
  · omega
  · exact e
theorem d4_ok (n b0 b1 b2 b3 : Nat) (v : Nat) (h0 : 240 ≤ b0) (h1 : b0 < 248) (hn : 3 < n) (k0 : 128 ≤ b1) (k1 : b1 < 192) (j0 : 128 ≤ b2) (j1 : b2 < 192) (i0 : 128 ≤ b3) (i1 : b3 < 192) (hv : v + 128 = 64 * (64 * (64 * (b0 - 240) + b1 - 128) + b2 - 128) + b3) (hl : 65536 ≤ v) (hs : v ≤ 1114111) : Lib.decodeN n b0 b1 b2 b3 = (v, 4) := by
  have e : b0 % 8 * 262144 + b1 % 64 * 4096 + b2 % 64 * 64 + b3 % 64 = v := by omega
  unfold Lib.decodeN
  rw [e, if_neg (by omega), if_neg (by omega), if_neg (by omega), if_pos ⟨by omega, by omega, by omega, by omega⟩, if_pos (by omega)]
theorem d4_bad (n b0 b1 b2 b3 : Nat) (h0 : 240 ≤ b0) (h1 : b0 < 248) (h : ¬ 3 < n ∨ b1 < 128 ∨ 192 ≤ b1 ∨ b2 < 128 ∨ 192 ≤ b2 ∨ b3 < 128 ∨ 192 ≤ b3 ∨ 64 * (64 * (64 * (b0 - 240) + b1 - 128) + b2 - 128) + b3 < 65664 ∨ 1114239 < 64 * (64 * (64 * (b0 - 240) + b1 - 128) + b2 - 128) + b3) (hb : b1 < 256) (hc : b2 < 256) (hd : b3 < 256) : Lib.decodeN n b0 b1 b2 b3 = (65533, 1) := by
  rcases Lib.decodeN_shape n b0 b1 b2 b3 with ⟨c, e⟩ | ⟨c1, c2, c3, cv, e⟩ | ⟨c1, c2, c3, c4, cv, cs, e⟩ | ⟨c1, c2, c3, c4, c5, cv, cw, e⟩ | e
  · omega
  · omega
  · omega
  · omega
  · exact e
end Go.Proofs.YtclegocofiigiabDoor
