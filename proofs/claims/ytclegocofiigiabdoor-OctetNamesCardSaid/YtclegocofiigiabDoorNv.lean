/- Plain mathematics: levels. -/
import Derived.Test.YtclegocofiigiabDoorNt
namespace Go.Proofs.YtclegocofiigiabDoor

theorem wire_ok (l : List UInt8) (h : (wire l).2 = 0) : l.length ≤ 197 ∧ Lib.validD l = true ∧ isName l = true ∧ wire l = (writeName l, 0) := by
  unfold wire at h ⊢
  by_cases h1 : 197 < l.length
  · rw [if_pos h1] at h; simp at h
  · rw [if_neg h1] at h ⊢
    by_cases h2 : Lib.validD l = false
    · rw [if_pos h2] at h; simp at h
    · rw [if_neg h2] at h ⊢
      by_cases h3 : isName l = false
      · rw [if_pos h3] at h; simp at h
      · rw [if_neg h3]
        exact ⟨by omega, by simpa using h2, by simpa using h3, rfl⟩
theorem wire_of (l : List UInt8) (h1 : l.length ≤ 197) (h2 : Lib.validD l = true) (h3 : isName l = true) : wire l = (writeName l, 0) := by
  unfold wire
  rw [if_neg (by omega), if_neg (by simp [h2]), if_neg (by simp [h3])]
theorem wire_bad (l : List UInt8) (h : (wire l).2 ≠ 0) : (wire l).1 = [] := by
  unfold wire at h ⊢
  split
  · rfl
  · rename_i h1
    rw [if_neg h1] at h
    split
    · rfl
    · rename_i h2
      rw [if_neg h2] at h
      split
      · rfl
      · rename_i h3
        rw [if_neg h3] at h
        exact absurd rfl h
theorem first_eq (l : List UInt8) : first l = l.takeWhile (· != 47) := cut_take l 47
theorem first_slash (a b : List UInt8) : first (a ++ 47 :: b) = first a := by
  rw [first_eq, first_eq, List.takeWhile_append]
  split
  · rename_i h
    have : a.takeWhile (· != 47) = a := List.takeWhile_prefix (p := (· != 47)) (l := a) |>.eq_of_length h
    rw [this]
    simp
  · rfl
theorem first_drop (l : List UInt8) : l = first l ++ l.drop (first l).length := by
  rw [first_eq]
  have h : l.takeWhile (· != 47) <+: l := List.takeWhile_prefix _
  obtain ⟨t, ht⟩ := h
  have e : (l.takeWhile (· != 47) ++ t).drop (l.takeWhile (· != 47)).length = t := List.drop_left
  rw [ht] at e
  rw [e, ht]
theorem same_len5 (l : List UInt8) (h : same l inboxL = true) : l.length = 5 := by
  have h' : lower l = lower inboxL := by simpa [same] using h
  have := congrArg List.length h'
  simpa [lower, inboxL] using this
/-- withInbox leaves a text alone just where its first level is INBOX or is not inbox. -/
theorem inbox_same (l : List UInt8) : withInbox l = l ↔ (same (first l) inboxL = true → first l = inboxL) := by
  unfold withInbox
  constructor
  · intro h hs
    rw [if_pos hs] at h
    have e := first_drop l
    have h5 := same_len5 _ hs
    have : inboxL ++ l.drop (first l).length = first l ++ l.drop (first l).length := h.trans e
    have h2 := List.append_inj_left this (by rw [h5]; rfl)
    exact h2.symm
  · intro h
    split
    · rename_i hs
      rw [← h hs]; exact (first_drop l).symm
    · rfl
theorem inbox_pre (a b : List UInt8) (h : withInbox (a ++ 47 :: b) = a ++ 47 :: b) : withInbox a = a := by
  rw [inbox_same] at h ⊢
  rw [first_slash] at h
  exact h
theorem levels_pre (a b : List UInt8) (h : (wire (a ++ 47 :: b)).2 = 0) : (wire a).2 = 0 := by
  obtain ⟨h1, h2, h3, _⟩ := wire_ok _ h
  obtain ⟨rs, hs, he⟩ := enc_valid _ h2
  obtain ⟨ra, rb, e1, e2, e3⟩ := enc_split rs hs a 47 b he.symm (by decide)
  have hra : ∀ r ∈ ra, sc r := fun r hr => hs r (by rw [e1]; simp [hr])
  rw [he, isName_enc rs hs, Bool.and_eq_true] at h3
  have hn := ng_pre ra rb 1 0 (by rw [← show (47 : UInt8).toNat = 47 from rfl, ← e1]; exact h3.2)
  have hi : withInbox a = a := inbox_pre a b (by rw [he]; simpa using h3.1)
  have h4 : isName a = true := by
    rw [← e2, isName_enc ra hra, hn, e2, hi]; simp
  have h5 : Lib.validD a = true := by rw [← e2]; exact valid_enc ra hra
  rw [wire_of a (by simp at h1; omega) h5 h4]
theorem levels_join (a b : List UInt8) (ha : (wire a).2 = 0) (hb : (wire b).2 = 0) (h : (wire (a ++ 47 :: b)).2 = 0) : (wire (a ++ 47 :: b)).1 = (wire a).1 ++ 47 :: (wire b).1 := by
  obtain ⟨_, a2, _, a4⟩ := wire_ok _ ha
  obtain ⟨_, b2, _, b4⟩ := wire_ok _ hb
  obtain ⟨_, _, _, c4⟩ := wire_ok _ h
  obtain ⟨ra, hra, rfl⟩ := enc_valid _ a2
  obtain ⟨rb, hrb, rfl⟩ := enc_valid _ b2
  have e : encL ra ++ 47 :: encL rb = encL (ra ++ 47 :: rb) := by rw [encL_append, encL_cons]; rfl
  have hs : ∀ r ∈ ra ++ 47 :: rb, sc r := by
    intro r hr
    rcases List.mem_append.1 hr with hr | hr
    · exact hra r hr
    · rcases List.mem_cons.1 hr with rfl | hr
      · exact .inl (by decide)
      · exact hrb r hr
  rw [a4, b4, c4, e, writeName_enc _ hra, writeName_enc _ hrb, writeName_enc _ hs, wn_slash]
/-- A level of small letters, x ahead. -/
theorem level_wire (l : List UInt8) (h : ∀ c ∈ l, 97 ≤ c.toNat ∧ c.toNat ≤ 122) (hl : l.length ≤ 20) : wire (120 :: l) = (120 :: l, 0) := by
  have hall : ∀ c ∈ (120 : UInt8) :: l, 97 ≤ c.toNat ∧ c.toNat ≤ 122 := by
    intro c hc
    rcases List.mem_cons.1 hc with rfl | hc
    · decide
    · exact h c hc
  have hlen : ((120 : UInt8) :: l).length ≤ 21 := by simp; omega
  have h0 : ((120 : UInt8) :: l).length ≥ 1 := by simp
  have hfi : withInbox (120 :: l) = 120 :: l := by
    rw [inbox_same]
    intro hs
    exfalso
    have h' : lower (first (120 :: l)) = lower inboxL := by simpa [same] using hs
    rw [first_eq, List.takeWhile_cons, if_pos (by decide)] at h'
    simp [lower, inboxL] at h'
    exact absurd h'.1 (by decide)
  generalize (120 : UInt8) :: l = m at *
  have he : m = encL (m.map UInt8.toNat) := by
    clear hfi hlen h0
    induction m with
    | nil => rfl
    | cons c r ih =>
      rw [List.map_cons, encL_cons, en1 _ (by have := hall c (by simp); omega), ← ih (fun x hx => hall x (by simp [hx]))]
      simp
  have hs : ∀ r ∈ m.map UInt8.toNat, sc r := by
    intro r hr
    obtain ⟨c, hc, rfl⟩ := List.mem_map.1 hr
    have := hall c hc
    exact .inl (by omega)
  have hn : ∀ (q : List UInt8) (n : Nat), (∀ c ∈ q, 97 ≤ c.toNat ∧ c.toNat ≤ 122) → 1 ≤ n + q.length → n + q.length ≤ 32 → ng (q.map UInt8.toNat) 1 n = true := by
    intro q
    induction q with
    | nil => intro n _ h1 h2; simp at h1 h2; simp [ng, fitsI]; omega
    | cons c r ih =>
      intro n hq h1 h2
      have hc := hq c (by simp)
      rw [List.map_cons, ng, if_neg (by omega), en1 _ (by omega)]
      have := ih (n + 1) (fun x hx => hq x (by simp [hx])) (by simp at h1; omega) (by simp at h2; omega)
      rw [Bool.and_eq_true]
      refine ⟨?_, this⟩
      unfold badR; simp; omega
  have hw : writeName m = m := by
    rw [he, writeName_enc _ hs, ← he]
    have := wn_plain (m.map UInt8.toNat) [] (by
      intro r hr
      obtain ⟨c, hc, rfl⟩ := List.mem_map.1 hr
      have := hall c hc
      exact ⟨⟨by omega, by omega⟩, by omega⟩)
    rw [List.append_nil] at this
    rw [this, List.map_map]
    have e3 : (UInt8.ofNat ∘ UInt8.toNat) = id := by funext c; simp
    rw [e3]
    simp [wn, runS]
  have h3 : isName m = true := by
    have e2 : isName m = isName (encL (m.map UInt8.toNat)) := by rw [← he]
    rw [e2, isName_enc _ hs, ← he, hfi, hn m 0 hall (by omega) (by omega)]
    simp
  have h2 : Lib.validD m = true := by rw [he]; exact valid_enc _ hs
  rw [wire_of m (by omega) h2 h3, hw]
theorem runS_len (acc : List Nat) : (runS acc).length ≤ 11 * acc.length := by
  unfold runS
  split
  · simp
  · rename_i h
    have h1 : 1 ≤ acc.length := by cases acc with | nil => exact absurd rfl h | cons a b => simp
    have h2 := pk_len_le (acc.flatMap pairOf) nameL
    have h3 : (acc.flatMap pairOf).length ≤ 4 * acc.length := by
      clear h h1 h2
      induction acc with
      | nil => simp
      | cons r rs ih => rw [List.flatMap_cons, List.length_append, List.length_cons]; have := pairOf_len r; omega
    simp only [List.length_cons, List.length_append, List.length_nil]
    omega
theorem wn_len : ∀ (rs acc : List Nat), (wn rs acc).length ≤ 11 * acc.length + 13 * rs.length := by
  intro rs
  induction rs with
  | nil => intro acc; rw [wn]; have := runS_len acc; simp; omega
  | cons r rs ih =>
    intro acc
    rw [wn]
    split
    · have h1 := runS_len acc
      have h2 := ih []
      have h3 : (if r = 38 then ([45] : List UInt8) else []).length ≤ 1 := by split <;> simp
      simp only [List.length_append, List.length_cons, List.length_nil] at h2 ⊢
      omega
    · have := ih (acc ++ [r])
      simp only [List.length_append, List.length_cons, List.length_nil] at this ⊢
      omega
theorem encL_len (rs : List Nat) : rs.length ≤ (encL rs).length := by
  induction rs with
  | nil => simp
  | cons r rs ih => rw [encL_cons, List.length_append, List.length_cons]; have := en_len r; omega
theorem wire_len (l : List UInt8) : (wire l).1.length ≤ 3000 := by
  by_cases h : (wire l).2 = 0
  · obtain ⟨h1, h2, _, h4⟩ := wire_ok l h
    obtain ⟨rs, hs, rfl⟩ := enc_valid l h2
    rw [h4, writeName_enc rs hs]
    have := wn_len rs []
    have := encL_len rs
    simp at *
    omega
  · rw [wire_bad l h]; simp
end Go.Proofs.YtclegocofiigiabDoor
