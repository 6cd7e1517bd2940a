/- Plain mathematics: names as rows of scalars. -/
import Derived.Test.YtclegocofiigiabDoorNs
namespace Go.Proofs.YtclegocofiigiabDoor

def prN (r : Nat) : Prop := 32 ≤ r ∧ r ≤ 126
instance (r : Nat) : Decidable (prN r) := inferInstanceAs (Decidable (_ ∧ _))
def runS (acc : List Nat) : List UInt8 := if acc = [] then [] else 38 :: (pack (acc.flatMap pairOf) nameL ++ [45])
def wn : List Nat → List Nat → List UInt8
  | [], acc => runS acc
  | r :: rs, acc => if prN r then runS acc ++ ([UInt8.ofNat r] ++ ((if r = 38 then [45] else []) ++ wn rs [])) else wn rs (acc ++ [r])
theorem pairs_pos (rs : List Nat) : ∀ p, (pos p rs).flatMap (fun x => pairOf x.2) = rs.flatMap pairOf := by
  induction rs with
  | nil => intro p; rfl
  | cons r rs ih => intro p; rw [pos, List.flatMap_cons, List.flatMap_cons, ih]
theorem encL_eq_nil (acc : List Nat) : encL acc = [] ↔ acc = [] := by
  cases acc with
  | nil => simp [encL]
  | cons r rs => rw [encL_cons]; simp [en_ne]
theorem runOf_enc (acc : List Nat) (h : ∀ r ∈ acc, sc r) : runOf (encL acc) = runS acc := by
  unfold runOf runS
  by_cases ha : acc = []
  · rw [if_pos ((encL_eq_nil acc).2 ha), if_pos ha]
  · rw [if_neg (fun e => ha ((encL_eq_nil acc).1 e)), if_neg ha]
    unfold pairs
    rw [runes_enc acc h, pairs_pos]
theorem wnGo_enc : ∀ (rs : List Nat), (∀ r ∈ rs, sc r) → ∀ (pre : List UInt8) (acc : List Nat), (∀ r ∈ acc, sc r) →
    wnGo (pre ++ (encL acc ++ encL rs)) (pos (pre.length + (encL acc).length) rs) pre.length = wn rs acc := by
  intro rs
  induction rs with
  | nil =>
    intro _ pre acc ha
    rw [pos, wnGo, wn, List.drop_left]
    have : encL acc ++ encL [] = encL acc := by simp [encL]
    rw [this, runOf_enc acc ha]
  | cons r rs ih =>
    intro h pre acc ha
    have hr := h r (by simp)
    have hrs : ∀ x ∈ rs, sc x := fun x hx => h x (by simp [hx])
    rw [pos, wnGo, wn]
    by_cases hp : prN r
    · have hp' : ¬ (r < 32 ∨ 126 < r) := by unfold prN at hp; omega
      rw [if_neg hp', if_pos hp]
      have hr1 : en r = [UInt8.ofNat r] := en1 r (by unfold prN at hp; omega)
      have e1 : ((pre ++ (encL acc ++ encL (r :: rs))).drop pre.length).take (pre.length + (encL acc).length - pre.length) = encL acc := by
        rw [List.drop_left]
        have : pre.length + (encL acc).length - pre.length = (encL acc).length := by omega
        rw [this, List.take_left]
      rw [e1, runOf_enc acc ha]
      have e2 : pre ++ (encL acc ++ encL (r :: rs)) = (pre ++ encL acc ++ en r) ++ (encL [] ++ encL rs) := by
        rw [encL_cons]; simp [encL]
      have e3 : pre.length + (encL acc).length + 1 = (pre ++ encL acc ++ en r).length := by rw [hr1]; simp; omega
      have e4 : pre.length + (encL acc).length + (en r).length = (pre ++ encL acc ++ en r).length + (encL []).length := by simp [encL]; omega
      rw [e2]
      simp only
      rw [e3, e4, ih hrs (pre ++ encL acc ++ en r) [] (by simp)]
    · have hp' : (r < 32 ∨ 126 < r) := by unfold prN at hp; omega
      rw [if_pos hp', if_neg hp]
      have e2 : pre ++ (encL acc ++ encL (r :: rs)) = pre ++ (encL (acc ++ [r]) ++ encL rs) := by
        rw [encL_cons, encL_append]; simp [encL]
      have e4 : pre.length + (encL acc).length + (en r).length = pre.length + (encL (acc ++ [r])).length := by rw [encL_append]; simp [encL]; omega
      rw [e2, e4, ih hrs pre (acc ++ [r]) (by
        intro x hx
        rcases List.mem_append.1 hx with hx | hx
        · exact ha x hx
        · simp at hx; subst hx; exact hr)]
theorem writeName_enc (rs : List Nat) (h : ∀ r ∈ rs, sc r) : writeName (encL rs) = wn rs [] := by
  have := wnGo_enc rs h [] [] (by simp)
  unfold writeName
  rw [runes_enc rs h]
  simpa [encL] using this
/-- Byte by byte: an ASCII byte in a text is a character of its own. -/
theorem enc_split : ∀ (rs : List Nat), (∀ r ∈ rs, sc r) → ∀ (a : List UInt8) (c : UInt8) (b : List UInt8), encL rs = a ++ c :: b → c.toNat < 128 →
    ∃ ra rb, rs = ra ++ c.toNat :: rb ∧ encL ra = a ∧ encL rb = b := by
  intro rs
  induction rs with
  | nil => intro _ a c b h; simp [encL] at h
  | cons r rs ih =>
    intro hs a c b h hc
    rw [encL_cons] at h
    rcases en_shape r (hs r (by simp)) with ⟨h1, h2⟩ | ⟨h1, h2⟩
    · rw [h2] at h
      cases a with
      | nil =>
        simp at h
        obtain ⟨rfl, rfl⟩ := h
        refine ⟨[], rs, ?_, rfl, rfl⟩
        rw [on r (by omega)]; rfl
      | cons x a =>
        simp at h
        obtain ⟨rfl, h⟩ := h
        obtain ⟨ra, rb, e1, e2, e3⟩ := ih (fun x hx => hs x (by simp [hx])) a c b h hc
        exact ⟨r :: ra, rb, by rw [e1]; rfl, by rw [encL_cons, h2, e2]; rfl, e3⟩
    · rcases List.append_eq_append_iff.1 h with ⟨a', e1, e2⟩ | ⟨c', e1, e2⟩
      · obtain ⟨ra, rb, f1, f2, f3⟩ := ih (fun x hx => hs x (by simp [hx])) a' c b e2 hc
        exact ⟨r :: ra, rb, by rw [f1]; rfl, by rw [encL_cons, f2, e1], f3⟩
      · cases c' with
        | nil =>
          simp at e2
          obtain ⟨ra, rb, f1, f2, f3⟩ := ih (fun x hx => hs x (by simp [hx])) [] c b (by rw [← e2]; rfl) hc
          simp at e1
          exact ⟨r :: ra, rb, by rw [f1]; rfl, by rw [encL_cons, f2, e1]; simp, f3⟩
        | cons x c' =>
          simp at e2
          have := h2 x (by rw [e1]; simp)
          rw [← e2.1] at this
          omega
/-- isName on scalars: n bytes of the level so far. -/
def ng : List Nat → Nat → Nat → Bool
  | [], lv, n => decide (lv ≤ 6) && fitsI (n : Int)
  | r :: rs, lv, n => if r = 47 then fitsI (n : Int) && ng rs (lv + 1) 0 else !badR r && ng rs lv (n + (en r).length)
theorem nameGo_enc (size : Nat) : ∀ (rs : List Nat) (p lv fr n : Nat), p = fr + n → size = p + (encL rs).length → nameGo size (pos p rs) lv fr = ng rs lv n := by
  intro rs
  induction rs with
  | nil =>
    intro p lv fr n h1 h2
    rw [pos, nameGo, ng]
    have e : (size : Int) - (fr : Int) = (n : Int) := by simp [encL] at h2; omega
    rw [e]
  | cons r rs ih =>
    intro p lv fr n h1 h2
    rw [pos, nameGo, ng]
    rw [encL_cons, List.length_append] at h2
    simp only
    by_cases h47 : r = 47
    · rw [if_pos h47, if_pos h47]
      have hl : (en r).length = 1 := by rw [h47]; rfl
      have e : (p : Int) - (fr : Int) = (n : Int) := by omega
      rw [e, ih (p + (en r).length) (lv + 1) (p + 1) 0 (by omega) (by omega)]
    · rw [if_neg h47, if_neg h47, ih (p + (en r).length) lv fr (n + (en r).length) (by omega) (by omega)]
theorem isName_enc (rs : List Nat) (h : ∀ r ∈ rs, sc r) : isName (encL rs) = ((withInbox (encL rs) == encL rs) && ng rs 1 0) := by
  unfold isName
  rw [runes_enc rs h, nameGo_enc (encL rs).length rs 0 1 0 0 rfl (by omega)]
theorem ng_lv : ∀ (rs : List Nat) (lv n : Nat), ng rs lv n = true → lv ≤ 6 := by
  intro rs
  induction rs with
  | nil => intro lv n h; rw [ng] at h; simp at h; exact h.1
  | cons r rs ih =>
    intro lv n h
    rw [ng] at h
    split at h
    · simp at h; have := ih _ _ h.2; omega
    · simp at h; exact ih _ _ h.2
theorem ng_pre : ∀ (ra : List Nat) (rb : List Nat) (lv n : Nat), ng (ra ++ 47 :: rb) lv n = true → ng ra lv n = true := by
  intro ra
  induction ra with
  | nil =>
    intro rb lv n h
    rw [List.nil_append, ng, if_pos rfl, Bool.and_eq_true] at h
    have := ng_lv _ _ _ h.2
    rw [ng, h.1]
    simp; omega
  | cons r ra ih =>
    intro rb lv n h
    rw [List.cons_append, ng] at h
    rw [ng]
    split at h
    · rename_i h47
      rw [if_pos h47]
      rw [Bool.and_eq_true] at h ⊢
      exact ⟨h.1, ih _ _ _ h.2⟩
    · rename_i h47
      rw [if_neg h47]
      rw [Bool.and_eq_true] at h ⊢
      exact ⟨h.1, ih _ _ _ h.2⟩
theorem ng_bytes : ∀ (rs : List Nat) (lv n : Nat), ng rs lv n = true → n + (encL rs).length ≤ (6 - lv) * 33 + 32 := by
  intro rs
  induction rs with
  | nil =>
    intro lv n h
    rw [ng] at h
    simp [fitsI] at h
    simp [encL]; omega
  | cons r rs ih =>
    intro lv n h
    rw [ng] at h
    rw [encL_cons, List.length_append]
    split at h
    · rename_i h47
      have hl : (en r).length = 1 := by rw [h47]; rfl
      rw [Bool.and_eq_true] at h
      have h1 := ih _ _ h.2
      have h2 := ng_lv _ _ _ h.2
      have h3 := h.1
      simp [fitsI] at h3
      omega
    · rw [Bool.and_eq_true] at h
      have := ih _ _ h.2
      omega
theorem wn_slash : ∀ (ra : List Nat) (rb acc : List Nat), wn (ra ++ 47 :: rb) acc = wn ra acc ++ 47 :: wn rb [] := by
  intro ra
  induction ra with
  | nil =>
    intro rb acc
    rw [List.nil_append, wn, wn, if_pos (by decide), if_neg (by decide)]
    simp
  | cons r ra ih =>
    intro rb acc
    rw [List.cons_append, wn, wn]
    split
    · rw [ih]; simp
    · rw [ih]
/-- Plain letters go as they are. -/
theorem wn_plain : ∀ (f : List Nat) (rs : List Nat), (∀ r ∈ f, prN r ∧ r ≠ 38) → wn (f ++ rs) [] = f.map UInt8.ofNat ++ wn rs [] := by
  intro f
  induction f with
  | nil => intro rs _; rfl
  | cons r f ih =>
    intro rs h
    obtain ⟨h1, h2⟩ := h r (by simp)
    rw [List.cons_append, wn, if_pos h1, if_neg h2, ih rs (fun x hx => h x (by simp [hx]))]
    simp [runS]
end Go.Proofs.YtclegocofiigiabDoor
