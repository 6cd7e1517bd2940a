/- Plain mathematics: base64 there and back. -/
import Derived.Test.YtclegocofiigiabDoorPf
namespace Go.Proofs.YtclegocofiigiabDoor
open Go.RowKit

def upF (t : List UInt8) (st : List UInt8 × Nat × Nat) (l : List UInt8) : List UInt8 × Nat × Nat := l.foldl (fun st c => upStep st (worthOf t c.toNat)) st
theorem unpack_upF (l t : List UInt8) : unpack l t = (upF t ([], 0, 0) l).1 := by
  unfold unpack upTo upF; rw [List.take_length]
theorem upF_append (t : List UInt8) (st : List UInt8 × Nat × Nat) (a b : List UInt8) : upF t st (a ++ b) = upF t (upF t st a) b := by
  unfold upF; rw [List.foldl_append]
theorem upF_filter (t : List UInt8) (l : List UInt8) : ∀ st, upF t st l = upF t st (l.filter fun c => decide (0 ≤ worthOf t c.toNat)) := by
  induction l with
  | nil => intro st; rfl
  | cons c r ih =>
    intro st
    show upF t (upStep st (worthOf t c.toNat)) r = _
    rw [List.filter_cons]
    by_cases h : 0 ≤ worthOf t c.toNat
    · rw [if_pos (by simpa using h), ih]; rfl
    · rw [if_neg (by simpa using h), ih]
      have : upStep st (worthOf t c.toNat) = st := by unfold upStep; rw [if_pos (by omega)]
      rw [this]
/-- An alphabet of 64 letters, each worth its place. -/
def okLetters (t : List UInt8) : Prop := ∀ i, i < 64 → worthOf t (bt t i).toNat = (i : Int)
theorem mail_ok : okLetters mailL := by
  have : ∀ i : Fin 64, worthOf mailL (bt mailL i.val).toNat = (i.val : Int) := by decide +kernel
  exact fun i hi => this ⟨i, hi⟩

/-- What the writer holds back, and what the reader has of it. -/
def Rel (l : List UInt8) (p : List Nat × Nat × Nat) (u : List UInt8 × Nat × Nat) : Prop :=
  (p.2.1 = 0 ∧ u = (l, 0, 0)) ∨ (p.2.1 = 2 ∧ ∃ l' c bu, l = l' ++ [c] ∧ u = (l', 6, bu) ∧ bu * 4 + p.2.2 = c.toNat ∧ p.2.2 < 4) ∨
  (p.2.1 = 4 ∧ ∃ l' c bu, l = l' ++ [c] ∧ u = (l', 4, bu) ∧ bu * 16 + p.2.2 = c.toNat ∧ p.2.2 < 16)
theorem six_lt (st : List Nat × Nat × Nat) (h : okSt st) (c : UInt8) (hs : ∀ x ∈ st.1, x < 64) : ∀ x ∈ (pkStep st c).1, x < 64 := by
  obtain ⟨o, k, b⟩ := st
  have hc := c.toNat_lt
  unfold okSt at h
  unfold pkStep
  simp only at h hs ⊢
  rcases h with ⟨rfl | rfl | rfl, hb⟩
  all_goals
    intro x hx
    simp at hx
    rcases hx with hx | hx
    · exact hs x hx
    · simp at hb; omega
theorem upS (t : List UInt8) (ht : okLetters t) (u : List UInt8 × Nat × Nat) (i : Nat) (hi : i < 64) : upF t u [bt t i] = upStep u (i : Int) := by
  show upStep u (worthOf t (bt t i).toNat) = _
  rw [ht i hi]
theorem ofNat_toNat (c : UInt8) (n : Nat) (h : n = c.toNat) : UInt8.ofNat n = c := by subst h; simp
theorem rel_step (t : List UInt8) (ht : okLetters t) (l : List UInt8) (p : List Nat × Nat × Nat) (hok : okSt p) (u : List UInt8 × Nat × Nat) (h : Rel l p u) (c : UInt8) :
    ∃ new, (pkStep p c).1 = p.1 ++ new ∧ Rel (l ++ [c]) (pkStep p c) (upF t u (new.map (bt t))) := by
  obtain ⟨o, k, b⟩ := p
  have hc := c.toNat_lt
  have hb := hok.2
  rcases h with ⟨hk, rfl⟩ | ⟨hk, l', d, bu, rfl, rfl, he, hb4⟩ | ⟨hk, l', d, bu, rfl, rfl, he, hb16⟩
  · simp only at hk hb
    subst hk
    simp at hb
    subst hb
    refine ⟨[c.toNat / 4], by simp [pkStep], ?_⟩
    rw [List.map_cons, List.map_nil, upS t ht _ _ (by omega)]
    right; left
    refine ⟨by simp [pkStep], l, c, c.toNat / 4, rfl, ?_, ?_, ?_⟩
    · unfold upStep; rw [if_neg (by omega)]; simp; omega
    · simp [pkStep]; omega
    · simp [pkStep]; omega
  · simp only at hk hb he hb4
    subst hk
    have hd := d.toNat_lt
    refine ⟨[(b * 256 + c.toNat) / 16], by simp [pkStep], ?_⟩
    rw [List.map_cons, List.map_nil, upS t ht _ _ (by omega)]
    right; right
    refine ⟨by simp [pkStep], l' ++ [d], c, c.toNat / 16, rfl, ?_, ?_, ?_⟩
    · unfold upStep
      rw [if_neg (by omega), if_pos (by simp)]
      have e1 : (bu * 64 + ((((b * 256 + c.toNat) / 16 : Nat)) : Int).toNat) / 2 ^ (6 - 2) = d.toNat := by simp; omega
      have e2 : (bu * 64 + ((((b * 256 + c.toNat) / 16 : Nat)) : Int).toNat) % 2 ^ (6 - 2) = c.toNat / 16 := by simp; omega
      simp only [e1, e2, ofNat_toNat d _ rfl]
    · simp [pkStep]; omega
    · simp [pkStep]; omega
  · simp only at hk hb he hb16
    subst hk
    have hd := d.toNat_lt
    refine ⟨[(b * 256 + c.toNat) / 64, (b * 256 + c.toNat) % 64], by simp [pkStep], ?_⟩
    rw [List.map_cons, List.map_cons, List.map_nil]
    rw [show [bt t ((b * 256 + c.toNat) / 64), bt t ((b * 256 + c.toNat) % 64)] = [bt t ((b * 256 + c.toNat) / 64)] ++ [bt t ((b * 256 + c.toNat) % 64)] from rfl]
    rw [upF_append, upS t ht _ _ (by omega), upS t ht _ _ (by omega)]
    left
    refine ⟨by simp [pkStep], ?_⟩
    have e1 : (bu * 64 + ((((b * 256 + c.toNat) / 64 : Nat)) : Int).toNat) / 2 ^ (4 - 2) = d.toNat := by simp; omega
    have e2 : (bu * 64 + ((((b * 256 + c.toNat) / 64 : Nat)) : Int).toNat) % 2 ^ (4 - 2) = c.toNat / 64 := by simp; omega
    have s1 : upStep (l', 4, bu) (((b * 256 + c.toNat) / 64 : Nat) : Int) = (l' ++ [d], 2, c.toNat / 64) := by
      unfold upStep
      rw [if_neg (by omega), if_pos (by simp)]
      simp only [e1, e2, ofNat_toNat d _ rfl]
    rw [s1]
    have e3 : (c.toNat / 64 * 64 + ((((b * 256 + c.toNat) % 64 : Nat)) : Int).toNat) / 2 ^ (2 - 2) = c.toNat := by simp; omega
    have e4 : (c.toNat / 64 * 64 + ((((b * 256 + c.toNat) % 64 : Nat)) : Int).toNat) % 2 ^ (2 - 2) = 0 := by simp; omega
    unfold upStep
    rw [if_neg (by omega), if_pos (by simp)]
    simp only [e3, e4, ofNat_toNat c _ rfl]
theorem rel_fold (t : List UInt8) (ht : okLetters t) (l : List UInt8) : Rel l (l.foldl pkStep ([], 0, 0)) (upF t ([], 0, 0) ((l.foldl pkStep ([], 0, 0)).1.map (bt t))) := by
  have gen : ∀ n, ∀ l : List UInt8, l.length = n → Rel l (l.foldl pkStep ([], 0, 0)) (upF t ([], 0, 0) ((l.foldl pkStep ([], 0, 0)).1.map (bt t))) := by
    intro n
    induction n with
    | zero =>
      intro l hl
      have : l = [] := List.eq_nil_of_length_eq_zero hl
      subst this
      exact .inl ⟨rfl, rfl⟩
    | succ n ih =>
      intro l hl
      obtain ⟨r, c, rfl⟩ : ∃ r c, l = r ++ [c] := ⟨l.dropLast, l.getLast (by intro h; simp [h] at hl), (List.dropLast_concat_getLast _).symm⟩
      have hr := ih r (by simp at hl; exact hl)
      rw [List.foldl_append, List.foldl_cons, List.foldl_nil]
      obtain ⟨new, h1, h2⟩ := rel_step t ht r _ (okSt_fold r _ ⟨.inl rfl, by simp⟩) _ hr c
      rw [h1, List.map_append, upF_append]
      exact h2
  exact gen _ l rfl
theorem pack_back (t : List UInt8) (ht : okLetters t) (l : List UInt8) : unpack (pack l t) t = l := by
  rw [unpack_upF]
  unfold pack pkSix pkTo
  rw [List.take_length]
  have h := rel_fold t ht l
  generalize l.foldl pkStep ([], 0, 0) = p at *
  obtain ⟨o, k, b⟩ := p
  unfold pkEnd
  rcases h with ⟨hk, hu⟩ | ⟨hk, l', d, bu, rfl, hu, he, hb⟩ | ⟨hk, l', d, bu, rfl, hu, he, hb⟩
  · simp only at hk hu
    subst hk
    rw [if_pos rfl]
    simp only
    rw [hu]
  · simp only at hk hu he hb
    subst hk
    rw [if_neg (by simp)]
    simp only
    rw [List.map_append, upF_append, hu, List.map_cons, List.map_nil, upS t ht _ _ (by simp; omega)]
    have hd := d.toNat_lt
    unfold upStep
    rw [if_neg (by omega), if_pos (by simp)]
    have e1 : (bu * 64 + ((((b * 2 ^ (6 - 2) : Nat)) : Int)).toNat) / 2 ^ (6 - 2) = d.toNat := by simp; omega
    simp only [e1, ofNat_toNat d _ rfl]
  · simp only at hk hu he hb
    subst hk
    rw [if_neg (by simp)]
    simp only
    rw [List.map_append, upF_append, hu, List.map_cons, List.map_nil, upS t ht _ _ (by simp; omega)]
    have hd := d.toNat_lt
    unfold upStep
    rw [if_neg (by omega), if_pos (by simp)]
    have e1 : (bu * 64 + ((((b * 2 ^ (6 - 4) : Nat)) : Int)).toNat) / 2 ^ (4 - 2) = d.toNat := by simp; omega
    simp only [e1, ofNat_toNat d _ rfl]

theorem six_lt64 (l : List UInt8) : ∀ x ∈ pkSix l, x < 64 := by
  unfold pkSix pkTo
  rw [List.take_length]
  have gen : ∀ (m : List UInt8) st, okSt st → (∀ x ∈ st.1, x < 64) → (∀ x ∈ (m.foldl pkStep st).1, x < 64) := by
    intro m
    induction m with
    | nil => intro st _ h; exact h
    | cons c r ih => intro st ho h; exact ih _ (okSt_step st c ho) (six_lt st ho c h)
  have h1 := gen l ([], 0, 0) ⟨.inl rfl, by simp⟩ (by simp)
  have h2 := okSt_fold l ([], 0, 0) ⟨.inl rfl, by simp⟩
  generalize l.foldl pkStep ([], 0, 0) = p at *
  obtain ⟨o, k, b⟩ := p
  unfold okSt at h2
  unfold pkEnd
  simp only at h1 h2 ⊢
  intro x hx
  rcases h2 with ⟨rfl | rfl | rfl, hb⟩ <;> simp at hx hb
  · exact h1 x hx
  · rcases hx with hx | hx
    · exact h1 x hx
    · omega
  · rcases hx with hx | hx
    · exact h1 x hx
    · omega
theorem pack_mem (l t : List UInt8) : ∀ c ∈ pack l t, ∃ i, i < 64 ∧ c = bt t i := by
  intro c hc
  unfold pack at hc
  obtain ⟨i, hi, rfl⟩ := List.mem_map.1 hc
  exact ⟨i, six_lt64 l i hi, rfl⟩
theorem mail_ne : ∀ i, i < 64 → bt mailL i ≠ 61 := by
  have : ∀ i : Fin 64, bt mailL i.val ≠ 61 := by decide +kernel
  exact fun i hi => this ⟨i, hi⟩

theorem cut_take (l : List UInt8) (c : UInt8) : (Lib.cut l [c]).1 = l.takeWhile (· != c) := by
  unfold Lib.cut
  have key : ∀ l : List UInt8, (if 0 ≤ Lib.index l [c] then l.take (Lib.index l [c]).toNat else l) = l.takeWhile (· != c) ∧ -1 ≤ Lib.index l [c] := by
    intro l
    induction l with
    | nil => simp [Lib.index]
    | cons b r ih =>
      rw [Lib.index, List.takeWhile_cons]
      by_cases h : b = c
      · subst h
        simp
      · have hp : [c].isPrefixOf (b :: r) = false := by
          simp only [List.isPrefixOf, Bool.and_true]
          simpa using fun e => h e.symm
        simp only [hp, Bool.false_eq_true, if_false]
        have hb : (b != c) = true := by simpa using h
        rw [hb, if_pos rfl]
        obtain ⟨h1, h2⟩ := ih
        generalize Lib.index r [c] = i at *
        by_cases hm : i = -1
        · subst hm
          rw [if_neg (by decide)] at h1
          simp only [beq_self_eq_true, if_true]
          rw [if_neg (by decide), ← h1]
          exact ⟨rfl, by decide⟩
        · have hbq : (i == -1) = false := by simpa using hm
          rw [if_pos (by omega)] at h1
          simp only [hbq, Bool.false_eq_true, if_false]
          rw [if_pos (by omega), ← h1]
          have : (i + 1).toNat = i.toNat + 1 := by omega
          rw [this, List.take_succ_cons]
          exact ⟨rfl, by omega⟩
  have := (key l).1
  split
  · rename_i h; rw [if_pos h] at this; exact this
  · rename_i h; rw [if_neg h] at this; exact this
theorem takeWhile_pad (p : List UInt8) (n : Nat) (hp : ∀ c ∈ p, c ≠ 61) : (p ++ List.replicate n 61).takeWhile (· != 61) = p := by
  induction p with
  | nil => cases n <;> simp [List.replicate_succ]
  | cons c r ih =>
    rw [List.cons_append, List.takeWhile_cons]
    have : (c != 61) = true := by simpa using hp c (by simp)
    rw [this, if_pos rfl, ih (fun d hd => hp d (by simp [hd]))]
theorem loose_base (l : List UInt8) : loose64 (base64 l) = l := by
  unfold loose64 base64
  rw [cut_take, takeWhile_pad _ _ (fun c hc => by obtain ⟨i, hi, rfl⟩ := pack_mem l mailL c hc; exact mail_ne i hi)]
  exact pack_back mailL mail_ok l
theorem from_base (l : List UInt8) : fromBase64 (base64 l) = (l, 0) := by
  unfold fromBase64; rw [loose_base, if_pos rfl]
theorem loose_eq (l : List UInt8) : loose64 l = (upF mailL ([], 0, 0) ((l.takeWhile (· != 61)).filter fun c => decide (0 ≤ worthOf mailL c.toNat))).1 := by
  unfold loose64; rw [cut_take, unpack_upF, upF_filter]
theorem gap_filter (x y : List UInt8) : ((x ++ [13, 10, 32] ++ y).takeWhile (· != 61)).filter (fun c => decide (0 ≤ worthOf mailL c.toNat)) = ((x ++ y).takeWhile (· != 61)).filter (fun c => decide (0 ≤ worthOf mailL c.toNat)) := by
  have w1 : decide (0 ≤ worthOf mailL (13 : UInt8).toNat) = false := by decide +kernel
  have w2 : decide (0 ≤ worthOf mailL (10 : UInt8).toNat) = false := by decide +kernel
  have w3 : decide (0 ≤ worthOf mailL (32 : UInt8).toNat) = false := by decide +kernel
  induction x with
  | nil =>
    show ((13 :: 10 :: 32 :: y).takeWhile (· != 61)).filter (fun c => decide (0 ≤ worthOf mailL c.toNat)) = _
    rw [List.takeWhile_cons, if_pos (by decide), List.takeWhile_cons, if_pos (by decide), List.takeWhile_cons, if_pos (by decide)]
    rw [List.filter_cons, if_neg (by rw [w1]; decide), List.filter_cons, if_neg (by rw [w2]; decide), List.filter_cons, if_neg (by rw [w3]; decide)]
    rfl
  | cons c r ih =>
    rw [List.cons_append, List.cons_append, List.cons_append, List.takeWhile_cons, List.takeWhile_cons]
    by_cases h : (c != 61) = true
    · rw [if_pos h, if_pos h, List.filter_cons, List.filter_cons, ih]
    · rw [if_neg h, if_neg h]
theorem loose_gap (x y : List UInt8) : loose64 (x ++ [13, 10, 32] ++ y) = loose64 (x ++ y) := by
  rw [loose_eq, loose_eq, gap_filter]
theorem six_count (l : List UInt8) : 6 * (pkTo l l.length).1.length + (pkTo l l.length).2.1 = 8 * l.length := by
  unfold pkTo
  rw [List.take_length]
  have gen : ∀ (m : List UInt8) st, okSt st → 6 * (m.foldl pkStep st).1.length + (m.foldl pkStep st).2.1 = 6 * st.1.length + st.2.1 + 8 * m.length := by
    intro m
    induction m with
    | nil => intro st _; simp
    | cons c r ih =>
      intro st ho
      rw [List.foldl_cons, ih _ (okSt_step st c ho)]
      obtain ⟨o, k, b⟩ := st
      unfold okSt at ho
      simp only at ho
      rcases ho with ⟨rfl | rfl | rfl, _⟩ <;> simp [pkStep] <;> omega
  have := gen l ([], 0, 0) ⟨.inl rfl, by simp⟩
  simpa using this
theorem base_len (l : List UInt8) : (base64 l).length = (l.length + 2) / 3 * 4 := by
  have h := six_count l
  have ho := okSt_to l l.length
  have hl : (pack l mailL).length = (pkSix l).length := by simp [pack]
  have hs : (pkSix l).length = (pkTo l l.length).1.length + (if (pkTo l l.length).2.1 = 0 then 0 else 1) := by
    unfold pkSix pkEnd; split <;> simp
  unfold base64
  rw [List.length_append, List.length_replicate, hl, hs]
  unfold padN
  rcases ho.1 with e | e | e <;> rw [e] at h ⊢ <;> simp <;> omega
theorem from_either (l : List UInt8) : (fromBase64 l = ([], 10)) ∨ ((fromBase64 l).2 = 0 ∧ base64 (fromBase64 l).1 = l) := by
  unfold fromBase64
  by_cases h : base64 (loose64 l) = l
  · rw [if_pos h]; exact .inr ⟨rfl, h⟩
  · rw [if_neg h]; exact .inl rfl
end Go.Proofs.YtclegocofiigiabDoor
