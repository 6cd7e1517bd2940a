/- Plain mathematics: base64 counted out in bits. -/
import Derived.Test.YtclegocofiigiabDoorBk
namespace Go.Proofs.YtclegocofiigiabDoor

def bN : Nat → Nat → List Nat
  | 0, _ => []
  | n + 1, x => x / 2 ^ n % 2 :: bN n x
theorem bN_length (n x : Nat) : (bN n x).length = n := by
  induction n with
  | zero => rfl
  | succ n ih => rw [bN, List.length_cons, ih]
def bitsF (l : List UInt8) : List Nat := l.flatMap fun c => bN 8 c.toNat
def valA (l : List Nat) (a : Nat) : Nat → Nat
  | 0 => 0
  | n + 1 => 2 * valA l a n + l[a + n]?.getD 0
theorem valA_right (x y : List Nat) (a n : Nat) : valA (x ++ y) (x.length + a) n = valA y a n := by
  induction n with
  | zero => rfl
  | succ n ih =>
    rw [valA, valA, ih, List.getElem?_append_right (by omega)]
    have : x.length + a + n - x.length = a + n := by omega
    rw [this]
theorem valA_zeros (x : List Nat) (m a n : Nat) : valA (x ++ List.replicate m 0) a n = valA x a n := by
  induction n with
  | zero => rfl
  | succ n ih =>
    rw [valA, valA, ih]
    congr 1
    rcases Nat.lt_or_ge (a + n) x.length with h | h
    · rw [List.getElem?_append_left h]
    · rw [List.getElem?_append_right h, List.getElem?_eq_none h, List.getElem?_replicate]
      split <;> rfl
theorem val6 (x : Nat) (hx : x < 64) (r : List Nat) : valA (bN 6 x ++ r) 0 6 = x := by
  simp [valA, bN]; omega
theorem val8 (x : Nat) (hx : x < 256) (r : List Nat) : valA (bN 8 x ++ r) 0 8 = x := by
  simp [valA, bN]; omega
theorem chunk (n : Nat) (hn : ∀ x, x < 2 ^ n → ∀ r, valA (bN n x ++ r) 0 n = x) (X Z : List Nat) (hX : ∀ x ∈ X, x < 2 ^ n) : ∀ j (h : j < X.length), valA (X.flatMap (bN n) ++ Z) (n * j) n = X[j] := by
  induction X with
  | nil => intro j h; exact absurd h (by simp)
  | cons x r ih =>
    intro j h
    rw [List.flatMap_cons, List.append_assoc]
    cases j with
    | zero => exact hn x (hX x (by simp)) _
    | succ j =>
      have : n * (j + 1) = (bN n x).length + n * j := by rw [bN_length, Nat.mul_succ]; omega
      rw [this, valA_right, ih (fun y hy => hX y (by simp [hy])) j (by simpa using h)]
      rfl
theorem pk_bits (st : List Nat × Nat × Nat) (c : UInt8) (h : okSt st) :
    (pkStep st c).1.flatMap (bN 6) ++ bN (pkStep st c).2.1 (pkStep st c).2.2 = st.1.flatMap (bN 6) ++ bN st.2.1 st.2.2 ++ bN 8 c.toNat := by
  obtain ⟨o, h', b⟩ := st
  unfold okSt at h
  have := c.toNat_lt
  simp only at h
  rcases h with ⟨rfl | rfl | rfl, hb⟩
  · simp [pkStep, bN]; omega
  · simp [pkStep, bN]; omega
  · simp [pkStep, bN]; omega
theorem pk_fold (l : List UInt8) : ∀ st, okSt st → (l.foldl pkStep st).1.flatMap (bN 6) ++ bN (l.foldl pkStep st).2.1 (l.foldl pkStep st).2.2 = st.1.flatMap (bN 6) ++ bN st.2.1 st.2.2 ++ bitsF l := by
  induction l with
  | nil => intro st _; simp [bitsF]
  | cons c r ih =>
    intro st h
    rw [List.foldl_cons, ih _ (okSt_step st c h), pk_bits st c h]
    simp [bitsF]
theorem bitsF_length (l : List UInt8) : (bitsF l).length = 8 * l.length := by
  induction l with
  | nil => rfl
  | cons c r ih =>
    have : bitsF (c :: r) = bN 8 c.toNat ++ bitsF r := rfl
    rw [this, List.length_append, ih, bN_length, List.length_cons]; omega
theorem six_bits (l : List UInt8) : ∃ z, z < 6 ∧ (pkSix l).flatMap (bN 6) = bitsF l ++ List.replicate z 0 := by
  have h := pk_fold l ([], 0, 0) ⟨.inl rfl, by simp⟩
  have hok := okSt_to l l.length
  have e : pkTo l l.length = l.foldl pkStep ([], 0, 0) := by unfold pkTo; rw [List.take_length]
  unfold pkSix
  rw [e] at hok ⊢
  generalize l.foldl pkStep ([], 0, 0) = st at *
  obtain ⟨o, h', b⟩ := st
  simp [bN] at h
  obtain ⟨hh, hb⟩ := hok
  simp only at hh hb
  unfold pkEnd
  simp only
  rcases hh with rfl | rfl | rfl
  · exact ⟨0, by omega, by simpa [bN] using h⟩
  · refine ⟨4, by omega, ?_⟩
    rw [← h]
    simp [bN]; omega
  · refine ⟨2, by omega, ?_⟩
    rw [← h]
    simp [bN]; omega
theorem fm_len (n : Nat) (X : List Nat) : (X.flatMap (bN n)).length = n * X.length := by
  induction X with
  | nil => rfl
  | cons x r ih => rw [List.flatMap_cons, List.length_append, ih, bN_length, List.length_cons, Nat.mul_succ]; omega
/-- How many, and which. -/
theorem six_at (l : List UInt8) : (∀ j (h : j < (pkSix l).length), valA (bitsF l) (6 * j) 6 = (pkSix l)[j]) ∧ (∀ j, 6 * j < (bitsF l).length ↔ j < (pkSix l).length) := by
  obtain ⟨z, hz, h⟩ := six_bits l
  refine ⟨fun j hj => ?_, fun j => ?_⟩
  · rw [← valA_zeros (bitsF l) z, ← h]
    have := chunk 6 (fun x hx r => val6 x hx r) (pkSix l) [] (six_lt64 l) j hj
    rw [List.append_nil] at this
    exact this
  · have := congrArg List.length h
    rw [fm_len, List.length_append, List.length_replicate] at this
    omega
def wsOf (l : List UInt8) : List Nat := (l.filter fun c => decide (0 ≤ worthOf mailL c.toNat)).map fun c => (worthOf mailL c.toNat).toNat
def ws6 (l : List UInt8) : List Nat := (wsOf l).flatMap (bN 6)
theorem up_bits (st : List UInt8 × Nat × Nat) (x : Int) (h : okU st) (h0 : 0 ≤ x) (hx : x < 64) :
    (upStep st x).1.flatMap (fun c => bN 8 c.toNat) ++ bN (upStep st x).2.1 (upStep st x).2.2 = st.1.flatMap (fun c => bN 8 c.toNat) ++ bN st.2.1 st.2.2 ++ bN 6 x.toNat := by
  obtain ⟨o, h', b⟩ := st
  obtain ⟨n, rfl⟩ := Int.eq_ofNat_of_zero_le h0
  unfold okU at h
  simp only at h
  have hh : h' = 0 ∨ h' = 2 ∨ h' = 4 ∨ h' = 6 := by omega
  have hneg : ¬ ((n : Int) < 0) := by omega
  rcases hh with rfl | rfl | rfl | rfl
  · have e : upStep (o, 0, b) (n : Int) = (o, 6, b * 64 + n) := by unfold upStep; rw [if_neg hneg]; rfl
    rw [e]; simp [bN] at h ⊢; omega
  · have e : upStep (o, 2, b) (n : Int) = (o ++ [UInt8.ofNat (b * 64 + n)], 0, 0) := by unfold upStep; rw [if_neg hneg]; simp [Nat.mod_one]
    rw [e]; simp [bN] at h ⊢; omega
  · have e : upStep (o, 4, b) (n : Int) = (o ++ [UInt8.ofNat ((b * 64 + n) / 4)], 2, (b * 64 + n) % 4) := by unfold upStep; rw [if_neg hneg]; rfl
    rw [e]; simp [bN] at h ⊢; omega
  · have e : upStep (o, 6, b) (n : Int) = (o ++ [UInt8.ofNat ((b * 64 + n) / 16)], 4, (b * 64 + n) % 16) := by unfold upStep; rw [if_neg hneg]; rfl
    rw [e]; simp [bN] at h ⊢; omega
theorem worth_lt (c : Nat) : worthOf mailL c < 64 := worthTo_hi mailL c 64
theorem wsOf_cons (c : UInt8) (r : List UInt8) : ws6 (c :: r) = (if 0 ≤ worthOf mailL c.toNat then bN 6 (worthOf mailL c.toNat).toNat else []) ++ ws6 r := by
  unfold ws6 wsOf
  by_cases h : 0 ≤ worthOf mailL c.toNat
  · simp [h]
  · simp [h]
theorem ws6_append (a b : List UInt8) : ws6 (a ++ b) = ws6 a ++ ws6 b := by
  unfold ws6 wsOf; simp
theorem up_fold (l : List UInt8) : ∀ st, okU st → (upF mailL st l).1.flatMap (fun c => bN 8 c.toNat) ++ bN (upF mailL st l).2.1 (upF mailL st l).2.2 = st.1.flatMap (fun c => bN 8 c.toNat) ++ bN st.2.1 st.2.2 ++ ws6 l := by
  induction l with
  | nil => intro st _; simp [upF, ws6, wsOf]
  | cons c r ih =>
    intro st h
    have e : upF mailL st (c :: r) = upF mailL (upStep st (worthOf mailL c.toNat)) r := rfl
    rw [e, ih _ (okU_step st _ h (worth_lt _)), wsOf_cons]
    by_cases h0 : 0 ≤ worthOf mailL c.toNat
    · rw [up_bits st _ h h0 (worth_lt _), if_pos h0, List.append_assoc]
    · rw [if_neg h0]
      have : upStep st (worthOf mailL c.toNat) = st := by unfold upStep; rw [if_pos (by omega)]
      rw [this, List.nil_append]
theorem fm8 (o : List UInt8) : o.flatMap (fun c => bN 8 c.toNat) = (o.map UInt8.toNat).flatMap (bN 8) := by
  rw [List.flatMap_map]
theorem un_at (l : List UInt8) : (∀ j (h : j < (unpack l mailL).length), valA (ws6 l) (8 * j) 8 = (unpack l mailL)[j].toNat) ∧ (∀ j, 8 * j + 8 ≤ (ws6 l).length ↔ j < (unpack l mailL).length) := by
  have h := up_fold l ([], 0, 0) ⟨by simp, by simp, by simp⟩
  have hok := okU_to l mailL rfl l.length
  have e : upTo l mailL l.length = upF mailL ([], 0, 0) l := by unfold upTo; rw [List.take_length]; rfl
  rw [unpack_upF]
  rw [e] at hok
  generalize upF mailL ([], 0, 0) l = st at *
  obtain ⟨o, h', b⟩ := st
  simp only at h ⊢
  rw [fm8] at h
  have hb0 : bN 0 0 = [] := rfl
  simp only [List.flatMap_nil, hb0, List.nil_append] at h
  unfold okU at hok
  simp only at hok
  refine ⟨fun j hj => ?_, fun j => ?_⟩
  · rw [← h]
    have hm : j < (o.map UInt8.toNat).length := by simpa using hj
    have := chunk 8 (fun x hx r => val8 x hx r) (o.map UInt8.toNat) (bN h' b) (fun x hx => by
      obtain ⟨c, _, rfl⟩ := List.mem_map.1 hx; exact c.toNat_lt) j hm
    rw [this, List.getElem_map]
  · have := congrArg List.length h
    rw [List.length_append, fm_len, bN_length, List.length_map] at this
    omega
theorem ws6_succ (l : List UInt8) (k : Nat) (hk : k < l.length) : ws6 (l.take (k + 1)) = ws6 (l.take k) ++ (if 0 ≤ worthOf mailL (bt l k).toNat then bN 6 (worthOf mailL (bt l k).toNat).toNat else []) := by
  rw [take_snoc l k hk, ws6_append, wsOf_cons]
  have : ws6 [] = [] := rfl
  rw [this, List.append_nil]
theorem ws6_len (l : List UInt8) : (ws6 l).length ≤ 6 * l.length := by
  unfold ws6
  rw [fm_len]
  have : (wsOf l).length ≤ l.length := by unfold wsOf; rw [List.length_map]; exact List.length_filter_le _ _
  omega
theorem tw_all (l : List UInt8) (h : ∀ c ∈ l, c ≠ 61) : l.takeWhile (· != 61) = l := by
  induction l with
  | nil => rfl
  | cons a r ih =>
    have ha : (a != 61) = true := by simpa using h a (by simp)
    rw [List.takeWhile_cons, ha, if_pos rfl, ih (fun c hc => h c (by simp [hc]))]
theorem tw_stop (l : List UInt8) (k : Nat) (h : ∀ c ∈ l.take k, c ≠ 61) (he : l.length ≤ k ∨ bt l k = 61) : l.takeWhile (· != 61) = l.take k := by
  rcases he with he | he
  · rw [List.take_of_length_le he] at h ⊢
    exact tw_all l h
  · rcases Nat.lt_or_ge k l.length with hk | hk
    · have e : l = l.take k ++ (bt l k :: l.drop (k + 1)) := by
        rw [bt_getElem l k hk, List.getElem_cons_drop, List.take_append_drop]
      have e2 : (l.take k ++ (bt l k :: l.drop (k + 1))).takeWhile (· != 61) = l.take k := by
        rw [List.takeWhile_append_of_pos (fun c hc => by simpa using h c hc), he]
        simp
      rw [← e] at e2
      exact e2
    · rw [List.take_of_length_le hk] at h ⊢
      exact tw_all l h
theorem worth_none (c : Nat) (h : ∀ j, j < 64 → (bt mailL j).toNat ≠ c) : worthOf mailL c = -1 := by
  unfold worthOf
  have : ∀ k, k ≤ 64 → worthTo mailL k c = -1 := by
    intro k
    induction k with
    | zero => intro _; rfl
    | succ k ih => intro hk; rw [worthTo, if_neg (h k (by omega)), ih (by omega)]
  exact this 64 (Nat.le_refl _)
end Go.Proofs.YtclegocofiigiabDoor
