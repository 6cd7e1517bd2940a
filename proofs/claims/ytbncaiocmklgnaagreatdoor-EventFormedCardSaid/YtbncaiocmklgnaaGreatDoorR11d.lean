/- postbagref11's Flags, plain: what it says of the system's flags; its words against sorting and making one of likes. -/
import Derived.Test.YtbncaiocmklgnaaGreatDoorR11a
import Derived.Sort.Walk0
namespace Go.Proofs.YtbncaiocmklgnaaGreatDoor
open Go.RowKit Go.Lib

theorem same_comm (a b : List UInt8) : same a b = same b a := by
  unfold same
  by_cases h : lower a = lower b
  · rw [h]
  · rw [beq_eq_false_iff_ne.2 h, beq_eq_false_iff_ne.2 (Ne.symm h)]
theorem which_bit (l : List UInt8) : (bitN l = 0 ∧ whichI l = -1) ∨ ∃ j : Nat, j < 5 ∧ bitN l = 2 ^ j ∧ whichI l = (j : Int) := by
  have e0 : same (L (sysN 0)) l = same l [92, 65, 110, 115, 119, 101, 114, 101, 100] := same_comm _ _
  have e1 : same (L (sysN 1)) l = same l [92, 68, 101, 108, 101, 116, 101, 100] := same_comm _ _
  have e2 : same (L (sysN 2)) l = same l [92, 68, 114, 97, 102, 116] := same_comm _ _
  have e3 : same (L (sysN 3)) l = same l [92, 70, 108, 97, 103, 103, 101, 100] := same_comm _ _
  have e4 : same (L (sysN 4)) l = same l [92, 83, 101, 101, 110] := same_comm _ _
  unfold bitN whichI
  rw [e0, e1, e2, e3, e4]
  split
  · exact .inr ⟨0, by decide, rfl, rfl⟩
  split
  · exact .inr ⟨1, by decide, rfl, rfl⟩
  split
  · exact .inr ⟨2, by decide, rfl, rfl⟩
  split
  · exact .inr ⟨3, by decide, rfl, rfl⟩
  split
  · exact .inr ⟨4, by decide, rfl, rfl⟩
  · exact .inl ⟨rfl, rfl⟩
/-- Is one of the flags the j-th of the system's? -/
def isSeen (ss : List ByteArray) (j : Nat) : Bool := ss.any (fun f => whichI (L f) == (j : Int))
theorem bit_and (j i : Nat) (hj : j < 5) (hi : i < 5) : (2 ^ i &&& 2 ^ j = 0) ↔ i ≠ j := by
  match j, hj, i, hi with
  | 0, _, 0, _ | 0, _, 1, _ | 0, _, 2, _ | 0, _, 3, _ | 0, _, 4, _ => decide
  | 1, _, 0, _ | 1, _, 1, _ | 1, _, 2, _ | 1, _, 3, _ | 1, _, 4, _ => decide
  | 2, _, 0, _ | 2, _, 1, _ | 2, _, 2, _ | 2, _, 3, _ | 2, _, 4, _ => decide
  | 3, _, 0, _ | 3, _, 1, _ | 3, _, 2, _ | 3, _, 3, _ | 3, _, 4, _ => decide
  | 4, _, 0, _ | 4, _, 1, _ | 4, _, 2, _ | 4, _, 3, _ | 4, _, 4, _ => decide
theorem or_and_zero (a b c : Nat) : (a ||| b) &&& c = 0 ↔ a &&& c = 0 ∧ b &&& c = 0 := by
  rw [Nat.and_or_distrib_right]
  exact Nat.or_eq_zero_iff
theorem part_seen (ss : List ByteArray) (j : Nat) (hj : j < 5) : (partS ss &&& 2 ^ j = 0) ↔ isSeen ss j = false := by
  induction ss with
  | nil => simp [partS, isSeen]
  | cons f l ih =>
    rw [partS, or_and_zero, ih]
    unfold isSeen
    rw [List.any_cons, Bool.or_eq_false_iff]
    rcases which_bit (L f) with ⟨hb, hw⟩ | ⟨i, hi, hb, hw⟩
    · rw [hb, hw]
      simp
    · rw [hb, hw, bit_and j i hj hi]
      simp
      intro _
      omega
theorem partO_eq (ss : List ByteArray) : partO ss = ss.filter (fun f => whichI (L f) == -1) := by
  unfold partO
  refine List.filter_congr (fun f _ => ?_)
  rcases which_bit (L f) with ⟨hb, hw⟩ | ⟨i, hi, hb, hw⟩
  · rw [hb, hw]; rfl
  · rw [hb, hw]
    have h1 : ¬ (2 ^ i = 0) := by have := Nat.one_le_two_pow (n := i); omega
    have h2 : ¬ ((i : Int) = -1) := by omega
    rw [beq_eq_false_iff_ne.2 h1, beq_eq_false_iff_ne.2 h2]
/-- The system's flags that were seen, from the first on. -/
def seenTo (ss : List ByteArray) : Nat → List ByteArray
  | 0 => []
  | k + 1 => seenTo ss k ++ (if isSeen ss k = true then [sysN k] else [])
theorem sysAt_seen (ss : List ByteArray) (k : Nat) (hk : k < 5) : sysAt (partS ss) k = if isSeen ss k = true then [sysN k] else [] := by
  have h := part_seen ss k hk
  cases hs : isSeen ss k with
  | false =>
    have h0 := h.2 hs
    match k, hk with
    | 0, _ | 1, _ | 2, _ | 3, _ | 4, _ => unfold sysAt; rw [if_pos h0]; rfl
  | true =>
    have h0 : ¬ partS ss &&& 2 ^ k = 0 := fun e => by rw [h.1 e] at hs; cases hs
    match k, hk with
    | 0, _ | 1, _ | 2, _ | 3, _ | 4, _ => unfold sysAt; rw [if_neg h0]; rfl
theorem sysTo_seen (ss : List ByteArray) : ∀ k, k ≤ 5 → sysTo (partS ss) k = seenTo ss k := by
  intro k
  induction k with
  | zero => intro _; rfl
  | succ k ih => intro hk; rw [sysTo, seenTo, ih (by omega), sysAt_seen ss k (by omega)]
end Go.Proofs.YtbncaiocmklgnaaGreatDoor

/- postbagref11's Flags, plain: putting one by one is sorting and making one of likes. -/
namespace Go.Proofs.YtbncaiocmklgnaaGreatDoor
open Go.RowKit Go.Lib Go.Sort

section
variable {α : Type} (lt sm : α → α → Bool)
/-- An element behind all that are not above it. -/
def insA (x : α) : List α → List α
  | [] => [x]
  | y :: r => cond (lt x y) (x :: y :: r) (y :: insA x r)
/-- An element at its place, if none is like it. -/
def pu (x : α) : List α → List α
  | [] => [x]
  | y :: r => cond (lt x y) (x :: y :: r) (cond (sm y x) (y :: r) (y :: pu x r))
structure Ord : Prop where
  asym : ∀ x y, lt x y = true → lt y x = false
  neg : ∀ x y z, lt x y = false → lt y z = false → lt x z = false
  like : ∀ x y, sm x y = (!lt x y && !lt y x)
variable {lt sm}
theorem Ord.comm (h : Ord lt sm) (x y : α) : sm x y = sm y x := by rw [h.like, h.like, Bool.and_comm]
theorem Ord.lt_ge (h : Ord lt sm) {x y z : α} (a : lt x y = true) (b : lt z y = false) : lt x z = true := by
  cases e : lt x z with
  | true => rfl
  | false => rw [h.neg x z y e b] at a; cases a
theorem Ord.ge_lt (h : Ord lt sm) {x y z : α} (a : lt y x = false) (b : lt y z = true) : lt x z = true := by
  cases e : lt x z with
  | true => rfl
  | false => rw [h.neg y x z a e] at b; cases b
theorem Ord.tr (h : Ord lt sm) {x y z : α} (a : lt x y = true) (b : lt y z = true) : lt x z = true := h.lt_ge a (h.asym _ _ b)
theorem Ord.ne (h : Ord lt sm) {x y : α} (a : lt x y = true) : sm x y = false := by rw [h.like, a]; rfl
theorem Ord.ne' (h : Ord lt sm) {x y : α} (a : lt x y = true) : sm y x = false := by rw [h.comm]; exact h.ne a
theorem insRev_low (x y : α) (A : List α) (hy : lt x y = false) : insRev lt x (A ++ [y]) = insRev lt x A ++ [y] := by
  induction A with
  | nil => simp [insRev, hy]
  | cons a A ih =>
    rw [List.cons_append, insRev, insRev]
    cases lt x a <;> simp [ih]
theorem insRev_high (x : α) (A : List α) (ha : ∀ a, a ∈ A → lt x a = true) : insRev lt x A = A ++ [x] := by
  induction A with
  | nil => rfl
  | cons a A ih =>
    rw [insRev, ha a (by simp), ih (fun b hb => ha b (by simp [hb]))]
    rfl
def Asc (lt : α → α → Bool) (l : List α) : Prop := l.Pairwise (fun a b => lt b a = false)
theorem insRev_insA (h : Ord lt sm) (x : α) (s : List α) (hs : Asc lt s) : (insRev lt x s.reverse).reverse = insA lt x s := by
  induction s with
  | nil => rfl
  | cons y r ih =>
    obtain ⟨h1, h2⟩ := List.pairwise_cons.1 hs
    rw [List.reverse_cons, insA]
    cases e : lt x y with
    | true =>
      rw [insRev_high]
      · simp
      · intro a ha
        rw [List.mem_append] at ha
        rcases ha with ha | ha
        · exact h.lt_ge e (h1 a (List.mem_reverse.1 ha))
        · rw [List.mem_singleton.1 ha]; exact e
    | false =>
      rw [insRev_low x y _ e, List.reverse_append, ih h2]
      rfl
theorem insA_mem (x z : α) (s : List α) (hz : z ∈ insA lt x s) : z = x ∨ z ∈ s := by
  induction s with
  | nil => exact .inl (List.mem_singleton.1 hz)
  | cons y r ih =>
    rw [insA] at hz
    cases e : lt x y with
    | true => rw [e, cond_true] at hz; simpa using hz
    | false =>
      rw [e, cond_false, List.mem_cons] at hz
      rcases hz with hz | hz
      · exact .inr (by simp [hz])
      · rcases ih hz with h | h
        · exact .inl h
        · exact .inr (by simp [h])
theorem insA_asc (h : Ord lt sm) (x : α) (s : List α) (hs : Asc lt s) : Asc lt (insA lt x s) := by
  induction s with
  | nil => exact List.pairwise_singleton _ _
  | cons y r ih =>
    obtain ⟨h1, h2⟩ := List.pairwise_cons.1 hs
    rw [insA]
    cases e : lt x y with
    | true =>
      rw [cond_true]
      refine List.pairwise_cons.2 ⟨fun b hb => ?_, hs⟩
      rcases List.mem_cons.1 hb with hb | hb
      · rw [hb]; exact h.asym _ _ e
      · exact h.asym _ _ (h.lt_ge e (h1 b hb))
    | false =>
      rw [cond_false]
      refine List.pairwise_cons.2 ⟨fun b hb => ?_, ih h2⟩
      rcases insA_mem x b r hb with hb | hb
      · rw [hb]; exact e
      · exact h1 b hb
def goG (sm : α → α → Bool) (p : α) : List α → List α
  | [] => []
  | y :: t => cond (sm y p) (goG sm y t) (y :: goG sm y t)
def compG (sm : α → α → Bool) : List α → List α
  | [] => []
  | x :: t => x :: goG sm x t
theorem goG_ins (h : Ord lt sm) (x : α) : ∀ (s : List α) (p : α), Asc lt (p :: s) → lt x p = false → goG sm p (insA lt x s) = cond (sm x p) (goG sm p s) (pu lt sm x (goG sm p s)) := by
  intro s
  induction s with
  | nil => intro p _ _; rfl
  | cons y r ih =>
    intro p hs hx
    obtain ⟨h1, h2⟩ := List.pairwise_cons.1 hs
    have hyp := h1 y (by simp)
    rw [insA]
    cases e : lt x y with
    | true =>
      have hpy : lt p y = true := h.ge_lt hx e
      rw [cond_true]
      rw [goG, goG, goG, h.ne' e, h.ne' hpy]
      simp only [cond_false]
      cases sm x p with
      | true => rfl
      | false => rw [cond_false, cond_false, pu, e]; rfl
    | false =>
      rw [cond_false, goG, goG, ih y h2 e]
      cases hsy : sm y p with
      | true =>
        have e1 : lt y p = false := hyp
        have e2 : lt p y = false := by
          have := h.like y p
          rw [hsy, e1] at this
          simpa using this.symm
        have : sm x y = sm x p := by
          rw [h.like, h.like, hx, e]
          have : lt y x = lt p x := by
            cases q : lt p x with
            | true => exact h.ge_lt e2 q
            | false => exact h.neg _ _ _ e1 q
          rw [this]
        rw [cond_true, cond_true, this]
      | false =>
        have e2 : lt p y = true := by
          have := h.like y p
          rw [hsy, hyp] at this
          simpa using this.symm
        have e3 : lt p x = true := h.lt_ge e2 e
        rw [cond_false, cond_false, h.ne' e3, cond_false, pu, e, cond_false, h.comm y x]
        cases sm x y <;> rfl
theorem compG_ins (h : Ord lt sm) (x : α) (s : List α) (hs : Asc lt s) : compG sm (insA lt x s) = pu lt sm x (compG sm s) := by
  cases s with
  | nil => rfl
  | cons y r =>
    rw [insA, compG, pu]
    cases e : lt x y with
    | true => rw [cond_true, cond_true, compG, goG, h.ne' e]; rfl
    | false =>
      rw [cond_false, cond_false, compG, goG_ins h x r y hs e, h.comm y x]
      cases sm x y <;> rfl
theorem sort_fold (h : Ord lt sm) (l : List α) : ∀ s, Asc lt s → (l.foldl (fun rp x => insRev lt x rp) s.reverse).reverse = l.foldl (fun s x => insA lt x s) s := by
  induction l with
  | nil => intro s _; simp
  | cons x l ih =>
    intro s hs
    rw [List.foldl_cons, List.foldl_cons, ← ih _ (insA_asc h x s hs), ← insRev_insA h x s hs, List.reverse_reverse]
theorem comp_fold (h : Ord lt sm) (l : List α) : ∀ s, Asc lt s → compG sm (l.foldl (fun s x => insA lt x s) s) = l.foldl (fun c x => pu lt sm x c) (compG sm s) := by
  induction l with
  | nil => intro s _; rfl
  | cons x l ih =>
    intro s hs
    rw [List.foldl_cons, List.foldl_cons, ih _ (insA_asc h x s hs), compG_ins h x s hs]
theorem comp_sort (h : Ord lt sm) (l : List α) : compG sm (sortL lt l) = l.foldl (fun c x => pu lt sm x c) [] := by
  unfold sortL
  have := sort_fold h l [] List.Pairwise.nil
  rw [List.reverse_nil] at this
  rw [this, comp_fold h l [] List.Pairwise.nil]
  rfl
def Str (lt : α → α → Bool) (l : List α) : Prop := l.Pairwise (fun a b => lt a b = true)
theorem pu_mem (x z : α) (s : List α) (hz : z ∈ pu lt sm x s) : z = x ∨ z ∈ s := by
  induction s with
  | nil => exact .inl (List.mem_singleton.1 hz)
  | cons y r ih =>
    rw [pu] at hz
    cases e : lt x y with
    | true => rw [e, cond_true] at hz; simpa using hz
    | false =>
      rw [e, cond_false] at hz
      cases e2 : sm y x with
      | true => rw [e2, cond_true] at hz; exact .inr hz
      | false =>
        rw [e2, cond_false, List.mem_cons] at hz
        rcases hz with hz | hz
        · exact .inr (by simp [hz])
        · rcases ih hz with h | h
          · exact .inl h
          · exact .inr (by simp [h])
theorem pu_str (h : Ord lt sm) (x : α) (s : List α) (hs : Str lt s) : Str lt (pu lt sm x s) := by
  induction s with
  | nil => exact List.pairwise_singleton _ _
  | cons y r ih =>
    obtain ⟨h1, h2⟩ := List.pairwise_cons.1 hs
    rw [pu]
    cases e : lt x y with
    | true =>
      rw [cond_true]
      refine List.pairwise_cons.2 ⟨fun b hb => ?_, hs⟩
      rcases List.mem_cons.1 hb with hb | hb
      · rw [hb]; exact e
      · exact h.tr e (h1 b hb)
    | false =>
      rw [cond_false]
      cases e2 : sm y x with
      | true => exact hs
      | false =>
        rw [cond_false]
        refine List.pairwise_cons.2 ⟨fun b hb => ?_, ih h2⟩
        rcases pu_mem x b r hb with hb | hb
        · rw [hb]
          have := h.like y x
          rw [e2, e] at this
          simpa using this.symm
        · exact h1 b hb
theorem pu_length (x : α) (s : List α) : (pu lt sm x s).length ≤ s.length + 1 := by
  induction s with
  | nil => exact Nat.le_refl _
  | cons y r ih =>
    rw [pu]
    cases lt x y with
    | true => simp
    | false => cases sm y x <;> simp <;> omega
end
/-! ## Of texts -/
theorem kB (x y : ByteArray) : ltB x y = decide (lower (L x) < lower (L y)) := by
  unfold ltB
  rw [bytesLess_eq, Lib.toList_data, Lib.toList_data]
  rfl
theorem cmp_lt : ∀ (a b : List UInt8), compareBytes a b < 0 ↔ a < b
  | [], [] => by simp [compareBytes]
  | [], _ :: _ => by simp [compareBytes]
  | _ :: _, [] => by simp [compareBytes]
  | x :: a, y :: b => by
    rw [compareBytes, List.cons_lt_cons_iff, ← cmp_lt a b]
    by_cases h1 : x < y
    · simp [h1]
    · by_cases h2 : y < x
      · have : x ≠ y := fun e => by rw [e] at h2; exact UInt8.lt_irrefl y h2
        simp [h1, h2, this]
      · have : x = y := UInt8.le_antisymm (UInt8.not_lt.1 h2) (UInt8.not_lt.1 h1)
        simp [this]
theorem ltT_eq (x y : Tx) : ltOf cmpT x y = ltB x.1 y.1 := by
  rw [kB]
  unfold ltOf cmpT
  exact decide_eq_decide.2 (cmp_lt _ _)
theorem ordB : Ord ltB sameB where
  asym x y h := by
    rw [kB, decide_eq_true_iff] at h
    rw [kB, decide_eq_false_iff_not]
    exact fun h2 => List.lt_irrefl _ (List.lt_trans h h2)
  neg x y z h1 h2 := by
    rw [kB, decide_eq_false_iff_not] at h1 h2 ⊢
    rw [List.not_lt] at h1 h2 ⊢
    exact List.le_trans h2 h1
  like x y := by
    rw [kB, kB]
    unfold sameB same
    by_cases e : lower (L x) = lower (L y)
    · rw [e]
      simp
    · rw [beq_eq_false_iff_ne.2 e]
      rcases List.le_total (lower (L x)) (lower (L y)) with h | h
      · have : lower (L x) < lower (L y) := by
          rcases Decidable.em (lower (L x) < lower (L y)) with q | q
          · exact q
          · exact absurd (List.le_antisymm h (List.not_lt.1 q)) e
        rw [decide_eq_true this]; rfl
      · have : lower (L y) < lower (L x) := by
          rcases Decidable.em (lower (L y) < lower (L x)) with q | q
          · exact q
          · exact absurd (List.le_antisymm (List.not_lt.1 q) h) e
        rw [decide_eq_true this]; simp
theorem ordT : Ord (ltOf cmpT) sameT where
  asym x y h := by rw [ltT_eq] at h ⊢; exact ordB.asym _ _ h
  neg x y z h1 h2 := by rw [ltT_eq] at h1 h2 ⊢; exact ordB.neg _ _ _ h1 h2
  like x y := by rw [ltT_eq, ltT_eq]; exact ordB.like _ _
theorem putGo_true (x : ByteArray) (ws : List ByteArray) : putGo x true ws = ws := by
  induction ws with
  | nil => rfl
  | cons y r ih => rw [putGo, ih]; rfl
theorem putL_pu (x : ByteArray) (ws : List ByteArray) (hs : Str ltB ws) : putL ws x = pu ltB sameB x ws := by
  induction ws with
  | nil => rfl
  | cons y r ih =>
    obtain ⟨h1, h2⟩ := List.pairwise_cons.1 hs
    have ih := ih h2
    rw [pu]
    unfold putL at ih ⊢
    rw [List.any_cons, putGo]
    cases e : ltB x y with
    | true =>
      have : r.any (fun y => sameB y x) = false := by
        rw [List.any_eq_false]
        intro z hz
        rw [ordB.ne' (ordB.tr e (h1 z hz))]
        decide
      rw [this, ordB.ne' e, putGo_true]
      rfl
    | false =>
      cases e2 : sameB y x with
      | true => rfl
      | false =>
        rw [cond_false, cond_false, ← ih]
        cases r.any (fun y => sameB y x) <;> rfl
theorem putL_fold (l : List ByteArray) : ∀ ws, Str ltB ws → l.foldl putL ws = l.foldl (fun c x => pu ltB sameB x c) ws := by
  induction l with
  | nil => intro _ _; rfl
  | cons x l ih =>
    intro ws hs
    rw [List.foldl_cons, List.foldl_cons, putL_pu x ws hs, ih _ (pu_str ordB x ws hs)]
theorem goC_eq (l : List Tx) : ∀ p, goC p l = goG sameT p l := by
  induction l with
  | nil => intro _; rfl
  | cons y t ih => intro p; rw [goC, goG, ih]; cases sameT y p <;> rfl
theorem compactT_eq (l : List Tx) : compactT l = compG sameT l := by
  cases l with
  | nil => rfl
  | cons x t => rw [compactT, compG, goC_eq]
theorem pu_map (x : Tx) (l : List Tx) : (pu (ltOf cmpT) sameT x l).map (·.1) = pu ltB sameB x.1 (l.map (·.1)) := by
  induction l with
  | nil => rfl
  | cons y r ih =>
    rw [List.map_cons, pu, pu, ltT_eq]
    have : sameT y x = sameB y.1 x.1 := rfl
    rw [this]
    cases ltB x.1 y.1 with
    | true => rfl
    | false =>
      cases sameB y.1 x.1 with
      | true => rfl
      | false => rw [cond_false, cond_false, cond_false, cond_false, List.map_cons, ih]
theorem pu_fold_map (l : List Tx) : ∀ c : List Tx, (l.foldl (fun c x => pu (ltOf cmpT) sameT x c) c).map (·.1) = (l.map (·.1)).foldl (fun c x => pu ltB sameB x c) (c.map (·.1)) := by
  induction l with
  | nil => intro _; rfl
  | cons x l ih =>
    intro c
    rw [List.foldl_cons, List.map_cons, List.foldl_cons, ih, pu_map]
theorem keys_put (ss : List ByteArray) (h : kwOK ss = true) : (keysT ss).map (·.1) = (partO ss).foldl putL [] := by
  unfold keysT sortT
  rw [compactT_eq, comp_sort ordT, pu_fold_map, List.map_map, putL_fold _ [] List.Pairwise.nil]
  have : (partO ss).map ((fun x : Tx => x.1) ∘ toTx) = partO ss := by
    have h2 := List.all_eq_true.1 h
    refine (List.map_congr_left (fun f hf => ?_)).trans (List.map_id _)
    exact toTx_val (by have := isKey_size (h2 f hf); omega)
  rw [this]
  rfl
theorem formT_eq (ss : List ByteArray) (h : kwOK ss = true) : formT ss = seenTo ss 5 ++ (ss.filter (fun f => whichI (L f) == -1)).foldl putL [] := by
  unfold formT
  rw [sysTo_seen ss 5 (Nat.le_refl _), keys_put ss h, partO_eq]
end Go.Proofs.YtbncaiocmklgnaaGreatDoor

/- postbagref11: Flags. -/
namespace Go.Proofs.YtbncaiocmklgnaaGreatDoor
open Go.RowKit Go.Lib

/-- The reference's row of what was seen. -/
def SeenAt (g : Nat) (ps : List ByteArray) (X : World) : Prop := g < X.heap.size ∧ ∀ j, j < 5 → X.cell? ⟨g, j, none⟩ = some (.bool (isSeen ps j)) ∧ X.frozen? ⟨g, j, none⟩ = false
theorem SeenAt.on {g : Nat} {ps : List ByteArray} {X Y : World} (h : SeenAt g ps X) (hb : Below X.heap.size X Y) : SeenAt g ps Y :=
  ⟨Nat.lt_of_lt_of_le h.1 hb.size, fun j hj => ⟨by rw [hb.cell (p := ⟨g, j, none⟩) h.1]; exact (h.2 j hj).1, by rw [hb.frozen (p := ⟨g, j, none⟩) h.1]; exact (h.2 j hj).2⟩⟩
theorem isSeen_snoc (ps : List ByteArray) (f : ByteArray) (j : Nat) : isSeen (ps ++ [f]) j = (isSeen ps j || (whichI (L f) == (j : Int))) := by
  unfold isSeen
  rw [List.any_append, List.any_cons, List.any_nil, Bool.or_false]
theorem SeenAt.skip {g : Nat} {ps : List ByteArray} {X : World} (h : SeenAt g ps X) (f : ByteArray) (hf : whichI (L f) = -1) : SeenAt g (ps ++ [f]) X :=
  ⟨h.1, fun j hj => by
    rw [isSeen_snoc, hf]
    have : ((-1 : Int) == (j : Int)) = false := beq_eq_false_iff_ne.2 (by omega)
    rw [this, Bool.or_false]
    exact h.2 j hj⟩
theorem SeenAt.set {g : Nat} {ps : List ByteArray} {X : World} (h : SeenAt g ps X) (f : ByteArray) (i : Nat) (hf : whichI (L f) = (i : Int)) : SeenAt g (ps ++ [f]) (X.setCell ⟨g, i, none⟩ (.bool true)) :=
  ⟨by simpa using h.1, fun j hj => by
    rw [isSeen_snoc, hf]
    obtain ⟨h1, h2⟩ := h.2 j hj
    refine ⟨?_, by simpa using h2⟩
    by_cases e : i = j
    · subst e
      rw [World.cell?_setCell_same _ _ _ h1]
      simp
    · rw [World.cell?_setCell_other _ _ _ _ (by intro e'; simp only [Addr.mk.injEq] at e'; exact e e'.2.1), h1]
      have : ((i : Int) == (j : Int)) = false := beq_eq_false_iff_ne.2 (by omega)
      rw [this, Bool.or_false]⟩
/-- The keywords among some flags, as the reference puts them. -/
def kwsL (ps : List ByteArray) : List ByteArray := ps.filter (fun f => whichI (L f) == -1)
def wordsL (ps : List ByteArray) : List ByteArray := (kwsL ps).foldl putL []
theorem kwsL_snoc_no (ps : List ByteArray) (f : ByteArray) (h : ¬ whichI (L f) = -1) : kwsL (ps ++ [f]) = kwsL ps := by
  unfold kwsL
  rw [List.filter_append]
  simp [h]
theorem kwsL_snoc (ps : List ByteArray) (f : ByteArray) (h : whichI (L f) = -1) : kwsL (ps ++ [f]) = kwsL ps ++ [f] := by
  unfold kwsL
  rw [List.filter_append]
  simp [h]
theorem wordsL_snoc_no (ps : List ByteArray) (f : ByteArray) (h : ¬ whichI (L f) = -1) : wordsL (ps ++ [f]) = wordsL ps := by
  unfold wordsL
  rw [kwsL_snoc_no ps f h]
theorem wordsL_snoc (ps : List ByteArray) (f : ByteArray) (h : whichI (L f) = -1) : wordsL (ps ++ [f]) = putL (wordsL ps) f := by
  unfold wordsL
  rw [kwsL_snoc ps f h, List.foldl_append]
  rfl
theorem foldpu_len (l : List ByteArray) : ∀ ws : List ByteArray, (l.foldl (fun c x => pu ltB sameB x c) ws).length ≤ ws.length + l.length := by
  induction l with
  | nil => intro ws; simp
  | cons x l ih =>
    intro ws
    have h1 := ih (pu ltB sameB x ws)
    have h2 := pu_length (lt := ltB) (sm := sameB) x ws
    rw [List.foldl_cons, List.length_cons]
    omega
theorem foldpu_mem (l : List ByteArray) : ∀ ws : List ByteArray, ∀ z, z ∈ l.foldl (fun c x => pu ltB sameB x c) ws → z ∈ ws ∨ z ∈ l := by
  induction l with
  | nil => intro ws z hz; exact .inl hz
  | cons x l ih =>
    intro ws z hz
    rcases ih _ z hz with h | h
    · rcases pu_mem x z ws h with h | h
      · exact .inr (by simp [h])
      · exact .inl h
    · exact .inr (by simp [h])
theorem wordsL_len (ps : List ByteArray) : (wordsL ps).length ≤ ps.length := by
  unfold wordsL
  rw [putL_fold _ [] List.Pairwise.nil]
  have h1 := foldpu_len (kwsL ps) []
  have h2 : (kwsL ps).length ≤ ps.length := List.length_filter_le _ _
  simp only [List.length_nil] at h1
  omega
theorem wordsL_mem (ps : List ByteArray) (z : ByteArray) (h : z ∈ wordsL ps) : z ∈ ps := by
  unfold wordsL at h
  rw [putL_fold _ [] List.Pairwise.nil] at h
  rcases foldpu_mem _ _ _ h with h | h
  · cases h
  · exact (List.mem_filter.1 h).1
theorem putL_ne (ws : List ByteArray) (x : ByteArray) : putL ws x ≠ [] := by
  unfold putL
  cases h : ws.any (fun y => sameB y x) with
  | true =>
    intro e
    rw [cond_true] at e
    rw [e] at h
    cases h
  | false =>
    rw [cond_false]
    cases ws with
    | nil => intro e; cases e
    | cons y r =>
      rw [putGo]
      cases (!false && ltB x y) <;> (intro e; cases e)
/-- The reference, after some flags. -/
structure RF (w : World) (ps : List ByteArray) (vw : Value) (X : World) : Prop where
  below : Below w.heap.size w X
  base : w.heap.size ≤ X.heap.size
  seen : SeenAt w.heap.size ps X
  strs : Strs X vw (wordsL ps)
  nil : wordsL ps = [] → vw = .slice none 0 0
  keys : ∀ f, f ∈ kwsL ps → isKey (L f) = true
  lo : ∀ a n c, vw = .slice (some a) n c → a.block ≠ w.heap.size
theorem RF.on {w : World} {ps : List ByteArray} {vw : Value} {X Y : World} (h : RF w ps vw X) (hb : Below X.heap.size X Y) : RF w ps vw Y :=
  ⟨h.below.trans (hb.mono h.base), Nat.le_trans h.base hb.size, h.seen.on hb, h.strs.on hb, h.nil, h.keys, h.lo⟩
theorem RF.set {w : World} {ps : List ByteArray} {vw : Value} {X : World} (h : RF w ps vw X) (f : ByteArray) (i : Nat) (hf : whichI (L f) = (i : Int)) : RF w (ps ++ [f]) vw (X.setCell ⟨w.heap.size, i, none⟩ (.bool true)) := by
  have hno : ¬ whichI (L f) = -1 := by omega
  refine ⟨h.below.setCell (p := ⟨w.heap.size, i, none⟩) (Nat.le_refl _) _, by simpa using h.base, h.seen.set f i hf, ?_, ?_, ?_, h.lo⟩
  · rw [wordsL_snoc_no ps f hno]
    rcases h.strs with h0 | ⟨b, off, cap, rfl, h0, h1, h2⟩
    · exact .inl h0
    · refine .inr ⟨b, off, cap, rfl, h0, by simpa using h1, fun i2 hi2 => ?_⟩
      have hb := h.lo _ _ _ rfl
      rw [World.cell?_setCell_other _ _ _ _ (by intro e'; simp only [Addr.mk.injEq] at e'; exact hb e'.1.symm)]
      exact h2 i2 hi2
  · rw [wordsL_snoc_no ps f hno]; exact h.nil
  · rw [kwsL_snoc_no ps f hno]; exact h.keys
theorem RF.put {w : World} {ps : List ByteArray} {vw vw' : Value} {X Y : World} (h : RF w ps vw X) (f : ByteArray) (hf : whichI (L f) = -1) (hk : isKey (L f) = true) (hs : Strs Y vw' (putL (wordsL ps) f)) (hb : Below X.heap.size X Y) (hl : PutLo X.heap.size vw vw') : RF w (ps ++ [f]) vw' Y := by
  have h2 := h.on hb
  refine ⟨h2.below, h2.base, h2.seen.skip f hf, by rw [wordsL_snoc ps f hf]; exact hs, fun e => absurd (by rw [wordsL_snoc ps f hf] at e; exact e) (putL_ne _ _), fun g hg => ?_, fun a n c e => ?_⟩
  · rw [kwsL_snoc ps f hf, List.mem_append] at hg
    rcases hg with hg | hg
    · exact h.keys g hg
    · rw [List.mem_singleton.1 hg]; exact hk
  · rcases hl a n c e with e2 | e2
    · exact h.lo a n c (by rw [← e2]; exact e)
    · have := h.seen.1
      omega
theorem RF.start (w : World) : RF w [] (.slice none 0 0) (w.alloc (.cells (Array.replicate 5 (.bool false)) 4)) := by
  have h := heap_new w (.cells (Array.replicate 5 (.bool false)) 4)
  refine ⟨below_box (Below.refl _ _) _, by simp, ⟨lt_of_heap h, fun j hj => ?_⟩, .inl ⟨rfl, _, _, rfl⟩, fun _ => rfl, fun f hf => (by cases hf), fun _ _ _ e => (by cases e)⟩
  refine ⟨?_, frozen_of_row _ _ _ _ _ h⟩
  match j, hj with
  | 0, _ => exact cell_of h 0
  | 1, _ => exact cell_of h 1
  | 2, _ => exact cell_of h 2
  | 3, _ => exact cell_of h 3
  | 4, _ => exact cell_of h 4
theorem kws_ok (ss : List ByteArray) : kwOK ss = true ↔ ∀ f, f ∈ kwsL ss → isKey (L f) = true := by
  unfold kwOK kwsL
  rw [partO_eq, List.all_eq_true]
theorem form_words (ss : List ByteArray) (h : kwOK ss = true) : formT ss = seenTo ss 5 ++ wordsL ss := formT_eq ss h
theorem seenTo_len (ss : List ByteArray) (k : Nat) : (seenTo ss k).length ≤ k := by
  induction k with
  | zero => exact Nat.le_refl _
  | succ k ih =>
    rw [seenTo, List.length_append]
    split <;> simp <;> omega
theorem Tryz.mk5 (W : World) : Sem.run Tryz.prog (Instr.makeSlice 69 (.int .i64 5) (.int .i64 5)) W = .ok (.slice (some ⟨W.heap.size, 0, none⟩) 5 5) (W.alloc (.cells (Array.replicate 5 (.bool false)) 4)) := by kernel_rfl
end Go.Proofs.YtbncaiocmklgnaaGreatDoor

/- postbagref11: Flags, the walk. -/
namespace Go.Proofs.YtbncaiocmklgnaaGreatDoor
open Go.RowKit Go.Lib

set_option maxHeartbeats 8000000 in
theorem refFlags_any (v : Value) (ss : List ByteArray) (w : World) (h : Strs w v ss) (hz : ∀ f, f ∈ ss → f.size ≤ 140737488355328) :
    Calls Tryz.prog 14 #[v] w fun e w' => ∃ vo, e = .returned (.tuple #[vo, .int .i64 (flagsE ss)]) ∧ Strs w' vo (flagsL ss) ∧ Below w.heap.size w w' := by
  obtain ⟨ao, cap, rfl, hk⟩ := h.cells
  by_cases h16 : 16 < ss.length
  · have hE : flagsE ss = 2 := by unfold flagsE; rw [if_pos h16]
    have hL : flagsL ss = [] := by unfold flagsL; rw [hE, if_neg (by decide)]
    rw [hE, hL]
    have h16i : (16 : Int) < (ss.length : Int) := by omega
    clear hE hL hk h hz
    go_enter Tryz.func14, Tryz.ntmps14
    go_wp2
    go_ret2
    exact ⟨_, rfl, .inl ⟨rfl, _, _, rfl⟩, Below.refl _ _⟩
  have HC := Lib.hid hk
  have HZ := Lib.hid hz
  have h16n : ¬ (16 : Int) < (ss.length : Int) := by omega
  have HE : Hid ((kwOK ss = true → flagsE ss = 0 ∧ flagsL ss = seenTo ss 5 ++ wordsL ss) ∧ (kwOK ss = false → flagsE ss = 127 ∧ flagsL ss = [])) := Lib.hid ⟨fun hk => by
      have e : flagsE ss = 0 := by unfold flagsE; rw [if_neg h16, if_pos hk]
      exact ⟨e, by unfold flagsL; rw [if_pos e, form_words ss hk]⟩, fun hk => by
      have e : flagsE ss = 127 := by unfold flagsE; rw [if_neg h16, if_neg (by rw [hk]; decide)]
      exact ⟨e, by unfold flagsL; rw [if_neg (by rw [e]; decide)]⟩⟩
  clear h hk hz
  obtain ⟨n, hn⟩ : ∃ n, ss.length = n := ⟨_, rfl⟩
  have HN := Lib.hid hn
  rw [hn] at h16 h16n HC ⊢
  clear hn
  have hni : (n : Int) ≤ 16 := by omega
  have hmk := Tryz.mk5
  go_enter Tryz.func14, Tryz.ntmps14
  go_wp2_with fail
  go_loopw [5, 6] (fun vw vi wr => ∃ (k : Nat) (X : World), X = wr ∧ k ≤ n ∧ vi = .int .i64 k ∧ RF w (ss.take k) vw X) (fun _ i _ => n - (intOf i).toNat)
  case atStart => exact ⟨0, _, rfl, Nat.zero_le _, rfl, RF.start w⟩
  case round =>
    clear hmk
    obtain ⟨k, X, hX, hk, rfl, hrf⟩ := hrel
    subst hX
    have hk2 : (k : Int) ≤ 16 := by omega
    have HR := Lib.hid hrf
    obtain ⟨ao5, cap5, hv5⟩ := hrf.strs.shape
    subst hv5
    by_cases hlt : k < n
    · obtain ⟨b, off, hao, hbl, hcl⟩ := HC.out k hlt
      subst hao
      have hkw : k < ss.length := by rw [HN.out]; exact hlt
      have hki : (k : Int) < (n : Int) := by omega
      have HYb : Hid (∀ Y, Below w.heap.size w Y → Y.cell? ⟨b, off + k, none⟩ = some (.string (ss.getD k ByteArray.empty))) := Lib.hid (fun Y hY => by rw [hY.cell (p := ⟨b, off + k, none⟩) hbl]; exact hcl)
      have HM : Hid (ss.getD k ByteArray.empty ∈ ss) := Lib.hid (by
        rw [List.getD_eq_getElem?_getD, List.getElem?_eq_getElem hkw]
        exact List.getElem_mem hkw)
      have HT : Hid (ss.take (k + 1) = ss.take k ++ [ss.getD k ByteArray.empty]) := Lib.hid (by
        rw [List.take_add_one, List.getElem?_eq_getElem hkw, List.getD_eq_getElem?_getD, List.getElem?_eq_getElem hkw]
        rfl)
      have y0 := HYb.out X hrf.below
      clear hcl hbl hkw hrf
      obtain ⟨t, ht⟩ : ∃ t, ss.getD k ByteArray.empty = t := ⟨_, rfl⟩
      rw [ht] at HYb HM HT y0
      clear ht
      have HW := Lib.hid (fun Y => which_any t Y (HZ.out t HM.out))
      rcases which_bit (L t) with ⟨_, hw⟩ | ⟨j, hj, _, hw⟩
      · rw [hw] at HW
        have HWh := Lib.hid hw
        have HI := Lib.hid (fun Y => rIs_any 5 t Y (HZ.out t HM.out))
        have e5 : isB 5 (L t) = isKey (L t) := rfl
        rw [e5] at HI
        clear e5 hw
        cases hkey : isKey (L t) with
        | false =>
          rw [hkey] at HI
          have HNo : Hid (flagsE ss = 127 ∧ flagsL ss = []) := Lib.hid (HE.out.2 (by
            cases hq : kwOK ss with
            | false => rfl
            | true =>
              have := (kws_ok ss).1 hq t (List.mem_filter.2 ⟨HM.out, by rw [HWh.out]; rfl⟩)
              rw [hkey] at this
              cases this))
          clear hkey
          go_wp2_with (first | (go_at_call 29; refine (HW.out _).mono ?_; rintro e w3 ⟨rfl, hb3⟩; have HR3 := Lib.hid (HR.out.on hb3); have y3 := HYb.out _ HR3.out.below; clear hb3) | (go_at_call 30; refine (HI.out _).mono ?_; rintro e w4 ⟨rfl, hw4⟩; subst w4))
          go_ret2
          rw [HNo.out.1, HNo.out.2]
          exact ⟨_, rfl, .inl ⟨rfl, _, _, rfl⟩, HR3.out.below⟩
        | true =>
          rw [hkey] at HI
          have HKey := Lib.hid hkey
          clear hkey
          have HPut : Hid (∀ Y, RF w (ss.take k) (.slice ao5 (wordsL (ss.take k)).length cap5) Y → Calls Tryz.prog 31 #[.slice ao5 (wordsL (ss.take k)).length cap5, .string t] Y fun e w' => ∃ v', e = .returned v' ∧ RF w (ss.take (k + 1)) v' w') := Lib.hid (fun Y hY => by
            refine (put_any _ _ t Y hY.strs ?_ (HZ.out t HM.out) ?_).mono ?_
            · have h1 := wordsL_len (ss.take k)
              have h2 : (ss.take k).length ≤ k := by rw [List.length_take]; omega
              omega
            · exact fun z hz => HZ.out z (List.mem_of_mem_take (wordsL_mem _ z hz))
            · rintro e w' ⟨v', h1, h2, h3, h4⟩
              exact ⟨v', h1, by rw [HT.out]; exact hY.put t HWh.out HKey.out h2 h3 h4⟩)
          go_wp2_with (first | (go_at_call 29; refine (HW.out _).mono ?_; rintro e w3 ⟨rfl, hb3⟩; have HR3 := Lib.hid (HR.out.on hb3); have y3 := HYb.out _ HR3.out.below; clear hb3) | (go_at_call 30; refine (HI.out _).mono ?_; rintro e w4 ⟨rfl, hw4⟩; subst w4) | (go_at_call 31; refine (HPut.out _ HR3.out).mono ?_; rintro e w5 ⟨v5, rfl, hr5⟩; obtain ⟨a5, c5, hv5⟩ := hr5.strs.shape; subst hv5; have HR5 := Lib.hid hr5; clear hr5))
          go_roundw
          case rel => exact ⟨k + 1, _, rfl, hlt, by go_num, HR5.out⟩
          case measure => simp [intOf]; omega
      · rw [hw] at HW
        have HSet : Hid (∀ Y, RF w (ss.take k) (.slice ao5 (wordsL (ss.take k)).length cap5) Y → RF w (ss.take (k + 1)) (.slice ao5 (wordsL (ss.take k)).length cap5) (Y.setCell ⟨w.heap.size, j, none⟩ (.bool true))) := Lib.hid (fun Y hY => by
          rw [HT.out]
          exact hY.set t j hw)
        have hj0 : (0 : Int) ≤ (j : Int) := by omega
        have hj5 : (j : Int) < 5 := by omega
        clear hw
        go_wp2_with (go_at_call 29; refine (HW.out _).mono ?_; rintro e w3 ⟨rfl, hb3⟩; have HR3 := Lib.hid (HR.out.on hb3); obtain ⟨ys, yf⟩ := HR3.out.seen.2 j hj; clear hb3)
        go_roundw
        case rel => exact ⟨k + 1, _, rfl, hlt, by go_num, HSet.out _ HR3.out⟩
        case measure => simp [intOf]; omega
    · have hki : ¬ (k : Int) < (n : Int) := by omega
      have hkn : ss.take k = ss := by rw [List.take_of_length_le (by rw [HN.out]; omega)]
      rw [hkn] at HR
      have HOk : Hid (flagsE ss = 0 ∧ flagsL ss = seenTo ss 5 ++ wordsL ss) := Lib.hid (HE.out.1 ((kws_ok ss).2 HR.out.keys))
      have HLw : Hid ((wordsL ss).length ≤ 1000) := Lib.hid (by
        have := wordsL_len ss
        rw [HN.out] at this
        omega)
      rw [hkn]
      clear hkn hrf HE HC HZ
      obtain ⟨W1, hW1⟩ : ∃ W1, X.alloc (.cells sysC 9) = W1 := ⟨_, rfl⟩
      have h1 : W1.heap[X.heap.size]? = some (.cells sysC 9 (0, 0)) := by rw [← hW1]; exact heap_new _ _
      have hb1 : Below X.heap.size X W1 := by rw [← hW1]; exact below_box (Below.refl _ _) _
      have HS := Lib.hid (system_any X)
      rw [hW1] at HS
      have HC : Hid (∀ Y, Below W1.heap.size W1 Y → ∀ i, i < 5 → Y.cell? ⟨X.heap.size, i, none⟩ = some (.string (sysN i))) := Lib.hid (fun Y hY i hi => sys_cell (by rw [hY.block _ (lt_of_heap h1)]; exact h1) i hi)
      have HR1 := Lib.hid (HR.out.on hb1)
      obtain ⟨wl, hwl⟩ : ∃ wl, (wordsL ss).length = wl := ⟨_, rfl⟩
      have HWl := Lib.hid hwl
      rw [hwl] at HR1 HR ⊢
      clear hwl hW1 h1 hb1
      go_wp2_with (go_at_call 32; refine HS.out.mono ?_; rintro e w2 ⟨rfl, hw2⟩; subst w2)
      go_loopw [8, 10] (fun vo vi wr => ∃ (i : Nat) (Y : World), Y = wr ∧ i ≤ 5 ∧ vi = .int .i64 i ∧ OwnT W1.heap.size vo (seenTo ss i) W1 Y) (fun _ i _ => 5 - (intOf i).toNat)
      case atStart => exact ⟨0, _, rfl, Nat.zero_le _, rfl, OwnT.nil (Below.refl _ _) (Nat.le_refl _)⟩
      case round =>
        obtain ⟨i, Y, hY, hi, rfl, hown⟩ := hrel
        subst hY
        have HO := Lib.hid hown
        have HLn := Lib.hid (seenTo_len ss i)
        obtain ⟨ao8, cap8, hv8⟩ := hown.shape
        subst hv8
        by_cases hl5 : i < 5
        · have hi5 : (i : Int) < 5 := by omega
          have hi0 : (0 : Int) ≤ (i : Int) := by omega
          obtain ⟨ys, _⟩ := (HR1.out.seen.on hown.below).2 i hl5
          have yc := HC.out Y hown.below i hl5
          have HNx : Hid (seenTo ss (i + 1) = seenTo ss i ++ (if isSeen ss i = true then [sysN i] else [])) := Lib.hid rfl
          clear hown
          obtain ⟨sn, hsn⟩ : ∃ sn, sysN i = sn := ⟨_, rfl⟩
          rw [hsn] at yc HNx
          clear hsn
          cases hsv : isSeen ss i with
          | true =>
            rw [hsv] at ys HNx
            clear hsv
            go_wp2_with (at_builtin; refine appT rfl _ _ rfl sn HO.out rfl _ rfl rfl (by have := HLn.out; omega) ?_; intro v6 w6 ho6; obtain ⟨a6, k6, hv6⟩ := ho6.shape; rw [List.length_append] at hv6; subst hv6; have HO6 := Lib.hid ho6; clear ho6)
            go_roundw
            case rel => exact ⟨i + 1, _, rfl, hl5, by go_num, by rw [HNx.out, if_pos rfl]; exact HO6.out⟩
            case measure => simp [intOf]; omega
          | false =>
            rw [hsv] at ys HNx
            clear hsv
            go_wp2_with fail
            go_roundw
            case rel => exact ⟨i + 1, _, rfl, hl5, by go_num, by rw [HNx.out, if_neg (by decide), List.append_nil]; exact HO.out⟩
            case measure => simp [intOf]; omega
        · have hi5 : ¬ (i : Int) < 5 := by omega
          have hie : i = 5 := by omega
          subst hie
          clear hown
          have HW2 : Hid (Strs Y (.slice ao5 wl cap5) (wordsL ss)) := Lib.hid (HR1.out.strs.on HO.out.below)
          have HNl := Lib.hid HR1.out.nil
          go_wp2_with (at_builtin; refine appTs rfl _ _ rfl HO.out HW2.out HNl.out rfl rfl (by have := HLn.out; have := HLw.out; omega) ?_; intro v6 w6 ho6; obtain ⟨a6, k6, hv6⟩ := ho6.shape; rw [List.length_append] at hv6; subst hv6; have HO6 := Lib.hid ho6; clear ho6)
          go_ret2
          rw [HOk.out.1, HOk.out.2]
          exact ⟨_, rfl, HO6.out.strs (by have := HLn.out; have := HLw.out; rw [List.length_append]; omega), HR1.out.below.trans (HO6.out.below.mono HR1.out.base)⟩
end Go.Proofs.YtbncaiocmklgnaaGreatDoor
