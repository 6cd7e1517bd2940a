/- The document's Match: rows of places. Plain mathematics, and its small functions. -/
import Derived.Test.YtedegnngdlkbhaaS12h
namespace Go.Proofs.Ytedegnngdlkbhaa
open Go.RowKit

/-- Which places of the name the pattern's first i signs may end at. -/
def rg (p l : List UInt8) (i k : Nat) : Bool := rch (p.take i) (((prs l).take k).reverse)
theorem prs_rev (l : List UInt8) (k : Nat) (h : k < l.length) : ((prs l).take (k + 1)).reverse = (bt l k, oth l k) :: ((prs l).take k).reverse := by
  rw [List.take_succ_eq_append_getElem (by rw [prs_length]; exact h), List.reverse_append, prs_at]; rfl
theorem rg_start (p l : List UInt8) (k : Nat) (h : k ≤ l.length) : rg p l 0 k = (k == 0) := by
  unfold rg; rw [List.take_zero, rch_nil]
  cases k with
  | zero => rfl
  | succ k => rw [prs_rev l k (by omega)]; rfl
theorem rg_letter0 (p l : List UInt8) (i : Nat) (hi : i < p.length) (ha : isW (bt p i) = false) : rg p l (i + 1) 0 = false := by
  unfold rg; rw [take_snoc p i hi, rch_letter _ _ ha]; rfl
theorem rg_letter (p l : List UInt8) (i k : Nat) (hi : i < p.length) (hk : k < l.length) (ha : isW (bt p i) = false) : rg p l (i + 1) (k + 1) = (rg p l i k && (bt p i == bt l k || bt p i == oth l k)) := by
  unfold rg; rw [take_snoc p i hi, rch_letter _ _ ha, prs_rev l k hk]
theorem rg_wild0 (p l : List UInt8) (i : Nat) (hi : i < p.length) (ha : isW (bt p i) = true) : rg p l (i + 1) 0 = rg p l i 0 := by
  unfold rg; rw [take_snoc p i hi, rch_wild _ _ ha]; simp
theorem rg_wild (p l : List UInt8) (i k : Nat) (hi : i < p.length) (hk : k < l.length) (ha : isW (bt p i) = true) : rg p l (i + 1) (k + 1) = (rg p l i (k + 1) || (rg p l (i + 1) k && (bt p i == 42 || !(bt l k == 47)))) := by
  unfold rg; rw [take_snoc p i hi, rch_wild _ _ ha, prs_rev l k hk]
theorem rg_end (p l : List UInt8) : rg p l p.length l.length = fm p 0 (prs l) := by
  unfold rg; rw [List.take_length, List.take_of_length_le (by rw [prs_length]; exact Nat.le_refl _), fm_fw]; rfl
theorem all_bytes {q : UInt8 → Prop} (h : ∀ c : Fin 256, q (UInt8.ofNat c.val)) (c : UInt8) : q c := by
  have := h ⟨c.toNat, c.toNat_lt⟩
  simpa using this
theorem inb_fold (a : UInt8) : ∀ c, c ∈ INB → (a == c || sm a == sm c) = (a == c || a == sm c) := by
  revert a
  refine all_bytes ?_
  decide +kernel
theorem inb_at (l : List UInt8) (k : Nat) (hk : k < foldN l) : bt l k ∈ INB ∧ foldN l = 5 := by
  unfold foldN at *
  by_cases h : isInb l = true
  · rw [if_pos h] at hk ⊢
    refine ⟨?_, rfl⟩
    unfold isInb at h
    rw [Bool.or_eq_true] at h
    rcases h with h | h
    · have : l = INB := by simpa using h
      rw [this]
      rcases k with _ | _ | _ | _ | _ | k
      · decide
      · decide
      · decide
      · decide
      · decide
      · omega
    · unfold Lib.hasPrefix at h
      rw [List.isPrefixOf_iff_prefix] at h
      obtain ⟨t, ht⟩ := h
      rw [← ht]
      rcases k with _ | _ | _ | _ | _ | k
      · exact List.mem_cons_self ..
      · show (78 : UInt8) ∈ INB; decide
      · show (66 : UInt8) ∈ INB; decide
      · show (79 : UInt8) ∈ INB; decide
      · show (88 : UInt8) ∈ INB; decide
      · omega
  · rw [if_neg h] at hk; omega
theorem oth_in (p l : List UInt8) (i k : Nat) (hk : k < foldN l) : (bt p i == bt l k || bt p i == oth l k) = (bt p i == bt l k || sm (bt p i) == sm (bt l k)) := by
  rw [inb_fold _ _ (inb_at l k hk).1]; unfold oth; rw [if_pos hk]
theorem oth_out (p l : List UInt8) (i k : Nat) (hk : ¬ k < foldN l) : (bt p i == bt l k || bt p i == oth l k) = (bt p i == bt l k) := by
  unfold oth; rw [if_neg hk, Bool.or_self]

set_option maxHeartbeats 400000 in
theorem rlower_any (c : UInt8) (w : World) :
    Calls Try.prog 15 #[.int .u8 (c.toNat : Int)] w fun e w' => e = .returned (.int .u8 ((sm c).toNat : Int)) ∧ w' = w := by
  have hc := c.toNat_lt
  have e0 := sm_toNat c
  by_cases h : (65 : Int) ≤ (c.toNat : Int)
  · by_cases h' : (c.toNat : Int) ≤ 90
    · have e : smI (c.toNat : Int) = (c.toNat : Int) + 32 := by unfold smI; rw [if_pos ⟨h, h'⟩]
      rw [e0, e]; clear e e0
      have g1 : (c.toNat : Int) ≥ 65 := h
      go_enter Try.func15, Try.ntmps15
      go_wp2
      go_ret
      exact ⟨rfl, rfl⟩
    · have e : smI (c.toNat : Int) = (c.toNat : Int) := by unfold smI; rw [if_neg (by omega)]
      rw [e0, e]; clear e e0
      have g1 : (c.toNat : Int) ≥ 65 := h
      go_enter Try.func15, Try.ntmps15
      go_wp2
      go_ret
      exact ⟨rfl, rfl⟩
  · have e : smI (c.toNat : Int) = (c.toNat : Int) := by unfold smI; rw [if_neg (by omega)]
    rw [e0, e]; clear e e0
    go_enter Try.func15, Try.ntmps15
    go_wp2
    go_ret
    exact ⟨rfl, rfl⟩

set_option maxHeartbeats 400000 in
theorem rbelow_any (s : ByteArray) (w : World) :
    Calls Try.prog 14 #[.string s, .string ⟨#[73, 78, 66, 79, 88]⟩] w fun e w' => e = .returned (.bool (Lib.hasPrefix (L s) (INB ++ [47]))) ∧ w' = w := by
  by_cases h5 : 5 < (s.size : Int)
  · have h5' : (s.size : Int) > 5 := h5
    have h6 : (5 : Int) ≤ (s.size : Int) := by omega
    have hlt : 5 < s.size := by omega
    have ea := get_bt s 5 hlt
    have hx : Hid (Lib.hasPrefix (L s) (INB ++ [47]) = (((s.extract 0 5).toList == [73, 78, 66, 79, 88]) && (((bt (L s) 5).toNat : Int) == 47))) := Lib.hid (by
      rw [toList_L]
      have h1 := Lib.extract_data s 0 5
      have h2 : L (s.extract 0 5) = (L s).take 5 := by unfold L; rw [h1]; rfl
      rw [h2]
      have e6 : (L s).take 6 = (L s).take 5 ++ [bt (L s) 5] := take_snoc (L s) 5 hlt
      have e7 : Lib.hasPrefix (L s) (INB ++ [47]) = ((L s).take 6 == INB ++ [47]) := by
        unfold Lib.hasPrefix
        rw [Bool.eq_iff_iff, List.isPrefixOf_iff_prefix, beq_iff_eq, List.prefix_iff_eq_take]
        exact eq_comm
      rw [e7, e6]
      have hlen : ((L s).take 5).length = INB.length := by rw [List.length_take, L_length]; show min 5 s.size = 5; omega
      rw [Bool.eq_iff_iff, Bool.and_eq_true, beq_iff_eq, beq_iff_eq, beq_iff_eq]
      constructor
      · intro e
        obtain ⟨e1, e2⟩ := List.append_inj e hlen
        refine ⟨e1, ?_⟩
        have : bt (L s) 5 = 47 := by simpa using e2
        rw [this]; rfl
      · rintro ⟨e1, e2⟩
        have e3 : bt (L s) 5 = 47 := UInt8.toNat_inj.1 (by show (bt (L s) 5).toNat = 47; omega)
        rw [e1, e3]; rfl)
    have hc8 := bt_lt (L s) 5
    cases hq : ((s.extract 0 5).toList == [73, 78, 66, 79, 88]) with
    | true =>
      rw [hq] at hx
      go_enter Try.func14, Try.ntmps14
      go_wp2
      go_ret
      exact ⟨by rw [hx.out]; rfl, rfl⟩
    | false =>
      rw [hq] at hx
      go_enter Try.func14, Try.ntmps14
      go_wp2
      go_ret
      exact ⟨by rw [hx.out]; rfl, rfl⟩
  · have h5' : ¬ (s.size : Int) > 5 := h5
    have hx : Hid (Lib.hasPrefix (L s) (INB ++ [47]) = false) := Lib.hid (by
      cases h : Lib.hasPrefix (L s) (INB ++ [47]) with
      | false => rfl
      | true =>
        exfalso
        unfold Lib.hasPrefix at h
        rw [List.isPrefixOf_iff_prefix] at h
        have := h.length_le
        rw [L_length] at this
        have h6 : (INB ++ [47]).length = 6 := rfl
        omega)
    go_enter Try.func14, Try.ntmps14
    go_wp2
    go_ret
    exact ⟨by rw [hx.out]; rfl, rfl⟩

end Go.Proofs.Ytedegnngdlkbhaa
