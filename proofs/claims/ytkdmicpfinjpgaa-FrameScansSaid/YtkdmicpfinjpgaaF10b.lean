/- frame, plain: frames as bytes, and what a scan tells. Nothing of the program. -/
import Derived.Test.YtkdmicpfinjpgaaPu
import Derived.Test.YtkdmicpfinjpgaaF10a
namespace Go.Proofs.Ytkdmicpfinjpgaa

def u8 (n : Nat) : UInt8 := UInt8.ofNat n
theorem u8_toNat (n : Nat) : (u8 n).toNat = n % 256 := by simp [u8]
theorem u8_of (b : UInt8) {n : Nat} (h : n % 256 = b.toNat) : u8 n = b := UInt8.toNat_inj.1 (by rw [u8_toNat, h])
/-- A number in four bytes, the highest first. -/
def be4 (n : Nat) : List UInt8 := [u8 (n / 16777216), u8 (n / 65536), u8 (n / 256), u8 n]
theorem be4_length (n : Nat) : (be4 n).length = 4 := rfl
/-- The number in the four bytes at a place. -/
def w4 (l : List UInt8) (i : Nat) : Nat := (bt l i).toNat * 16777216 + (bt l (i + 1)).toNat * 65536 + (bt l (i + 2)).toNat * 256 + (bt l (i + 3)).toNat
theorem w4_lt (l : List UInt8) (i : Nat) : w4 l i < 4294967296 := by
  unfold w4
  have h0 := bt_lt l i; have h1 := bt_lt l (i + 1); have h2 := bt_lt l (i + 2); have h3 := bt_lt l (i + 3)
  omega
theorem bt_append_right (a b : List UInt8) (j : Nat) : bt (a ++ b) (a.length + j) = bt b j := by
  simp [bt, List.getElem?_append_right]
theorem bt_append_left (a b : List UInt8) (j : Nat) (h : j < a.length) : bt (a ++ b) j = bt a j := by
  simp [bt, List.getElem?_append_left h]
theorem bt_drop (l : List UInt8) (i j : Nat) : bt (l.drop i) j = bt l (i + j) := by simp [bt]
theorem bt_take (l : List UInt8) (i j : Nat) (h : j < i) : bt (l.take i) j = bt l j := by simp [bt, h]
theorem w4_drop (l : List UInt8) (i j : Nat) : w4 (l.drop i) j = w4 l (i + j) := by
  unfold w4; simp only [bt_drop, Nat.add_assoc]
theorem w4_take (l : List UInt8) (i j : Nat) (h : j + 4 ≤ i) : w4 (l.take i) j = w4 l j := by
  unfold w4; rw [bt_take _ _ _ (by omega), bt_take _ _ _ (by omega), bt_take _ _ _ (by omega), bt_take _ _ _ (by omega)]
theorem w4_be4 (a s : List UInt8) {n : Nat} (h : n < 4294967296) : w4 (a ++ (be4 n ++ s)) a.length = n := by
  unfold w4
  have h0 := bt_append_right a (be4 n ++ s) 0
  rw [Nat.add_zero] at h0
  rw [h0, bt_append_right, bt_append_right, bt_append_right]
  simp only [be4, List.cons_append, List.nil_append, bt, List.getElem?_cons_zero, List.getElem?_cons_succ, Option.getD_some, u8_toNat]
  omega
theorem be4_w4 (l : List UInt8) (i : Nat) (h : i + 4 ≤ l.length) : be4 (w4 l i) = (l.drop i).take 4 := by
  have e : (l.drop i).take 4 = [bt l i, bt l (i + 1), bt l (i + 2), bt l (i + 3)] := by
    apply List.ext_getElem
    · simp; omega
    · intro j h1 h2
      simp at h1
      have hj : j = 0 ∨ j = 1 ∨ j = 2 ∨ j = 3 := by omega
      have hg := bt_getElem l (i + j) (by omega)
      rw [List.getElem_take, List.getElem_drop, ← hg]
      rcases hj with rfl | rfl | rfl | rfl <;> rfl
  rw [e]
  unfold be4 w4
  have h0 := bt_lt l i; have h1 := bt_lt l (i + 1); have h2 := bt_lt l (i + 2); have h3 := bt_lt l (i + 3)
  rw [u8_of (bt l i) (by omega), u8_of (bt l (i + 1)) (by omega), u8_of (bt l (i + 2)) (by omega), u8_of (bt l (i + 3)) (by omega)]
/-- A frame's first ten bytes. -/
def hdr (k n m : Nat) : List UInt8 := 183 :: u8 k :: (be4 n ++ be4 m)
theorem hdr_length (k n m : Nat) : (hdr k n m).length = 10 := rfl
def frm14 (k n m : Nat) : List UInt8 := hdr k n m ++ be4 (crc (hdr k n m))
theorem frm14_length (k n m : Nat) : (frm14 k n m).length = 14 := rfl
def frmA (k n : Nat) (b : List UInt8) : List UInt8 := frm14 k n b.length ++ b
/-- A frame. -/
def frm (k n : Nat) (b : List UInt8) : List UInt8 := frmA k n b ++ be4 (crc (frmA k n b))
theorem frmA_length (k n : Nat) (b : List UInt8) : (frmA k n b).length = 14 + b.length := by simp [frmA, frm14_length]
theorem frm_length (k n : Nat) (b : List UInt8) : (frm k n b).length = b.length + 18 := by simp [frm, frmA_length, be4_length]; omega
/-- What may be in a frame. -/
def okF (k n : Nat) (b : List UInt8) : Prop := (k = 1 ∨ k = 2) ∧ 1 ≤ n ∧ n < 4294967295 ∧ b.length ≤ 2097152
instance (k n : Nat) (b : List UInt8) : Decidable (okF k n b) := by unfold okF; infer_instance
/-- Does a frame stand at the beginning? -/
def isF (l : List UInt8) : Prop := 18 ≤ l.length ∧ bt l 0 = 183 ∧ ((bt l 1).toNat = 1 ∨ (bt l 1).toNat = 2) ∧ 1 ≤ w4 l 2 ∧ w4 l 2 < 4294967295 ∧ w4 l 6 ≤ 2097152 ∧ w4 l 6 + 18 ≤ l.length ∧
  crc (l.take 10) = w4 l 10 ∧ crc (l.take (14 + w4 l 6)) = w4 l (14 + w4 l 6)
instance (l : List UInt8) : Decidable (isF l) := by unfold isF; infer_instance
def bodyF (l : List UInt8) : List UInt8 := (l.drop 14).take (w4 l 6)
theorem bodyF_length {l : List UInt8} (h : isF l) : (bodyF l).length = w4 l 6 := by
  obtain ⟨h1, _, _, _, _, _, h2, _⟩ := h
  simp [bodyF]; omega
theorem isF_ok {l : List UInt8} (h : isF l) : okF (bt l 1).toNat (w4 l 2) (bodyF l) := by
  have hb := bodyF_length h
  obtain ⟨h1, h2, h3, h4, h5, h6, _⟩ := h
  exact ⟨h3, h4, h5, by omega⟩
theorem isF_take {l : List UInt8} (h : isF l) : l.take (w4 l 6 + 18) = frm (bt l 1).toNat (w4 l 2) (bodyF l) := by
  have hb := bodyF_length h
  obtain ⟨h1, h2, h3, h4, h5, h6, h7, h8, h9⟩ := h
  have e10 : l.take 10 = hdr (bt l 1).toNat (w4 l 2) (w4 l 6) := by
    have t2 : l.take 2 = [bt l 0, bt l 1] := by
      apply List.ext_getElem
      · simp; omega
      · intro j q1 q2
        simp at q1
        have hj : j = 0 ∨ j = 1 := by omega
        have hg := bt_getElem l j (by omega)
        rw [List.getElem_take, ← hg]
        rcases hj with rfl | rfl <;> rfl
    have : l.take 10 = l.take 2 ++ ((l.drop 2).take 4 ++ (l.drop 6).take 4) := by
      rw [show (10 : Nat) = 2 + (4 + 4) by rfl, List.take_add, List.take_add, List.drop_drop]
    rw [this, t2, ← be4_w4 l 2 (by omega), ← be4_w4 l 6 (by omega), h2]
    unfold hdr
    rw [u8_of (bt l 1) (by have := bt_lt l 1; omega)]
    rfl
  have e14 : l.take 14 = frm14 (bt l 1).toNat (w4 l 2) (w4 l 6) := by
    have : l.take 14 = l.take 10 ++ (l.drop 10).take 4 := by rw [show (14 : Nat) = 10 + 4 by rfl, List.take_add]
    rw [this, ← be4_w4 l 10 (by omega), ← h8, e10]
    rfl
  have eA : l.take (14 + w4 l 6) = frmA (bt l 1).toNat (w4 l 2) (bodyF l) := by
    rw [List.take_add, e14]
    unfold frmA
    rw [hb]
    rfl
  have : l.take (w4 l 6 + 18) = l.take (14 + w4 l 6) ++ (l.drop (14 + w4 l 6)).take 4 := by
    rw [show w4 l 6 + 18 = (14 + w4 l 6) + 4 by omega, List.take_add]
  rw [this, ← be4_w4 l _ (by omega), ← h9, eA]
  rfl
theorem frm_bits (k n : Nat) (b s : List UInt8) (hk : k < 256) (hn : n < 4294967296) (hb : b.length < 4294967296) :
    bt (frm k n b ++ s) 0 = 183 ∧ (bt (frm k n b ++ s) 1).toNat = k ∧ w4 (frm k n b ++ s) 2 = n ∧ w4 (frm k n b ++ s) 6 = b.length ∧ w4 (frm k n b ++ s) 10 = crc (hdr k n b.length) ∧ w4 (frm k n b ++ s) (14 + b.length) = crc (frmA k n b) ∧
    (frm k n b ++ s).take 10 = hdr k n b.length ∧ (frm k n b ++ s).take (14 + b.length) = frmA k n b ∧ bodyF (frm k n b ++ s) = b := by
  have e0 : frm k n b ++ s = 183 :: u8 k :: (be4 n ++ (be4 b.length ++ (be4 (crc (hdr k n b.length)) ++ (b ++ (be4 (crc (frmA k n b)) ++ s))))) := by
    simp only [frm, frmA, frm14, hdr, List.append_assoc, List.cons_append]
  have a2 : w4 (frm k n b ++ s) 2 = n := by rw [e0]; exact w4_be4 [183, u8 k] _ hn
  have a6 : w4 (frm k n b ++ s) 6 = b.length := by
    have := w4_be4 ([183, u8 k] ++ be4 n) (be4 (crc (hdr k n b.length)) ++ (b ++ (be4 (crc (frmA k n b)) ++ s))) hb
    rw [e0]; exact this
  have a10 : w4 (frm k n b ++ s) 10 = crc (hdr k n b.length) := by
    have := w4_be4 (hdr k n b.length) (b ++ (be4 (crc (frmA k n b)) ++ s)) (crc_lt (hdr k n b.length))
    rw [e0]; exact this
  have aE : w4 (frm k n b ++ s) (14 + b.length) = crc (frmA k n b) := by
    have := w4_be4 (frmA k n b) s (crc_lt (frmA k n b))
    rw [frmA_length] at this
    unfold frm
    rw [List.append_assoc]; exact this
  have tA : (frm k n b ++ s).take (14 + b.length) = frmA k n b := by
    unfold frm
    rw [List.append_assoc, List.take_append_of_le_length (by rw [frmA_length]; omega), List.take_of_length_le (by rw [frmA_length]; omega)]
  refine ⟨by rw [e0]; rfl, ?_, a2, a6, a10, aE, ?_, tA, ?_⟩
  · rw [e0]; show (u8 k).toNat = k; rw [u8_toNat]; omega
  · rw [e0]; rfl
  · unfold bodyF
    rw [a6]
    have : (frm k n b ++ s).drop 14 = b ++ (be4 (crc (frmA k n b)) ++ s) := by rw [e0]; rfl
    rw [this, List.take_append_of_le_length (Nat.le_refl _), List.take_of_length_le (Nat.le_refl _)]
theorem isF_frm {k n : Nat} {b : List UInt8} (h : okF k n b) (s : List UInt8) : isF (frm k n b ++ s) := by
  obtain ⟨h1, h2, h3, h4⟩ := h
  obtain ⟨g0, g1, g2, g6, g10, gE, t10, tA, _⟩ := frm_bits k n b s (by omega) (by omega) (by omega)
  unfold isF
  rw [g0, g1, g2, g6, g10, gE, t10, tA, List.length_append, frm_length]
  exact ⟨by omega, rfl, h1, h2, h3, h4, by omega, rfl, rfl⟩
/-- A frame that stands somewhere, and what it says. -/
structure Fr where
  kind : Nat
  num : Nat
  at' : Nat
  body : List UInt8
def frAt (l : List UInt8) (i : Nat) : Fr := ⟨(bt l (i + 1)).toNat, w4 l (i + 2), i, bodyF (l.drop i)⟩
def Fr.ends (f : Fr) : Nat := f.at' + f.body.length + 18
/-- What a scan tells from a place on, behind a number. -/
def scn : Nat → List UInt8 → Nat → Nat → List Fr
  | 0, _, _, _ => []
  | m + 1, l, i, a => if isF (l.drop i) ∧ (0 < i → w4 l (i + 2) = a + 1) then frAt l i :: scn m l (frAt l i).ends (w4 l (i + 2)) else []
theorem frAt_ends {l : List UInt8} {i : Nat} (h : isF (l.drop i)) : (frAt l i).ends = i + w4 l (i + 6) + 18 ∧ i + w4 l (i + 6) + 18 ≤ l.length := by
  have hb := bodyF_length h
  obtain ⟨h1, _, _, _, _, _, h7, _⟩ := h
  rw [w4_drop] at hb h7
  rw [List.length_drop] at h1 h7
  unfold Fr.ends frAt
  dsimp only
  omega
theorem scn_more (m : Nat) : ∀ (m' : Nat) (l : List UInt8) (i a : Nat), l.length < i + 18 * m → l.length < i + 18 * m' → scn m l i a = scn m' l i a := by
  induction m with
  | zero =>
    intro m' l i a h h'
    cases m' with
    | zero => rfl
    | succ m' =>
      simp only [scn]
      rw [if_neg]
      rintro ⟨⟨h1, _⟩, _⟩
      rw [List.length_drop] at h1
      omega
  | succ m ih =>
    intro m' l i a h h'
    cases m' with
    | zero =>
      simp only [scn]
      rw [if_neg]
      rintro ⟨⟨h1, _⟩, _⟩
      rw [List.length_drop] at h1
      omega
    | succ m' =>
      simp only [scn]
      by_cases hc : isF (l.drop i) ∧ (0 < i → w4 l (i + 2) = a + 1)
      · rw [if_pos hc, if_pos hc]
        obtain ⟨e1, e2⟩ := frAt_ends hc.1
        rw [ih m' l _ _ (by omega) (by omega)]
      · rw [if_neg hc, if_neg hc]
def scan (l : List UInt8) (i a : Nat) : List Fr := scn (l.length + 1) l i a
theorem scan_on {l : List UInt8} {i a : Nat} (h : isF (l.drop i)) (hn : 0 < i → w4 l (i + 2) = a + 1) : scan l i a = frAt l i :: scan l (frAt l i).ends (w4 l (i + 2)) := by
  have e := frAt_ends h
  show scn (l.length + 1) l i a = _
  simp only [scn]
  rw [if_pos ⟨h, hn⟩]
  unfold scan
  rw [scn_more l.length (l.length + 1) l _ _ (by omega) (by omega)]
theorem scan_off {l : List UInt8} {i a : Nat} (h : ¬ (isF (l.drop i) ∧ (0 < i → w4 l (i + 2) = a + 1))) : scan l i a = [] := by
  show scn (l.length + 1) l i a = _
  simp only [scn]
  rw [if_neg h]
end Go.Proofs.Ytkdmicpfinjpgaa
