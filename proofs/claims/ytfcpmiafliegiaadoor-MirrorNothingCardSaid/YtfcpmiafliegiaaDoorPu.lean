/- Plain mathematics on texts, and what a row of bytes in memory is. Nothing of the program. -/
import Derived.WalkKit
import Derived.WalkSpells
import Derived.WalkLawsBesides
import Derived.Lib.Hide
import Derived.Laws.IdiomStrings
namespace Go.Proofs.YtfcpmiafliegiaaDoor
open Go.RowKit

theorem ret_bool {a b : Bool} (h : a = b) : Ending.returned (.bool a) = .returned (.bool b) := by rw [h]
theorem ret_int {k : IntKind} {a b : Int} (h : a = b) : Ending.returned (.int k a) = .returned (.int k b) := by rw [h]
theorem ret_str {a b : ByteArray} (h : a = b) : Ending.returned (.string a) = .returned (.string b) := by rw [h]
theorem ret_tup {v : Value} {k : IntKind} {a b : Int} (h : a = b) : Ending.returned (.tuple #[v, .int k a]) = .returned (.tuple #[v, .int k b]) := by rw [h]
/-- A text's bytes. -/
def L (s : ByteArray) : List UInt8 := s.data.toList
def S (l : List UInt8) : ByteArray := ⟨l.toArray⟩
theorem L_S (l : List UInt8) : L (S l) = l := rfl
theorem S_L (s : ByteArray) : S (L s) = s := rfl
theorem L_length (s : ByteArray) : (L s).length = s.size := rfl
theorem S_size (l : List UInt8) : (S l).size = l.length := rfl
theorem toList_L (s : ByteArray) : s.toList = L s := by
  exact ByteArray.toList_eq s
def bt (l : List UInt8) (j : Nat) : UInt8 := l[j]?.getD 0
theorem bt_lt (l : List UInt8) (j : Nat) : (bt l j).toNat < 256 := (bt l j).toNat_lt
theorem bt_getElem (l : List UInt8) (j : Nat) (h : j < l.length) : bt l j = l[j] := by simp [bt, h]

def smI (c : Int) : Int := if 65 ≤ c ∧ c ≤ 90 then c + 32 else c
theorem smI_lo (c : Int) (h : 0 ≤ c) : 0 ≤ smI c := by unfold smI; split <;> omega
theorem smI_hi (c : Int) (h : c ≤ 255) : smI c ≤ 255 := by unfold smI; split <;> omega
def sm (c : UInt8) : UInt8 := if 65 ≤ c.toNat ∧ c.toNat ≤ 90 then c + 32 else c
theorem sm_toNat (c : UInt8) : ((sm c).toNat : Int) = smI (c.toNat : Int) := by
  unfold sm smI
  by_cases h : 65 ≤ c.toNat ∧ c.toNat ≤ 90
  · have h' : (65 : Int) ≤ (c.toNat : Int) ∧ (c.toNat : Int) ≤ 90 := by omega
    rw [if_pos h, if_pos h']
    have : (c + 32).toNat = c.toNat + 32 := by
      rw [UInt8.toNat_add]; simp; omega
    rw [this]; omega
  · have h' : ¬ ((65 : Int) ≤ (c.toNat : Int) ∧ (c.toNat : Int) ≤ 90) := by omega
    rw [if_neg h, if_neg h']
def lower (l : List UInt8) : List UInt8 := l.map sm
def same (a b : List UInt8) : Bool := lower a == lower b

def rowIs (w : World) (B : Nat) (l : List UInt8) : Prop := ∀ j, j < l.length → w.cell? ⟨B, j, none⟩ = some (.int .u8 ((bt l j).toNat : Int))
def rowFree (w : World) (B n : Nat) : Prop := ∀ j, j < n → w.frozen? ⟨B, j, none⟩ = false
def lowTo (l : List UInt8) (k : Nat) : List UInt8 := lower (l.take k) ++ l.drop k
theorem lowTo_length (l : List UInt8) (k : Nat) : (lowTo l k).length = l.length := by
  simp [lowTo, lower]; omega
theorem lowTo_all (l : List UInt8) (k : Nat) (h : l.length ≤ k) : lowTo l k = lower l := by
  unfold lowTo; rw [List.take_of_length_le h, List.drop_eq_nil_of_le h, List.append_nil]
theorem lowTo_at (l : List UInt8) (k : Nat) (hk : k < l.length) : bt (lowTo l k) k = bt l k := by
  unfold bt lowTo
  rw [List.getElem?_append_right (by simp [lower]; omega)]
  simp [lower, Nat.min_eq_left (Nat.le_of_lt hk)]
theorem lowTo_succ (l : List UInt8) (k : Nat) (hk : k < l.length) : lowTo l (k + 1) = (lowTo l k).set k (sm (bt l k)) := by
  apply List.ext_getElem?
  intro j
  unfold bt lowTo lower
  simp only [List.getElem?_append, List.getElem?_set, List.length_map, List.length_take, List.getElem?_map, List.getElem?_take, List.getElem?_drop, List.length_append, List.length_drop]
  by_cases e : k = j
  · subst e
    have h1 : k < min (k + 1) l.length := by omega
    have h2 : k < k + 1 := by omega
    have h3 : k < min k l.length + (l.length - k) := by omega
    simp only [h1, h2, h3, if_true, List.getElem?_eq_getElem hk, Option.map_some, Option.getD_some]
  · by_cases hj : j < k
    · have h1 : j < min (k + 1) l.length := by omega
      have h2 : j < k + 1 := by omega
      have h3 : j < min k l.length := by omega
      simp only [h1, h2, h3, hj, if_true, if_neg e]
    · have h1 : ¬ j < min (k + 1) l.length := by omega
      have h3 : ¬ j < min k l.length := by omega
      have h4 : k + 1 + (j - min (k + 1) l.length) = j := by omega
      have h5 : k + (j - min k l.length) = j := by omega
      simp only [h1, h3, if_false, if_neg e, h4, h5]
theorem bt_set (l : List UInt8) (k j : Nat) (c : UInt8) (hk : k < l.length) : bt (l.set k c) j = if k = j then c else bt l j := by
  unfold bt
  rw [List.getElem?_set]
  by_cases e : k = j
  · subst e; simp [hk]
  · simp [e]
theorem rowIs_set {w : World} {B : Nat} {l : List UInt8} (h : rowIs w B l) (k : Nat) (hk : k < l.length) (c : UInt8) (x : Int) (hx : x = (c.toNat : Int)) :
    rowIs (w.setCell ⟨B, k, none⟩ (.int .u8 x)) B (l.set k c) := by
  subst hx
  intro j hj
  have hj' : j < l.length := by simpa using hj
  rw [bt_set l k j c hk]
  by_cases e : k = j
  · subst e
    rw [World.cell?_setCell_same' _ _ _ (by rw [h k hk]; rfl)]
    simp
  · rw [World.cell?_setCell_other _ _ _ _ (by intro hh; cases hh; exact e rfl), h j hj', if_neg e]
theorem rowIs_new (w : World) (s : ByteArray) (cap : Nat) (lo : Nat × Nat) (e : TypeId) :
    rowIs (w.alloc (.cells (bytesRow s cap) e lo)) w.heap.size (L s) := by
  intro j hj
  rw [World.cell?_alloc_mark]
  rw [bytesRow_at s cap j hj, bt_getElem _ _ hj]
  rfl
theorem bytesRow_size (s : ByteArray) (cap : Nat) : s.size ≤ (bytesRow s cap).size := by
  show s.data.size ≤ _
  unfold bytesRow
  rw [Array.size_append, Array.size_map]
  omega
theorem rowFree_new (w : World) (s : ByteArray) (cap : Nat) (e : TypeId) :
    rowFree (w.alloc (.cells (bytesRow s cap) e ((bytesRow s cap).size, (bytesRow s cap).size + 1))) w.heap.size s.size := by
  intro j hj
  rw [World.frozen?_alloc_mark]
  have := bytesRow_size s cap
  have h : ¬ (bytesRow s cap).size ≤ j := by omega
  simp [h]
theorem back_row {P : Program} (w : World) (src dst e : TypeId) (B n cap : Nat) (l : List UInt8) (hn : n = l.length) (hs : P.underlying src = some (.slice e)) (he : P.underlying e = some (.int .u8)) (hd : P.underlying dst = some .string)
    (hc : rowIs w B l) : (convert src dst (.slice (some ⟨B, 0, none⟩) n cap)).run P w = .ok (.string (S l)) w := by
  subst hn
  exact run_convert_bytes_back w src dst e ⟨B, 0, none⟩ cap l hs he hd (fun j hj => by
    have := hc j hj
    rw [bt_getElem l j hj] at this
    have e : (⟨B, 0, none⟩ : Addr).add j = ⟨B, j, none⟩ := by
      unfold Addr.add; split
      · rename_i h; rw [h]
      · simp
    rw [e]; exact this)
theorem take_snoc (l : List UInt8) (k : Nat) (hk : k < l.length) : l.take (k + 1) = l.take k ++ [bt l k] := by
  rw [bt_getElem l k hk, List.take_succ_eq_append_getElem hk]
def samePre (a b : List UInt8) (k : Nat) : Prop := lower (a.take k) = lower (b.take k)
theorem samePre_zero (a b : List UInt8) : samePre a b 0 := by simp [samePre]
theorem samePre_succ (a b : List UInt8) (k : Nat) (ha : k < a.length) (hb : k < b.length) (h : samePre a b k) (e : smI ((bt a k).toNat : Int) = smI ((bt b k).toNat : Int)) : samePre a b (k + 1) := by
  unfold samePre at *
  have e' : sm (bt a k) = sm (bt b k) := by
    rw [← sm_toNat, ← sm_toNat] at e
    exact UInt8.toNat_inj.1 (by omega)
  rw [take_snoc a k ha, take_snoc b k hb]
  simp only [lower, List.map_append, List.map_cons, List.map_nil] at *
  rw [h, e']
theorem samePre_all (a b : List UInt8) (k : Nat) (ha : a.length ≤ k) (hb : b.length ≤ k) (h : samePre a b k) : same a b = true := by
  unfold samePre at h
  rw [List.take_of_length_le ha, List.take_of_length_le hb] at h
  simp [same, h]
theorem same_no (a b : List UInt8) (k : Nat) (ha : k < a.length) (hb : k < b.length) (e : ¬ smI ((bt a k).toNat : Int) = smI ((bt b k).toNat : Int)) : same a b = false := by
  rw [← sm_toNat, ← sm_toNat] at e
  cases h : same a b with
  | false => rfl
  | true =>
    exfalso
    apply e
    have h' : lower a = lower b := by simpa [same] using h
    have h1 : (lower a)[k]? = (lower b)[k]? := by rw [h']
    simp only [lower, List.getElem?_map, List.getElem?_eq_getElem ha, List.getElem?_eq_getElem hb, Option.map_some, Option.some.injEq] at h1
    rw [bt_getElem a k ha, bt_getElem b k hb, h1]
theorem same_len (a b : List UInt8) (e : a.length ≠ b.length) : same a b = false := by
  cases h : same a b with
  | false => rfl
  | true =>
    exfalso; apply e
    have h' : lower a = lower b := by simpa [same] using h
    have := congrArg List.length h'
    simpa [lower] using this

end Go.Proofs.YtfcpmiafliegiaaDoor
