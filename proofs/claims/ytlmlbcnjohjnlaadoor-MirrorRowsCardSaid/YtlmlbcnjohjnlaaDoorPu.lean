/- Plain mathematics on texts, and what a row of bytes in memory is. Nothing of the program. -/
import Derived.WalkKit
import Derived.WalkSpells
import Derived.WalkLawsBesides
import Derived.Lib.Hide
import Derived.Laws.IdiomStrings
namespace Go.Proofs.YtlmlbcnjohjnlaaDoor
open Go.RowKit

theorem ret_bool {a b : Bool} (h : a = b) : Ending.returned (.bool a) = .returned (.bool b) := by rw [h]
theorem ret_int {k : IntKind} {a b : Int} (h : a = b) : Ending.returned (.int k a) = .returned (.int k b) := by rw [h]
/-- A text's bytes. -/
def L (s : ByteArray) : List UInt8 := s.data.toList
def S (l : List UInt8) : ByteArray := ⟨l.toArray⟩
theorem L_length (s : ByteArray) : (L s).length = s.size := rfl
def bt (l : List UInt8) (j : Nat) : UInt8 := l[j]?.getD 0
theorem bt_lt (l : List UInt8) (j : Nat) : (bt l j).toNat < 256 := (bt l j).toNat_lt
theorem bt_getElem (l : List UInt8) (j : Nat) (h : j < l.length) : bt l j = l[j] := by simp [bt, h]

def smI (c : Int) : Int := if 65 ≤ c ∧ c ≤ 90 then c + 32 else c
def sm (c : UInt8) : UInt8 := if 65 ≤ c.toNat ∧ c.toNat ≤ 90 then c + 32 else c
theorem sm_toNat (c : UInt8) : ((sm c).toNat : Int) = smI (c.toNat : Int) := by
  unfold sm smI
  by_cases h : 65 ≤ c.toNat ∧ c.toNat ≤ 90
  · have h' : (65 : Int) ≤ (c.toNat : Int) ∧ (c.toNat : Int) ≤ 90 := by omega
    rw [if_pos h, if_pos h']
    have : (c + 32).toNat = c.toNat + 32 := by
      rw [UInt8.toNat_add]; simp; omega
    rw [this]; omega
  · have h' : ¬ ((65 : Int) ≤ (c.toNat : Int) ∧ (c.toNat : Int) ≤ 90) := by omega
    rw [if_neg h, if_neg h']
def lower (l : List UInt8) : List UInt8 := l.map sm
def same (a b : List UInt8) : Bool := lower a == lower b

theorem take_snoc (l : List UInt8) (k : Nat) (hk : k < l.length) : l.take (k + 1) = l.take k ++ [bt l k] := by
  rw [bt_getElem l k hk, List.take_succ_eq_append_getElem hk]
def samePre (a b : List UInt8) (k : Nat) : Prop := lower (a.take k) = lower (b.take k)
theorem samePre_zero (a b : List UInt8) : samePre a b 0 := by simp [samePre]
theorem samePre_succ (a b : List UInt8) (k : Nat) (ha : k < a.length) (hb : k < b.length) (h : samePre a b k) (e : smI ((bt a k).toNat : Int) = smI ((bt b k).toNat : Int)) : samePre a b (k + 1) := by
  unfold samePre at *
  have e' : sm (bt a k) = sm (bt b k) := by
    rw [← sm_toNat, ← sm_toNat] at e
    exact UInt8.toNat_inj.1 (by omega)
  rw [take_snoc a k ha, take_snoc b k hb]
  simp only [lower, List.map_append, List.map_cons, List.map_nil] at *
  rw [h, e']
theorem samePre_all (a b : List UInt8) (k : Nat) (ha : a.length ≤ k) (hb : b.length ≤ k) (h : samePre a b k) : same a b = true := by
  unfold samePre at h
  rw [List.take_of_length_le ha, List.take_of_length_le hb] at h
  simp [same, h]
theorem same_no (a b : List UInt8) (k : Nat) (ha : k < a.length) (hb : k < b.length) (e : ¬ smI ((bt a k).toNat : Int) = smI ((bt b k).toNat : Int)) : same a b = false := by
  rw [← sm_toNat, ← sm_toNat] at e
  cases h : same a b with
  | false => rfl
  | true =>
    exfalso
    apply e
    have h' : lower a = lower b := by simpa [same] using h
    have h1 : (lower a)[k]? = (lower b)[k]? := by rw [h']
    simp only [lower, List.getElem?_map, List.getElem?_eq_getElem ha, List.getElem?_eq_getElem hb, Option.map_some, Option.some.injEq] at h1
    rw [bt_getElem a k ha, bt_getElem b k hb, h1]
theorem same_len (a b : List UInt8) (e : a.length ≠ b.length) : same a b = false := by
  cases h : same a b with
  | false => rfl
  | true =>
    exfalso; apply e
    have h' : lower a = lower b := by simpa [same] using h
    have := congrArg List.length h'
    simpa [lower] using this

end Go.Proofs.YtlmlbcnjohjnlaaDoor
