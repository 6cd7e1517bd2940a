/- Plain functions on texts for chapter 3: classes of bytes and texts, numbers. Nothing of the program. -/
import Derived.Test.YtbncaiocmklgnaaGreatDoorPu
namespace Go.Proofs.YtbncaiocmklgnaaGreatDoor
open Go.RowKit

theorem get_btx (s : ByteArray) (k : Nat) (h : k < s.size) : (s[k]'h) = bt (L s) k := by
  rw [bt_getElem (L s) k h]; rfl
def markB (c : UInt8) : Bool := c == 40 || c == 41 || c == 91 || c == 93 || c == 123 || c == 125 || c == 34
def bitsN (c : UInt8) : Nat :=
  if c == 0 || c == 10 || c == 13 || decide (127 < c.toNat) then 0
  else if c == 43 then 30 else if c == 37 || c == 42 then 28 else if c == 92 then 24
  else if decide (c.toNat ≤ 32) || c == 127 || markB c then 16 else 31
/-- A byte that an atom in a line may have. -/
def wordC (c : UInt8) : Bool := decide (33 ≤ c.toNat) && decide (c.toNat ≤ 126) && !markB c
def atomC (c : UInt8) : Bool := wordC c && !(c == 37) && !(c == 42) && !(c == 92)
def tagC (c : UInt8) : Bool := atomC c && !(c == 43)
def patC (c : UInt8) : Bool := atomC c || c == 37 || c == 42
def quotC (c : UInt8) : Bool := decide (1 ≤ c.toNat) && decide (c.toNat ≤ 127) && !(c == 10) && !(c == 13)
theorem all_bytes {p : UInt8 → Prop} (h : ∀ c : Fin 256, p (UInt8.ofNat c.val)) (c : UInt8) : p c := by
  have := h ⟨c.toNat, c.toNat_lt⟩
  simpa using this
theorem bits_tag (c : UInt8) : ((bitsN c &&& 1) == 0) = !tagC c := all_bytes (p := fun c => ((bitsN c &&& 1) == 0) = !tagC c) (by decide +kernel) c
theorem bits_atom (c : UInt8) : ((bitsN c &&& 2) == 0) = !atomC c := all_bytes (p := fun c => ((bitsN c &&& 2) == 0) = !atomC c) (by decide +kernel) c
theorem bits_pat (c : UInt8) : ((bitsN c &&& 4) == 0) = !patC c := all_bytes (p := fun c => ((bitsN c &&& 4) == 0) = !patC c) (by decide +kernel) c
theorem bits_word (c : UInt8) : ((bitsN c &&& 8) == 0) = !wordC c := all_bytes (p := fun c => ((bitsN c &&& 8) == 0) = !wordC c) (by decide +kernel) c
theorem bits_quot (c : UInt8) : ((bitsN c &&& 16) == 0) = !quotC c := all_bytes (p := fun c => ((bitsN c &&& 16) == 0) = !quotC c) (by decide +kernel) c
theorem bits_six (c : UInt8) : bitsN c = 0 ∨ bitsN c = 30 ∨ bitsN c = 28 ∨ bitsN c = 24 ∨ bitsN c = 16 ∨ bitsN c = 31 := by
  unfold bitsN
  split
  · simp
  · split
    · simp
    · split
      · simp
      · split
        · simp
        · split <;> simp
/-- What a bit asks of a byte. -/
def bitB (bit : Nat) (c : UInt8) : Bool := !((bitsN c &&& bit) == 0)
def allB (bit : Nat) (l : List UInt8) : Bool := l.all (bitB bit)
theorem all_snocP (p : UInt8 → Bool) (l : List UInt8) (k : Nat) (hk : k < l.length) (h : (l.take k).all p = true) (hd : p (bt l k) = true) : (l.take (k + 1)).all p = true := by
  rw [take_snoc l k hk, List.all_append, h]; simp [hd]
theorem all_noP (p : UInt8 → Bool) (l : List UInt8) (k : Nat) (hk : k < l.length) (hd : p (bt l k) = false) : l.all p = false := by
  rw [List.all_eq_false]
  exact ⟨bt l k, by rw [bt_getElem l k hk]; exact List.getElem_mem hk, by rw [hd]; simp⟩
theorem bitB_tag : bitB 1 = tagC := funext fun c => by unfold bitB; rw [bits_tag]; simp
theorem bitB_atom : bitB 2 = atomC := funext fun c => by unfold bitB; rw [bits_atom]; simp
theorem bitB_pat : bitB 4 = patC := funext fun c => by unfold bitB; rw [bits_pat]; simp
theorem bitB_word : bitB 8 = wordC := funext fun c => by unfold bitB; rw [bits_word]; simp
theorem bitB_quot : bitB 16 = quotC := funext fun c => by unfold bitB; rw [bits_quot]; simp

def nilL : List UInt8 := [78, 73, 76]
def isAtom (l : List UInt8) : Bool := !l.isEmpty && l.all atomC
def isAstr (l : List UInt8) : Bool := isAtom l && !same l nilL
def isTag (l : List UInt8) : Bool := !l.isEmpty && (decide (l.length ≤ 32) && l.all tagC)
def isKey (l : List UInt8) : Bool := decide (l.length ≤ 24) && isAtom l
def cutB (l : List UInt8) : Bool := match l with | [] => false | c :: _ => c == 92
def isFlag (l : List UInt8) : Bool := cutB l && isAtom l.tail || isKey l
def isPat (l : List UInt8) : Bool := !l.isEmpty && l.all patC
def isB (class_ : Int) (l : List UInt8) : Bool :=
  if class_ = 1 then isAtom l else if class_ = 2 then isAstr l else if class_ = 3 then isTag l
  else if class_ = 4 then isFlag l else if class_ = 5 then isKey l else if class_ = 6 then isPat l else false

def isDig (c : UInt8) : Bool := decide (48 ≤ c.toNat) && decide (c.toNat ≤ 57)
theorem isDig_iff (c : UInt8) : isDig c = true ↔ (48 ≤ c.toNat ∧ c.toNat ≤ 57) := by unfold isDig; simp
def valD (l : List UInt8) : Nat := l.foldl (fun a c => 10 * a + (c.toNat - 48)) 0
theorem valD_snoc (l : List UInt8) (c : UInt8) : valD (l ++ [c]) = 10 * valD l + (c.toNat - 48) := by unfold valD; rw [List.foldl_append]; rfl
theorem valD_ge (l m : List UInt8) : valD l ≤ valD (l ++ m) := by
  unfold valD
  rw [List.foldl_append]
  generalize l.foldl (fun a (c : UInt8) => 10 * a + (c.toNat - 48)) 0 = a
  induction m generalizing a with
  | nil => exact Nat.le_refl _
  | cons c m ih => rw [List.foldl_cons]; exact Nat.le_trans (by omega) (ih _)
theorem valD_take_le (l : List UInt8) (k : Nat) : valD (l.take k) ≤ valD l := by
  have := valD_ge (l.take k) (l.drop k)
  rwa [List.take_append_drop] at this
/-- A leading nought of several digits, or no digit at all. -/
def headBad (l : List UInt8) : Bool := l.isEmpty || (decide (1 < l.length) && (bt l 0 == 48))
def okN (l : List UInt8) (most : Int) : Bool := !headBad l && (l.all isDig && decide ((valD l : Int) ≤ most))
def numV (l : List UInt8) (most : Int) : Int := if okN l most then (valD l : Int) else 0
def errV (l : List UInt8) (most : Int) : Int := if okN l most then 0 else 3
theorem okN_head {l : List UInt8} {most : Int} (h : headBad l = true) : okN l most = false := by unfold okN; rw [h]; rfl
theorem okN_neg {l : List UInt8} {most : Int} (h : most < 0) : okN l most = false := by
  unfold okN; rw [Bool.and_eq_false_iff, Bool.and_eq_false_iff, decide_eq_false_iff_not]; omega
theorem okN_dig {l : List UInt8} {most : Int} (k : Nat) (hk : k < l.length) (h : isDig (bt l k) = false) : okN l most = false := by
  unfold okN; rw [all_noP isDig l k hk h, Bool.false_and, Bool.and_false]
theorem okN_much {l : List UInt8} {most : Int} (k : Nat) (hk : k < l.length) (h : most < 10 * (valD (l.take k) : Int) + (((bt l k).toNat - 48 : Nat) : Int)) : okN l most = false := by
  have h1 := valD_take_le l (k + 1)
  rw [take_snoc l k hk, valD_snoc] at h1
  unfold okN; rw [Bool.and_eq_false_iff, Bool.and_eq_false_iff, decide_eq_false_iff_not]; omega
theorem okN_yes {l : List UInt8} {most : Int} (h : headBad l = false) (h1 : l.all isDig = true) (h2 : (valD l : Int) ≤ most) : okN l most = true := by
  unfold okN; rw [h, h1, decide_eq_true h2]; rfl
theorem numV_no {l : List UInt8} {most : Int} (h : okN l most = false) : numV l most = 0 := by unfold numV; rw [h]; rfl
theorem errV_no {l : List UInt8} {most : Int} (h : okN l most = false) : errV l most = 3 := by unfold errV; rw [h]; rfl
theorem numV_yes {l : List UInt8} {most : Int} (h : okN l most = true) : numV l most = (valD l : Int) := by unfold numV; rw [h]; rfl
theorem errV_yes {l : List UInt8} {most : Int} (h : okN l most = true) : errV l most = 0 := by unfold errV; rw [h]; rfl
theorem ret_ii {a b c d : Int} (h1 : a = b) (h2 : c = d) : Ending.returned (.tuple #[.int .i64 a, .int .i64 c]) = .returned (.tuple #[.int .i64 b, .int .i64 d]) := by rw [h1, h2]
end Go.Proofs.YtbncaiocmklgnaaGreatDoor
