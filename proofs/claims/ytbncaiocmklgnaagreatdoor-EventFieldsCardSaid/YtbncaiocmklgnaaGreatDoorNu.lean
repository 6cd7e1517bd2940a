/- Plain mathematics: mailbox names on the wire. Nothing of the program. -/
import Derived.Test.YtbncaiocmklgnaaGreatDoorQu
import Derived.Lib.IndexMore
import Derived.Lib.RuneBytes
namespace Go.Proofs.YtbncaiocmklgnaaGreatDoor
open Go.RowKit

theorem dec_le (s : ByteArray) (pos : Nat) : (Utf8.decode s pos).1 ≤ 1114111 := by
  have hb : ∀ k, (s.get! (pos + k)).toNat < 256 := fun k => (s.get! (pos + k)).toNat_lt
  have h0 := hb 0; have h1 := hb 1; have h2 := hb 2; have h3 := hb 3
  simp only [Utf8.decode]
  repeat' split
  all_goals simp_all [Utf8.runeError, Utf8.valid]
  all_goals omega
theorem dec_wd (s : ByteArray) (pos : Nat) (h : pos < s.size) : 1 ≤ (Utf8.decode s pos).2 ∧ pos + (Utf8.decode s pos).2 ≤ s.size := by
  simp only [Utf8.decode]
  repeat' split
  all_goals simp_all
  all_goals omega

/-- The characters from a place on, each with its place. -/
def rn (s : ByteArray) : Nat → Nat → List (Nat × Nat)
  | 0, _ => []
  | f + 1, p => if p < s.size then (p, (Utf8.decode s p).1) :: rn s f (p + (Utf8.decode s p).2) else []
def runes (s : ByteArray) : List (Nat × Nat) := rn s s.size 0
theorem rn_end (s : ByteArray) (f p : Nat) (h : ¬ p < s.size) : rn s f p = [] := by
  cases f with
  | zero => rfl
  | succ f => simp [rn, h]
theorem rn_step (s : ByteArray) (f p : Nat) (h : p < s.size) (hf : s.size ≤ p + f) : ∃ f', rn s f p = (p, (Utf8.decode s p).1) :: rn s f' (p + (Utf8.decode s p).2) ∧ s.size ≤ p + (Utf8.decode s p).2 + f' := by
  obtain ⟨g, rfl⟩ : ∃ g, f = g + 1 := ⟨f - 1, by omega⟩
  refine ⟨g, by simp [rn, h], ?_⟩
  have := (dec_wd s p h).1
  omega

theorem S_append (a b : List UInt8) : S a ++ S b = S (a ++ b) := by
  apply ByteArray.ext
  simp [S]
def unit8 (r : Nat) : List UInt8 := [UInt8.ofNat (r / 256), UInt8.ofNat r]
def pairOf (r : Nat) : List UInt8 := if 65536 ≤ r then unit8 (55296 + (r - 65536) / 1024) ++ unit8 (56320 + (r - 65536) % 1024) else unit8 r
theorem pairOf_len (r : Nat) : (pairOf r).length ≤ 4 := by unfold pairOf unit8; split <;> simp
def pairs (s : ByteArray) : List UInt8 := (runes s).flatMap fun x => pairOf x.2

def runOfP (pk : List UInt8 → List UInt8) (run : List UInt8) : List UInt8 := if run = [] then [] else 38 :: (pk (pairs (S run)) ++ [45])
def fitsI (n : Int) : Bool := decide (1 ≤ n ∧ n ≤ 32)
def badR (r : Nat) : Bool := decide (r < 32) || r == 127 || r == 37 || r == 42
def nameGo (size : Nat) : List (Nat × Nat) → Nat → Nat → Bool
  | [], lv, fr => decide (lv ≤ 6) && fitsI ((size : Int) - fr)
  | x :: rest, lv, fr => if x.2 = 47 then fitsI ((x.1 : Int) - fr) && nameGo size rest (lv + 1) (x.1 + 1) else !badR x.2 && nameGo size rest lv fr
def first (l : List UInt8) : List UInt8 := (Lib.cut l [47]).1
def inboxL : List UInt8 := [73, 78, 66, 79, 88]
def withInbox (l : List UInt8) : List UInt8 := if same (first l) inboxL then inboxL ++ l.drop (first l).length else l
def isName (l : List UInt8) : Bool := (withInbox l == l) && nameGo l.length (runes (S l)) 1 0
theorem wrap_hi (r : Nat) : IntKind.u8.wrap ((r : Int) / 256) = ((UInt8.ofNat (r / 256)).toNat : Int) := by
  rw [IntKind.wrap_u8]; simp
theorem wrap_lo (r : Nat) : IntKind.u8.wrap (r : Int) = ((UInt8.ofNat r).toNat : Int) := by
  rw [IntKind.wrap_u8]; simp
theorem i32_or10 {x y : Int} (hx₀ : 0 ≤ x) (hx : x % 1024 = 0) (hx₁ : x < 2147483648) (h₀ : 0 ≤ y) (h₁ : y < 1024) : bits .or .i32 x y = x + y :=
  bits_join .i32 31 (by decide) wraps_i32 10 x y hx₀ hx hx₁ h₀ h₁ (by omega)
theorem i32_and1023 {x : Int} (h₀ : 0 ≤ x) (h₁ : x < 2147483648) : bits .and .i32 x 1023 = x % 1024 :=
  bits_mask .i32 31 (by decide) wraps_i32 10 (by decide) x h₀ h₁

def nameL : List UInt8 := [65, 66, 67, 68, 69, 70, 71, 72, 73, 74, 75, 76, 77, 78, 79, 80, 81, 82, 83, 84, 85, 86, 87, 88, 89, 90, 97, 98, 99, 100, 101, 102, 103, 104, 105, 106, 107, 108, 109, 110, 111, 112, 113, 114, 115, 116, 117, 118, 119, 120, 121, 122, 48, 49, 50, 51, 52, 53, 54, 55, 56, 57, 43, 44]
def nameB : ByteArray := ⟨#[65, 66, 67, 68, 69, 70, 71, 72, 73, 74, 75, 76, 77, 78, 79, 80, 81, 82, 83, 84, 85, 86, 87, 88, 89, 90, 97, 98, 99, 100, 101, 102, 103, 104, 105, 106, 107, 108, 109, 110, 111, 112, 113, 114, 115, 116, 117, 118, 119, 120, 121, 122, 48, 49, 50, 51, 52, 53, 54, 55, 56, 57, 43, 44]⟩
theorem nameB_L : L nameB = nameL := rfl
theorem nameB_size : nameB.size = 64 := rfl
theorem rn_pairs_len (s : ByteArray) : ∀ f p, ((rn s f p).flatMap fun x => pairOf x.2).length ≤ 4 * f := by
  intro f
  induction f with
  | zero => intro p; simp [rn]
  | succ f ih =>
    intro p
    rw [rn]
    split
    · rw [List.flatMap_cons, List.length_append]
      have h1 := ih (p + (Utf8.decode s p).2)
      have h2 := pairOf_len (Utf8.decode s p).1
      simp only at h1 h2 ⊢
      omega
    · simp
theorem pairs_len (s : ByteArray) : (pairs s).length ≤ 4 * s.size := rn_pairs_len s s.size 0
theorem i32_or8 {x y : Int} (hx₀ : 0 ≤ x) (hx : x % 256 = 0) (hx₁ : x < 2147483648) (h₀ : 0 ≤ y) (h₁ : y < 256) : bits .or .i32 x y = x + y :=
  bits_join .i32 31 (by decide) wraps_i32 8 x y hx₀ hx hx₁ h₀ h₁ (by omega)
def unitN (l : List UInt8) (i : Nat) : Nat := if i + 1 < l.length then (bt l i).toNat * 256 + (bt l (i + 1)).toNat else 0
theorem unitN_lt (l : List UInt8) (i : Nat) : unitN l i < 65536 := by
  unfold unitN; have := bt_lt l i; have := bt_lt l (i + 1); split <;> omega
theorem unitN_pos (l : List UInt8) (i : Nat) (h : 0 < unitN l i) : i + 1 < l.length := by
  unfold unitN at h; split at h <;> omega
def pairB (u lo : Nat) : Bool := decide (55296 ≤ u ∧ u < 56320 ∧ 56320 ≤ lo ∧ lo < 57344)
def rp (l : List UInt8) : Nat → Nat → List UInt8
  | 0, _ => []
  | f + 1, k => if k + 1 < l.length then
      (if pairB (unitN l k) (unitN l (k + 2)) then Lib.encodeRune ((65536 + (unitN l k - 55296) * 1024 + (unitN l (k + 2) - 56320) : Nat) : Int) ++ rp l f (k + 4)
      else Lib.encodeRune ((unitN l k : Nat) : Int) ++ rp l f (k + 2)) else []
def readPairs (l : List UInt8) : List UInt8 := rp l l.length 0
theorem encLen (r : Int) : 1 ≤ (Lib.encodeRune r).length ∧ (Lib.encodeRune r).length ≤ 4 := by
  have := Lib.runeCells_le r; rw [Lib.runeCells_length] at this; exact this
theorem rp_len (l : List UInt8) : ∀ f k, (rp l f k).length ≤ 4 * f := by
  intro f
  induction f with
  | zero => intro k; simp [rp]
  | succ f ih =>
    intro k
    rw [rp]
    split
    · split
      · rw [List.length_append]; have h1 := ih (k + 4); have h2 := (encLen ((65536 + (unitN l k - 55296) * 1024 + (unitN l (k + 2) - 56320) : Nat) : Int)).2; omega
      · rw [List.length_append]; have h1 := ih (k + 2); have h2 := (encLen ((unitN l k : Nat) : Int)).2; omega
    · simp
def dash : List UInt8 → Option Nat
  | [] => none
  | c :: r => if c = 45 then some 0 else (dash r).map (· + 1)
theorem dash_lt (l : List UInt8) (k : Nat) (h : dash l = some k) : k < l.length := by
  induction l generalizing k with
  | nil => simp [dash] at h
  | cons c r ih =>
    rw [dash] at h
    split at h
    · simp at h; subst h; simp
    · cases hd : dash r with
      | none => simp [hd] at h
      | some j => simp [hd] at h; have := ih j hd; simp only [List.length_cons]; omega
end Go.Proofs.YtbncaiocmklgnaaGreatDoor
