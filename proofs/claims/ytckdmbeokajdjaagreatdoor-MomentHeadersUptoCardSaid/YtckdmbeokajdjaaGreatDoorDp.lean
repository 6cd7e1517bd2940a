/- Plain: the pieces of a header's date, as a cursor takes them. Nothing of the program. -/
import Derived.Test.YtckdmbeokajdjaaGreatDoorDg
namespace Go.Proofs.YtckdmbeokajdjaaGreatDoor

def blankB (c : UInt8) : Bool := c == 32 || c == 9 || c == 13 || c == 10
/-- How many bytes a comment takes, d open. -/
def comD : List UInt8 → Nat → Bool → Nat
  | [], _, _ => 0
  | _ :: r, d, true => 1 + comD r d false
  | b :: r, d, false => if b = 92 then 1 + comD r d true else if b = 40 then 1 + comD r (d + 1) false else if b = 41 then (if d ≤ 1 then 1 else 1 + comD r (d - 1) false) else 1 + comD r d false
/-- How many bytes blanks and comments take, d open. -/
def skD : List UInt8 → Nat → Bool → Nat
  | [], _, _ => 0
  | _ :: r, d, true => 1 + skD r d false
  | b :: r, d, false => if b = 40 then 1 + skD r (d + 1) false else if 0 < d then (if b = 41 then 1 + skD r (d - 1) false else if b = 92 then 1 + skD r d true else 1 + skD r d false) else if blankB b then 1 + skD r 0 false else 0
theorem comD_le : ∀ (r : List UInt8) (d : Nat) (e : Bool), comD r d e ≤ r.length := by
  intro r
  induction r with
  | nil => intro d e; simp [comD]
  | cons b r ih =>
    intro d e
    cases e
    · simp only [comD, List.length_cons]
      have h1 := ih d true
      have h2 := ih (d + 1) false
      have h3 := ih (d - 1) false
      have h4 := ih d false
      repeat' split
      all_goals omega
    · simp only [comD, List.length_cons]
      have := ih d false
      omega
theorem skD_le : ∀ (r : List UInt8) (d : Nat) (e : Bool), skD r d e ≤ r.length := by
  intro r
  induction r with
  | nil => intro d e; simp [skD]
  | cons b r ih =>
    intro d e
    cases e
    · simp only [skD, List.length_cons]
      have h1 := ih d true
      have h2 := ih (d + 1) false
      have h3 := ih (d - 1) false
      have h4 := ih d false
      have h5 := ih 0 false
      repeat' split
      all_goals omega
    · simp only [skD, List.length_cons]
      have := ih d false
      omega
theorem sk_com : ∀ (r : List UInt8) (d : Nat) (e : Bool), 1 ≤ d → skD r d e = comD r d e + skD (r.drop (comD r d e)) 0 false := by
  intro r
  induction r with
  | nil => intro d e _; simp [skD, comD]
  | cons b r ih =>
    intro d e hd
    have dr : ∀ n, (b :: r).drop (1 + n) = r.drop n := fun n => by rw [Nat.add_comm]; rfl
    cases e
    · simp only [skD, comD]
      by_cases h40 : b = 40
      · subst h40
        rw [if_pos rfl, if_neg (by decide), if_pos rfl, dr, ih (d + 1) false (by omega)]; omega
      · rw [if_neg h40, if_pos (by omega), if_neg h40]
        by_cases h41 : b = 41
        · subst h41
          rw [if_pos rfl, if_neg (by decide), if_pos rfl]
          by_cases h1 : d ≤ 1
          · rw [if_pos h1]
            obtain rfl : d = 1 := by omega
            rfl
          · rw [if_neg h1, dr, ih (d - 1) false (by omega)]; omega
        · rw [if_neg h41, if_neg h41]
          by_cases h92 : b = 92
          · rw [if_pos h92, if_pos h92, dr, ih d true hd]; omega
          · rw [if_neg h92, if_neg h92, dr, ih d false hd]; omega
    · simp only [skD, comD]
      rw [dr, ih d false hd]; omega
/-- A letter. -/
def isLet (c : UInt8) : Bool := decide (97 ≤ smI c.toNat) && decide (smI c.toNat ≤ 122)
/-- What stands at a place: its kind, how long it is. -/
def cutK (r : List UInt8) : Nat :=
  match r with
  | [] => 0
  | c :: q => if isLet c then 1 else if isDig c then 2 else if c = 44 then 4 else if c = 58 then 5 else if (c = 43 ∨ c = 45) ∧ 0 < (q.takeWhile isDig).length then 3 else 6
def cutN (r : List UInt8) : Nat :=
  match r with
  | [] => 0
  | c :: q => if isLet c then ((c :: q).takeWhile isLet).length else if isDig c then ((c :: q).takeWhile isDig).length else if c = 43 ∨ c = 45 then 1 + (q.takeWhile isDig).length else 1
theorem tw_le (p : UInt8 → Bool) (q : List UInt8) : (q.takeWhile p).length ≤ q.length := (List.takeWhile_prefix p).length_le
theorem cutN_le (r : List UInt8) : cutN r ≤ r.length := by
  unfold cutN
  split
  · simp
  · rename_i c q
    have h1 := tw_le isLet (c :: q)
    have h2 := tw_le isDig (c :: q)
    have h3 := tw_le isDig q
    simp only [List.length_cons] at *
    repeat' split
    all_goals omega
/-- A cursor: the piece that it stands at, and what is behind it. -/
structure Cur where
  k : Nat
  p : List UInt8
  r : List UInt8
def stp (r : List UInt8) : Cur :=
  let r1 := r.drop (skD r 0 false)
  ⟨cutK r1, r1.take (cutN r1), r1.drop (cutN r1)⟩
def Cur.take (c : Cur) (k : Nat) : (List UInt8 × Bool) × Cur := if c.k = k then ((c.p, true), stp c.r) else (([], false), c)
def Cur.short (c : Cur) (top : Int) : (Int × Bool) × Cur :=
  let t := c.take 2
  ((numI t.1.1 1 2, numB t.1.1 1 2 && decide (numI t.1.1 1 2 ≤ top)), t.2)
end Go.Proofs.YtckdmbeokajdjaaGreatDoor
