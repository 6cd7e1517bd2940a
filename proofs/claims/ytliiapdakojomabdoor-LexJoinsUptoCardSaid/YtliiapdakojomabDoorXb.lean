/- lex: isDigit, the reference's digit, Number of both. -/
import Derived.Test.YtliiapdakojomabDoorRows
import Derived.Test.YtliiapdakojomabDoorXa
import Derived.Test.YtliiapdakojomabDoorXq
namespace Go.Proofs.YtliiapdakojomabDoor
open Go.RowKit

set_option maxHeartbeats 400000 in
theorem isDigit_any (c : UInt8) (w : World) :
    Calls Tryd.prog 64 #[.int .u8 (c.toNat : Int)] w fun e w' => e = .returned (.bool (isDig c)) ∧ w' = w := by
  have h256 : c.toNat < 256 := c.toNat_lt
  by_cases h : 48 ≤ c.toNat
  · by_cases h2 : c.toNat ≤ 57
    · have HR : Hid (isDig c = true) := Lib.hid ((isDig_iff c).2 ⟨h, h2⟩)
      go_enter Tryd.func64, Tryd.ntmps64
      go_wp2
      go_ret
      exact ⟨ret_bool (by first | exact HR.out.symm | (rw [HR.out, decide_eq_true_iff]; omega) | (rw [HR.out, decide_eq_false_iff_not]; omega)), rfl⟩
    · have HR : Hid (isDig c = false) := Lib.hid (by rw [← Bool.not_eq_true, isDig_iff]; omega)
      go_enter Tryd.func64, Tryd.ntmps64
      go_wp2
      go_ret
      exact ⟨ret_bool (by first | exact HR.out.symm | (rw [HR.out, decide_eq_true_iff]; omega) | (rw [HR.out, decide_eq_false_iff_not]; omega)), rfl⟩
  · have HR : Hid (isDig c = false) := Lib.hid (by rw [← Bool.not_eq_true, isDig_iff]; omega)
    go_enter Tryd.func64, Tryd.ntmps64
    go_wp2
    go_ret
    exact ⟨ret_bool (by first | exact HR.out.symm | (rw [HR.out, decide_eq_true_iff]; omega) | (rw [HR.out, decide_eq_false_iff_not]; omega)), rfl⟩
set_option maxHeartbeats 400000 in
theorem rdigit_any (c : UInt8) (w : World) :
    Calls Tryd.prog 71 #[.int .u8 (c.toNat : Int)] w fun e w' => e = .returned (.bool (isDig c)) ∧ w' = w := by
  have h256 : c.toNat < 256 := c.toNat_lt
  by_cases h : 48 ≤ c.toNat
  · by_cases h2 : c.toNat ≤ 57
    · have HR : Hid (isDig c = true) := Lib.hid ((isDig_iff c).2 ⟨h, h2⟩)
      go_enter Tryd.func71, Tryd.ntmps71
      go_wp2
      go_ret
      exact ⟨ret_bool (by first | exact HR.out.symm | (rw [HR.out, decide_eq_true_iff]; omega) | (rw [HR.out, decide_eq_false_iff_not]; omega)), rfl⟩
    · have HR : Hid (isDig c = false) := Lib.hid (by rw [← Bool.not_eq_true, isDig_iff]; omega)
      go_enter Tryd.func71, Tryd.ntmps71
      go_wp2
      go_ret
      exact ⟨ret_bool (by first | exact HR.out.symm | (rw [HR.out, decide_eq_true_iff]; omega) | (rw [HR.out, decide_eq_false_iff_not]; omega)), rfl⟩
  · have HR : Hid (isDig c = false) := Lib.hid (by rw [← Bool.not_eq_true, isDig_iff]; omega)
    go_enter Tryd.func71, Tryd.ntmps71
    go_wp2
    go_ret
    exact ⟨ret_bool (by first | exact HR.out.symm | (rw [HR.out, decide_eq_true_iff]; omega) | (rw [HR.out, decide_eq_false_iff_not]; omega)), rfl⟩
end Go.Proofs.YtliiapdakojomabDoor

/- lex, plain: words, announcements, a scanner's rounds. -/
namespace Go.Proofs.YtliiapdakojomabDoor
open Go.RowKit

/-- A word of a line. -/
inductive Wd where
  | mk (kind : Int) (text : ByteArray) (kids : List Wd) (glued : Bool)
def Wd.kind : Wd → Int | .mk k _ _ _ => k
def Wd.text : Wd → ByteArray | .mk _ t _ _ => t
def Wd.kids : Wd → List Wd | .mk _ _ l _ => l
def Wd.glued : Wd → Bool | .mk _ _ _ g => g

/-- An announcement at the beginning of a text that begins with a brace. -/
def annD (l : List UInt8) : List UInt8 := (l.drop 1).takeWhile isDig
def capN (a : Nat) (c : UInt8) : Nat := min (a * 10 + (c.toNat - 48)) 4294967296
def annF (l : List UInt8) : Nat := (annD l).foldl capN 0
def annR (l : List UInt8) : List UInt8 := l.drop (1 + (annD l).length)
def annP (l : List UInt8) : Bool := (annR l).head? == some 43
def annE (l : List UInt8) : List UInt8 := if annP l then (annR l).tail else annR l
def annB (l : List UInt8) : Bool := !(annD l).isEmpty && (annE l).head? == some 125
def annN (l : List UInt8) : Nat := if annB l then annF l else 0
def annQ (l : List UInt8) : Bool := annB l && annP l
def annS (l : List UInt8) : Nat := if annB l then l.length - (annE l).length + 1 else 0

def openerB (c : UInt8) : Bool := c == 40 || c == 91
def closerB (c : UInt8) : Bool := c == 41 || c == 93
def kindC (c : UInt8) : Int := if c == 40 || c == 41 then 4 else 5

/-- A list or bracket that has not ended (the first: the line as a whole). -/
structure Fr where
  kind : Int
  glued : Bool
  kids : List Wd
structure Sc where
  pos : Nat
  lits : List ByteArray
  begun : Nat
  under : List Fr
  top : Fr
def blankB (l : List UInt8) (k : Nat) : Bool := decide (0 < k) && bt l (k - 1) == 32
def Sc.word (l : List UInt8) (s : Sc) : Bool := !s.top.kids.isEmpty && !blankB l s.pos
def begB (l : List UInt8) (k : Nat) : Bool := if bt l k == 123 then annB (l.drop k) else bt l k == 34 || openerB (bt l k) || wordC (bt l k)
def fitB (l : List UInt8) (k : Nat) : List ByteArray → Bool
  | [] => false
  | x :: _ => x.size == annN (l.drop k)
def Sc.pause (l : List UInt8) (s : Sc) : Bool := s.word l && (decide (s.pos + 1 = l.length) || !closerB (bt l (s.pos + 1)))
def Sc.fault (l : List UInt8) (s : Sc) : Int :=
  let c := bt l s.pos
  if begB l s.pos && s.begun == 512 then 34
  else if openerB c && decide (12 < s.under.length + 1) || closerB c && !(s.top.kind == kindC c) then 33
  else if c == 123 && begB l s.pos && !fitB l s.pos s.lits then 32
  else if begB l s.pos || closerB c || c == 32 && s.pause l then 0 else 30
/-- What is wrong at the line's end (k: the line's size). -/
def Sc.endE (l : List UInt8) (quoting : Bool) (s : Sc) : Int :=
  if !s.under.isEmpty then 33 else if quoting then 31 else if blankB l s.pos then 30 else if !s.lits.isEmpty then 32 else 0

/-- What is wrong or done in quotes: behind the first of them. -/
inductive Qr where
  | bad
  | cut
  | done (text : List UInt8) (n : Nat)
def quo : List UInt8 → Bool → List UInt8 → Nat → Qr
  | [], _, _, _ => .cut
  | c :: r, esc, acc, n =>
    if !(quotC c && (!esc || slashB c)) then .bad
    else if c == 34 && !esc then .done acc (n + 1)
    else if c == 92 && !esc then quo r true acc (n + 1)
    else quo r false (acc ++ [c]) (n + 1)
def Sc.add (s : Sc) (d : Wd) : Sc := { s with top := { s.top with kids := s.top.kids ++ [d] } }
def atomL (l : List UInt8) (k : Nat) : List UInt8 := (l.drop k).takeWhile wordC
inductive Rd where
  | err (e : Int)
  | cut (s : Sc)
  | go (s : Sc)
/-- One round at a byte that has no fault. -/
def Sc.step (l : List UInt8) (s : Sc) : Rd :=
  let c := bt l s.pos
  if c == 32 then .go { s with pos := s.pos + 1 }
  else if openerB c then .go { s with pos := s.pos + 1, begun := s.begun + 1, under := s.under ++ [s.top], top := ⟨kindC c, s.word l, []⟩ }
  else if closerB c then
    match s.under.getLast? with
    | none => .go s
    | some f => .go { s with pos := s.pos + 1, under := s.under.dropLast, top := { f with kids := f.kids ++ [Wd.mk s.top.kind (S []) s.top.kids s.top.glued] } }
  else if c == 123 then .go ({ s with pos := s.pos + annS (l.drop s.pos), begun := s.begun + 1, lits := s.lits.tail }.add (Wd.mk 3 (s.lits.headD (S [])) [] (s.word l)))
  else if c == 34 then
    match quo (l.drop (s.pos + 1)) false [] 0 with
    | .bad => .err 31
    | .cut => .cut { s with pos := l.length, begun := s.begun + 1 }
    | .done t n => .go ({ s with pos := s.pos + 1 + n, begun := s.begun + 1 }.add (Wd.mk 2 (S t) [] (s.word l)))
  else .go ({ s with pos := s.pos + (atomL l s.pos).length, begun := s.begun + 1 }.add (Wd.mk 1 (S (atomL l s.pos)) [] (s.word l)))
def Sc.run (l : List UInt8) : Nat → Sc → Int × List Wd
  | 0, s => (s.endE l false, s.top.kids)
  | n + 1, s =>
    if s.pos < l.length then
      if s.fault l = 0 then
        match s.step l with
        | .err e => (e, [])
        | .cut s' => (s'.endE l true, [])
        | .go s' => s'.run l n
      else (s.fault l, [])
    else (s.endE l false, s.top.kids)
def longB (l : List UInt8) (lits : List ByteArray) : Bool := decide (4096 < l.length) || decide (512 < lits.length) || lits.any (fun x => decide (16384 < x.size))
def Sc.new (lits : List ByteArray) : Sc := ⟨0, lits, 0, [], ⟨0, false, []⟩⟩
def scanE (l : List UInt8) (lits : List ByteArray) : Int := if longB l lits then 2 else ((Sc.new lits).run l l.length).1
def scanW (l : List UInt8) (lits : List ByteArray) : List Wd := if longB l lits then [] else if scanE l lits = 0 then ((Sc.new lits).run l l.length).2 else []
end Go.Proofs.YtliiapdakojomabDoor
