/- mirror, as plain data. -/
import Derived.Test.YtlmlbcnjohjnlaaDoorM19e
import Derived.Test.YtlmlbcnjohjnlaaDoorVa
namespace Go.Proofs.YtlmlbcnjohjnlaaDoor
open Go.RowKit

/-- A command that waits. -/
structure PA where
  tag : ByteArray
  verb : Int
  uid : Bool
  sil : Bool
  set : List Rg
/-- A row of the picture. -/
structure PR where
  uid : Int
  kn : Bool
  fl : List ByteArray
def PR0 : PR := ⟨0, false, []⟩
/-- A mirror. -/
structure PM where
  q : List PA
  sel : Bool
  v : Int
  n : Int
  h : Int
  rows : List PR
  was : Int → Option (List ByteArray)
  bg : Bool
/-- A value, as deep as a mirror looks. -/
structure PV where
  k : Int
  n : Int
  kids : List (Int × Int × ByteArray)
/-- An answer. -/
structure PN where
  k : Int
  tag : ByteArray
  out : Int
  code : Int
  num : Int
  arg : Option (Int × Int)
  data : List (ByteArray × PV)
def PM0 : PM := ⟨[], false, 0, 0, 0, [], fun _ => none, false⟩
def nopM (M : PM) : PM := ⟨M.q, false, 0, 0, 0, [], fun _ => none, M.bg⟩
def hasM (M : PM) (x : Int) : Bool := decide (1 ≤ x) && decide (x ≤ (M.rows.length : Int))
def isNm (k n least : Int) : Bool := k == 1 && decide (least ≤ n) && decide (n ≤ 4294967295)
def opnA (c : PA) : Bool := c.verb == 5 || c.verb == 6
def opnM (M : PM) : Bool := match M.q with
  | [] => false
  | c :: _ => opnA c
def telM (M : PM) : Bool := !M.q.isEmpty && M.sel && !opnM M
def leavA (c : PA) : Bool := c.verb == 17 || c.verb == 18 || c.verb == 3
def keepA (c : PA) : Bool := (c.verb == 21 || c.verb == 22 || c.verb == 20 || c.verb == 25 || c.verb == 26) && !c.uid
/-- Whether a set has a star. -/
def starL (l : List Rg) : Bool := l.any fun p => p.1 == 0 || p.2 == 0
/-- Whether a command may have meant a row. -/
def meanA (c : PA) (x : Int) (r : PR) : Bool := starL c.set || (if c.uid then r.uid == 0 || hasB c.set r.uid 4294967295 else hasB c.set x 4294967295)
/-- What a silent STORE has turned is not known. -/
def forgetL (c : PA) : Nat → List PR → List PR
  | _, [] => []
  | i, r :: l => (if r.kn && meanA c ((i : Int) + 1) r then ⟨r.uid, false, []⟩ else r) :: forgetL c (i + 1) l
/-- Behind an answer with a command's tag. -/
def doneM (M : PM) (c : PA) (out : Int) : PM :=
  let N : PM := { M with q := M.q.tail, bg := false }
  if opnA c && out == 1 then { N with sel := true }
  else if (opnA c && out == 2) || (leavA c && out == 1) then nopM N
  else if c.sil && out == 1 then { N with rows := forgetL c 0 N.rows } else N
/-- A row under way. -/
structure PD where
  r : PR
  h : Int
def nearA (l : List PR) : Int := ((l.map (·.uid)).find? (fun x => x != 0)).getD 0
def fitsM (rows : List PR) (i : Nat) (u : Int) : Bool := decide (nearA (rows.take i).reverse < u) && (nearA (rows.drop (i + 1)) == 0 || decide (u < nearA (rows.drop (i + 1))))
def learnUid (M : PM) (i : Nat) (d : PD) (v : PV) : Option PD :=
  if !isNm v.k v.n 1 then none
  else if d.r.uid != 0 then (if d.r.uid == v.n then some d else none)
  else if !fitsM M.rows i v.n then none
  else match M.was v.n with
    | some f => if d.r.kn then some ⟨⟨v.n, d.r.kn, d.r.fl⟩, d.h⟩ else some ⟨⟨v.n, true, f⟩, d.h⟩
    | none => some ⟨⟨v.n, d.r.kn, d.r.fl⟩, d.h⟩
end Go.Proofs.YtlmlbcnjohjnlaaDoor
