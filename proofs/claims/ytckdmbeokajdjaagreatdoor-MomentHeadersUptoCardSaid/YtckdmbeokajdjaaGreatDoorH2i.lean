/- moment: ReadHeader in whole; plain: what is read is a moment. -/
import Derived.Test.YtckdmbeokajdjaaGreatDoorHd
import Derived.Test.YtckdmbeokajdjaaGreatDoorHh
namespace Go.Proofs.YtckdmbeokajdjaaGreatDoor
open Go.RowKit

/-- A cursor within N bytes, whose letters are letters. -/
structure Good (N : Nat) (c : Cur) : Prop where
  l : c.k = 1 → c.p.all isLet = true
  p : c.p.length ≤ N
  r : c.r.length ≤ N
theorem all_takeWhile (f : UInt8 → Bool) (l : List UInt8) : (l.takeWhile f).all f = true := by
  induction l with
  | nil => rfl
  | cons a l ih =>
    rw [List.takeWhile_cons]
    cases h : f a with
    | true => simp only [if_true, List.all_cons, h, ih]; rfl
    | false => simp
theorem take_takeWhile (f : UInt8 → Bool) (l : List UInt8) : l.take (l.takeWhile f).length = l.takeWhile f := by
  induction l with
  | nil => rfl
  | cons a l ih =>
    rw [List.takeWhile_cons]
    cases h : f a with
    | true => simp only [if_true, List.length_cons, List.take_succ_cons, ih]
    | false => simp
theorem Good.stp (N : Nat) (r : List UInt8) (h : r.length ≤ N) : Good N (stp r) := by
  have hr : (r.drop (skD r 0 false)).length ≤ N := by rw [List.length_drop]; omega
  show Good N ⟨cutK (r.drop (skD r 0 false)), (r.drop (skD r 0 false)).take (cutN (r.drop (skD r 0 false))), (r.drop (skD r 0 false)).drop (cutN (r.drop (skD r 0 false)))⟩
  generalize r.drop (skD r 0 false) = r1 at *
  refine ⟨?_, ?_, ?_⟩
  · intro hk
    cases r1 with
    | nil => cases hk
    | cons c q =>
      have hc : isLet c = true := by
        cases hc : isLet c with
        | true => rfl
        | false =>
          exfalso
          revert hk
          show cutK (c :: q) = 1 → False
          unfold cutK
          simp only [hc, Bool.false_eq_true, if_false]
          repeat' split
          all_goals decide
      have hn : cutN (c :: q) = ((c :: q).takeWhile isLet).length := by unfold cutN; simp only [hc, if_true]
      show ((c :: q).take (cutN (c :: q))).all isLet = true
      rw [hn, take_takeWhile]
      exact all_takeWhile _ _
  · show (r1.take (cutN r1)).length ≤ N
    rw [List.length_take]; omega
  · show (r1.drop (cutN r1)).length ≤ N
    rw [List.length_drop]; omega
theorem Good.take {N : Nat} {c : Cur} (h : Good N c) (k : Nat) : Good N (c.take k).2 := by
  unfold Cur.take
  split
  · exact Good.stp N _ h.r
  · exact h
theorem Good.short {N : Nat} {c : Cur} (h : Good N c) (t : Int) : Good N (c.short t).2 := h.take 2
theorem Good.hc1 (l : List UInt8) : Good l.length (hc1 l) := by
  have h0 := Good.stp l.length l (Nat.le_refl _)
  unfold Proofs.YtckdmbeokajdjaaGreatDoor.hc1 wkC
  split
  · exact (h0.take 1).take 4
  · exact h0
theorem Good.hc2 (l : List UInt8) : Good l.length (hc2 l) := by
  unfold Proofs.YtckdmbeokajdjaaGreatDoor.hc2 dyC
  exact (((Good.hc1 l).short 99).take 1).take 2
theorem Good.hc3 (l : List UInt8) : Good l.length (hc3 l) := by
  have h2 := Good.hc2 l
  have h4 : Good l.length (clR (Proofs.YtckdmbeokajdjaaGreatDoor.hc2 l)) := by
    unfold clR
    exact (((h2.short 23).take 5).short 59)
  unfold Proofs.YtckdmbeokajdjaaGreatDoor.hc3 clC
  split
  · unfold seC
    split
    · exact (h4.take 5).short 60
    · exact h4
  · exact h4
theorem momReadHeader_any (s : ByteArray) (w : World) (he : Env w) (hs : s.size ≤ 140737488355328) :
    Calls Tryz.prog 8 #[.string s] w fun e w' => e = .returned (.tuple #[rhV (L s) (nzI (hc3 (L s)).p), .int .i64 (rhE (L s))]) ∧ Below w.heap.size w w' := by
  refine momReadHeader_go s _ w he hs (fun hk W => ?_)
  have hg := Good.hc3 (L s)
  have := namedZone_any (S (hc3 (L s)).p) W (by rw [S_size]; have := hg.p; rw [L_length] at this; omega) (by rw [L_S]; exact hg.l hk)
  rw [L_S] at this
  exact this
end Go.Proofs.YtckdmbeokajdjaaGreatDoor
