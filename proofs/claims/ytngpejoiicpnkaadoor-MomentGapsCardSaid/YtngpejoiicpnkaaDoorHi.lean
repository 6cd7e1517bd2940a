/- moment: ReadHeader in whole; plain: what is read is a moment. -/
import Derived.Test.YtngpejoiicpnkaaDoorHf
import Derived.Test.YtngpejoiicpnkaaDoorHh
namespace Go.Proofs.YtngpejoiicpnkaaDoor
open Go.RowKit

/-- A cursor within N bytes, whose letters are letters. -/
structure Good (N : Nat) (c : Cur) : Prop where
  l : c.k = 1 → c.p.all isLet = true
  p : c.p.length ≤ N
  r : c.r.length ≤ N
theorem all_takeWhile (f : UInt8 → Bool) (l : List UInt8) : (l.takeWhile f).all f = true := by
  induction l with
  | nil => rfl
  | cons a l ih =>
    rw [List.takeWhile_cons]
    cases h : f a with
    | true => simp only [if_true, List.all_cons, h, ih]; rfl
    | false => simp
theorem take_takeWhile (f : UInt8 → Bool) (l : List UInt8) : l.take (l.takeWhile f).length = l.takeWhile f := by
  induction l with
  | nil => rfl
  | cons a l ih =>
    rw [List.takeWhile_cons]
    cases h : f a with
    | true => simp only [if_true, List.length_cons, List.take_succ_cons, ih]
    | false => simp
theorem Good.stp (N : Nat) (r : List UInt8) (h : r.length ≤ N) : Good N (stp r) := by
  have hr : (r.drop (skD r 0 false)).length ≤ N := by rw [List.length_drop]; omega
  show Good N ⟨cutK (r.drop (skD r 0 false)), (r.drop (skD r 0 false)).take (cutN (r.drop (skD r 0 false))), (r.drop (skD r 0 false)).drop (cutN (r.drop (skD r 0 false)))⟩
  generalize r.drop (skD r 0 false) = r1 at *
  refine ⟨?_, ?_, ?_⟩
  · intro hk
    cases r1 with
    | nil => cases hk
    | cons c q =>
      have hc : isLet c = true := by
        cases hc : isLet c with
        | true => rfl
        | false =>
          exfalso
          revert hk
          show cutK (c :: q) = 1 → False
          unfold cutK
          simp only [hc, Bool.false_eq_true, if_false]
          repeat' split
          all_goals decide
      have hn : cutN (c :: q) = ((c :: q).takeWhile isLet).length := by unfold cutN; simp only [hc, if_true]
      show ((c :: q).take (cutN (c :: q))).all isLet = true
      rw [hn, take_takeWhile]
      exact all_takeWhile _ _
  · show (r1.take (cutN r1)).length ≤ N
    rw [List.length_take]; omega
  · show (r1.drop (cutN r1)).length ≤ N
    rw [List.length_drop]; omega
theorem Good.take {N : Nat} {c : Cur} (h : Good N c) (k : Nat) : Good N (c.take k).2 := by
  unfold Cur.take
  split
  · exact Good.stp N _ h.r
  · exact h
theorem Good.short {N : Nat} {c : Cur} (h : Good N c) (t : Int) : Good N (c.short t).2 := h.take 2
theorem Good.hc1 (l : List UInt8) : Good l.length (hc1 l) := by
  have h0 := Good.stp l.length l (Nat.le_refl _)
  unfold Proofs.YtngpejoiicpnkaaDoor.hc1 wkC
  split
  · exact (h0.take 1).take 4
  · exact h0
theorem Good.hc2 (l : List UInt8) : Good l.length (hc2 l) := by
  unfold Proofs.YtngpejoiicpnkaaDoor.hc2 dyC
  exact (((Good.hc1 l).short 99).take 1).take 2
theorem Good.hc3 (l : List UInt8) : Good l.length (hc3 l) := by
  have h2 := Good.hc2 l
  have h4 : Good l.length (clR (Proofs.YtngpejoiicpnkaaDoor.hc2 l)) := by
    unfold clR
    exact (((h2.short 23).take 5).short 59)
  unfold Proofs.YtngpejoiicpnkaaDoor.hc3 clC
  split
  · unfold seC
    split
    · exact (h4.take 5).short 60
    · exact h4
  · exact h4
theorem momReadHeader_any (s : ByteArray) (w : World) (he : Env w) (hs : s.size ≤ 140737488355328) :
    Calls Tryd.prog 21 #[.string s] w fun e w' => e = .returned (.tuple #[rhV (L s) (nzI (hc3 (L s)).p), .int .i64 (rhE (L s))]) ∧ Below w.heap.size w w' := by
  refine momReadHeader_go s _ w he hs (fun hk W => ?_)
  have hg := Good.hc3 (L s)
  have := namedZone_any (S (hc3 (L s)).p) W (by rw [S_size]; have := hg.p; rw [L_length] at this; omega) (by rw [L_S]; exact hg.l hk)
  rw [L_S] at this
  exact this
theorem tz_bounds (l : List UInt8) (h : tzB l = true) : -1439 ≤ tzV l ∧ tzV l ≤ 1439 := by
  unfold tzB at h
  simp only [Bool.and_eq_true, decide_eq_true_eq] at h
  have h1 : 0 ≤ tzH l := (numI_bounds _ 2 2).1
  have h2 : 0 ≤ tzM l := (numI_bounds _ 2 2).1
  have h3 := h.2.1.1.2
  have h4 := h.2.1.2
  unfold tzV
  split <;> omega
theorem time_valid {y m d h n s z : Int} (hd : isDayB y m d = true) (h1 : 0 ≤ h) (h2 : h ≤ 23) (h3 : 0 ≤ n) (h4 : n ≤ 59) (h5 : 0 ≤ s) (h6 : s ≤ 59) (h7 : -1439 ≤ z) (h8 : z ≤ 1439) : validB y m d h n s z = true := by
  obtain ⟨Y, M, D, rfl, rfl, rfl, hi⟩ := isDay_parts hd
  exact valid_mk Y M D h n s z hi ⟨h1, h2, h3, h4, h5, h6, h7, h8⟩
theorem short_ok (c : Cur) (t : Int) (h : (c.short t).1.2 = true) : 0 ≤ (c.short t).1.1 ∧ (c.short t).1.1 ≤ t := by
  have e1 : (c.short t).1.2 = (numB (c.take 2).1.1 1 2 && decide (numI (c.take 2).1.1 1 2 ≤ t)) := rfl
  have e2 : (c.short t).1.1 = numI (c.take 2).1.1 1 2 := rfl
  rw [e1, Bool.and_eq_true] at h
  rw [e2]
  exact ⟨(numI_bounds _ 1 2).1, of_decide_eq_true h.2⟩
theorem short_pos (c : Cur) (t : Int) : 0 ≤ (c.short t).1.1 := (numI_bounds (c.take 2).1.1 1 2).1
theorem clock_ok (c : Cur) (h : clF c = true) : (0 ≤ clH c ∧ clH c ≤ 23) ∧ (0 ≤ clN c ∧ clN c ≤ 59) := by
  have e : clF c = ((c.short 23).1.2 && ((c.short 23).2.take 5).1.2 && (((c.short 23).2.take 5).2.short 59).1.2) := rfl
  rw [e, Bool.and_eq_true, Bool.and_eq_true] at h
  exact ⟨short_ok _ _ h.1.1, short_ok _ _ h.2⟩
theorem sec_ok (c : Cur) (h : clF c = true) : 0 ≤ clS c 0 ∧ clS c 0 ≤ 59 := by
  unfold clS
  rw [h, if_pos rfl]
  unfold seS
  split
  · have := short_pos ((clR c).take 5).2 60
    generalize (((clR c).take 5).2.short 60).1.1 = x at *
    omega
  · omega
theorem zone_ok (c : Cur) (nz : Int) (h : znB c = true) (hz : -1439 ≤ nz ∧ nz ≤ 1439) : -1439 ≤ znZ c nz 0 ∧ znZ c nz 0 ≤ 1439 := by
  unfold znB at h
  unfold znZ
  split
  · exact hz
  · rename_i hk
    rw [if_neg hk] at h
    split
    · rename_i hk3
      rw [if_pos hk3] at h
      exact tz_bounds _ h
    · omega
/-- What ReadHeader takes is a moment. -/
theorem rh_valid (l : List UInt8) (nz : Int) (hb : rhB l = true) (hd : isDayB (dyY (hc1 l)) (dyM (hc1 l)) (dyD (hc1 l)) = true) (hz : -1439 ≤ nz ∧ nz ≤ 1439) :
    validB (dyY (hc1 l)) (dyM (hc1 l)) (dyD (hc1 l)) (clH (hc2 l)) (clN (hc2 l)) (clS (hc2 l) 0) (znZ (hc3 l) nz 0) = true := by
  have e : rhB l = (wkB (stp l) && dyB (hc1 l) && clB (hc2 l) && znB (hc3 l) && decide ((znC (hc3 l)).k = 0)) := rfl
  rw [e, Bool.and_eq_true, Bool.and_eq_true, Bool.and_eq_true] at hb
  obtain ⟨⟨⟨_, hcl⟩, hzn⟩, _⟩ := hb
  have e2 : clB (hc2 l) = (clF (hc2 l) && seB (clR (hc2 l))) := rfl
  rw [e2, Bool.and_eq_true] at hcl
  obtain ⟨a, b⟩ := clock_ok _ hcl.1
  have c := sec_ok _ hcl.1
  have d := zone_ok _ nz hzn hz
  exact time_valid hd a.1 a.2 b.1 b.2 c.1 c.2 d.1 d.2
theorem ri_valid (l : List UInt8) (hb : riB l = true) (hd : isDayB (tdY (riDay l)) (tdM (riDay l)) (tdD (riDay l)) = true) :
    validB (tdY (riDay l)) (tdM (riDay l)) (tdD (riDay l)) (tcH ((l.drop 12).take 8)) (tcN ((l.drop 12).take 8)) (tcS ((l.drop 12).take 8)) (tzV (l.drop 21)) = true ∧ l.length = 26 := by
  unfold riB riF tcB at hb
  simp only [Bool.and_eq_true, decide_eq_true_eq] at hb
  obtain ⟨⟨⟨hlen, _⟩, _⟩, ⟨_, ⟨_, hcl⟩⟩, hz⟩ := hb
  unfold clockB wi at hcl
  simp at hcl
  obtain ⟨z1, z2⟩ := tz_bounds _ hz
  refine ⟨time_valid hd ?_ ?_ ?_ ?_ ?_ ?_ z1 z2, hlen⟩ <;> omega
end Go.Proofs.YtngpejoiicpnkaaDoor
