/- Plain: a header's date as a list of pieces; reading from the list is reading by the cursor. -/
import Derived.Test.YtckdmbeokajdjaaGreatDoorH2i
namespace Go.Proofs.YtckdmbeokajdjaaGreatDoor

abbrev Pc := Nat × List UInt8
/-- All pieces from a place on; none: at some place there is none. -/
def pcsF : Nat → List UInt8 → Option (List Pc)
  | 0, _ => none
  | n + 1, r => if (stp r).k = 0 then some [] else if (stp r).k = 6 then none else (pcsF n (stp r).r).map (fun t => ((stp r).k, (stp r).p) :: t)
def pcs (r : List UInt8) : Option (List Pc) := pcsF (r.length + 1) r
theorem cutN_pos (r : List UInt8) (h : cutK r ≠ 0) : 1 ≤ cutN r := by
  cases r with
  | nil => exact absurd rfl h
  | cons c q =>
    unfold cutN
    cases hc : isLet c with
    | true =>
      simp only [hc, if_true]
      rw [List.takeWhile_cons, hc]; simp
    | false =>
      simp only [hc, Bool.false_eq_true, if_false]
      cases hd : isDig c with
      | true =>
        simp only [if_true]
        rw [List.takeWhile_cons, hd]; simp
      | false =>
        simp only [Bool.false_eq_true, if_false]
        split <;> omega
theorem cutK_nil (r : List UInt8) (h : cutK r = 0) : r = [] := by
  cases r with
  | nil => rfl
  | cons c q =>
    exfalso
    revert h
    unfold cutK
    simp only
    repeat' split
    all_goals decide
theorem cutK_le (r : List UInt8) : cutK r ≤ 6 := by
  unfold cutK
  repeat' split
  all_goals omega
theorem stp_k (r : List UInt8) : (stp r).k = cutK (r.drop (skD r 0 false)) := rfl
theorem stp_shrinks (r : List UInt8) (h : (stp r).k ≠ 0) : (stp r).r.length < r.length := by
  have h1 := cutN_pos _ h
  have h2 := cutN_le (r.drop (skD r 0 false))
  show ((r.drop (skD r 0 false)).drop (cutN (r.drop (skD r 0 false)))).length < r.length
  rw [List.length_drop, List.length_drop] at *
  omega
theorem pcsF_more : ∀ (n m : Nat) (r : List UInt8), r.length < n → r.length < m → pcsF n r = pcsF m r := by
  intro n
  induction n with
  | zero => intro m r h; omega
  | succ n ih =>
    intro m r hn hm
    cases m with
    | zero => omega
    | succ m =>
      simp only [pcsF]
      by_cases h0 : (stp r).k = 0
      · rw [if_pos h0, if_pos h0]
      · rw [if_neg h0, if_neg h0]
        have := stp_shrinks r h0
        rw [ih m (stp r).r (by omega) (by omega)]
/-- The pieces from a cursor on. -/
def pl (c : Cur) : Option (List Pc) := if c.k = 0 then some [] else if c.k = 6 then none else (pcs c.r).map (fun t => (c.k, c.p) :: t)
theorem pcs_pl (r : List UInt8) : pcs r = pl (stp r) := by
  unfold pcs pl
  simp only [pcsF]
  by_cases h0 : (stp r).k = 0
  · rw [if_pos h0, if_pos h0]
  · rw [if_neg h0, if_neg h0]
    have := stp_shrinks r h0
    unfold pcs
    rw [pcsF_more r.length ((stp r).r.length + 1) (stp r).r this (by omega)]
def tkL (ps : List Pc) (k : Nat) : (List UInt8 × Bool) × List Pc :=
  match ps with
  | [] => (([], false), [])
  | x :: t => if x.1 = k then ((x.2, true), t) else (([], false), x :: t)
theorem take_some {c : Cur} {ps : List Pc} (h : pl c = some ps) (k : Nat) (h1 : 1 ≤ k) (h5 : k ≤ 5) : (c.take k).1 = (tkL ps k).1 ∧ pl (c.take k).2 = some (tkL ps k).2 := by
  unfold pl at h
  unfold Cur.take
  by_cases h0 : c.k = 0
  · rw [if_pos h0] at h
    obtain rfl := Option.some.inj h
    rw [if_neg (by omega)]
    exact ⟨rfl, by unfold pl; rw [if_pos h0]; rfl⟩
  · rw [if_neg h0] at h
    by_cases h6 : c.k = 6
    · rw [if_pos h6] at h; cases h
    · rw [if_neg h6] at h
      obtain ⟨t, ht, rfl⟩ := Option.map_eq_some_iff.1 h
      by_cases hk : c.k = k
      · rw [if_pos hk]
        refine ⟨?_, ?_⟩
        · show (c.p, true) = (tkL ((c.k, c.p) :: t) k).1
          unfold tkL; simp only [hk, if_true]
        · show pl (stp c.r) = some (tkL ((c.k, c.p) :: t) k).2
          rw [← pcs_pl, ht]; unfold tkL; simp only [hk, if_true]
      · rw [if_neg hk]
        refine ⟨?_, ?_⟩
        · show ([], false) = (tkL ((c.k, c.p) :: t) k).1
          unfold tkL; simp only [hk, if_false]
        · show pl c = some (tkL ((c.k, c.p) :: t) k).2
          unfold pl; rw [if_neg h0, if_neg h6, ht]; unfold tkL; simp only [hk, if_false]; rfl
theorem take_none {c : Cur} (h : pl c = none) (k : Nat) (h1 : 1 ≤ k) (h5 : k ≤ 5) : pl (c.take k).2 = none := by
  unfold Cur.take
  by_cases hk : c.k = k
  · rw [if_pos hk]
    show pl (stp c.r) = none
    rw [← pcs_pl]
    unfold pl at h
    rw [if_neg (by omega), if_neg (by omega)] at h
    exact Option.map_eq_none_iff.1 h
  · rw [if_neg hk]; exact h
theorem pl_end {c : Cur} (h : c.k = 0) : pl c = some [] := by unfold pl; rw [if_pos h]
theorem pl_nil {c : Cur} (h : pl c = some []) : c.k = 0 := by
  unfold pl at h
  by_cases h0 : c.k = 0
  · exact h0
  · rw [if_neg h0] at h
    by_cases h6 : c.k = 6
    · rw [if_pos h6] at h; cases h
    · rw [if_neg h6] at h
      obtain ⟨t, _, e⟩ := Option.map_eq_some_iff.1 h
      cases e
theorem pl_head {c : Cur} {x : Pc} {t : List Pc} (h : pl c = some (x :: t)) : c.k = x.1 ∧ c.p = x.2 ∧ pcs c.r = some t := by
  unfold pl at h
  by_cases h0 : c.k = 0
  · rw [if_pos h0] at h; cases h
  · rw [if_neg h0] at h
    by_cases h6 : c.k = 6
    · rw [if_pos h6] at h; cases h
    · rw [if_neg h6] at h
      obtain ⟨t', h1, e⟩ := Option.map_eq_some_iff.1 h
      cases e
      exact ⟨rfl, rfl, h1⟩

/-- The same reading from a list. -/
def shL (ps : List Pc) (top : Int) : (Int × Bool) × List Pc := ((numI (tkL ps 2).1.1 1 2, numB (tkL ps 2).1.1 1 2 && decide (numI (tkL ps 2).1.1 1 2 ≤ top)), (tkL ps 2).2)
theorem short_some {c : Cur} {ps : List Pc} (h : pl c = some ps) (top : Int) : (c.short top).1 = (shL ps top).1 ∧ pl (c.short top).2 = some (shL ps top).2 := by
  obtain ⟨h1, h2⟩ := take_some h 2 (by omega) (by omega)
  refine ⟨?_, h2⟩
  show (numI (c.take 2).1.1 1 2, numB (c.take 2).1.1 1 2 && decide (numI (c.take 2).1.1 1 2 ≤ top)) = _
  rw [h1]; rfl
theorem short_none {c : Cur} (h : pl c = none) (top : Int) : pl (c.short top).2 = none := take_none h 2 (by omega) (by omega)
def wkBL (ps : List Pc) : Bool := if (tkL ps 1).1.2 then wdB (tkL ps 1).1.1 && (tkL (tkL ps 1).2 4).1.2 else true
def wkCL (ps : List Pc) : List Pc := if (tkL ps 1).1.2 then (tkL (tkL ps 1).2 4).2 else ps
def dyDL (ps : List Pc) : Int := (shL ps 99).1.1
def dyML (ps : List Pc) : Int := monI (tkL (shL ps 99).2 1).1.1
def dyYL (ps : List Pc) : Int := fyI (tkL (tkL (shL ps 99).2 1).2 2).1.1
def dyBL (ps : List Pc) : Bool := (shL ps 99).1.2 && monB (tkL (shL ps 99).2 1).1.1 && fyB (tkL (tkL (shL ps 99).2 1).2 2).1.1
def dyCL (ps : List Pc) : List Pc := (tkL (tkL (shL ps 99).2 1).2 2).2
def seBL (ps : List Pc) : Bool := if (tkL ps 5).1.2 then (shL (tkL ps 5).2 60).1.2 else true
def seSL (ps : List Pc) (se : Int) : Int := if (tkL ps 5).1.2 then min (shL (tkL ps 5).2 60).1.1 59 else se
def seCL (ps : List Pc) : List Pc := if (tkL ps 5).1.2 then (shL (tkL ps 5).2 60).2 else ps
def clHL (ps : List Pc) : Int := (shL ps 23).1.1
def clNL (ps : List Pc) : Int := (shL (tkL (shL ps 23).2 5).2 59).1.1
def clFL (ps : List Pc) : Bool := (shL ps 23).1.2 && (tkL (shL ps 23).2 5).1.2 && (shL (tkL (shL ps 23).2 5).2 59).1.2
def clRL (ps : List Pc) : List Pc := (shL (tkL (shL ps 23).2 5).2 59).2
def clBL (ps : List Pc) : Bool := clFL ps && seBL (clRL ps)
def clSL (ps : List Pc) (se : Int) : Int := if clFL ps then seSL (clRL ps) se else se
def clCL (ps : List Pc) : List Pc := if clFL ps then seCL (clRL ps) else clRL ps
def hdK (ps : List Pc) : Nat := match ps with | [] => 0 | x :: _ => x.1
def hdP (ps : List Pc) : List UInt8 := match ps with | [] => [] | x :: _ => x.2
def znBL (ps : List Pc) : Bool := if hdK ps = 3 then tzB (hdP ps) else true
def znZL (ps : List Pc) (z : Int) : Int := if hdK ps = 1 then nzI (hdP ps) else if hdK ps = 3 then tzV (hdP ps) else z
def znCL (ps : List Pc) : List Pc := if hdK ps = 1 ∨ hdK ps = 3 then ps.drop 1 else ps
theorem wk_some {c : Cur} {ps : List Pc} (h : pl c = some ps) : wkB c = wkBL ps ∧ pl (wkC c) = some (wkCL ps) := by
  obtain ⟨h1, h2⟩ := take_some h 1 (by omega) (by omega)
  obtain ⟨h3, h4⟩ := take_some h2 4 (by omega) (by omega)
  unfold wkB wkBL wkC wkCL
  rw [h1, h3]
  refine ⟨rfl, ?_⟩
  split
  · exact h4
  · exact h
theorem wk_none {c : Cur} (h : pl c = none) : pl (wkC c) = none := by
  unfold wkC
  split
  · exact take_none (take_none h 1 (by omega) (by omega)) 4 (by omega) (by omega)
  · exact h
theorem dy_some {c : Cur} {ps : List Pc} (h : pl c = some ps) : dyB c = dyBL ps ∧ dyD c = dyDL ps ∧ dyM c = dyML ps ∧ dyY c = dyYL ps ∧ pl (dyC c) = some (dyCL ps) := by
  obtain ⟨h1, h2⟩ := short_some h 99
  obtain ⟨h3, h4⟩ := take_some h2 1 (by omega) (by omega)
  obtain ⟨h5, h6⟩ := take_some h4 2 (by omega) (by omega)
  unfold dyB dyBL dyD dyDL dyM dyML dyY dyYL dyC dyCL
  rw [h1, h3, h5]
  exact ⟨rfl, rfl, rfl, rfl, h6⟩
theorem dy_none {c : Cur} (h : pl c = none) : pl (dyC c) = none := take_none (take_none (short_none h 99) 1 (by omega) (by omega)) 2 (by omega) (by omega)
theorem se_some {c : Cur} {ps : List Pc} (h : pl c = some ps) (se : Int) : seB c = seBL ps ∧ seS c se = seSL ps se ∧ pl (seC c) = some (seCL ps) := by
  obtain ⟨h1, h2⟩ := take_some h 5 (by omega) (by omega)
  obtain ⟨h3, h4⟩ := short_some h2 60
  unfold seB seBL seS seSL seC seCL
  rw [h1, h3]
  refine ⟨rfl, rfl, ?_⟩
  split
  · exact h4
  · exact h
theorem se_none {c : Cur} (h : pl c = none) : pl (seC c) = none := by
  unfold seC
  split
  · exact short_none (take_none h 5 (by omega) (by omega)) 60
  · exact h
theorem cl_some {c : Cur} {ps : List Pc} (h : pl c = some ps) : clB c = clBL ps ∧ clH c = clHL ps ∧ clN c = clNL ps ∧ clS c 0 = clSL ps 0 ∧ pl (clC c) = some (clCL ps) := by
  obtain ⟨h1, h2⟩ := short_some h 23
  obtain ⟨h3, h4⟩ := take_some h2 5 (by omega) (by omega)
  obtain ⟨h5, h6⟩ := short_some h4 59
  have hF : clF c = clFL ps := by unfold clF clFL; rw [h1, h3, h5]
  have hR : pl (clR c) = some (clRL ps) := h6
  obtain ⟨h7, h8, h9⟩ := se_some hR 0
  unfold clB clBL clS clSL clC clCL clH clHL clN clNL
  rw [hF, h7, h8, h1, h5]
  refine ⟨rfl, rfl, rfl, rfl, ?_⟩
  split
  · exact h9
  · exact hR
theorem cl_none {c : Cur} (h : pl c = none) : pl (clC c) = none := by
  have hR : pl (clR c) = none := short_none (take_none (short_none h 23) 5 (by omega) (by omega)) 59
  unfold clC
  split
  · exact se_none hR
  · exact hR
theorem zn_some {c : Cur} {ps : List Pc} (h : pl c = some ps) (z : Int) : znB c = znBL ps ∧ znZ c (nzI c.p) z = znZL ps z ∧ pl (znC c) = some (znCL ps) := by
  cases ps with
  | nil =>
    have h0 := pl_nil h
    unfold znB znBL znZ znZL znC znCL hdK
    rw [h0]
    exact ⟨rfl, rfl, h⟩
  | cons x t =>
    obtain ⟨h1, h2, h3⟩ := pl_head h
    unfold znB znBL znZ znZL znC znCL hdK hdP
    rw [h1, h2]
    simp only
    refine ⟨?_, by first | rfl | trivial, ?_⟩
    · by_cases e1 : x.1 = 1
      · rw [if_pos e1, if_neg (by omega)]
      · rw [if_neg e1]
    · split
      · rw [← pcs_pl]; exact h3
      · exact h
theorem zn_none {c : Cur} (h : pl c = none) : pl (znC c) = none := by
  unfold znC
  split
  · rename_i hk
    rw [← pcs_pl]
    unfold pl at h
    rw [if_neg (by omega), if_neg (by omega)] at h
    exact Option.map_eq_none_iff.1 h
  · exact h
def rhBL (ps : List Pc) : Bool := wkBL ps && dyBL (wkCL ps) && clBL (dyCL (wkCL ps)) && znBL (clCL (dyCL (wkCL ps))) && (znCL (clCL (dyCL (wkCL ps)))).isEmpty
theorem rh_none (l : List UInt8) (h : pcs l = none) : rhB l = false := by
  rw [pcs_pl] at h
  have h4 : pl (znC (hc3 l)) = none := zn_none (cl_none (dy_none (wk_none h)))
  unfold rhB
  have : decide ((znC (hc3 l)).k = 0) = false := decide_eq_false (fun e => by rw [pl_end e] at h4; cases h4)
  rw [this, Bool.and_false]
theorem rh_some (l : List UInt8) (ps : List Pc) (h : pcs l = some ps) : rhB l = rhBL ps ∧ dyY (hc1 l) = dyYL (wkCL ps) ∧ dyM (hc1 l) = dyML (wkCL ps) ∧ dyD (hc1 l) = dyDL (wkCL ps) ∧ clH (hc2 l) = clHL (dyCL (wkCL ps)) ∧ clN (hc2 l) = clNL (dyCL (wkCL ps)) ∧ clS (hc2 l) 0 = clSL (dyCL (wkCL ps)) 0 ∧ znZ (hc3 l) (nzI (hc3 l).p) 0 = znZL (clCL (dyCL (wkCL ps))) 0 := by
  rw [pcs_pl] at h
  obtain ⟨w1, w2⟩ := wk_some h
  obtain ⟨d1, d2, d3, d4, d5⟩ := dy_some w2
  obtain ⟨c1, c2, c3, c4, c5⟩ := cl_some d5
  obtain ⟨z1, z2, z3⟩ := zn_some c5 0
  have key : decide ((znC (clC (dyC (wkC (stp l))))).k = 0) = (znCL (clCL (dyCL (wkCL ps)))).isEmpty := by
    cases e : znCL (clCL (dyCL (wkCL ps))) with
    | nil =>
      rw [e] at z3
      exact decide_eq_true (pl_nil z3)
    | cons x t =>
      rw [e] at z3
      exact decide_eq_false (fun e0 => by rw [pl_end e0] at z3; cases z3)
  refine ⟨?_, d4, d3, d2, c2, c3, c4, z2⟩
  have e0 : rhB l = (wkB (stp l) && dyB (wkC (stp l)) && clB (dyC (wkC (stp l))) && znB (clC (dyC (wkC (stp l)))) && decide ((znC (clC (dyC (wkC (stp l))))).k = 0)) := rfl
  rw [e0, w1, d1, c1, z1, key]; rfl

end Go.Proofs.YtckdmbeokajdjaaGreatDoor

/- Plain: what the document reads out of the list of pieces, by places, is what the cursor reads. -/
namespace Go.Proofs.YtckdmbeokajdjaaGreatDoor

def kd (ps : List Pc) (i : Nat) : Nat := hdK (ps.drop i)
def tx (ps : List Pc) (i : Nat) : List UInt8 := hdP (ps.drop i)
theorem tkL_hit (ps : List Pc) (k : Nat) (hk : k ≠ 0) (h : hdK ps = k) : tkL ps k = ((hdP ps, true), ps.drop 1) := by
  cases ps with
  | nil => exact absurd h.symm hk
  | cons x t =>
    have h' : x.1 = k := h
    unfold tkL; simp only [h', if_true]; rfl
theorem tkL_miss (ps : List Pc) (k : Nat) (h : hdK ps ≠ k) : tkL ps k = (([], false), ps) := by
  cases ps with
  | nil => rfl
  | cons x t =>
    have h' : ¬ x.1 = k := h
    unfold tkL; simp only [h', if_false]
theorem numB_nil (a b : Nat) (h : 1 ≤ a) : numB [] a b = false := by
  unfold numB
  have : decide (a ≤ ([] : List UInt8).length) = false := decide_eq_false (by simp; omega)
  rw [this]; rfl
theorem shL_hit (ps : List Pc) (t : Int) (h : hdK ps = 2) : shL ps t = ((numI (hdP ps) 1 2, numB (hdP ps) 1 2 && decide (numI (hdP ps) 1 2 ≤ t)), ps.drop 1) := by
  unfold shL; rw [tkL_hit ps 2 (by omega) h]
theorem shL_miss (ps : List Pc) (t : Int) (h : hdK ps ≠ 2) : shL ps t = ((0, false), ps) := by
  unfold shL; rw [tkL_miss ps 2 h]; simp [numB_nil, numI]
theorem monB_nil : monB [] = false := by decide +kernel
theorem monI_ne (l : List UInt8) : (monI l != 0) = monB l := by
  unfold monI monB
  by_cases h : monIx l < 12
  · rw [if_pos h, decide_eq_true h]
    rw [bne_iff_ne]; omega
  · rw [if_neg h, decide_eq_false h]; rfl
theorem fyB_nil : fyB [] = false := numB_nil 2 4 (by omega)
/-- Day and clock, by places. -/
def dcB (qs : List Pc) : Bool := (shL qs 99).1.2 && (kd qs 1 == 1) && (monI (tx qs 1) != 0) && fyB (tkL (qs.drop 2) 2).1.1 && (shL (qs.drop 3) 23).1.2 && (shL (qs.drop 5) 59).1.2 && (kd qs 4 == 5)
theorem dc_eq (qs : List Pc) : (dyBL qs && clFL (dyCL qs)) = dcB qs ∧ (dcB qs = true → dyCL qs = qs.drop 3 ∧ clRL (dyCL qs) = qs.drop 6 ∧ dyDL qs = (shL qs 99).1.1 ∧ dyML qs = monI (tx qs 1) ∧ dyYL qs = fyI (tkL (qs.drop 2) 2).1.1 ∧ clHL (dyCL qs) = (shL (qs.drop 3) 23).1.1 ∧ clNL (dyCL qs) = (shL (qs.drop 5) 59).1.1) := by
  have d1 : ∀ i, (qs.drop i).drop 1 = qs.drop (i + 1) := fun i => by rw [List.drop_drop]
  by_cases h0 : hdK qs = 2
  · have e0 := shL_hit qs 99 h0
    by_cases h1 : hdK (qs.drop 1) = 1
    · have e1 := tkL_hit (qs.drop 1) 1 (by omega) h1
      rw [d1] at e1
      by_cases h2 : hdK (qs.drop 2) = 2
      · have e2 := tkL_hit (qs.drop 2) 2 (by omega) h2
        rw [d1] at e2
        have c3 : dyCL qs = qs.drop 3 := by unfold dyCL; rw [e0, e1, e2]
        have v1 : dyML qs = monI (tx qs 1) := by unfold dyML tx; rw [e0, e1]
        have v2 : dyYL qs = fyI (tkL (qs.drop 2) 2).1.1 := by unfold dyYL; rw [e0, e1]
        have b1 : dyBL qs = ((shL qs 99).1.2 && (kd qs 1 == 1) && (monI (tx qs 1) != 0) && fyB (tkL (qs.drop 2) 2).1.1) := by
          unfold dyBL kd tx; rw [e0, e1, monI_ne, h1]; simp
        rw [c3]
        by_cases h3 : hdK (qs.drop 3) = 2
        · have e3 := shL_hit (qs.drop 3) 23 h3
          rw [d1] at e3
          by_cases h4 : hdK (qs.drop 4) = 5
          · have e4 := tkL_hit (qs.drop 4) 5 (by omega) h4
            rw [d1] at e4
            have b2 : clFL (qs.drop 3) = ((shL (qs.drop 3) 23).1.2 && (shL (qs.drop 5) 59).1.2 && (kd qs 4 == 5)) := by
              unfold clFL kd; rw [e3, e4, h4]; simp [Bool.and_comm, Bool.and_assoc]
            have v3 : clNL (qs.drop 3) = (shL (qs.drop 5) 59).1.1 := by unfold clNL; rw [e3, e4]
            refine ⟨by unfold dcB; rw [b1, b2]; simp [Bool.and_assoc], fun hc => ⟨rfl, ?_, rfl, v1, v2, rfl, v3⟩⟩
            have h5 : hdK (qs.drop 5) = 2 := by
              by_cases h5 : hdK (qs.drop 5) = 2
              · exact h5
              · exfalso
                unfold dcB at hc
                rw [shL_miss (qs.drop 5) 59 h5] at hc
                simp at hc
            unfold clRL; rw [e3, e4]
            show (shL (qs.drop 5) 59).2 = _
            rw [shL_hit _ _ h5, d1]
          · have e4 := tkL_miss (qs.drop 4) 5 h4
            have b2 : clFL (qs.drop 3) = false := by unfold clFL; rw [e3, e4]; simp
            have bc : dcB qs = false := by
              unfold dcB
              have : (kd qs 4 == 5) = false := by rw [beq_eq_false_iff_ne]; exact h4
              rw [this, Bool.and_false]
            exact ⟨by rw [b2, bc, Bool.and_false], fun h => by rw [bc] at h; cases h⟩
        · have e3 := shL_miss (qs.drop 3) 23 h3
          have b2 : clFL (qs.drop 3) = false := by unfold clFL; rw [e3]; simp
          have bc : dcB qs = false := by unfold dcB; rw [e3]; simp
          exact ⟨by rw [b2, bc, Bool.and_false], fun h => by rw [bc] at h; cases h⟩
      · have e2 := tkL_miss (qs.drop 2) 2 h2
        have b1 : dyBL qs = false := by unfold dyBL; rw [e0, e1, e2, fyB_nil, Bool.and_false]
        have bc : dcB qs = false := by unfold dcB; rw [e2, fyB_nil]; simp
        exact ⟨by rw [b1, bc, Bool.false_and], fun h => by rw [bc] at h; cases h⟩
    · have e1 := tkL_miss (qs.drop 1) 1 h1
      have b1 : dyBL qs = false := by unfold dyBL; rw [e0, e1, monB_nil]; simp
      have bc : dcB qs = false := by
        unfold dcB
        have : (kd qs 1 == 1) = false := by rw [beq_eq_false_iff_ne]; exact h1
        rw [this]; simp
      exact ⟨by rw [b1, bc, Bool.false_and], fun h => by rw [bc] at h; cases h⟩
  · have e0 := shL_miss qs 99 h0
    have b1 : dyBL qs = false := by unfold dyBL; rw [e0]; simp
    have bc : dcB qs = false := by unfold dcB; rw [e0]; simp
    exact ⟨by rw [b1, bc, Bool.false_and], fun h => by rw [bc] at h; cases h⟩
/-- Second and zone, by places. -/
def seI (rs : List Pc) : Nat := if hdK rs = 5 then 2 else 0
def enB (rs : List Pc) : Bool := (if hdK rs = 5 then (shL (rs.drop 1) 60).1.2 else true) && znBL (rs.drop (seI rs)) && (znCL (rs.drop (seI rs))).isEmpty
def enS (rs : List Pc) : Int := if hdK rs = 5 then min (shL (rs.drop 1) 60).1.1 59 else 0
def enZ (rs : List Pc) : Int := znZL (rs.drop (seI rs)) 0
theorem en_eq (rs : List Pc) : (seBL rs && znBL (seCL rs) && (znCL (seCL rs)).isEmpty) = enB rs ∧ (enB rs = true → seSL rs 0 = enS rs ∧ znZL (seCL rs) 0 = enZ rs) := by
  by_cases h : hdK rs = 5
  · have e := tkL_hit rs 5 (by omega) h
    have b : seBL rs = (shL (rs.drop 1) 60).1.2 := by unfold seBL; rw [e]; rfl
    have s : seSL rs 0 = enS rs := by unfold seSL enS; rw [e, if_pos h]; rfl
    cases hb : (shL (rs.drop 1) 60).1.2 with
    | true =>
      have h2 : hdK (rs.drop 1) = 2 := by
        by_cases h2 : hdK (rs.drop 1) = 2
        · exact h2
        · rw [shL_miss _ _ h2] at hb; cases hb
      have c : seCL rs = rs.drop 2 := by
        unfold seCL; rw [e]
        show (shL (rs.drop 1) 60).2 = _
        rw [shL_hit _ _ h2, List.drop_drop]
      have c' : rs.drop (seI rs) = rs.drop 2 := by unfold seI; rw [if_pos h]
      refine ⟨by unfold enB; rw [b, c, c', if_pos h], fun _ => ⟨s, by unfold enZ; rw [c, c']⟩⟩
    | false =>
      have hE : enB rs = false := by unfold enB; rw [if_pos h, hb]; rfl
      exact ⟨by rw [b, hb, hE]; rfl, fun h => by rw [hE] at h; cases h⟩
  · have e := tkL_miss rs 5 h
    have b : seBL rs = true := by unfold seBL; rw [e]; rfl
    have c : seCL rs = rs := by unfold seCL; rw [e]; rfl
    have c' : rs.drop (seI rs) = rs := by unfold seI; rw [if_neg h]; rfl
    refine ⟨by unfold enB; rw [b, c, c', if_neg h], fun _ => ⟨?_, by unfold enZ; rw [c, c']⟩⟩
    unfold seSL enS; rw [e, if_neg h]; rfl
/-- All of it. -/
def wkI (ps : List Pc) : Nat := if hdK ps = 1 then 2 else 0
def wkR (ps : List Pc) : Bool := if hdK ps = 1 then (kd ps 1 == 4) && wdB (hdP ps) else true
def sdB (ps : List Pc) : Bool := wkR ps && dcB (ps.drop (wkI ps)) && enB (ps.drop (wkI ps + 6))
theorem sd_eq (ps : List Pc) : rhBL ps = sdB ps ∧ (sdB ps = true → wkCL ps = ps.drop (wkI ps) ∧ dyYL (wkCL ps) = fyI (tkL (ps.drop (wkI ps + 2)) 2).1.1 ∧ dyML (wkCL ps) = monI (tx ps (wkI ps + 1)) ∧ dyDL (wkCL ps) = (shL (ps.drop (wkI ps)) 99).1.1 ∧ clHL (dyCL (wkCL ps)) = (shL (ps.drop (wkI ps + 3)) 23).1.1 ∧ clNL (dyCL (wkCL ps)) = (shL (ps.drop (wkI ps + 5)) 59).1.1 ∧ clSL (dyCL (wkCL ps)) 0 = enS (ps.drop (wkI ps + 6)) ∧ znZL (clCL (dyCL (wkCL ps))) 0 = enZ (ps.drop (wkI ps + 6))) := by
  have hw : wkBL ps = wkR ps ∧ (wkR ps = true → wkCL ps = ps.drop (wkI ps)) := by
    by_cases h : hdK ps = 1
    · have e := tkL_hit ps 1 (by omega) h
      by_cases h4 : hdK (ps.drop 1) = 4
      · have e4 := tkL_hit (ps.drop 1) 4 (by omega) h4
        refine ⟨?_, fun _ => ?_⟩
        · unfold wkBL wkR kd; rw [e, if_pos h, h4]
          simp only [e4, if_true]
          simp
        · unfold wkCL wkI; rw [e, if_pos h]
          simp only [e4, if_true, List.drop_drop]
      · have e4 := tkL_miss (ps.drop 1) 4 h4
        have hk : (kd ps 1 == 4) = false := by rw [beq_eq_false_iff_ne]; exact h4
        refine ⟨?_, fun hr => ?_⟩
        · unfold wkBL wkR; rw [e, if_pos h, hk]
          simp only [e4, if_true]
          simp
        · unfold wkR at hr; rw [if_pos h, hk] at hr; cases hr
    · have e := tkL_miss ps 1 h
      refine ⟨?_, fun _ => ?_⟩
      · unfold wkBL wkR; rw [e, if_neg h]; rfl
      · unfold wkCL wkI; rw [e, if_neg h]; rfl
  have dd : ∀ i, (ps.drop (wkI ps)).drop i = ps.drop (wkI ps + i) := fun i => by rw [List.drop_drop]
  cases hr : wkR ps with
  | false =>
    have h1 : rhBL ps = false := by unfold rhBL; rw [hw.1, hr]; rfl
    have h2 : sdB ps = false := by unfold sdB; rw [hr]; rfl
    exact ⟨by rw [h1, h2], fun h => by rw [h2] at h; cases h⟩
  | true =>
    have hc := hw.2 hr
    obtain ⟨d1, d2⟩ := dc_eq (ps.drop (wkI ps))
    cases hd : dcB (ps.drop (wkI ps)) with
    | false =>
      have h2 : sdB ps = false := by unfold sdB; rw [hd]; simp
      have h1 : rhBL ps = false := by
        unfold rhBL; rw [hc]
        rw [hd] at d1
        unfold clBL
        cases hx : dyBL (ps.drop (wkI ps)) with
        | false => simp
        | true =>
          rw [hx, Bool.true_and] at d1
          rw [d1]; simp
      exact ⟨by rw [h1, h2], fun h => by rw [h2] at h; cases h⟩
    | true =>
      obtain ⟨c1, c2, c3, c4, c5, c6, c7⟩ := d2 hd
      rw [hd, Bool.and_eq_true] at d1
      obtain ⟨e1, e2⟩ := en_eq (ps.drop (wkI ps + 6))
      have hcl : clCL (dyCL (ps.drop (wkI ps))) = seCL (ps.drop (wkI ps + 6)) := by
        unfold clCL; rw [d1.2, if_pos rfl, c2, dd]
      have hcb : clBL (dyCL (ps.drop (wkI ps))) = seBL (ps.drop (wkI ps + 6)) := by
        unfold clBL; rw [d1.2, Bool.true_and, c2, dd]
      have hcs : clSL (dyCL (ps.drop (wkI ps))) 0 = seSL (ps.drop (wkI ps + 6)) 0 := by
        unfold clSL; rw [d1.2, if_pos rfl, c2, dd]
      refine ⟨?_, fun hs => ?_⟩
      · unfold rhBL sdB
        rw [hw.1, hr, hc, d1.1, hcb, hcl, hd, ← e1]; simp [Bool.and_assoc]
      · unfold sdB at hs
        rw [hr, hd, Bool.true_and, Bool.true_and] at hs
        obtain ⟨s1, s2⟩ := e2 hs
        rw [hc]
        refine ⟨rfl, ?_, ?_, c3, ?_, ?_, by rw [hcs, s1], by rw [hcl, s2]⟩
        · rw [c5, dd]
        · rw [c4]; unfold tx; rw [dd]
        · rw [c6, dd]
        · rw [c7, dd]

end Go.Proofs.YtckdmbeokajdjaaGreatDoor
