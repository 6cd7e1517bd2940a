/- lex, plain: a line with its announcements written in their one form is scanned as the line. -/
import Derived.Test.YtliiapdakojomabDoorBw
import Derived.Deep.AppendLies
namespace Go.Proofs.YtliiapdakojomabDoor
open Go.RowKit

/-- A line, outside of words, with its announcements in their one form. -/
def canon : List UInt8 → List UInt8
  | [] => []
  | c :: r => if c = 34 then (match quo r false [] 0 with
      | .done _ m => 34 :: (r.take m ++ canon (r.drop m))
      | _ => c :: r)
    else if c = 123 then annL (annN (c :: r)) ++ canon (r.drop (annS (c :: r) - 1))
    else c :: canon r
termination_by l => l.length
decreasing_by all_goals (simp only [List.length_drop, List.length_cons]; omega)
theorem canon_nil : canon [] = [] := by rw [canon]
theorem canon_other {c : UInt8} {r : List UInt8} (h1 : c ≠ 34) (h2 : c ≠ 123) : canon (c :: r) = c :: canon r := by rw [canon, if_neg h1, if_neg h2]
theorem canon_lit {r : List UInt8} : canon (123 :: r) = annL (annN (123 :: r)) ++ canon (r.drop (annS (123 :: r) - 1)) := by rw [canon, if_neg (by decide), if_pos rfl]
theorem canon_quo {r t : List UInt8} {m : Nat} (h : quo r false [] 0 = .done t m) : canon (34 :: r) = 34 :: (r.take m ++ canon (r.drop m)) := by rw [canon, if_pos rfl, h]
theorem canon_head (l : List UInt8) : (canon l).head? = l.head? := by
  cases l with
  | nil => rw [canon_nil]
  | cons c r =>
    rw [canon]
    split
    · rename_i h
      split
      · rw [h]; rfl
      · rfl
    · split
      · rename_i h
        rw [h]
        rfl
      · rfl
theorem canon_word (a : List UInt8) (h : ∀ x ∈ a, wordC x = true) (r : List UInt8) : canon (a ++ r) = a ++ canon r := by
  induction a with
  | nil => rfl
  | cons c a ih =>
    have hc := h c (by simp)
    rw [List.cons_append, canon_other (word_ne34 hc) (by rintro rfl; exact absurd hc (by decide)), ih (fun x hx => h x (by simp [hx]))]
    rfl
/-- An announcement ahead of a text. -/
theorem annL_ahead (n : Nat) (hn : n ≤ 4294967296) (Y : List UInt8) : annB (annL n ++ Y) = true ∧ annN (annL n ++ Y) = n ∧ annS (annL n ++ Y) = (annL n).length := by
  have e : annL n ++ Y = 123 :: (Lib.decDigits n ++ (125 :: Y)) := by unfold annL; simp
  have hD : annD (annL n ++ Y) = Lib.decDigits n := by
    rw [e]
    unfold annD
    exact tw_of _ _ (dec_all n) (fun c q h => by injection h with h _; rw [← h]; decide)
  have hR : annR (annL n ++ Y) = 125 :: Y := by
    unfold annR
    rw [hD, e, Nat.add_comm, List.drop_succ_cons, List.drop_left]
  have hP : annP (annL n ++ Y) = false := by unfold annP; rw [hR]; rfl
  have hE : annE (annL n ++ Y) = 125 :: Y := by unfold annE; rw [hP, hR]; rfl
  have hB : annB (annL n ++ Y) = true := by
    unfold annB
    rw [hD, hE]
    cases hd : Lib.decDigits n with
    | nil => exact absurd hd (dec_ne n)
    | cons a r => rfl
  refine ⟨hB, ?_, ?_⟩
  · unfold annN annF
    rw [if_pos hB, hD]
    exact dec_fold n hn
  · unfold annS
    rw [if_pos hB, hE, List.length_append]
    have : 0 < (annL n).length := by unfold annL; simp
    simp only [List.length_cons]
    omega
theorem quo_same : ∀ (r : List UInt8) (esc : Bool) (acc : List UInt8) (n : Nat) (t : List UInt8) (m : Nat), quo r esc acc n = .done t m → ∃ k, m = n + (k + 1) ∧ k < r.length ∧ bt r k = 34 ∧ ∀ Y, quo (r.take (k + 1) ++ Y) esc acc n = .done t m
  | [], _, _, _, _, _, h => by simp [quo] at h
  | c :: r, esc, acc, n, t, m, h => by
    have h0 := h
    rw [quo] at h
    split at h
    · cases h
    · rename_i hq
      split at h
      · rename_i h1
        injection h with ht hm
        refine ⟨0, hm.symm, by simp, ?_, fun Y => ?_⟩
        · rw [Bool.and_eq_true, beq_iff_eq] at h1
          exact h1.1
        · show quo (c :: Y) esc acc n = _
          rw [quo, if_neg hq, if_pos h1, ht, hm]
      · rename_i h1
        split at h
        · rename_i h2
          obtain ⟨k, hk, hkl, hb, hY⟩ := quo_same r true acc (n + 1) t m h
          refine ⟨k + 1, by omega, by simpa using hkl, hb, fun Y => ?_⟩
          rw [List.take_succ_cons, List.cons_append, quo, if_neg hq, if_neg h1, if_pos h2]
          exact hY Y
        · rename_i h2
          obtain ⟨k, hk, hkl, hb, hY⟩ := quo_same r false (acc ++ [c]) (n + 1) t m h
          refine ⟨k + 1, by omega, by simpa using hkl, hb, fun Y => ?_⟩
          rw [List.take_succ_cons, List.cons_append, quo, if_neg hq, if_neg h1, if_neg h2]
          exact hY Y
def lastB (P : List UInt8) : Bool := P.getLast? == some 32
theorem blank_app (P X : List UInt8) : blankB (P ++ X) P.length = lastB P := by
  unfold blankB lastB
  cases hP : P.reverse with
  | nil =>
    have : P = [] := by simpa using hP
    subst this
    rfl
  | cons a q =>
    have e : P = q.reverse ++ [a] := by rw [← List.reverse_reverse P, hP]; simp
    subst e
    unfold bt
    rw [List.append_assoc, show (q.reverse ++ [a]).length - 1 = q.reverse.length by simp, List.getElem?_append_right (Nat.le_refl _)]
    simp
theorem bt_app (P : List UInt8) (c : UInt8) (X : List UInt8) : bt (P ++ c :: X) P.length = c := by
  unfold bt
  rw [List.getElem?_append_right (Nat.le_refl _)]
  simp
end Go.Proofs.YtliiapdakojomabDoor

/- lex, plain: the same words out of a line and out of its one form. -/
namespace Go.Proofs.YtliiapdakojomabDoor
open Go.RowKit

def clsB (c : UInt8) : Nat := (if c = 32 then 1 else 0) + (if openerB c then 1 else 0) + (if closerB c then 1 else 0) + (if c = 123 then 1 else 0) + (if c = 34 then 1 else 0) + (if wordC c then 1 else 0)
theorem cls (c : UInt8) : clsB c ≤ 1 := all_bytes (p := fun c => clsB c ≤ 1) (by decide +kernel) c
theorem sc_blank {l : List UInt8} {s : Sc} (hI : SInv l.length s) (hf : s.fault l = 0) (hc : bt l s.pos = 32) : s.step l = .go { s with pos := s.pos + 1 } := by
  rcases sc_step hI hf with ⟨_, _, h⟩ | ⟨h, _⟩ | ⟨h, _⟩ | ⟨h, _⟩ | ⟨h, _⟩ | ⟨h, _⟩
  · exact h
  all_goals (rw [hc] at h; exact absurd h (by decide))
theorem sc_open {l : List UInt8} {s : Sc} (hI : SInv l.length s) (hf : s.fault l = 0) (hc : openerB (bt l s.pos) = true) : s.step l = .go { s with pos := s.pos + 1, begun := s.begun + 1, under := s.under ++ [s.top], top := ⟨kindC (bt l s.pos), s.word l, []⟩ } := by
  have hcl := cls (bt l s.pos)
  unfold clsB at hcl
  rw [if_pos hc] at hcl
  rcases sc_step hI hf with ⟨h, _⟩ | ⟨_, _, _, h⟩ | ⟨h, _⟩ | ⟨h, _⟩ | ⟨h, _⟩ | ⟨h, _⟩
  · exfalso; rw [if_pos h] at hcl; omega
  · exact h
  all_goals (exfalso; rw [if_pos h] at hcl; omega)
theorem sc_close {l : List UInt8} {s : Sc} (hI : SInv l.length s) (hf : s.fault l = 0) (hc : closerB (bt l s.pos) = true) (u : List Fr) (f : Fr) (hu : s.under = u ++ [f]) : s.step l = .go { s with pos := s.pos + 1, under := u, top := { f with kids := f.kids ++ [Wd.mk s.top.kind (S []) s.top.kids s.top.glued] } } := by
  have hcl := cls (bt l s.pos)
  unfold clsB at hcl
  rw [if_pos (c := closerB (bt l s.pos) = true) hc] at hcl
  rcases sc_step hI hf with ⟨h, _⟩ | ⟨h, _⟩ | ⟨_, _, u', f', hu', h⟩ | ⟨h, _⟩ | ⟨h, _⟩ | ⟨h, _⟩
  · exfalso; rw [if_pos h] at hcl; omega
  · exfalso; rw [if_pos h] at hcl; omega
  · rw [hu] at hu'
    have := List.append_inj' hu' rfl
    obtain ⟨rfl, h2⟩ := this
    injection h2 with h2
    subst h2
    exact h
  all_goals (exfalso; rw [if_pos h] at hcl; omega)
theorem sc_lit {l : List UInt8} {s : Sc} (hI : SInv l.length s) (hf : s.fault l = 0) (hc : bt l s.pos = 123) (x : ByteArray) (r : List ByteArray) (hl : s.lits = x :: r) : s.step l = .go ({ s with pos := s.pos + annS (l.drop s.pos), begun := s.begun + 1, lits := r }.add (Wd.mk 3 x [] (s.word l))) := by
  rcases sc_step hI hf with ⟨h, _⟩ | ⟨h, _⟩ | ⟨h, _⟩ | ⟨_, _, _, x', r', hl', _, h⟩ | ⟨h, _⟩ | ⟨h, _⟩
  · rw [hc] at h; exact absurd h (by decide)
  · rw [hc] at h; exact absurd h (by decide)
  · rw [hc] at h; exact absurd h (by decide)
  · rw [hl] at hl'
    injection hl' with h1 h2
    subst h1
    subst h2
    exact h
  all_goals (rw [hc] at h; exact absurd h (by decide))
theorem sc_quo {l : List UInt8} {s : Sc} (hI : SInv l.length s) (hf : s.fault l = 0) (hc : bt l s.pos = 34) (t : List UInt8) (n : Nat) (hq : quo (l.drop (s.pos + 1)) false [] 0 = .done t n) : s.step l = .go ({ s with pos := s.pos + 1 + n, begun := s.begun + 1 }.add (Wd.mk 2 (S t) [] (s.word l))) := by
  rcases sc_step hI hf with ⟨h, _⟩ | ⟨h, _⟩ | ⟨h, _⟩ | ⟨h, _⟩ | ⟨_, _, h⟩ | ⟨h, _⟩
  · rw [hc] at h; exact absurd h (by decide)
  · rw [hc] at h; exact absurd h (by decide)
  · rw [hc] at h; exact absurd h (by decide)
  · rw [hc] at h; exact absurd h (by decide)
  · rw [hq] at h; exact h
  · rw [hc] at h; exact absurd h (by decide)
theorem sc_atom {l : List UInt8} {s : Sc} (hI : SInv l.length s) (hf : s.fault l = 0) (hc : wordC (bt l s.pos) = true) : s.step l = .go ({ s with pos := s.pos + (atomL l s.pos).length, begun := s.begun + 1 }.add (Wd.mk 1 (S (atomL l s.pos)) [] (s.word l))) := by
  have hcl := cls (bt l s.pos)
  unfold clsB at hcl
  rw [if_pos (c := wordC (bt l s.pos) = true) hc] at hcl
  rcases sc_step hI hf with ⟨h, _⟩ | ⟨h, _⟩ | ⟨h, _⟩ | ⟨h, _⟩ | ⟨h, _⟩ | ⟨_, _, h⟩
  · exfalso; rw [if_pos h] at hcl; omega
  · exfalso; rw [if_pos h] at hcl; omega
  · exfalso; rw [if_pos h] at hcl; omega
  · exfalso; rw [if_pos h] at hcl; omega
  · exfalso; rw [if_pos h] at hcl; omega
  · exact h
theorem drop_at (l : List UInt8) (k : Nat) (hk : k < l.length) : l.drop k = bt l k :: l.drop (k + 1) := by
  rw [List.drop_eq_getElem_cons hk]
  unfold bt
  rw [List.getElem?_eq_getElem hk]
  rfl
/-- A scanner that stands at another place of another line. -/
theorem SInv.else {l l' : List UInt8} {s : Sc} (h : SInv l.length s) (p : Nat) (hp : p ≤ l'.length) : SInv l'.length { s with pos := p } := ⟨hp, h.under, h.begun, h.cnt, h.bot, h.bot2⟩
theorem word_else {l : List UInt8} {s : Sc} {P X : List UInt8} (hb : blankB l s.pos = lastB P) : ({ s with pos := P.length } : Sc).word (P ++ X) = s.word l := by
  unfold Sc.word
  show (!s.top.kids.isEmpty && !blankB (P ++ X) P.length) = _
  rw [blank_app, hb]
theorem fault_else {l : List UInt8} {s : Sc} {P : List UInt8} {c : UInt8} {X : List UInt8} (hb : blankB l s.pos = lastB P) (hc : bt l s.pos = c) (hlt : s.pos < l.length) (h1 : c = 123 → annB (c :: X) = annB (l.drop s.pos) ∧ annN (c :: X) = annN (l.drop s.pos)) (h2 : c = 32 → X.head? = (l.drop (s.pos + 1)).head?) :
    ({ s with pos := P.length } : Sc).fault (P ++ c :: X) = s.fault l := by
  have hd : (P ++ c :: X).drop P.length = c :: X := List.drop_left
  have hbt : bt (P ++ c :: X) P.length = c := bt_app P c X
  have hbeg : begB (P ++ c :: X) P.length = begB l s.pos := by
    unfold begB
    rw [hbt, hc, hd]
    by_cases h : c = 123
    · rw [(h1 h).1]
    · have : (c == 123) = false := by simpa using h
      rw [this]
      rfl
  rw [Sc.fault_eq, Sc.fault_eq]
  show faultV (begB (P ++ c :: X) P.length) (s.begun == 512) (openerB (bt (P ++ c :: X) P.length)) (decide (12 < s.under.length + 1)) (closerB (bt (P ++ c :: X) P.length)) (s.top.kind == kindC (bt (P ++ c :: X) P.length)) (bt (P ++ c :: X) P.length == 123) (fitB (P ++ c :: X) P.length s.lits) (bt (P ++ c :: X) P.length == 32) (({ s with pos := P.length } : Sc).pause (P ++ c :: X)) = _
  rw [hbeg, hbt, hc]
  by_cases h : c = 123
  · have hfit : fitB (P ++ c :: X) P.length s.lits = fitB l s.pos s.lits := by
      cases hl : s.lits with
      | nil => rfl
      | cons x r =>
        show (x.size == annN ((P ++ c :: X).drop P.length)) = (x.size == annN (l.drop s.pos))
        rw [hd, (h1 h).2]
    rw [hfit, h]
    show faultV _ _ _ _ _ _ _ _ false _ = faultV _ _ _ _ _ _ _ _ false _
    unfold faultV
    simp
  · have h123 : (c == 123) = false := by simpa using h
    rw [h123]
    by_cases h32 : c = 32
    · have hpa : ({ s with pos := P.length } : Sc).pause (P ++ c :: X) = s.pause l := by
        unfold Sc.pause
        rw [word_else hb]
        congr 1
        have hX := h2 h32
        show (decide (P.length + 1 = (P ++ c :: X).length) || !closerB (bt (P ++ c :: X) (P.length + 1))) = _
        have hb1 : bt (P ++ c :: X) (P.length + 1) = (X.head?).getD 0 := by
          unfold bt
          rw [List.getElem?_append_right (by omega)]
          cases X <;> simp
        have hb2 : bt l (s.pos + 1) = ((l.drop (s.pos + 1)).head?).getD 0 := by
          unfold bt
          rw [List.head?_drop]
        rw [hb1, hb2, hX]
        congr 1
        have e1 : (P.length + 1 = (P ++ c :: X).length) ↔ X = [] := by
          rw [List.length_append, List.length_cons]
          constructor
          · intro e; exact List.eq_nil_of_length_eq_zero (by omega)
          · rintro rfl; simp
        have e2 : (s.pos + 1 = l.length) ↔ l.drop (s.pos + 1) = [] := by
          rw [List.drop_eq_nil_iff]
          omega
        have e3 : X = [] ↔ l.drop (s.pos + 1) = [] := by
          rw [← List.head?_eq_none_iff, ← List.head?_eq_none_iff, hX]
        exact decide_eq_decide.2 (e1.trans (e3.trans e2.symm))
      rw [hpa]
      unfold faultV
      simp
    · have h32b : (c == 32) = false := by simpa using h32
      rw [h32b]
      unfold faultV
      simp
end Go.Proofs.YtliiapdakojomabDoor

/- lex, plain: words as a text. -/
namespace Go.Proofs.YtliiapdakojomabDoor
open Go.RowKit

def opc (k : Int) : UInt8 := if k = 4 then 40 else 91
def clc (k : Int) : UInt8 := if k = 4 then 41 else 93
mutual
def wl : Bool → List Wd → List UInt8
  | _, [] => []
  | first, d :: r => (if !first && !d.glued then [32] else []) ++ (w1 d ++ wl false r)
def w1 : Wd → List UInt8
  | .mk k t l _ => if k = 1 then L t else if k = 2 then quoteL (L t) else if k = 3 then annL t.size else if k = 4 then 40 :: (wl true l ++ [41]) else if k = 5 then 91 :: (wl true l ++ [93]) else []
end
mutual
def lt : List Wd → List ByteArray
  | [] => []
  | d :: r => l1 d ++ lt r
def l1 : Wd → List ByteArray
  | .mk k t l _ => if k = 3 then [t] else if k = 4 then lt l else if k = 5 then lt l else []
end
mutual
def nw : List Wd → Nat
  | [] => 0
  | d :: r => n1 d + nw r
def n1 : Wd → Nat
  | .mk k _ l _ => 1 + (if k = 4 then nw l else if k = 5 then nw l else 0)
end
mutual
def smL : List Wd → Bool
  | [] => true
  | d :: r => sm1 d && smL r
def sm1 : Wd → Bool
  | .mk k t l _ => decide (t.size ≤ 16384) && (if k = 4 then smL l else if k = 5 then smL l else true)
end
mutual
theorem jws_wl : ∀ (first : Bool) (ws : List Wd) (j : Jn), smL ws = true → j.words + nw ws ≤ 512 → jws first ws j = ⟨j.line ++ wl first ws, j.lits ++ lt ws, j.words + nw ws⟩
  | _, [], j, _, _ => by simp [jws, wl, lt, nw]
  | first, d :: r, j, hs, hn => by
    simp only [smL, Bool.and_eq_true] at hs
    simp only [nw] at hn
    have hd1 : 1 ≤ n1 d ∧ d.text.size ≤ 16384 := by
      obtain ⟨k, t, l, g⟩ := d
      have h := hs.1
      simp only [sm1, Bool.and_eq_true, decide_eq_true_eq] at h
      exact ⟨by simp only [n1]; omega, h.1⟩
    have hst : j.stops d = false := by
      unfold Jn.stops
      rw [decide_eq_false (by omega), decide_eq_false (by have := hd1.2; omega)]
      rfl
    have hb : j.blank first d = ⟨j.line ++ (if !first && !d.glued then [32] else []), j.lits, j.words + 1⟩ := by
      unfold Jn.blank
      split
      · rfl
      · simp [Jn.one]
    rw [jws_one _ _ _ _ hst, hb]
    have h1 := jw_w1 d ⟨j.line ++ (if !first && !d.glued then [32] else []), j.lits, j.words + 1⟩ hs.1 (by show j.words + 1 + n1 d ≤ 513; omega)
    rw [h1]
    have h2 := jws_wl false r ⟨j.line ++ (if !first && !d.glued then [32] else []) ++ w1 d, j.lits ++ l1 d, j.words + 1 + n1 d - 1⟩ hs.2 (by show j.words + 1 + n1 d - 1 + nw r ≤ 512; omega)
    rw [h2]
    have e : j.words + 1 + n1 d - 1 + nw r = j.words + nw (d :: r) := by simp only [nw]; omega
    simp only [e, wl, lt, List.append_assoc]
theorem jw_w1 : ∀ (d : Wd) (j : Jn), sm1 d = true → j.words + n1 d ≤ 513 → jw d j = ⟨j.line ++ w1 d, j.lits ++ l1 d, j.words + n1 d - 1⟩
  | .mk k t l g, j, hs, hn => by
    simp only [sm1, Bool.and_eq_true] at hs
    simp only [n1] at hn
    rw [jw]
    by_cases h1 : k = 1
    · subst h1
      simp [w1, l1, n1, Jn.put]
    · by_cases h2 : k = 2
      · subst h2
        simp [w1, l1, n1, Jn.put]
      · by_cases h3 : k = 3
        · subst h3
          simp [w1, l1, n1, Jn.lit]
        · by_cases h4 : k = 4
          · subst h4
            have hsl : smL l = true := by simpa using hs.2
            have h := jws_wl true l (j.put [40]) hsl (by
              show j.words + nw l ≤ 512
              simp at hn
              omega)
            simp only [show ¬ (4 : Int) = 1 by decide, show ¬ (4 : Int) = 2 by decide, show ¬ (4 : Int) = 3 by decide, if_false, if_true]
            rw [h]
            simp [w1, l1, n1, Jn.put]
            omega
          · by_cases h5 : k = 5
            · subst h5
              have hsl : smL l = true := by simpa using hs.2
              have h := jws_wl true l (j.put [91]) hsl (by
                show j.words + nw l ≤ 512
                simp at hn
                omega)
              simp only [show ¬ (5 : Int) = 1 by decide, show ¬ (5 : Int) = 2 by decide, show ¬ (5 : Int) = 3 by decide, show ¬ (5 : Int) = 4 by decide, if_false, if_true]
              rw [h]
              simp [w1, l1, n1, Jn.put]
              omega
            · simp [w1, l1, n1, h1, h2, h3, h4, h5]
end
theorem wl_snoc : ∀ (first : Bool) (a : List Wd) (d : Wd), wl first (a ++ [d]) = wl first a ++ ((if (!first || !a.isEmpty) && !d.glued then [32] else []) ++ w1 d)
  | first, [], d => by simp [wl]
  | first, b :: a, d => by
    have h := wl_snoc false a d
    simp only [List.cons_append, wl, h, List.append_assoc]
    simp
theorem lt_snoc (a : List Wd) (d : Wd) : lt (a ++ [d]) = lt a ++ l1 d := by
  induction a with
  | nil => simp [lt]
  | cons b a ih => simp only [List.cons_append, lt, ih, List.append_assoc]
theorem nw_snoc (a : List Wd) (d : Wd) : nw (a ++ [d]) = nw a + n1 d := by
  induction a with
  | nil => simp [nw]
  | cons b a ih => simp only [List.cons_append, nw, ih]; omega
theorem smL_snoc (a : List Wd) (d : Wd) : smL (a ++ [d]) = (smL a && sm1 d) := by
  induction a with
  | nil => simp [smL]
  | cons b a ih => simp only [List.cons_append, smL, ih, Bool.and_assoc]
theorem nw_len (a : List Wd) : a.length ≤ nw a := by
  induction a with
  | nil => simp
  | cons b a ih =>
    have : 1 ≤ n1 b := by cases b; simp only [n1]; omega
    simp only [List.length_cons, nw]
    omega
/-- The lists that have not ended, as a text; their literals; how many words. -/
def fw : List Fr → List UInt8
  | [] => []
  | f :: r => wl true f.kids ++ (match r with
    | [] => []
    | g :: _ => (if !f.kids.isEmpty && !g.glued then [32] else []) ++ [opc g.kind]) ++ fw r
def ft : List Fr → List ByteArray
  | [] => []
  | f :: r => lt f.kids ++ ft r
def fc : List Fr → Nat
  | [] => 0
  | f :: r => nw f.kids + 1 + fc r
def fs : List Fr → Bool
  | [] => true
  | f :: r => smL f.kids && fs r
theorem fw_word : ∀ (u : List Fr) (f : Fr) (d : Wd), fw (u ++ [{ f with kids := f.kids ++ [d] }]) = fw (u ++ [f]) ++ ((if !f.kids.isEmpty && !d.glued then [32] else []) ++ w1 d)
  | [], f, d => by
    show wl true (f.kids ++ [d]) ++ [] ++ [] = wl true f.kids ++ [] ++ [] ++ _
    rw [wl_snoc]
    simp
  | [g], f, d => by
    have h := fw_word [] f d
    simp only [List.nil_append] at h
    show wl true g.kids ++ _ ++ fw [{ f with kids := f.kids ++ [d] }] = wl true g.kids ++ _ ++ fw [f] ++ _
    rw [h]
    simp
  | g :: g2 :: u, f, d => by
    have h := fw_word (g2 :: u) f d
    show wl true g.kids ++ _ ++ fw (g2 :: u ++ [{ f with kids := f.kids ++ [d] }]) = wl true g.kids ++ _ ++ fw (g2 :: u ++ [f]) ++ _
    rw [h]
    simp
theorem fw_push : ∀ (u : List Fr) (f g : Fr), g.kids = [] → fw (u ++ [f] ++ [g]) = fw (u ++ [f]) ++ ((if !f.kids.isEmpty && !g.glued then [32] else []) ++ [opc g.kind])
  | [], f, g, hg => by
    show wl true f.kids ++ _ ++ (wl true g.kids ++ [] ++ []) = wl true f.kids ++ [] ++ [] ++ _
    rw [hg]
    simp [wl]
  | [a], f, g, hg => by
    have h := fw_push [] f g hg
    simp only [List.nil_append] at h
    show wl true a.kids ++ _ ++ fw ([f] ++ [g]) = wl true a.kids ++ _ ++ fw [f] ++ _
    rw [h]
    simp
  | a :: b :: u, f, g, hg => by
    have h := fw_push (b :: u) f g hg
    show wl true a.kids ++ _ ++ fw (b :: u ++ [f] ++ [g]) = wl true a.kids ++ _ ++ fw (b :: u ++ [f]) ++ _
    rw [h]
    simp
theorem fw_top : ∀ (u : List Fr) (f g : Fr), fw (u ++ [f] ++ [g]) = fw (u ++ [f]) ++ ((if !f.kids.isEmpty && !g.glued then [32] else []) ++ [opc g.kind]) ++ wl true g.kids
  | [], f, g => by
    show wl true f.kids ++ _ ++ (wl true g.kids ++ [] ++ []) = wl true f.kids ++ [] ++ [] ++ _ ++ _
    simp
  | [a], f, g => by
    have h := fw_top [] f g
    simp only [List.nil_append] at h
    show wl true a.kids ++ _ ++ fw ([f] ++ [g]) = wl true a.kids ++ _ ++ fw [f] ++ _ ++ _
    rw [h]
    simp
  | a :: b :: u, f, g => by
    have h := fw_top (b :: u) f g
    show wl true a.kids ++ _ ++ fw (b :: u ++ [f] ++ [g]) = wl true a.kids ++ _ ++ fw (b :: u ++ [f]) ++ _ ++ _
    rw [h]
    simp
theorem w1_nest (k : Int) (hk : k = 4 ∨ k = 5) (t : ByteArray) (l : List Wd) (g : Bool) : w1 (.mk k t l g) = opc k :: (wl true l ++ [clc k]) ∧ l1 (.mk k t l g) = lt l ∧ n1 (.mk k t l g) = 1 + nw l ∧ sm1 (.mk k t l g) = (decide (t.size ≤ 16384) && smL l) := by
  rcases hk with rfl | rfl
  · simp [w1, l1, n1, sm1, opc, clc]
  · simp [w1, l1, n1, sm1, opc, clc]
/-- A list ends. -/
theorem fw_pop (u : List Fr) (f g : Fr) (hk : g.kind = 4 ∨ g.kind = 5) : fw (u ++ [{ f with kids := f.kids ++ [Wd.mk g.kind (S []) g.kids g.glued] }]) = fw (u ++ [f] ++ [g]) ++ [clc g.kind] := by
  rw [fw_word, fw_top, (w1_nest g.kind hk _ _ _).1]
  simp [Wd.glued]
theorem ft_app (a b : List Fr) : ft (a ++ b) = ft a ++ ft b := by
  induction a with
  | nil => rfl
  | cons f a ih => simp only [List.cons_append, ft, ih, List.append_assoc]
theorem fc_app (a b : List Fr) : fc (a ++ b) = fc a + fc b := by
  induction a with
  | nil => simp [fc]
  | cons f a ih => simp only [List.cons_append, fc, ih]; omega
theorem fs_app (a b : List Fr) : fs (a ++ b) = (fs a && fs b) := by
  induction a with
  | nil => simp [fs]
  | cons f a ih => simp only [List.cons_append, fs, ih, Bool.and_assoc]
end Go.Proofs.YtliiapdakojomabDoor

/- lex, plain: a line that is scanned, in its one form, is what its words are written as. -/
namespace Go.Proofs.YtliiapdakojomabDoor
open Go.RowKit

theorem lastB_app (P t : List UInt8) (c : UInt8) (hc : c ≠ 32) : lastB (P ++ (t ++ [c])) = false := by
  unfold lastB
  rw [← List.append_assoc, List.getLast?_concat]
  simpa using hc
theorem lastB_32 (P : List UInt8) : lastB (P ++ [32]) = true := by
  unfold lastB
  rw [List.getLast?_concat]
  rfl
theorem quo_text : ∀ (r : List UInt8) (esc : Bool) (acc : List UInt8) (n : Nat) (t : List UInt8) (m : Nat), quo r esc acc n = .done t m → ∃ x, t = acc ++ x ∧ x.all quotC = true ∧ ((esc = false ∧ r.take (m - n) = quoteB x ++ [34]) ∨ (esc = true ∧ ∃ c y, x = c :: y ∧ slashB c = true ∧ r.take (m - n) = c :: (quoteB y ++ [34])))
  | [], _, _, _, _, _, h => by simp [quo] at h
  | c :: r, esc, acc, n, t, m, h => by
    obtain ⟨k, hk, _, _, _⟩ := quo_same _ _ _ _ _ _ h
    rw [quo] at h
    split at h
    · cases h
    · rename_i hq
      have hq2 : quotC c = true ∧ (esc = true → slashB c = true) := by
        simp only [Bool.not_eq_true', Bool.not_eq_false, Bool.and_eq_true, Bool.or_eq_true] at hq
        refine ⟨hq.1, fun he => ?_⟩
        rcases hq.2 with h1 | h1
        · rw [he] at h1; cases h1
        · exact h1
      split at h
      · rename_i h1
        rw [Bool.and_eq_true, beq_iff_eq] at h1
        injection h with ht hm
        have he : esc = false := by simpa using h1.2
        refine ⟨[], by rw [← ht]; simp, rfl, .inl ⟨he, ?_⟩⟩
        rw [show m - n = 1 by omega, h1.1]
        rfl
      · rename_i h1
        split at h
        · rename_i h2
          rw [Bool.and_eq_true, beq_iff_eq] at h2
          have he : esc = false := by simpa using h2.2
          obtain ⟨x, hx, hxa, hxe⟩ := quo_text r true acc (n + 1) t m h
          rcases hxe with ⟨e, _⟩ | ⟨_, c', y, hxc, hs, htk⟩
          · cases e
          · obtain ⟨k2, hk2, _, _, _⟩ := quo_same _ _ _ _ _ _ h
            refine ⟨x, hx, hxa, .inl ⟨he, ?_⟩⟩
            rw [show m - n = (m - (n + 1)) + 1 by omega, List.take_succ_cons, htk, hxc, h2.1]
            unfold quoteB
            rw [List.flatMap_cons, show q1 c' = [92, c'] by unfold q1; rw [hs]; rfl]
            rfl
        · rename_i h2
          obtain ⟨x, hx, hxa, hxe⟩ := quo_text r false (acc ++ [c]) (n + 1) t m h
          obtain ⟨k2, hk2, _, _, _⟩ := quo_same _ _ _ _ _ _ h
          rcases hxe with ⟨_, htk⟩ | ⟨e, _⟩
          · refine ⟨c :: x, by rw [hx]; simp, by rw [List.all_cons, hq2.1, hxa]; rfl, ?_⟩
            cases esc with
            | true =>
              refine .inr ⟨rfl, c, x, rfl, hq2.2 rfl, ?_⟩
              rw [show m - n = (m - (n + 1)) + 1 by omega, List.take_succ_cons, htk]
            | false =>
              refine .inl ⟨rfl, ?_⟩
              have hs : slashB c = false := by
                unfold slashB
                rw [Bool.or_eq_false_iff]
                constructor
                · cases hh : c == 34 with
                  | false => rfl
                  | true => exact absurd (by rw [hh]; rfl) h1
                · cases hh : c == 92 with
                  | false => rfl
                  | true => exact absurd (by rw [hh]; rfl) h2
              rw [show m - n = (m - (n + 1)) + 1 by omega, List.take_succ_cons, htk]
              unfold quoteB
              rw [List.flatMap_cons, show q1 c = [c] by unfold q1; rw [hs]; rfl]
              rfl
          · cases e
/-- What a scanner has behind it, as a text. -/
structure Wr (l : List UInt8) (lits0 : List ByteArray) (s : Sc) (P : List UInt8) : Prop where
  text : P = fw (s.under ++ [s.top]) ++ (if lastB P then [32] else [])
  kid : lastB P = true → s.top.kids.isEmpty = false
  cl : lastB P = true → s.pos < l.length → closerB (bt l s.pos) = false
  lits : lits0 = ft (s.under ++ [s.top]) ++ s.lits
  cnt : fc (s.under ++ [s.top]) = s.begun + 1
  sm : fs (s.under ++ [s.top]) = true
theorem sep_is {l : List UInt8} {s : Sc} {P : List UInt8} (hb : blankB l s.pos = lastB P) (hk : lastB P = true → s.top.kids.isEmpty = false) : (if !s.top.kids.isEmpty && !(s.word l) then ([32] : List UInt8) else []) = if lastB P then [32] else [] := by
  unfold Sc.word
  rw [hb]
  cases hp : lastB P with
  | true => rw [hk hp]; rfl
  | false => cases s.top.kids.isEmpty <;> rfl
theorem Wr.word {l : List UInt8} {lits0 : List ByteArray} {s : Sc} {P : List UInt8} (h : Wr l lits0 s P) (hb : blankB l s.pos = lastB P) (d : Wd) (hg : d.glued = s.word l) (k : Nat) (ls : List ByteArray) (hl : s.lits = l1 d ++ ls) (hn : n1 d = 1) (hs : sm1 d = true) (t : List UInt8) (c : UInt8) (hc : c ≠ 32) (hw : w1 d = t ++ [c]) :
    Wr l lits0 ({ s with pos := k, begun := s.begun + 1, lits := ls }.add d) (P ++ w1 d) := by
  have hlast : lastB (P ++ w1 d) = false := by rw [hw]; exact lastB_app P t c hc
  have hfs := h.sm
  rw [fs_app] at hfs
  rw [Bool.and_eq_true] at hfs
  have hft := h.lits
  rw [ft_app] at hft
  have hfc := h.cnt
  rw [fc_app] at hfc
  refine ⟨?_, fun e => (by rw [hlast] at e; cases e), fun e => (by rw [hlast] at e; cases e), ?_, ?_, ?_⟩
  · rw [hlast]
    show P ++ w1 d = fw (s.under ++ [{ s.top with kids := s.top.kids ++ [d] }]) ++ []
    rw [fw_word, hg, sep_is hb h.kid]
    conv => lhs; rw [h.text]
    simp
  · show lits0 = ft (s.under ++ [{ s.top with kids := s.top.kids ++ [d] }]) ++ ls
    rw [ft_app, hft, hl]
    simp [ft, lt_snoc]
  · show fc (s.under ++ [{ s.top with kids := s.top.kids ++ [d] }]) = s.begun + 1 + 1
    rw [fc_app]
    simp only [fc, nw_snoc, hn] at hfc ⊢
    omega
  · show fs (s.under ++ [{ s.top with kids := s.top.kids ++ [d] }]) = true
    rw [fs_app, hfs.1]
    have h2 := hfs.2
    simp only [fs, Bool.and_true] at h2 ⊢
    rw [smL_snoc, h2, hs]
    rfl
theorem Wr.blank {l : List UInt8} {lits0 : List ByteArray} {s : Sc} {P : List UInt8} (h : Wr l lits0 s P) (hb : blankB l s.pos = lastB P) (hp : s.pause l = true) : Wr l lits0 { s with pos := s.pos + 1 } (P ++ [32]) := by
  unfold Sc.pause Sc.word at hp
  rw [hb, Bool.and_eq_true, Bool.and_eq_true] at hp
  obtain ⟨⟨h1, h2⟩, h3⟩ := hp
  have hP : lastB P = false := by simpa using h2
  have ht := h.text
  rw [hP] at ht
  refine ⟨?_, fun _ => by simpa using h1, fun _ hlt => ?_, h.lits, h.cnt, h.sm⟩
  · rw [lastB_32]
    show P ++ [32] = fw (s.under ++ [s.top]) ++ [32]
    conv => lhs; rw [ht]
    simp
  · have hlt : s.pos + 1 < l.length := hlt
    show closerB (bt l (s.pos + 1)) = false
    rw [Bool.or_eq_true, decide_eq_true_eq] at h3
    rcases h3 with h3 | h3
    · omega
    · simpa using h3
theorem Wr.push {l : List UInt8} {lits0 : List ByteArray} {s : Sc} {P : List UInt8} (h : Wr l lits0 s P) (hb : blankB l s.pos = lastB P) (c : UInt8) (hc : openerB c = true) : Wr l lits0 { s with pos := s.pos + 1, begun := s.begun + 1, under := s.under ++ [s.top], top := ⟨kindC c, s.word l, []⟩ } (P ++ [c]) := by
  have hoc : opc (kindC c) = c ∧ c ≠ 32 := by
    unfold openerB at hc
    rw [Bool.or_eq_true, beq_iff_eq, beq_iff_eq] at hc
    rcases hc with rfl | rfl <;> decide
  have hlast : lastB (P ++ [c]) = false := lastB_app P [] c hoc.2
  refine ⟨?_, fun e => (by rw [hlast] at e; cases e), fun e => (by rw [hlast] at e; cases e), ?_, ?_, ?_⟩
  · rw [hlast]
    show P ++ [c] = fw (s.under ++ [s.top] ++ [⟨kindC c, s.word l, []⟩]) ++ []
    rw [fw_push _ _ _ rfl, sep_is hb h.kid]
    show P ++ [c] = fw (s.under ++ [s.top]) ++ ((if lastB P then [32] else []) ++ [opc (kindC c)]) ++ []
    rw [hoc.1]
    conv => lhs; rw [h.text]
    simp
  · show lits0 = ft (s.under ++ [s.top] ++ [⟨kindC c, s.word l, []⟩]) ++ s.lits
    rw [ft_app, show ft [⟨kindC c, s.word l, []⟩] = [] by simp [ft, lt], List.append_nil]
    exact h.lits
  · show fc (s.under ++ [s.top] ++ [⟨kindC c, s.word l, []⟩]) = s.begun + 1 + 1
    rw [fc_app, h.cnt]
    simp [fc, nw]
  · show fs (s.under ++ [s.top] ++ [⟨kindC c, s.word l, []⟩]) = true
    rw [fs_app, h.sm]
    simp [fs, smL]
theorem Wr.pop {l : List UInt8} {lits0 : List ByteArray} {s : Sc} {P : List UInt8} (h : Wr l lits0 s P) (hlt : s.pos < l.length) (c : UInt8) (hc : closerB c = true) (hbt : bt l s.pos = c) (hk : s.top.kind = kindC c) (u : List Fr) (f : Fr) (hu : s.under = u ++ [f]) :
    Wr l lits0 { s with pos := s.pos + 1, under := u, top := { f with kids := f.kids ++ [Wd.mk s.top.kind (S []) s.top.kids s.top.glued] } } (P ++ [c]) := by
  have hcc : clc (kindC c) = c ∧ c ≠ 32 ∧ (kindC c = 4 ∨ kindC c = 5) := by
    unfold closerB at hc
    rw [Bool.or_eq_true, beq_iff_eq, beq_iff_eq] at hc
    rcases hc with rfl | rfl <;> decide
  have hlast : lastB (P ++ [c]) = false := lastB_app P [] c hcc.2.1
  have hP : lastB P = false := by
    cases hp : lastB P with
    | false => rfl
    | true =>
      have := h.cl hp hlt
      rw [hbt, hc] at this
      cases this
  have ht := h.text
  rw [hP, hu] at ht
  have h45 : s.top.kind = 4 ∨ s.top.kind = 5 := by rw [hk]; exact hcc.2.2
  obtain ⟨_, e2, e3, e4⟩ := w1_nest s.top.kind h45 (S []) s.top.kids s.top.glued
  have hfs := h.sm
  rw [hu, fs_app, fs_app, Bool.and_eq_true, Bool.and_eq_true] at hfs
  have hft := h.lits
  rw [hu, ft_app, ft_app] at hft
  have hfc := h.cnt
  rw [hu, fc_app, fc_app] at hfc
  refine ⟨?_, fun e => (by rw [hlast] at e; cases e), fun e => (by rw [hlast] at e; cases e), ?_, ?_, ?_⟩
  · rw [hlast]
    show P ++ [c] = fw (u ++ [{ f with kids := f.kids ++ [Wd.mk s.top.kind (S []) s.top.kids s.top.glued] }]) ++ []
    rw [fw_pop u f s.top h45, hk, hcc.1]
    conv => lhs; rw [ht]
    simp
  · show lits0 = ft (u ++ [{ f with kids := f.kids ++ [Wd.mk s.top.kind (S []) s.top.kids s.top.glued] }]) ++ s.lits
    rw [ft_app, hft]
    simp [ft, lt_snoc, e2]
  · show fc (u ++ [{ f with kids := f.kids ++ [Wd.mk s.top.kind (S []) s.top.kids s.top.glued] }]) = s.begun + 1
    rw [fc_app]
    simp only [fc, nw_snoc, e3] at hfc ⊢
    omega
  · show fs (u ++ [{ f with kids := f.kids ++ [Wd.mk s.top.kind (S []) s.top.kids s.top.glued] }]) = true
    rw [fs_app, hfs.1.1]
    have h2 := hfs.1.2
    have h3 := hfs.2
    simp only [fs, Bool.and_true] at h2 h3 ⊢
    rw [smL_snoc, h2, e4, h3]
    rfl
end Go.Proofs.YtliiapdakojomabDoor

/- lex, plain: a line and its one form are scanned alike; the one form is what the words are written as. -/
namespace Go.Proofs.YtliiapdakojomabDoor
open Go.RowKit

structure SimR (l : List UInt8) (lits0 : List ByteArray) (s : Sc) (P : List UInt8) (R : Int × List Wd) : Prop where
  run : ∀ n', (canon (l.drop s.pos)).length ≤ n' → ({ s with pos := P.length } : Sc).run (P ++ canon (l.drop s.pos)) n' = R
  text : P ++ canon (l.drop s.pos) = wl true R.2
  lits : lt R.2 = lits0
  cnt : nw R.2 ≤ 512
  sm : smL R.2 = true
  len : (canon (l.drop s.pos)).length ≤ l.length - s.pos
theorem SimR.step {l : List UInt8} {lits0 : List ByteArray} {s s' : Sc} {P tok : List UInt8} {R : Int × List Wd} (h : SimR l lits0 s' (P ++ tok) R) (hcan : canon (l.drop s.pos) = tok ++ canon (l.drop s'.pos)) (h0 : 0 < tok.length) (hlen : s.pos + tok.length ≤ s'.pos) (hp' : s'.pos ≤ l.length)
    (hf : ({ s with pos := P.length } : Sc).fault (P ++ canon (l.drop s.pos)) = 0) (hs : ({ s with pos := P.length } : Sc).step (P ++ canon (l.drop s.pos)) = .go { s' with pos := (P ++ tok).length }) : SimR l lits0 s P R := by
  have hll : P ++ canon (l.drop s.pos) = (P ++ tok) ++ canon (l.drop s'.pos) := by rw [hcan, List.append_assoc]
  refine ⟨fun n' hn' => ?_, by rw [hll]; exact h.text, h.lits, h.cnt, h.sm, ?_⟩
  · rw [hcan, List.length_append] at hn'
    obtain ⟨k, rfl⟩ : ∃ k, n' = k + 1 := ⟨n' - 1, by omega⟩
    have h1 := Sc.run_go (n := k) rfl (by show P.length < (P ++ canon (l.drop s.pos)).length; rw [hcan]; simp; omega) hf hs
    rw [← h1, hll]
    exact h.run k (by omega)
  · have := h.len
    rw [hcan, List.length_append]
    omega
theorem fold_lt : ∀ (d : List UInt8) (a : Nat), (∀ x ∈ d, isDig x = true) → d.foldl capN a + 1 ≤ (a + 1) * 10 ^ d.length
  | [], a, _ => by simp
  | c :: d, a, h => by
    have hc := (isDig_iff c).1 (h c (by simp))
    have ih := fold_lt d (capN a c) (fun x hx => h x (by simp [hx]))
    have h1 : capN a c + 1 ≤ (a + 1) * 10 := by unfold capN; omega
    show d.foldl capN (capN a c) + 1 ≤ (a + 1) * 10 ^ (d.length + 1)
    rw [Nat.pow_succ, Nat.mul_comm (10 ^ d.length) 10, ← Nat.mul_assoc]
    exact Nat.le_trans ih (Nat.mul_le_mul_right _ h1)
theorem annE_suffix (l : List UInt8) (hB : annB l = true) : annE l = l.drop (annS l - 1) ∧ (annL (annN l)).length ≤ annS l ∧ annS l ≤ l.length ∧ 0 < annS l ∧ bt l (annS l - 1) = 125 := by
  have hB2 := hB
  unfold annB at hB2
  rw [Bool.and_eq_true, beq_iff_eq] at hB2
  obtain ⟨hfit, hpos⟩ := annS_fit l hB
  have hda : ∀ x ∈ annD l, isDig x = true := by unfold annD; exact tw_all _
  have hd0 : annD l ≠ [] := by
    intro e
    rw [e] at hB2
    simp at hB2
  obtain ⟨j, hj, hj2⟩ : ∃ j, annE l = l.drop j ∧ 1 + (annD l).length ≤ j := by
    unfold annE
    split
    · refine ⟨1 + (annD l).length + 1, ?_, by omega⟩
      unfold annR
      rw [List.tail_drop]
    · exact ⟨1 + (annD l).length, rfl, by omega⟩
  have hjl : j < l.length := by
    cases hh : Nat.decLt j l.length with
    | isTrue h => exact h
    | isFalse h =>
      rw [hj, List.drop_of_length_le (by omega)] at hB2
      cases hB2.2
  have hS : annS l = j + 1 := by
    unfold annS
    rw [if_pos hB, hj, List.length_drop]
    omega
  have hN : (annL (annN l)).length ≤ annS l := by
    have hdl : 0 < (annD l).length := List.length_pos_iff.2 hd0
    have h1 := fold_lt (annD l) 0 hda
    have h2 : annN l < 10 ^ ((annD l).length - 1 + 1) := by
      unfold annN annF
      rw [if_pos hB, show (annD l).length - 1 + 1 = (annD l).length by omega]
      omega
    have h3 := dec_small _ _ h2
    have h4 : (annL (annN l)).length = (Lib.decDigits (annN l)).length + 2 := by unfold annL; simp
    omega
  refine ⟨by rw [hS, hj]; rfl, hN, hfit, hpos, ?_⟩
  rw [hS]
  show bt l j = 125
  rw [hj, drop_at l j hjl] at hB2
  simpa using hB2.2
theorem tw_stop (p : UInt8 → Bool) (a Y : List UInt8) (ha : ∀ x ∈ a, p x = true) (hY : ∀ c, Y.head? = some c → p c = false) : (a ++ Y).takeWhile p = a := by
  induction a with
  | nil =>
    cases Y with
    | nil => rfl
    | cons c Y => rw [List.nil_append, List.takeWhile_cons_of_neg (by simp [hY c rfl])]
  | cons c a ih => rw [List.cons_append, List.takeWhile_cons_of_pos (ha c (by simp)), ih (fun x hx => ha x (by simp [hx]))]
theorem blank_at (l : List UInt8) (k : Nat) (c : UInt8) (hc : bt l (k - 1) = c) (h : c ≠ 32) : blankB l k = false := by
  unfold blankB
  rw [hc]
  have : (c == 32) = false := by simpa using h
  rw [this]
  simp
theorem quoteB_ge (t : List UInt8) : t.length ≤ (quoteB t).length := by
  unfold quoteB
  induction t with
  | nil => simp
  | cons a t ih =>
    rw [List.flatMap_cons, List.length_append, List.length_cons]
    have : 1 ≤ (q1 a).length := by unfold q1; split <;> simp
    omega
theorem simEnd {l : List UInt8} {lits0 : List ByteArray} (s : Sc) (P : List UInt8) (R : Int × List Wd) (n : Nat) (hI : SInv l.length s) (hp : ¬ s.pos < l.length) (hb : blankB l s.pos = lastB P) (hw : Wr l lits0 s P) (hr : s.run l n = R) (h0 : R.1 = 0) : SimR l lits0 s P R := by
  have hR := Sc.run_end hr hp
  have he : s.endE l false = 0 := by rw [hR] at h0; exact h0
  have hnil : canon (l.drop s.pos) = [] := by rw [List.drop_of_length_le (by omega), canon_nil]
  have hparts : s.under = [] ∧ blankB l s.pos = false ∧ s.lits = [] := by
    unfold Sc.endE at he
    cases hu : s.under with
    | cons a b => rw [hu] at he; simp at he
    | nil =>
      rw [hu] at he
      cases hbb : blankB l s.pos with
      | true => rw [hbb] at he; simp at he
      | false =>
        rw [hbb] at he
        cases hl : s.lits with
        | cons a b => rw [hl] at he; simp at he
        | nil => exact ⟨rfl, rfl, rfl⟩
  obtain ⟨hu, hbl, hli⟩ := hparts
  have ht := hw.text
  rw [hb] at hbl
  rw [hbl, hu] at ht
  have hlits := hw.lits
  rw [hu, hli] at hlits
  have hcnt := hw.cnt
  rw [hu] at hcnt
  have hsm := hw.sm
  rw [hu] at hsm
  have hbeg := hI.begun
  rw [hR]
  refine ⟨fun n' _ => ?_, ?_, ?_, ?_, ?_, by rw [hnil]; simp⟩
  · rw [hnil, List.append_nil]
    rw [Sc.run_end (s := { s with pos := P.length }) (l := P) rfl (by show ¬ P.length < P.length; omega)]
    have hb2 : blankB P P.length = lastB P := by
      have := blank_app P []
      rw [List.append_nil] at this
      exact this
    have : ({ s with pos := P.length } : Sc).endE P false = s.endE l false := by
      unfold Sc.endE
      show (if !s.under.isEmpty then (33 : Int) else if false = true then 31 else if blankB P P.length then 30 else if !s.lits.isEmpty then 32 else 0) = _
      rw [hb2, ← hb]
    rw [this]
  · rw [hnil, ht]
    simp [fw]
  · rw [hlits]
    simp [ft]
  · simp only [List.nil_append, fc] at hcnt
    show nw s.top.kids ≤ 512
    omega
  · simp only [List.nil_append, fs, Bool.and_true] at hsm
    exact hsm
theorem sim (l : List UInt8) (lits0 : List ByteArray) (hl : l.length ≤ 4096) (hx : ∀ x ∈ lits0, x.size ≤ 16384) : ∀ (n : Nat) (s : Sc) (P : List UInt8) (R : Int × List Wd), SInv l.length s → l.length - s.pos ≤ n → blankB l s.pos = lastB P → Wr l lits0 s P → s.run l n = R → R.1 = 0 → SimR l lits0 s P R := by
  intro n
  induction n with
  | zero =>
    intro s P R hI hn hb hw hr h0
    exact simEnd s P R 0 hI (by omega) hb hw hr h0
  | succ n ih =>
    intro s P R hI hn hb hw hr h0
    by_cases hp : s.pos < l.length
    · have hf : s.fault l = 0 := by
        apply Classical.byContradiction
        intro hf
        have := Sc.run_fault hr hp hf
        rw [this] at h0
        exact hf h0
      have hdr := drop_at l s.pos hp
      have hcls := cls (bt l s.pos)
      unfold clsB at hcls
      rcases sc_step hI hf with ⟨hc, hpa, hs⟩ | ⟨hc, hbg, hu, hs⟩ | ⟨hc, hk, u, f, hu, hs⟩ | ⟨hc, hB, hbg, x, r, hli, hxs, hs⟩ | ⟨hc, hbg, hs⟩ | ⟨hc, hbg, hs⟩
      · rw [hc] at hdr
        have hcan : canon (l.drop s.pos) = [32] ++ canon (l.drop (s.pos + 1)) := by rw [hdr, canon_other (by decide) (by decide)]; rfl
        have hfe := fault_else (l := l) (s := s) (P := P) (c := 32) (X := canon (l.drop (s.pos + 1))) hb hc hp (fun e => absurd e (by decide)) (fun _ => canon_head _)
        have hl' : P ++ canon (l.drop s.pos) = P ++ 32 :: canon (l.drop (s.pos + 1)) := by rw [hcan]; rfl
        refine SimR.step (s' := { s with pos := s.pos + 1 }) (tok := [32]) (ih _ _ R (hI.at (s.pos + 1) hp) (by show l.length - (s.pos + 1) ≤ n; omega) ?_ (hw.blank hb hpa) (Sc.run_go hr hp hf hs) h0) hcan (by simp) (by simp) hp (by rw [hl', hfe]; exact hf) ?_
        · rw [lastB_32]
          show blankB l (s.pos + 1) = true
          unfold blankB
          rw [show s.pos + 1 - 1 = s.pos from rfl, hc]
          simp
        · rw [hl']
          have := sc_blank (l := P ++ 32 :: canon (l.drop (s.pos + 1))) (s := { s with pos := P.length }) (hI.else P.length (by simp)) (by rw [hfe]; exact hf) (bt_app _ _ _)
          rw [this]
          simp
      · have hne : bt l s.pos ≠ 34 ∧ bt l s.pos ≠ 123 ∧ bt l s.pos ≠ 32 := by
          rw [if_pos (c := openerB (bt l s.pos) = true) hc] at hcls
          refine ⟨fun e => ?_, fun e => ?_, fun e => ?_⟩ <;> rw [if_pos e] at hcls <;> omega
        generalize hcc : bt l s.pos = c at *
        have hcan : canon (l.drop s.pos) = [c] ++ canon (l.drop (s.pos + 1)) := by rw [hdr, canon_other hne.1 hne.2.1]; rfl
        have hfe := fault_else (l := l) (s := s) (P := P) (c := c) (X := canon (l.drop (s.pos + 1))) hb hcc hp (fun e => absurd e hne.2.1) (fun e => absurd e hne.2.2)
        have hl' : P ++ canon (l.drop s.pos) = P ++ c :: canon (l.drop (s.pos + 1)) := by rw [hcan]; rfl
        refine SimR.step (tok := [c]) (ih _ _ R (hI.push (s.pos + 1) hp _ _ hbg hu) (by show l.length - (s.pos + 1) ≤ n; omega) ?_ (hw.push hb c hc) (Sc.run_go hr hp hf hs) h0) hcan (by simp) (by show s.pos + 1 ≤ s.pos + 1; omega) hp (by rw [hl', hfe]; exact hf) ?_
        · rw [show lastB (P ++ [c]) = false from lastB_app P [] c hne.2.2]
          exact blank_at l (s.pos + 1) c hcc hne.2.2
        · rw [hl']
          have := sc_open (l := P ++ c :: canon (l.drop (s.pos + 1))) (s := { s with pos := P.length }) (hI.else P.length (by simp)) (by rw [hfe]; exact hf) (by rw [bt_app]; exact hc)
          rw [this, bt_app, word_else hb]
          simp
      · have hne : bt l s.pos ≠ 34 ∧ bt l s.pos ≠ 123 ∧ bt l s.pos ≠ 32 := by
          rw [if_pos (c := closerB (bt l s.pos) = true) hc] at hcls
          refine ⟨fun e => ?_, fun e => ?_, fun e => ?_⟩ <;> rw [if_pos e] at hcls <;> omega
        generalize hcc : bt l s.pos = c at *
        have hcan : canon (l.drop s.pos) = [c] ++ canon (l.drop (s.pos + 1)) := by rw [hdr, canon_other hne.1 hne.2.1]; rfl
        have hfe := fault_else (l := l) (s := s) (P := P) (c := c) (X := canon (l.drop (s.pos + 1))) hb hcc hp (fun e => absurd e hne.2.1) (fun e => absurd e hne.2.2)
        have hl' : P ++ canon (l.drop s.pos) = P ++ c :: canon (l.drop (s.pos + 1)) := by rw [hcan]; rfl
        refine SimR.step (tok := [c]) (ih _ _ R (hI.pop (s.pos + 1) hp u f hu _) (by show l.length - (s.pos + 1) ≤ n; omega) ?_ (hw.pop hp c hc hcc hk u f hu) (Sc.run_go hr hp hf hs) h0) hcan (by simp) (by show s.pos + 1 ≤ s.pos + 1; omega) hp (by rw [hl', hfe]; exact hf) ?_
        · rw [show lastB (P ++ [c]) = false from lastB_app P [] c hne.2.2]
          exact blank_at l (s.pos + 1) c hcc hne.2.2
        · rw [hl']
          have := sc_close (l := P ++ c :: canon (l.drop (s.pos + 1))) (s := { s with pos := P.length }) (hI.else P.length (by simp)) (by rw [hfe]; exact hf) (by rw [bt_app]; exact hc) u f hu
          rw [this]
          simp
      · have hdr2 := hdr
        rw [hc] at hdr2
        obtain ⟨_, hNl, hfit, hpos, hb125⟩ := annE_suffix (l.drop s.pos) hB
        rw [List.length_drop] at hfit
        have hxm : x ∈ lits0 := by rw [hw.lits, hli]; simp
        have hx16 := hx x hxm
        have hcan : canon (l.drop s.pos) = annL x.size ++ canon (l.drop (s.pos + annS (l.drop s.pos))) := by
          conv => lhs; rw [hdr2, canon_lit]
          rw [← hdr2, ← hxs, List.drop_drop, show s.pos + 1 + (annS (l.drop s.pos) - 1) = s.pos + annS (l.drop s.pos) by omega]
        obtain ⟨a1, a2, a3⟩ := annL_ahead x.size (by omega) (canon (l.drop (s.pos + annS (l.drop s.pos))))
        have hX : annL x.size ++ canon (l.drop (s.pos + annS (l.drop s.pos))) = 123 :: (Lib.decDigits x.size ++ ([125] ++ canon (l.drop (s.pos + annS (l.drop s.pos))))) := by unfold annL; simp
        rw [hX] at a1 a2 a3
        have hl' : P ++ canon (l.drop s.pos) = P ++ 123 :: (Lib.decDigits x.size ++ ([125] ++ canon (l.drop (s.pos + annS (l.drop s.pos))))) := by rw [hcan, hX]
        have hfe := fault_else (l := l) (s := s) (P := P) (c := 123) (X := Lib.decDigits x.size ++ ([125] ++ canon (l.drop (s.pos + annS (l.drop s.pos))))) hb hc hp (fun _ => ⟨a1.trans hB.symm, a2.trans hxs⟩) (fun e => absurd e (by decide))
        have hwd : w1 (Wd.mk 3 x [] (s.word l)) = (123 :: Lib.decDigits x.size) ++ [125] := by simp [w1, annL]
        have hwa : w1 (Wd.mk 3 x [] (s.word l)) = annL x.size := by simp [w1]
        have hW := hw.word hb (Wd.mk 3 x [] (s.word l)) rfl (s.pos + annS (l.drop s.pos)) r (by rw [hli]; simp [l1]) (by simp [n1]) (by simp [sm1]; omega) (123 :: Lib.decDigits x.size) 125 (by decide) hwd
        have hlb : lastB (P ++ annL x.size) = false := by rw [← hwa, hwd]; exact lastB_app P _ 125 (by decide)
        rw [hwa] at hW
        refine SimR.step (tok := annL x.size) (ih _ _ R (hI.word (s.pos + annS (l.drop s.pos)) (by omega) r (Wd.mk 3 x [] (s.word l)) hbg) (by show l.length - (s.pos + annS (l.drop s.pos)) ≤ n; omega) ?_ hW (Sc.run_go hr hp hf hs) h0) hcan (by unfold annL; simp) (by show s.pos + (annL x.size).length ≤ s.pos + annS (l.drop s.pos); rw [← hxs] at hNl; omega) (by show s.pos + annS (l.drop s.pos) ≤ l.length; omega) (by rw [hl', hfe]; exact hf) ?_
        · rw [hlb]
          refine blank_at l (s.pos + annS (l.drop s.pos)) 125 ?_ (by decide)
          rw [bt_drop] at hb125
          rw [← hb125]
          congr 1
          omega
        · rw [hl']
          have := sc_lit (l := P ++ 123 :: (Lib.decDigits x.size ++ ([125] ++ canon (l.drop (s.pos + annS (l.drop s.pos)))))) (s := { s with pos := P.length }) (hI.else P.length (by simp)) (by rw [hfe]; exact hf) (bt_app _ _ _) x r hli
          rw [this, word_else hb]
          show Rd.go ({ s with pos := P.length + annS ((P ++ 123 :: (Lib.decDigits x.size ++ ([125] ++ canon (l.drop (s.pos + annS (l.drop s.pos)))))).drop P.length), begun := s.begun + 1, lits := r }.add (Wd.mk 3 x [] (s.word l))) = _
          rw [List.drop_left, a3, List.length_append]
          rfl
      · have hdr2 := hdr
        rw [hc] at hdr2
        cases hqu : quo (l.drop (s.pos + 1)) false [] 0 with
        | bad =>
          rw [hqu] at hs
          have := Sc.run_err hr hp hf hs
          rw [this] at h0
          exact absurd h0 (by decide)
        | cut =>
          rw [hqu] at hs
          have := Sc.run_cut hr hp hf hs
          rw [this] at h0
          have h00 : ({ s with pos := l.length, begun := s.begun + 1 } : Sc).endE l true = 0 := h0
          unfold Sc.endE at h00
          split at h00
          · exact absurd h00 (by decide)
          · rw [if_pos rfl] at h00
            exact absurd h00 (by decide)
        | done t m =>
          rw [hqu] at hs
          obtain ⟨k, hk, hkl, hb34, hY⟩ := quo_same _ _ _ _ _ _ hqu
          obtain ⟨xx, hxx, hxa, hxe⟩ := quo_text _ _ _ _ _ _ hqu
          have hm : m = k + 1 := by omega
          have htk : (l.drop (s.pos + 1)).take m = quoteB t ++ [34] := by
            rcases hxe with ⟨_, e⟩ | ⟨e, _⟩
            · rw [Nat.sub_zero] at e
              rw [e, hxx]
              rfl
            · cases e
          rw [List.length_drop] at hkl
          have hcan : canon (l.drop s.pos) = quoteL t ++ canon (l.drop (s.pos + 1 + m)) := by
            rw [hdr2, canon_quo hqu, htk, List.drop_drop]
            unfold quoteL
            simp
          have hql : (quoteL t).length = m + 1 := by
            have e : (quoteB t ++ [34]).length = m := by rw [← htk, List.length_take, List.length_drop]; omega
            unfold quoteL
            rw [List.length_cons, e]
          have ht16 : t.length ≤ 4096 := by
            have := quoteB_ge t
            have e : (quoteB t ++ [34]).length = m := by rw [← htk, List.length_take, List.length_drop]; omega
            rw [List.length_append, List.length_singleton] at e
            omega
          have hl' : P ++ canon (l.drop s.pos) = P ++ 34 :: (quoteB t ++ [34] ++ canon (l.drop (s.pos + 1 + m))) := by rw [hcan]; unfold quoteL; simp
          have hfe := fault_else (l := l) (s := s) (P := P) (c := 34) (X := quoteB t ++ [34] ++ canon (l.drop (s.pos + 1 + m))) hb hc hp (fun e => absurd e (by decide)) (fun e => absurd e (by decide))
          have hwa : w1 (Wd.mk 2 (S t) [] (s.word l)) = quoteL t := by simp [w1, L_S]
          have hwd : w1 (Wd.mk 2 (S t) [] (s.word l)) = (34 :: quoteB t) ++ [34] := by rw [hwa]; rfl
          have hsz : (S t).size ≤ 16384 := by rw [S_size]; omega
          have hW := hw.word hb (Wd.mk 2 (S t) [] (s.word l)) rfl (s.pos + 1 + m) s.lits (by simp [l1]) (by simp [n1]) (by simp [sm1, hsz]) (34 :: quoteB t) 34 (by decide) hwd
          have hlb : lastB (P ++ quoteL t) = false := by rw [← hwa, hwd]; exact lastB_app P _ 34 (by decide)
          rw [hwa] at hW
          refine SimR.step (tok := quoteL t) (ih _ _ R (hI.word (s.pos + 1 + m) (by omega) s.lits (Wd.mk 2 (S t) [] (s.word l)) hbg) (by show l.length - (s.pos + 1 + m) ≤ n; omega) ?_ hW (Sc.run_go hr hp hf hs) h0) hcan (by omega) (by show s.pos + (quoteL t).length ≤ s.pos + 1 + m; omega) (by show s.pos + 1 + m ≤ l.length; omega) (by rw [hl', hfe]; exact hf) ?_
          · rw [hlb]
            refine blank_at l (s.pos + 1 + m) 34 ?_ (by decide)
            rw [bt_drop] at hb34
            rw [← hb34]
            congr 1
            omega
          · rw [hl']
            have hq2 : quo ((P ++ 34 :: (quoteB t ++ [34] ++ canon (l.drop (s.pos + 1 + m)))).drop (P.length + 1)) false [] 0 = .done t m := by
              rw [show P ++ 34 :: (quoteB t ++ [34] ++ canon (l.drop (s.pos + 1 + m))) = (P ++ [34]) ++ (quoteB t ++ [34] ++ canon (l.drop (s.pos + 1 + m))) by simp, show P.length + 1 = (P ++ [34]).length by simp, List.drop_left, ← htk, hm]
              have := hY (canon (l.drop (s.pos + 1 + (k + 1))))
              rw [hm] at this
              exact this
            have := sc_quo (l := P ++ 34 :: (quoteB t ++ [34] ++ canon (l.drop (s.pos + 1 + m)))) (s := { s with pos := P.length }) (hI.else P.length (by simp)) (by rw [hfe]; exact hf) (bt_app _ _ _) t m hq2
            rw [this, word_else hb, List.length_append, hql]
            show Rd.go ({ s with pos := P.length + 1 + m, begun := s.begun + 1 }.add _) = Rd.go ({ s with pos := P.length + (m + 1), begun := s.begun + 1 }.add _)
            rw [show P.length + 1 + m = P.length + (m + 1) by omega]
      · obtain ⟨ha0, hal⟩ := atomL_pos hp hc
        have hsplit : l.drop s.pos = atomL l s.pos ++ l.drop (s.pos + (atomL l s.pos).length) := by
          have := tw_app wordC (l.drop s.pos)
          rw [List.drop_drop] at this
          exact this
        have hall : ∀ y ∈ atomL l s.pos, wordC y = true := tw_all _
        have hcan : canon (l.drop s.pos) = atomL l s.pos ++ canon (l.drop (s.pos + (atomL l s.pos).length)) := by
          conv => lhs; rw [hsplit]
          exact canon_word _ hall _
        have hne : bt l s.pos ≠ 123 ∧ bt l s.pos ≠ 32 := by
          rw [if_pos (c := wordC (bt l s.pos) = true) hc] at hcls
          refine ⟨fun e => ?_, fun e => ?_⟩ <;> rw [if_pos e] at hcls <;> omega
        obtain ⟨q, hq⟩ : ∃ q, atomL l s.pos = bt l s.pos :: q := by
          have e := hsplit
          rw [hdr] at e
          cases hA : atomL l s.pos with
          | nil => rw [hA] at ha0; simp at ha0
          | cons a q =>
            rw [hA] at e
            injection e with e1 _
            exact ⟨q, by rw [e1]⟩
        obtain ⟨t, c, htc⟩ : ∃ t c, atomL l s.pos = t ++ [c] := by
          refine ⟨(atomL l s.pos).dropLast, (atomL l s.pos).getLast (List.length_pos_iff.1 ha0), ?_⟩
          rw [List.dropLast_concat_getLast]
        have hcw : wordC c = true := hall c (by rw [htc]; simp)
        have hc32 : c ≠ 32 := by rintro rfl; exact absurd hcw (by decide)
        have hstop : ∀ y, (canon (l.drop (s.pos + (atomL l s.pos).length))).head? = some y → wordC y = false := by
          intro y hy
          rw [canon_head] at hy
          have hlt2 : s.pos + (atomL l s.pos).length < l.length := by
            apply Classical.byContradiction
            intro hh
            rw [List.drop_of_length_le (by omega)] at hy
            cases hy
          have ho := tw_out (p := wordC) (r := l.drop s.pos) (by show (atomL l s.pos).length < (l.drop s.pos).length; rw [List.length_drop]; omega)
          rw [bt_drop] at ho
          rw [drop_at l _ hlt2] at hy
          injection hy with hy
          rw [← hy]
          exact ho
        have hl' : P ++ canon (l.drop s.pos) = P ++ bt l s.pos :: (q ++ canon (l.drop (s.pos + (atomL l s.pos).length))) := by rw [hcan, hq]; rfl
        have hfe := fault_else (l := l) (s := s) (P := P) (c := bt l s.pos) (X := q ++ canon (l.drop (s.pos + (atomL l s.pos).length))) hb rfl hp (fun e => absurd e hne.1) (fun e => absurd e hne.2)
        have hwa : w1 (Wd.mk 1 (S (atomL l s.pos)) [] (s.word l)) = atomL l s.pos := by simp [w1, L_S]
        have hsz : (S (atomL l s.pos)).size ≤ 16384 := by rw [S_size]; omega
        have hW := hw.word hb (Wd.mk 1 (S (atomL l s.pos)) [] (s.word l)) rfl (s.pos + (atomL l s.pos).length) s.lits (by simp [l1]) (by simp [n1]) (by simp [sm1, hsz]) t c hc32 (by rw [hwa]; exact htc)
        rw [hwa] at hW
        have hlb : lastB (P ++ atomL l s.pos) = false := by rw [htc]; exact lastB_app P t c hc32
        refine SimR.step (tok := atomL l s.pos) (ih _ _ R (hI.word (s.pos + (atomL l s.pos).length) (by omega) s.lits (Wd.mk 1 (S (atomL l s.pos)) [] (s.word l)) hbg) (by show l.length - (s.pos + (atomL l s.pos).length) ≤ n; omega) ?_ hW (Sc.run_go hr hp hf hs) h0) hcan ha0 (Nat.le_refl _) hal (by rw [hl', hfe]; exact hf) ?_
        · rw [hlb]
          refine blank_at l (s.pos + (atomL l s.pos).length) c ?_ hc32
          have e : bt (l.drop s.pos) (t.length) = c := by
            rw [hsplit, htc, List.append_assoc]
            exact bt_app t c _
          rw [bt_drop] at e
          rw [← e]
          congr 1
          rw [htc, List.length_append, List.length_singleton]
          omega
        · rw [hl']
          have := sc_atom (l := P ++ bt l s.pos :: (q ++ canon (l.drop (s.pos + (atomL l s.pos).length)))) (s := { s with pos := P.length }) (hI.else P.length (by simp)) (by rw [hfe]; exact hf) (by rw [bt_app]; exact hc)
          have hA2 : atomL (P ++ bt l s.pos :: (q ++ canon (l.drop (s.pos + (atomL l s.pos).length)))) P.length = atomL l s.pos := by
            have e2 := tw_stop wordC (atomL l s.pos) (canon (l.drop (s.pos + (atomL l s.pos).length))) hall hstop
            have e0 : atomL (P ++ bt l s.pos :: (q ++ canon (l.drop (s.pos + (atomL l s.pos).length)))) P.length = ((P ++ bt l s.pos :: (q ++ canon (l.drop (s.pos + (atomL l s.pos).length)))).drop P.length).takeWhile wordC := rfl
            rw [e0, List.drop_left, ← List.cons_append, ← hq]
            exact e2
          rw [this, word_else hb]
          show Rd.go ({ s with pos := P.length + (atomL (P ++ bt l s.pos :: (q ++ canon (l.drop (s.pos + (atomL l s.pos).length)))) P.length).length, begun := s.begun + 1 }.add (Wd.mk 1 (S (atomL (P ++ bt l s.pos :: (q ++ canon (l.drop (s.pos + (atomL l s.pos).length)))) P.length)) [] (s.word l))) = _
          rw [hA2, List.length_append]
          rfl
    · exact simEnd s P R (n + 1) hI hp hb hw hr h0
theorem eqL_same : ∀ (l : List Wd), eqL l l = true
  | [] => rfl
  | .mk k t r g :: l => by
    have h1 := eqL_same r
    have h2 := eqL_same l
    simp [eqL, eqW, h1, h2]
theorem Wr.new (l : List UInt8) (lits : List ByteArray) : Wr l lits (Sc.new lits) [] := by
  refine ⟨rfl, fun e => (by cases e), fun e => (by cases e), rfl, rfl, rfl⟩
theorem long_no {l : List UInt8} {lits : List ByteArray} (h : longB l lits = false) : l.length ≤ 4096 ∧ lits.length ≤ 512 ∧ ∀ x ∈ lits, x.size ≤ 16384 := by
  unfold longB at h
  rw [Bool.or_eq_false_iff, Bool.or_eq_false_iff, decide_eq_false_iff_not, decide_eq_false_iff_not, List.any_eq_false] at h
  refine ⟨by omega, by omega, fun x hx => ?_⟩
  have := h.2 x hx
  simp at this
  omega
/-- A line that is scanned is joined to its one form, with the same literals. -/
theorem line_back {l : List UInt8} {lits : List ByteArray} (h : scanE l lits = 0) : joinE (scanW l lits) = 0 ∧ joinS (scanW l lits) = canon l ∧ joinT (scanW l lits) = lits := by
  have hlong : longB l lits = false := by
    cases hh : longB l lits with
    | false => rfl
    | true =>
      unfold scanE at h
      rw [hh, if_pos rfl] at h
      exact absurd h (by decide)
  obtain ⟨hl, hn, hx⟩ := long_no hlong
  have hr : ((Sc.new lits).run l l.length).1 = 0 := by
    unfold scanE at h
    rw [hlong] at h
    exact h
  have hW : scanW l lits = ((Sc.new lits).run l l.length).2 := by
    unfold scanW
    rw [hlong, h]
    rfl
  have hs := sim l lits hl hx l.length (Sc.new lits) [] _ (SInv.new _ _) (by simp) rfl (Wr.new l lits) rfl hr
  have h1 := hs.run
  have h2 := hs.text
  have h3 := hs.lits
  have h4 := hs.cnt
  have h5 := hs.sm
  have h6 := hs.len
  rw [← hW] at h2 h3 h4 h5
  simp only [show (Sc.new lits).pos = 0 from rfl, List.drop_zero, List.nil_append, List.length_nil, Nat.sub_zero] at h1 h2 h6
  have hj : jF (scanW l lits) = ⟨canon l, lits, nw (scanW l lits)⟩ := by
    unfold jF
    rw [jws_wl true _ _ h5 (by show 0 + nw (scanW l lits) ≤ 512; omega), h2, h3]
    simp
  have hlong2 : longB (canon l) lits = false := by
    unfold longB at hlong ⊢
    rw [Bool.or_eq_false_iff, Bool.or_eq_false_iff] at hlong
    rw [hlong.1.2, hlong.2, decide_eq_false (by omega)]
    rfl
  have hrun : (Sc.new lits).run (canon l) (canon l).length = (Sc.new lits).run l l.length := h1 _ (Nat.le_refl _)
  have hE2 : scanE (canon l) lits = 0 := by
    unfold scanE
    rw [hlong2, hrun]
    exact hr
  have hW2 : scanW (canon l) lits = scanW l lits := by
    rw [hW]
    unfold scanW
    rw [hlong2, hE2, hrun]
    rfl
  have hB : joinB (scanW l lits) = true := by
    unfold joinB
    rw [hj]
    show (decide (scanE (canon l) lits = 0) && eqL (scanW (canon l) lits) (scanW l lits)) = true
    rw [hE2, hW2, eqL_same]
    rfl
  have hJ : joinE (scanW l lits) = 0 := by
    unfold joinE
    have := nw_len (scanW l lits)
    rw [if_neg (by omega), hB]
    rfl
  refine ⟨hJ, ?_, ?_⟩
  · unfold joinS
    rw [hJ, hj]
    rfl
  · unfold joinT
    rw [hJ, hj]
    rfl
end Go.Proofs.YtliiapdakojomabDoor

/- lex, plain: what the document's Join writes, against what Join writes. -/
namespace Go.Proofs.YtliiapdakojomabDoor
open Go.RowKit

mutual
def wrt : Bool → List UInt8 → List ByteArray → List Wd → Option (List UInt8 × List ByteArray)
  | _, s, ls, [] => some (s, ls)
  | first, s, ls, d :: r => if 4096 < s.length ∨ 512 < ls.length then none else match wr1 (if !first && !d.glued then s ++ [32] else s) ls d with
    | none => none
    | some (s', ls') => wrt false s' ls' r
def wr1 : List UInt8 → List ByteArray → Wd → Option (List UInt8 × List ByteArray)
  | s, ls, .mk k t l _ => if k = 1 then some (s ++ L t, ls) else if k = 2 then some (s ++ quoteL (L t), ls) else if k = 3 then some (s ++ annL t.size, ls ++ [t])
    else if k = 4 then (match wrt true [] ls l with | none => none | some (x, ls') => some (s ++ (40 :: (x ++ [41])), ls'))
    else if k = 5 then (match wrt true [] ls l with | none => none | some (x, ls') => some (s ++ (91 :: (x ++ [93])), ls')) else none
end
mutual
theorem wrt_sound : ∀ (first : Bool) (s : List UInt8) (ls : List ByteArray) (l : List Wd) (s' : List UInt8) (ls' : List ByteArray), wrt first s ls l = some (s', ls') → s' = s ++ wl first l ∧ ls' = ls ++ lt l
  | first, s, ls, [], s', ls', h => by
    simp only [wrt, Option.some.injEq, Prod.mk.injEq] at h
    obtain ⟨rfl, rfl⟩ := h
    simp [wl, lt]
  | first, s, ls, d :: r, s', ls', h => by
    rw [wrt] at h
    split at h
    · cases h
    · cases hw : wr1 (if !first && !d.glued then s ++ [32] else s) ls d with
      | none => rw [hw] at h; cases h
      | some q =>
        obtain ⟨s1, l1'⟩ := q
        rw [hw] at h
        obtain ⟨e1, e2⟩ := wr1_sound _ _ _ _ _ hw
        obtain ⟨e3, e4⟩ := wrt_sound _ _ _ _ _ _ h
        rw [wl, lt, e3, e4, e1, e2]
        constructor
        · cases (!first && !d.glued) <;> simp
        · simp
theorem wr1_sound : ∀ (s : List UInt8) (ls : List ByteArray) (d : Wd) (s' : List UInt8) (ls' : List ByteArray), wr1 s ls d = some (s', ls') → s' = s ++ w1 d ∧ ls' = ls ++ l1 d
  | s, ls, .mk k t l g, s', ls', h => by
    rw [wr1] at h
    rw [w1, l1]
    by_cases k1 : k = 1
    · rw [if_pos k1] at h
      simp only [Option.some.injEq, Prod.mk.injEq] at h
      obtain ⟨rfl, rfl⟩ := h
      subst k1
      simp
    · rw [if_neg k1] at h
      by_cases k2 : k = 2
      · rw [if_pos k2] at h
        simp only [Option.some.injEq, Prod.mk.injEq] at h
        obtain ⟨rfl, rfl⟩ := h
        subst k2
        simp
      · rw [if_neg k2] at h
        by_cases k3 : k = 3
        · rw [if_pos k3] at h
          simp only [Option.some.injEq, Prod.mk.injEq] at h
          obtain ⟨rfl, rfl⟩ := h
          subst k3
          simp
        · rw [if_neg k3] at h
          by_cases k4 : k = 4
          · rw [if_pos k4] at h
            cases hw : wrt true [] ls l with
            | none => rw [hw] at h; cases h
            | some q =>
              obtain ⟨x, l2⟩ := q
              rw [hw] at h
              simp only [Option.some.injEq, Prod.mk.injEq] at h
              obtain ⟨rfl, rfl⟩ := h
              obtain ⟨e1, e2⟩ := wrt_sound _ _ _ _ _ _ hw
              subst k4
              rw [e1, e2]
              simp
          · rw [if_neg k4] at h
            by_cases k5 : k = 5
            · rw [if_pos k5] at h
              cases hw : wrt true [] ls l with
              | none => rw [hw] at h; cases h
              | some q =>
                obtain ⟨x, l2⟩ := q
                rw [hw] at h
                simp only [Option.some.injEq, Prod.mk.injEq] at h
                obtain ⟨rfl, rfl⟩ := h
                obtain ⟨e1, e2⟩ := wrt_sound _ _ _ _ _ _ hw
                subst k5
                rw [e1, e2]
                simp
            · rw [if_neg k5] at h
              cases h
end
mutual
def kdL : List Wd → Bool
  | [] => true
  | d :: r => kd1 d && kdL r
def kd1 : Wd → Bool
  | .mk k _ l _ => if k = 1 then true else if k = 2 then true else if k = 3 then true else if k = 4 then kdL l else if k = 5 then kdL l else false
end
mutual
theorem wrt_full : ∀ (first : Bool) (s : List UInt8) (ls : List ByteArray) (l : List Wd), kdL l = true → (s ++ wl first l).length ≤ 4096 → (ls ++ lt l).length ≤ 512 → wrt first s ls l = some (s ++ wl first l, ls ++ lt l)
  | first, s, ls, [], _, _, _ => by simp [wrt, wl, lt]
  | first, s, ls, d :: r, hk, h1, h2 => by
    rw [kdL, Bool.and_eq_true] at hk
    rw [wl] at h1 ⊢
    rw [lt] at h2 ⊢
    rw [wrt, if_neg (by rw [List.length_append] at h1 h2; omega)]
    have e : (if (!first && !d.glued) = true then s ++ [32] else s) = s ++ (if (!first && !d.glued) = true then [32] else []) := by
      cases (!first && !d.glued) <;> simp
    rw [e, wr1_full _ _ d hk.1 (by simp only [List.length_append] at h1 ⊢; omega) (by simp only [List.length_append] at h2 ⊢; omega)]
    dsimp only
    rw [wrt_full false _ _ r hk.2 (by simp only [List.length_append] at h1 ⊢; omega) (by simp only [List.length_append] at h2 ⊢; omega)]
    simp
theorem wr1_full : ∀ (s : List UInt8) (ls : List ByteArray) (d : Wd), kd1 d = true → (s ++ w1 d).length ≤ 4096 → (ls ++ l1 d).length ≤ 512 → wr1 s ls d = some (s ++ w1 d, ls ++ l1 d)
  | s, ls, .mk k t l g, hk, h1, h2 => by
    rw [kd1] at hk
    rw [wr1]
    rw [w1] at h1 ⊢
    rw [l1] at h2 ⊢
    by_cases k1 : k = 1
    · subst k1; simp
    · by_cases k2 : k = 2
      · subst k2; simp
      · by_cases k3 : k = 3
        · subst k3; simp
        · by_cases k4 : k = 4
          · subst k4
            rw [if_neg k1, if_neg k2, if_neg k3, if_pos rfl] at hk h1 ⊢
            rw [if_neg k3, if_pos rfl] at h2
            rw [if_neg k1, if_neg k2, if_neg k3, if_pos rfl, if_neg k3, if_pos rfl]
            rw [wrt_full true [] ls l hk (by simp only [List.length_append, List.length_cons, List.length_nil, List.nil_append] at h1 ⊢; omega) h2]
            simp
          · by_cases k5 : k = 5
            · subst k5
              rw [if_neg k1, if_neg k2, if_neg k3, if_neg k4, if_pos rfl] at hk h1 ⊢
              rw [if_neg k3, if_neg k4, if_pos rfl] at h2
              rw [if_neg k1, if_neg k2, if_neg k3, if_neg k4, if_pos rfl, if_neg k3, if_neg k4, if_pos rfl]
              rw [wrt_full true [] ls l hk (by simp only [List.length_append, List.length_cons, List.length_nil, List.nil_append] at h1 ⊢; omega) h2]
              simp
            · rw [if_neg k1, if_neg k2, if_neg k3, if_neg k4, if_neg k5] at hk
              cases hk
end
theorem kdL_snoc (a : List Wd) (d : Wd) : kdL (a ++ [d]) = (kdL a && kd1 d) := by
  induction a with
  | nil => simp [kdL]
  | cons x r ih => simp only [List.cons_append, kdL, ih, Bool.and_assoc]
theorem kd1_glue (d : Wd) (g : Bool) : kd1 (d.glue g) = kd1 d := by
  cases d
  simp only [Wd.glue, kd1]
  rfl
theorem kindC_is (c : UInt8) : kindC c = 4 ∨ kindC c = 5 := by
  unfold kindC
  split
  · exact .inl rfl
  · exact .inr rfl
theorem rws_kinds (l : List UInt8) (lits : List ByteArray) : ∀ (N depth : Nat) (e : UInt8) (acc : List Wd) (blank : Bool) (c : Cur) (ws : List Wd) (c' : Cur), kdL acc = true → rws l lits N depth e acc blank c = .ok ws c' → kdL ws = true
  | 0, _, _, _, _, _, _, _, _, h => by cases h
  | N + 1, depth, e, acc, blank, c, ws, c', ha, h => by
    rw [rws_succ] at h
    split at h
    · split at h
      · split at h
        · cases h
        · exact rws_kinds l lits N _ _ _ _ _ _ _ ha h
      · split at h
        · split at h
          · cases h
          · injection h with h1 _
            rw [← h1]
            exact ha
        · cases hw : rw1 l lits (fun d e c => rws l lits N d e [] false c) depth c with
          | bad k => rw [hw] at h; cases h
          | ok d c2 =>
            rw [hw] at h
            refine rws_kinds l lits N _ _ _ _ _ _ _ ?_ h
            rw [kdL_snoc, kd1_glue, ha, Bool.true_and]
            unfold rw1 at hw
            split at hw
            · cases hw
            · split at hw
              · cases hw
              · split at hw
                · split at hw
                  · cases hw
                  · cases hw
                  · injection hw with h1 _
                    rw [← h1]
                    rfl
                · split at hw
                  · split at hw
                    · cases hw
                    · split at hw
                      · cases hw
                      · rename_i kids c3 hk
                        injection hw with h1 _
                        have := rws_kinds l lits N _ _ _ _ _ _ _ rfl hk
                        rw [← h1, kd1]
                        rcases kindC_is (bt l c.pos) with hc | hc <;> rw [hc] <;> simpa using this
                  · split at hw
                    · split at hw
                      · cases hw
                      · split at hw
                        · injection hw with h1 _
                          rw [← h1]
                          rfl
                        · cases hw
                    · injection hw with h1 _
                      rw [← h1]
                      rfl
    · split at h
      · cases h
      · split at h
        · cases h
        · injection h with h1 _
          rw [← h1]
          exact ha
theorem scan_kinds (l : List UInt8) (lits : List ByteArray) : kdL (scanW l lits) = true := by
  rw [← (ref_scan l lits).2]
  unfold refW
  split
  · rfl
  · cases hr : rws l lits (l.length + 1) 0 0 [] false ⟨0, 0, 0⟩ with
    | err k => rfl
    | ok ws c =>
      dsimp only
      split
      · exact rws_kinds l lits _ _ _ _ _ _ _ _ rfl hr
      · rfl
theorem scan_small {l : List UInt8} {lits : List ByteArray} (h : scanE l lits = 0) : nw (scanW l lits) ≤ 512 ∧ smL (scanW l lits) = true ∧ l.length ≤ 4096 ∧ lits.length ≤ 512 := by
  have hlong : longB l lits = false := by
    cases hh : longB l lits with
    | false => rfl
    | true =>
      unfold scanE at h
      rw [hh, if_pos rfl] at h
      exact absurd h (by decide)
  obtain ⟨hl, hn, hx⟩ := long_no hlong
  have hr : ((Sc.new lits).run l l.length).1 = 0 := by
    unfold scanE at h
    rw [hlong] at h
    exact h
  have hW : scanW l lits = ((Sc.new lits).run l l.length).2 := by
    unfold scanW
    rw [hlong, h]
    rfl
  have hs := sim l lits hl hx l.length (Sc.new lits) [] _ (SInv.new _ _) (by simp) rfl (Wr.new l lits) rfl hr
  rw [hW]
  exact ⟨hs.cnt, hs.sm, hl, hn⟩
/-- What the document's Join answers. -/
def rjoin (l : List Wd) : Int × List UInt8 × List ByteArray := if 512 < l.length then (2, [], []) else match wrt true [] [] l with
  | none => (1, [], [])
  | some (s, ls) => if scanE s ls = 0 ∧ eqL (scanW s ls) l = true then (0, s, ls) else (1, [], [])
theorem rjoin_eq (l : List Wd) : rjoin l = (joinE l, joinS l, joinT l) := by
  have key : joinB l = true → wrt true [] [] l = some ((jF l).line, (jF l).lits) ∧ scanE (jF l).line (jF l).lits = 0 ∧ scanW (jF l).line (jF l).lits = l := fun hB => by
    unfold joinB at hB
    rw [Bool.and_eq_true, decide_eq_true_eq] at hB
    have hw := eqL_eq _ _ hB.2
    obtain ⟨h1, h2, h3, h4⟩ := scan_small hB.1
    have hk := scan_kinds (jF l).line (jF l).lits
    rw [hw] at h1 h2 hk
    have hj : jF l = ⟨wl true l, lt l, nw l⟩ := by
      have := jws_wl true l ⟨[], [], 0⟩ h2 (by show 0 + nw l ≤ 512; omega)
      unfold jF
      rw [this]
      simp
    refine ⟨?_, hB.1, hw⟩
    rw [hj] at h3 h4 ⊢
    have := wrt_full true [] [] l hk (by simpa using h3) (by simpa using h4)
    rw [this]
    simp
  have back : ∀ s ls, wrt true [] [] l = some (s, ls) → scanE s ls = 0 → scanW s ls = l → joinB l = true ∧ (jF l).line = s ∧ (jF l).lits = ls := fun s ls hw hE hW => by
    obtain ⟨e1, e2⟩ := wrt_sound _ _ _ _ _ _ hw
    rw [List.nil_append] at e1 e2
    obtain ⟨h1, h2, _, _⟩ := scan_small hE
    rw [hW] at h1 h2
    have hj : jF l = ⟨s, ls, nw l⟩ := by
      have := jws_wl true l ⟨[], [], 0⟩ h2 (by show 0 + nw l ≤ 512; omega)
      unfold jF
      rw [this, e1, e2]
      simp
    refine ⟨?_, by rw [hj], by rw [hj]⟩
    unfold joinB
    rw [hj]
    show (decide (scanE s ls = 0) && eqL (scanW s ls) l) = true
    rw [hE, hW, eqL_same]
    rfl
  unfold rjoin joinS joinT joinE
  by_cases hlong : 512 < l.length
  · rw [if_pos hlong, if_pos hlong]
    rfl
  · rw [if_neg hlong, if_neg hlong]
    cases hB : joinB l with
    | true =>
      obtain ⟨h1, h2, h3⟩ := key hB
      rw [h1]
      dsimp only
      rw [if_pos ⟨h2, by rw [h3]; exact eqL_same l⟩]
      rfl
    | false =>
      cases hw : wrt true [] [] l with
      | none => rfl
      | some q =>
        obtain ⟨s, ls⟩ := q
        dsimp only
        by_cases hc : scanE s ls = 0 ∧ eqL (scanW s ls) l = true
        · rw [(back s ls hw hc.1 (eqL_eq _ _ hc.2)).1] at hB
          cases hB
        · rw [if_neg hc]
          rfl
end Go.Proofs.YtliiapdakojomabDoor

/- lex: the document's quote; a row of texts that grows; how much words are. -/
namespace Go.Proofs.YtliiapdakojomabDoor
open Go.RowKit

theorem heap_newF (w : World) (o : Obj) : (w.alloc o).heap[w.heap.size]? = some o := heap_alloc_new w o
/-- A row of one byte that was just written out. -/
theorem Own.lit1F (w : World) (b : UInt8) (c : Int) (hc : c = (b.toNat : Int)) : Own w.heap.size (.slice (some ⟨w.heap.size, 0, none⟩) 1 1) [b] w (w.alloc (.cells #[.int .u8 c] 5)) := by
  subst hc
  refine ⟨⟨rfl, .inr ⟨w.heap.size, 1, #[.int .u8 (b.toNat : Int)], rfl, Nat.le_refl _, heap_newF w _, Nat.le_refl _, by unfold maxLen; omega, rfl, rfl⟩⟩, (Below.refl _ _).alloc (Nat.le_refl _) _, by simp⟩
theorem decF_small (n : Nat) (h : n < 10) : Lib.decDigits n = [UInt8.ofNat (48 + n)] := by rw [Lib.decDigits, dif_pos h]
theorem decF_more (n : Nat) (h : ¬ n < 10) : Lib.decDigits n = Lib.decDigits (n / 10) ++ Lib.decDigits (n % 10) := by
  rw [Lib.decDigits, dif_neg h, decF_small (n % 10) (by omega)]
set_option maxHeartbeats 1000000 in
set_option maxRecDepth 100000 in
theorem decimal_any (n : Nat) : ∀ (w : World), n ≤ 140737488355328 →
    Calls Tryd.prog 75 #[.int .i64 n] w fun e w' => e = .returned (.string (S (Lib.decDigits n))) ∧ Below w.heap.size w w' := by
  induction n using Nat.strongRecOn with
  | _ n ih =>
    intro w hn
    by_cases h : n < 10
    · obtain ⟨b, hb, hbn⟩ : ∃ b : UInt8, Lib.decDigits n = [b] ∧ b.toNat = 48 + n := ⟨_, decF_small n h, by simp; omega⟩
      have HR := Lib.hid hb
      have hb0 := Own.lit1F w b (48 + n) (by rw [hbn]; omega)
      clear hb hbn
      have hcv := hb0.back
      go_enter Tryd.func75, Tryd.ntmps75
      go_wp2
      go_ret
      exact ⟨ret_str (by rw [HR.out]), hb0.below⟩
    · have HR : Hid (S (Lib.decDigits (n / 10)) ++ S (Lib.decDigits (n % 10)) = S (Lib.decDigits n)) := Lib.hid (by rw [S_app, ← decF_more n h])
      have h1 := Lib.hid (fun W => ih (n / 10) (by omega) W (by omega))
      have h2 := Lib.hid (fun W => ih (n % 10) (by omega) W (by omega))
      have z1 : (S (Lib.decDigits (n / 10))).size ≤ 140737488355329 := by rw [S_size]; have := dec_len (n / 10); omega
      have z2 : (S (Lib.decDigits (n % 10))).size ≤ 140737488355329 := by rw [S_size]; have := dec_len (n % 10); omega
      generalize S (Lib.decDigits (n / 10)) = a at *
      generalize S (Lib.decDigits (n % 10)) = b at *
      have q1 : Int.tdiv (n : Int) 10 = ((n / 10 : Nat) : Int) := by rw [Int.tdiv_eq_ediv_of_nonneg (by omega)]; omega
      have q2 : Int.tmod (n : Int) 10 = ((n % 10 : Nat) : Int) := by rw [Int.tmod_eq_emod_of_nonneg (by omega)]; omega
      have b1 : n / 10 ≤ 140737488355328 := by omega
      have b2 : n % 10 ≤ 140737488355328 := by omega
      generalize n / 10 = x at *
      generalize n % 10 = y at *
      clear ih
      go_enter Tryd.func75, Tryd.ntmps75
      go_wp2_with fail
      refine (h1.out _).mono ?_
      rintro e w1 ⟨rfl, hb1⟩
      go_wp2_with fail
      refine (h2.out _).mono ?_
      rintro e w2 ⟨rfl, hb2⟩
      go_wp2
      go_ret
      exact ⟨ret_str HR.out, hb1.trans (hb2.mono hb1.size)⟩
set_option maxHeartbeats 1000000 in
theorem rquote_any (s : ByteArray) (w : World) (hs : s.size ≤ 1048576) :
    Calls Tryd.prog 74 #[.string s] w fun e w' => e = .returned (.string (S (quoteL (L s)))) ∧ Below w.heap.size w w' := by
  have hown0 := Own.lit1F w 34 34 rfl
  go_enter Tryd.func74, Tryd.ntmps74
  go_wp2
  go_loopw [3, 4] (fun v i wr => ∃ k : Nat, k ≤ s.size ∧ i = .int .i64 k ∧ Own w.heap.size v ([34] ++ quoteB ((L s).take k)) w wr) (fun _ i _ => s.size - (intOf i).toNat)
  case atStart => exact ⟨0, Nat.zero_le _, rfl, hown0⟩
  case round =>
    clear hown0
    obtain ⟨k, hk, rfl, hown⟩ := hrel
    have HB : Hid (([34] ++ quoteB ((L s).take k)).length ≤ 3000000) := Lib.hid (by
      have h1 := quoteB_len ((L s).take k)
      have h2 : ((L s).take k).length ≤ k := by rw [List.length_take]; omega
      rw [List.length_append, List.length_singleton]; omega)
    by_cases hlt : k < s.size
    · have ea := get_btx s k hlt
      have c0 : (bt (L s) k).toNat < 256 := bt_lt _ _
      have HE : Hid ([34] ++ quoteB ((L s).take (k + 1)) = [34] ++ quoteB ((L s).take k) ++ q1 (bt (L s) k)) := Lib.hid (by rw [quoteB_snoc (L s) k hlt, List.append_assoc])
      rcases slash_class (bt (L s) k) with ⟨h, hq⟩ | ⟨h, hq⟩ | ⟨⟨h, h'⟩, hq⟩
      · have HQ : Hid (q1 (bt (L s) k) = [92] ++ [bt (L s) k]) := Lib.hid (by unfold q1; rw [hq]; rfl)
        have b : (((bt (L s) k).toNat : Int) == 34) = true := by rw [h]; rfl
        clear h
        generalize [34] ++ quoteB ((L s).take k) = P at *
        go_wp2_with (at_builtin; first | (refine app1 rfl _ _ rfl _ (bt (L s) k) hown3 rfl rfl rfl (by have := HB.out; rw [List.length_append, List.length_singleton]; omega) ?_; intro v4 w4 hown4) | (refine app1 rfl _ _ rfl 92 92 hown rfl rfl rfl (by have := HB.out; omega) ?_; intro v3 w3 hown3))
        go_roundw
        case rel => exact ⟨k + 1, by omega, by go_num, by rw [HE.out, HQ.out, ← List.append_assoc]; exact hown4⟩
        case measure => simp [intOf]; omega
      · have HQ : Hid (q1 (bt (L s) k) = [92] ++ [bt (L s) k]) := Lib.hid (by unfold q1; rw [hq]; rfl)
        have b0 : (((bt (L s) k).toNat : Int) == 34) = false := by rw [h]; rfl
        have b : (((bt (L s) k).toNat : Int) == 92) = true := by rw [h]; rfl
        clear h
        generalize [34] ++ quoteB ((L s).take k) = P at *
        go_wp2_with (at_builtin; first | (refine app1 rfl _ _ rfl _ (bt (L s) k) hown3 rfl rfl rfl (by have := HB.out; rw [List.length_append, List.length_singleton]; omega) ?_; intro v4 w4 hown4) | (refine app1 rfl _ _ rfl 92 92 hown rfl rfl rfl (by have := HB.out; omega) ?_; intro v3 w3 hown3))
        go_roundw
        case rel => exact ⟨k + 1, by omega, by go_num, by rw [HE.out, HQ.out, ← List.append_assoc]; exact hown4⟩
        case measure => simp [intOf]; omega
      · have HQ : Hid (q1 (bt (L s) k) = [bt (L s) k]) := Lib.hid (by unfold q1; rw [hq]; rfl)
        have b0 := beqI_no (n := ((bt (L s) k).toNat : Int)) (k := 34) (by omega)
        have b := beqI_no (n := ((bt (L s) k).toNat : Int)) (k := 92) (by omega)
        generalize [34] ++ quoteB ((L s).take k) = P at *
        go_wp2_with (at_builtin; refine app1 rfl _ _ rfl _ (bt (L s) k) hown rfl rfl rfl (by have := HB.out; omega) ?_; intro v4 w4 hown4)
        go_roundw
        case rel => exact ⟨k + 1, by omega, by go_num, by rw [HE.out, HQ.out]; exact hown4⟩
        case measure => simp [intOf]; omega
    · have HE : Hid ([34] ++ quoteB ((L s).take k) ++ [34] = quoteL (L s)) := Lib.hid (by
        rw [List.take_of_length_le (by rw [L_length]; omega)]; unfold quoteL; simp)
      generalize [34] ++ quoteB ((L s).take k) = P at *
      go_wp2_with (at_builtin; refine app1 rfl _ _ rfl 34 34 hown rfl rfl rfl (by have := HB.out; omega) ?_; intro v3 w3 hown3; have hcv := hown3.back)
      go_ret
      exact ⟨ret_str (by rw [← HE.out]), hown3.below⟩
mutual
def bkL : List Wd → Nat
  | [] => 0
  | d :: r => bk1 d + bkL r
def bk1 : Wd → Nat
  | .mk _ t l _ => 1 + t.size + bkL l
end
theorem bk1_parts (d : Wd) : bk1 d = 1 + d.text.size + bkL d.kids := by cases d; rw [bk1]; rfl
theorem bk_len (l : List Wd) : l.length ≤ bkL l := by
  induction l with
  | nil => simp [bkL]
  | cons d r ih => rw [bkL, bk1_parts, List.length_cons]; omega
theorem bk_at (l : List Wd) (i : Nat) (hi : i < l.length) : 1 + (l.getD i wd0).text.size + bkL (l.getD i wd0).kids ≤ bkL l := by
  induction l generalizing i with
  | nil => simp at hi
  | cons d r ih =>
    rw [bkL]
    cases i with
    | zero => have := bk1_parts d; simp only [List.getD_cons_zero]; omega
    | succ i =>
      have := ih i (by simpa using hi)
      simp only [List.getD_cons_succ]
      omega
mutual
theorem wl_small : ∀ (first : Bool) (l : List Wd), (wl first l).length ≤ 5 * bkL l
  | _, [] => by simp [wl, bkL]
  | first, d :: r => by
    have h1 := w1_small d
    have h2 := wl_small false r
    rw [wl, bkL]
    simp only [List.length_append]
    have : (if (!first && !d.glued) = true then ([32] : List UInt8) else []).length ≤ 1 := by split <;> simp
    omega
theorem w1_small : ∀ (d : Wd), (w1 d).length + 1 ≤ 5 * bk1 d
  | .mk k t l _ => by
    have h1 := wl_small true l
    have h2 := quoteL_len (L t)
    have h3 := annL_len t.size
    have h4 := L_length t
    rw [w1, bk1]
    split
    · omega
    · split
      · omega
      · split
        · omega
        · split
          · simp only [List.length_cons, List.length_append, List.length_nil]; omega
          · split
            · simp only [List.length_cons, List.length_append, List.length_nil]; omega
            · simp only [List.length_nil]; omega
end
mutual
theorem wrt_lits : ∀ (first : Bool) (s : List UInt8) (ls : List ByteArray) (l : List Wd) (s' : List UInt8) (ls' : List ByteArray), wrt first s ls l = some (s', ls') → ls.length ≤ 513 → ls'.length ≤ 513
  | first, s, ls, [], s', ls', h, hl => by
    simp only [wrt, Option.some.injEq, Prod.mk.injEq] at h
    obtain ⟨rfl, rfl⟩ := h
    exact hl
  | first, s, ls, d :: r, s', ls', h, hl => by
    rw [wrt] at h
    split at h
    · cases h
    · rename_i hn
      cases hw : wr1 (if !first && !d.glued then s ++ [32] else s) ls d with
      | none => rw [hw] at h; cases h
      | some q =>
        obtain ⟨s1, l1'⟩ := q
        rw [hw] at h
        exact wrt_lits _ _ _ _ _ _ h (wr1_lits _ _ _ _ _ hw (by omega))
theorem wr1_lits : ∀ (s : List UInt8) (ls : List ByteArray) (d : Wd) (s' : List UInt8) (ls' : List ByteArray), wr1 s ls d = some (s', ls') → ls.length ≤ 512 → ls'.length ≤ 513
  | s, ls, .mk k t l g, s', ls', h, hl => by
    rw [wr1] at h
    split at h
    · simp only [Option.some.injEq, Prod.mk.injEq] at h
      obtain ⟨rfl, rfl⟩ := h
      omega
    · split at h
      · simp only [Option.some.injEq, Prod.mk.injEq] at h
        obtain ⟨rfl, rfl⟩ := h
        omega
      · split at h
        · simp only [Option.some.injEq, Prod.mk.injEq] at h
          obtain ⟨rfl, rfl⟩ := h
          rw [List.length_append, List.length_singleton]
          omega
        · split at h
          · cases hw : wrt true [] ls l with
            | none => rw [hw] at h; cases h
            | some q =>
              obtain ⟨x, l2⟩ := q
              rw [hw] at h
              simp only [Option.some.injEq, Prod.mk.injEq] at h
              obtain ⟨rfl, rfl⟩ := h
              exact wrt_lits _ _ _ _ _ _ hw (by omega)
          · split at h
            · cases hw : wrt true [] ls l with
              | none => rw [hw] at h; cases h
              | some q =>
                obtain ⟨x, l2⟩ := q
                rw [hw] at h
                simp only [Option.some.injEq, Prod.mk.injEq] at h
                obtain ⟨rfl, rfl⟩ := h
                exact wrt_lits _ _ _ _ _ _ hw (by omega)
            · cases h
end
/-- A row of texts that was made behind w. -/
structure RowT (w : World) (xa : Option Addr) (xn xc : Nat) (ls : List ByteArray) (X : World) : Prop where
  row : X.ownsRow w.heap.size 9 1 (.slice xa xn xc) ls.length (ls.map Value.string)
  below : Below w.heap.size w X
theorem RowT.len {w : World} {xa : Option Addr} {xn xc : Nat} {ls : List ByteArray} {X : World} (h : RowT w xa xn xc ls X) : xn = ls.length := by
  rcases h.row.2 with ⟨e, h0⟩ | ⟨g, cap, cur, e, _⟩
  · injection e with _ e _; rw [e, h0]
  · injection e with _ e _
theorem RowT.on {w : World} {xa : Option Addr} {xn xc : Nat} {ls : List ByteArray} {X X' : World} (h : RowT w xa xn xc ls X) (hb : Below X.heap.size X X') : RowT w xa xn xc ls X' :=
  ⟨row_block h.row (fun g hg => hb.block g (row_lt h.row hg).2), h.below.trans (hb.mono h.below.size)⟩
theorem sput {ops : Array Oper} {rest : List Oper} {o : Oper} {a : Act} {Q : Exit → Act → World → Prop} (hgd : o.guard = none) (s x : Operand)
    (ho : o.op = .call { callee := .builtin .append, args := #[s, x], argTypes := #[22, 22] })
    {w : World} {xa : Option Addr} {xn xc : Nat} {ls : List ByteArray} {X : World} (h : RowT w xa xn xc ls X) (t : ByteArray) (hs : a.eval s = .slice xa xn xc) (hx : a.eval x = .slice (some ⟨X.heap.size, 0, none⟩) 1 1) (hl : ls.length ≤ 100000000)
    (hk : ∀ ya yn yc X', RowT w ya yn yc (ls ++ [t]) X' → wpList Tryd.prog ops Q rest (a.put o.dst (.slice ya yn yc)) X') :
    wpList Tryd.prog ops Q (o :: rest) a (X.alloc (.cells #[.string t] 9)) := by
  obtain ⟨i0, hi, hz0, hz1, hz2⟩ := info_parts Tryd.infoStr
  have hA := (Below.refl X.heap.size X).alloc (Nat.le_refl _) (.cells #[.string t] 9)
  have hYx := heap_alloc_new X (.cells #[.string t] 9)
  have hA2 := h.on hA
  refine wpList_append_lies _ hgd s x 22 ho w.heap.size 9 i0 (.string ⟨#[]⟩) 1 16 Tryd.underlying22 hi hz0 hz1 hz2 rfl (by decide) (.slice xa xn xc) ls.length (ls.map Value.string) hs hA2.row ⟨X.heap.size, 0, none⟩ 1 1 [.string t] hx rfl ?_ (by intro u hu; simp at hu; subst hu; rfl) (by decide) (by unfold maxLen; omega) (by omega) hA2.below.size _ rfl ?_
  · intro k u hk
    match k, hk with
    | 0, hk => simp at hk; subst hk; exact cell_of_row _ _ 0 _ _ _ hYx
    | (k + 1), hk => simp at hk
  intro g cap w2 hrow2 hgr hgg hglt
  refine hk _ _ _ w2 ⟨?_, hA2.below.grown hgr hA2.below.size (fun k hk' => (row_lt hA2.row hk').1)⟩
  rw [List.length_append, List.length_singleton, List.map_append]
  exact hrow2
/-- What written answers. -/
def WrOut (w W : World) (o : Option (List UInt8 × List ByteArray)) (e : Ending) : Prop := match o with
  | none => e = .returned (.tuple #[.string ⟨#[]⟩, .slice none 0 0, .bool false])
  | some (s, ls) => ∃ xa xn xc, e = .returned (.tuple #[.string (S s), .slice xa xn xc, .bool true]) ∧ RowT w xa xn xc ls W
end Go.Proofs.YtliiapdakojomabDoor

/- lex: the document's written: the walk. -/
namespace Go.Proofs.YtliiapdakojomabDoor
open Go.RowKit

theorem L_appS (a b : ByteArray) : L (a ++ b) = L a ++ L b := by
  have := S_app (L a) (L b)
  rw [S_L, S_L] at this
  rw [this]
  exact L_S _
theorem drop_d (l : List Wd) (k : Nat) (hk : k < l.length) : l.drop k = l.getD k wd0 :: l.drop (k + 1) := by
  rw [List.drop_eq_getElem_cons hk, List.getD_eq_getElem?_getD, List.getElem?_eq_getElem hk]
  rfl
theorem wr1_parts (s : List UInt8) (ls : List ByteArray) (d : Wd) : wr1 s ls d = if d.kind = 1 then some (s ++ L d.text, ls) else if d.kind = 2 then some (s ++ quoteL (L d.text), ls) else if d.kind = 3 then some (s ++ annL d.text.size, ls ++ [d.text])
    else if d.kind = 4 then (match wrt true [] ls d.kids with | none => none | some (x, ls') => some (s ++ (40 :: (x ++ [41])), ls'))
    else if d.kind = 5 then (match wrt true [] ls d.kids with | none => none | some (x, ls') => some (s ++ (91 :: (x ++ [93])), ls')) else none := by
  cases d; rw [wr1]; rfl
/-- The text behind the blank, if one is due. -/
def sepB (k : Nat) (g : Bool) (sb : ByteArray) : ByteArray := if (!(k == 0) && !g) = true then sb ++ ⟨#[32]⟩ else sb
theorem wrt_round {l : List Wd} {k : Nat} {sb : ByteArray} {ls : List ByteArray} {R : Option (List UInt8 × List ByteArray)} (hk : k < l.length) (h : wrt (k == 0) (L sb) ls (l.drop k) = R) (h1 : ¬ 4096 < sb.size) (h2 : ¬ 512 < ls.length) :
    (match wr1 (L (sepB k (l.getD k wd0).glued sb)) ls (l.getD k wd0) with | none => none | some (s', ls') => wrt (k + 1 == 0) s' ls' (l.drop (k + 1))) = R := by
  rw [drop_d l k hk, wrt, if_neg (by rw [L_length]; omega)] at h
  rw [← h]
  have e : L (sepB k (l.getD k wd0).glued sb) = if (!(k == 0) && !(l.getD k wd0).glued) = true then L sb ++ [32] else L sb := by
    unfold sepB
    split
    · rw [L_appS]; rfl
    · rfl
  rw [e]
  cases wr1 (if (!(k == 0) && !(l.getD k wd0).glued) = true then L sb ++ [32] else L sb) ls (l.getD k wd0) <;> rfl
theorem wrt_long {l : List Wd} {k : Nat} {sb : ByteArray} {ls : List ByteArray} {R : Option (List UInt8 × List ByteArray)} (hk : k < l.length) (h : wrt (k == 0) (L sb) ls (l.drop k) = R) (h1 : 4096 < sb.size ∨ 512 < ls.length) : R = none := by
  rw [drop_d l k hk, wrt, if_pos (by rw [L_length]; exact h1)] at h
  exact h.symm
set_option maxRecDepth 100000 in
set_option maxHeartbeats 16000000 in
theorem written_step (l : List Wd) (w : World) (D : Nat → Prop) (a : Option Addr) (n c : Nat) (h : Lies w D a n c l) (hbk : bkL l ≤ 1048576)
    (ih : ∀ i, i < l.length → ∀ (va : Option Addr) (vn vc : Nat), Lies w D va vn vc (l.getD i wd0).kids → ∀ (W : World) (xa : Option Addr) (xn xc : Nat) (ls : List ByteArray), RowT w xa xn xc ls W → ls.length ≤ 513 → Calls Tryd.prog 52 #[.slice va vn vc, .slice xa xn xc] W fun e W' => WrOut w W' (wrt true [] ls (l.getD i wd0).kids) e ∧ Below w.heap.size w W')
    (W : World) (xa : Option Addr) (xn xc : Nat) (ls0 : List ByteArray) (hrow : RowT w xa xn xc ls0 W) (hl0 : ls0.length ≤ 513) :
    Calls Tryd.prog 52 #[.slice a n c, .slice xa xn xc] W fun e W' => WrOut w W' (wrt true [] ls0 l) e ∧ Below w.heap.size w W' := by
  obtain rfl := h.len
  have H1 := Lib.hid h
  have HIH := Lib.hid ih
  have hlen := bk_len l
  have HR0 : Hid (RowT w xa xn xc ls0 W) := Lib.hid hrow
  obtain ⟨R, hR⟩ : ∃ R, R = wrt true [] ls0 l := ⟨_, rfl⟩
  rw [← hR]
  have HRR : Hid (wrt (0 == 0) (L ⟨#[]⟩) ls0 (l.drop 0) = R) := Lib.hid (by rw [hR]; rfl)
  clear h ih hrow hR
  go_enter Tryd.func52, Tryd.ntmps52
  go_wp2_with fail
  go_loopg [1, 7, 8] l.length (fun gg s1 s7 s8 wr => ∃ (k : Nat) (sb : ByteArray) (ls : List ByteArray) (ya : Option Addr) (yn yc : Nat) (X : World), X = wr ∧ s1 = .slice ya yn yc ∧ s7 = .string sb ∧ s8 = .int .i64 (k : Int) ∧ k ≤ l.length ∧ l.length - k ≤ gg ∧ yn ≤ 513 ∧ sb.size ≤ 10000000 ∧ Hid (yn = ls.length) ∧ Hid (RowT w ya yn yc ls X) ∧ Hid (wrt (k == 0) (L sb) ls (l.drop k) = R))
  case atStart => exact ⟨0, ⟨#[]⟩, ls0, xa, xn, xc, _, rfl, rfl, rfl, rfl, Nat.zero_le _, by omega, by have := HR0.out.len; omega, by decide, Lib.hid HR0.out.len, HR0, HRR⟩
  case round =>
    clear HRR HR0 hl0
    obtain ⟨k, sb, ls, ya, yn, yc, X, hX, hs1, hs7, hs8, hk, hgg, hyn, hsb, HYN, HX, HR⟩ := hrel
    subst hX
    subst hs1
    subst hs7
    subst hs8
    by_cases hlt : k < l.length
    · have hkz : (k : Int) < (l.length : Int) := by omega
      have hk0 : (0 : Int) ≤ (k : Int) := by omega
      by_cases hA : 4096 < sb.size
      · have hAz : (4096 : Int) < (sb.size : Int) := by omega
        have HE := Lib.hid (wrt_long hlt HR.out (.inl hA))
        clear HIH H1 HR
        go_wp2_with fail
        go_ret3
        exact ⟨by rw [HE.out]; rfl, HX.out.below⟩
      · have hAz : ¬ (4096 : Int) < (sb.size : Int) := by omega
        by_cases hB : 512 < yn
        · have hBz : (512 : Int) < (yn : Int) := by omega
          have HE := Lib.hid (wrt_long hlt HR.out (.inr (by have := HYN.out; omega)))
          clear HIH H1 HR
          go_wp2_with fail
          go_ret3
          exact ⟨by rw [HE.out]; rfl, HX.out.below⟩
        · have hBz : ¬ (512 : Int) < (yn : Int) := by omega
          have hW := wrt_round hlt HR.out hA (by have := HYN.out; omega)
          rw [wr1_parts] at hW
          have hbkk := bk_at l k hlt
          obtain ⟨g1, o1, rfl, hm1, va, vn, vc, ⟨p0, p1, p2, p3⟩, hk1⟩ := H1.out.pick k hlt
          have hIK := HIH.out k hlt va vn vc hk1
          have HIK := Lib.hid hIK
          have hkw := wl_small true (l.getD k wd0).kids
          have hbX := HX.out.below
          have q0 := p0
          replace p0 := cellB p0 hbX
          replace p1 := cellB p1 hbX
          replace p2 := cellB p2 hbX
          replace p3 := cellB p3 hbX
          have HP0 : Hid (∀ Y : World, Below w.heap.size w Y → Y.cell? ⟨g1, o1 + k * 4, none⟩ = some (.int .i64 (l.getD k wd0).kind)) := Lib.hid (fun Y hY => cellB q0 hY)
          clear hm1 hbX hk1 HIH hIK HR H1 q0
          generalize (l.getD k wd0).kind = ck at *
          generalize (l.getD k wd0).text = ct at *
          generalize (l.getD k wd0).glued = cg at *
          generalize (l.getD k wd0).kids = kids at *
          have hct : ct.size ≤ 1048576 := by omega
          have hkk : (wl true kids).length ≤ 5242880 := by omega
          clear hbkk hkw
          obtain ⟨s2, hs2⟩ : ∃ s2, s2 = sepB k cg sb := ⟨_, rfl⟩
          rw [← hs2] at hW
          have HW := Lib.hid hW
          clear hW
          have hs2z : s2.size ≤ 4097 := by
            rw [hs2]
            unfold sepB
            split
            · rw [ByteArray.size_append]; show sb.size + 1 ≤ 4097; omega
            · omega
          by_cases hk9 : k = 0
          · subst hk9
            have hse : s2 = sb := by rw [hs2]; rfl
            clear hs2
            subst hse
            simp only [Nat.zero_mul, Nat.add_zero] at p0 p1 p2 p3 HP0
            by_cases k1 : ck = 1
            · subst k1
              have HB : Hid (wrt (0 + 1 == 0) (L (s2 ++ ct)) ls (l.drop (0 + 1)) = R) := Lib.hid (by have := HW.out; rw [if_pos rfl] at this; rw [L_appS]; exact this)
              have hz : (s2 ++ ct).size ≤ 10000000 := by rw [ByteArray.size_append]; omega
              clear HW HIK
              go_wp2_with fail
              go_roundg (l.length - (0 + 1))
              case measure => omega
              case rel => exact ⟨0 + 1, _, ls, ya, yn, yc, _, rfl, rfl, rfl, by go_num, hlt, Nat.le_refl _, hyn, hz, HYN, HX, HB⟩
            · have e1 : ((ck : Int) == 1) = false := beq_eq_false_iff_ne.2 k1
              by_cases k2 : ck = 2
              · subst k2
                have HQ := Lib.hid (fun W => rquote_any ct W hct)
                have hqz : (S (quoteL (L ct))).size ≤ 2100000 := by rw [S_size]; have := quoteL_len (L ct); have := L_length ct; omega
                have HB : Hid (wrt (0 + 1 == 0) (L (s2 ++ S (quoteL (L ct)))) ls (l.drop (0 + 1)) = R) := Lib.hid (by have := HW.out; rw [if_neg k1, if_pos rfl] at this; rw [L_appS, L_S]; exact this)
                generalize S (quoteL (L ct)) = qt at *
                have hz : (s2 ++ qt).size ≤ 10000000 := by rw [ByteArray.size_append]; omega
                clear HW HIK k1 e1
                go_wp2_with (go_at_call 74; refine (HQ.out _).mono ?_; rintro e w7 ⟨rfl, hb7⟩; have HX7 := Lib.hid (HX.out.on hb7); clear hb7)
                go_roundg (l.length - (0 + 1))
                case measure => omega
                case rel => exact ⟨0 + 1, _, ls, ya, yn, yc, _, rfl, rfl, rfl, by go_num, hlt, Nat.le_refl _, hyn, hz, HYN, HX7, HB⟩
              · have e2 : ((ck : Int) == 2) = false := beq_eq_false_iff_ne.2 k2
                by_cases k3 : ck = 3
                · subst k3
                  have HD := Lib.hid (fun W => decimal_any ct.size W (by omega))
                  have hdz : (S (Lib.decDigits ct.size)).size ≤ 2000000 := by rw [S_size]; have := dec_len ct.size; omega
                  have HB : Hid (wrt (0 + 1 == 0) (L (s2 ++ ⟨#[123]⟩ ++ S (Lib.decDigits ct.size) ++ ⟨#[125]⟩)) (ls ++ [ct]) (l.drop (0 + 1)) = R) := Lib.hid (by
                    have := HW.out
                    rw [if_neg k1, if_neg k2, if_pos rfl] at this
                    rw [L_appS, L_appS, L_appS, L_S]
                    have e : L s2 ++ L ⟨#[123]⟩ ++ Lib.decDigits ct.size ++ L ⟨#[125]⟩ = L s2 ++ annL ct.size := by
                      show L s2 ++ [123] ++ Lib.decDigits ct.size ++ [125] = _
                      unfold annL
                      simp
                    rw [e]
                    exact this)
                  generalize S (Lib.decDigits ct.size) = dt at *
                  have hz1 : (s2 ++ ⟨#[123]⟩).size ≤ 4098 := by rw [ByteArray.size_append]; show s2.size + 1 ≤ 4098; omega
                  have hz2 : (s2 ++ ⟨#[123]⟩ ++ dt).size ≤ 3000000 := by rw [ByteArray.size_append]; omega
                  have hz : (s2 ++ ⟨#[123]⟩ ++ dt ++ ⟨#[125]⟩).size ≤ 10000000 := by rw [ByteArray.size_append]; show (s2 ++ ⟨#[123]⟩ ++ dt).size + 1 ≤ 10000000; omega
                  clear HW HIK k1 k2 e1 e2
                  go_upto_region 17 with (go_at_call 75; refine (HD.out _).mono ?_; rintro e w7 ⟨rfl, hb7⟩; have HX7 := Lib.hid (HX.out.on hb7); have hbw := hb7; replace p0 := cellB p0 hb7; replace p1 := cellB p1 hb7; replace p2 := cellB p2 hb7; replace p3 := cellB p3 hb7; clear hb7 hbw)
                  go_wp2_with (at_builtin; refine sput rfl _ _ rfl HX7.out ct rfl rfl (by have := HYN.out; omega) ?_; intro za zn zc X9 hX9; have hzn := hX9.len; rw [List.length_append, List.length_singleton, ← HYN.out] at hzn; have HZN := Lib.hid hzn; have HX9 := Lib.hid hX9; clear hX9 hzn)
                  go_roundg (l.length - (0 + 1))
                  case measure => omega
                  case rel => exact ⟨0 + 1, _, ls ++ [ct], za, zn, zc, _, rfl, rfl, rfl, by go_num, hlt, Nat.le_refl _, by have := HZN.out; omega, hz, Lib.hid HX9.out.len, HX9, HB⟩
                · have e3 : ((ck : Int) == 3) = false := beq_eq_false_iff_ne.2 k3
                  by_cases k4 : ck = 4
                  · subst k4
                    have hW2 := HW.out
                    rw [if_neg k1, if_neg k2, if_neg k3, if_pos rfl] at hW2
                    have HC := Lib.hid (HIK.out X ya yn yc ls HX.out (by have := HYN.out; omega))
                    clear HW HIK k1 k2 k3 e1 e2 e3
                    cases hn : wrt true [] ls kids with
                    | none =>
                      rw [hn] at hW2 HC
                      have HE : Hid (R = none) := Lib.hid hW2.symm
                      clear hW2 hn
                      go_wp2_with (go_at_call 52; refine HC.out.mono ?_; rintro e w7 ⟨he7, hb7⟩; obtain rfl := he7; have HB7 := Lib.hid hb7; clear hb7)
                      go_ret3
                      exact ⟨by rw [HE.out]; rfl, HB7.out⟩
                    | some q =>
                      obtain ⟨x, ls7⟩ := q
                      rw [hn] at hW2 HC
                      have hx : x = wl true kids := by have := (wrt_sound _ _ _ _ _ _ hn).1; rw [List.nil_append] at this; exact this
                      have hl7 := wrt_lits _ _ _ _ _ _ hn (by have := HYN.out; omega)
                      have hxz : (S x).size ≤ 5242880 := by rw [S_size, hx]; exact hkk
                      have HB : Hid (wrt (0 + 1 == 0) (L (s2 ++ ⟨#[40]⟩ ++ S x ++ ⟨#[41]⟩)) ls7 (l.drop (0 + 1)) = R) := Lib.hid (by
                        rw [L_appS, L_appS, L_appS, L_S]
                        have e : L s2 ++ L ⟨#[40]⟩ ++ x ++ L ⟨#[41]⟩ = L s2 ++ (40 :: (x ++ [41])) := by
                          show L s2 ++ [40] ++ x ++ [41] = _
                          simp
                        rw [e]
                        exact hW2)
                      clear hW2 hn hx
                      have hz1 : (s2 ++ ⟨#[40]⟩).size ≤ 4098 := by rw [ByteArray.size_append]; show s2.size + 1 ≤ 4098; omega
                      have hz2 : (s2 ++ ⟨#[40]⟩ ++ S x).size ≤ 6000000 := by rw [ByteArray.size_append]; omega
                      have hz : (s2 ++ ⟨#[40]⟩ ++ S x ++ ⟨#[41]⟩).size ≤ 10000000 := by rw [ByteArray.size_append]; show (s2 ++ ⟨#[40]⟩ ++ S x).size + 1 ≤ 10000000; omega
                      go_wp2_with (go_at_call 52; refine HC.out.mono ?_; rintro e w7 ⟨⟨za, zn, zc, rfl, hX7⟩, hb7⟩; have HX7 := Lib.hid hX7; have HB7 := Lib.hid hb7; have hzn := hX7.len; have HZN := Lib.hid hzn; replace p0 := (HP0.out _ hb7); clear hX7 hb7 hzn HC; generalize S x = xt at *)
                      go_roundg (l.length - (0 + 1))
                      case measure => omega
                      case rel => exact ⟨0 + 1, _, ls7, za, zn, zc, _, rfl, rfl, rfl, by go_num, hlt, Nat.le_refl _, by have := HZN.out; omega, hz, Lib.hid HX7.out.len, HX7, HB⟩
                  · have e4 : ((ck : Int) == 4) = false := beq_eq_false_iff_ne.2 k4
                    by_cases k5 : ck = 5
                    · subst k5
                      have hW2 := HW.out
                      rw [if_neg k1, if_neg k2, if_neg k3, if_neg k4, if_pos rfl] at hW2
                      have HC := Lib.hid (HIK.out X ya yn yc ls HX.out (by have := HYN.out; omega))
                      clear HW HIK k1 k2 k3 k4 e1 e2 e3 e4
                      cases hn : wrt true [] ls kids with
                      | none =>
                        rw [hn] at hW2 HC
                        have HE : Hid (R = none) := Lib.hid hW2.symm
                        clear hW2 hn
                        go_wp2_with (go_at_call 52; refine HC.out.mono ?_; rintro e w7 ⟨he7, hb7⟩; obtain rfl := he7; have HB7 := Lib.hid hb7; clear hb7)
                        go_ret3
                        exact ⟨by rw [HE.out]; rfl, HB7.out⟩
                      | some q =>
                        obtain ⟨x, ls7⟩ := q
                        rw [hn] at hW2 HC
                        have hx : x = wl true kids := by have := (wrt_sound _ _ _ _ _ _ hn).1; rw [List.nil_append] at this; exact this
                        have hl7 := wrt_lits _ _ _ _ _ _ hn (by have := HYN.out; omega)
                        have hxz : (S x).size ≤ 5242880 := by rw [S_size, hx]; exact hkk
                        have HB : Hid (wrt (0 + 1 == 0) (L (s2 ++ ⟨#[91]⟩ ++ S x ++ ⟨#[93]⟩)) ls7 (l.drop (0 + 1)) = R) := Lib.hid (by
                          rw [L_appS, L_appS, L_appS, L_S]
                          have e : L s2 ++ L ⟨#[91]⟩ ++ x ++ L ⟨#[93]⟩ = L s2 ++ (91 :: (x ++ [93])) := by
                            show L s2 ++ [91] ++ x ++ [93] = _
                            simp
                          rw [e]
                          exact hW2)
                        clear hW2 hn hx
                        have hz1 : (s2 ++ ⟨#[91]⟩).size ≤ 4098 := by rw [ByteArray.size_append]; show s2.size + 1 ≤ 4098; omega
                        have hz2 : (s2 ++ ⟨#[91]⟩ ++ S x).size ≤ 6000000 := by rw [ByteArray.size_append]; omega
                        have hz : (s2 ++ ⟨#[91]⟩ ++ S x ++ ⟨#[93]⟩).size ≤ 10000000 := by rw [ByteArray.size_append]; show (s2 ++ ⟨#[91]⟩ ++ S x).size + 1 ≤ 10000000; omega
                        go_wp2_with (go_at_call 52; refine HC.out.mono ?_; rintro e w7 ⟨⟨za, zn, zc, rfl, hX7⟩, hb7⟩; have HX7 := Lib.hid hX7; have HB7 := Lib.hid hb7; have hzn := hX7.len; have HZN := Lib.hid hzn; replace p0 := (HP0.out _ hb7); clear hX7 hb7 hzn HC; generalize S x = xt at *)
                        go_roundg (l.length - (0 + 1))
                        case measure => omega
                        case rel => exact ⟨0 + 1, _, ls7, za, zn, zc, _, rfl, rfl, rfl, by go_num, hlt, Nat.le_refl _, by have := HZN.out; omega, hz, Lib.hid HX7.out.len, HX7, HB⟩
                    · have e5 : ((ck : Int) == 5) = false := beq_eq_false_iff_ne.2 k5
                      have HE : Hid (R = none) := Lib.hid (by have := HW.out; rw [if_neg k1, if_neg k2, if_neg k3, if_neg k4, if_neg k5] at this; exact this.symm)
                      clear HW HIK k1 k2 k3 k4 k5
                      go_wp2_with fail
                      go_ret3
                      exact ⟨by rw [HE.out]; rfl, HX.out.below⟩
          · have hk9z : (0 : Int) < (k : Int) := by omega
            have hk9b : (k == 0) = false := by simpa using hk9
            cases cg with
            | true =>
              have hse : s2 = sb := by rw [hs2]; unfold sepB; rw [hk9b]; rfl
              clear hs2 hk9b hk9
              subst hse
              by_cases k1 : ck = 1
              · subst k1
                have HB : Hid (wrt (k + 1 == 0) (L (s2 ++ ct)) ls (l.drop (k + 1)) = R) := Lib.hid (by have := HW.out; rw [if_pos rfl] at this; rw [L_appS]; exact this)
                have hz : (s2 ++ ct).size ≤ 10000000 := by rw [ByteArray.size_append]; omega
                clear HW HIK
                go_wp2_with fail
                go_roundg (l.length - (k + 1))
                case measure => omega
                case rel => exact ⟨k + 1, _, ls, ya, yn, yc, _, rfl, rfl, rfl, by go_num, hlt, Nat.le_refl _, hyn, hz, HYN, HX, HB⟩
              · have e1 : ((ck : Int) == 1) = false := beq_eq_false_iff_ne.2 k1
                by_cases k2 : ck = 2
                · subst k2
                  have HQ := Lib.hid (fun W => rquote_any ct W hct)
                  have hqz : (S (quoteL (L ct))).size ≤ 2100000 := by rw [S_size]; have := quoteL_len (L ct); have := L_length ct; omega
                  have HB : Hid (wrt (k + 1 == 0) (L (s2 ++ S (quoteL (L ct)))) ls (l.drop (k + 1)) = R) := Lib.hid (by have := HW.out; rw [if_neg k1, if_pos rfl] at this; rw [L_appS, L_S]; exact this)
                  generalize S (quoteL (L ct)) = qt at *
                  have hz : (s2 ++ qt).size ≤ 10000000 := by rw [ByteArray.size_append]; omega
                  clear HW HIK k1 e1
                  go_wp2_with (go_at_call 74; refine (HQ.out _).mono ?_; rintro e w7 ⟨rfl, hb7⟩; have HX7 := Lib.hid (HX.out.on hb7); clear hb7)
                  go_roundg (l.length - (k + 1))
                  case measure => omega
                  case rel => exact ⟨k + 1, _, ls, ya, yn, yc, _, rfl, rfl, rfl, by go_num, hlt, Nat.le_refl _, hyn, hz, HYN, HX7, HB⟩
                · have e2 : ((ck : Int) == 2) = false := beq_eq_false_iff_ne.2 k2
                  by_cases k3 : ck = 3
                  · subst k3
                    have HD := Lib.hid (fun W => decimal_any ct.size W (by omega))
                    have hdz : (S (Lib.decDigits ct.size)).size ≤ 2000000 := by rw [S_size]; have := dec_len ct.size; omega
                    have HB : Hid (wrt (k + 1 == 0) (L (s2 ++ ⟨#[123]⟩ ++ S (Lib.decDigits ct.size) ++ ⟨#[125]⟩)) (ls ++ [ct]) (l.drop (k + 1)) = R) := Lib.hid (by
                      have := HW.out
                      rw [if_neg k1, if_neg k2, if_pos rfl] at this
                      rw [L_appS, L_appS, L_appS, L_S]
                      have e : L s2 ++ L ⟨#[123]⟩ ++ Lib.decDigits ct.size ++ L ⟨#[125]⟩ = L s2 ++ annL ct.size := by
                        show L s2 ++ [123] ++ Lib.decDigits ct.size ++ [125] = _
                        unfold annL
                        simp
                      rw [e]
                      exact this)
                    generalize S (Lib.decDigits ct.size) = dt at *
                    have hz1 : (s2 ++ ⟨#[123]⟩).size ≤ 4098 := by rw [ByteArray.size_append]; show s2.size + 1 ≤ 4098; omega
                    have hz2 : (s2 ++ ⟨#[123]⟩ ++ dt).size ≤ 3000000 := by rw [ByteArray.size_append]; omega
                    have hz : (s2 ++ ⟨#[123]⟩ ++ dt ++ ⟨#[125]⟩).size ≤ 10000000 := by rw [ByteArray.size_append]; show (s2 ++ ⟨#[123]⟩ ++ dt).size + 1 ≤ 10000000; omega
                    clear HW HIK k1 k2 e1 e2
                    go_upto_region 17 with (go_at_call 75; refine (HD.out _).mono ?_; rintro e w7 ⟨rfl, hb7⟩; have HX7 := Lib.hid (HX.out.on hb7); have hbw := hb7; replace p0 := cellB p0 hb7; replace p1 := cellB p1 hb7; replace p2 := cellB p2 hb7; replace p3 := cellB p3 hb7; clear hb7 hbw)
                    go_wp2_with (at_builtin; refine sput rfl _ _ rfl HX7.out ct rfl rfl (by have := HYN.out; omega) ?_; intro za zn zc X9 hX9; have hzn := hX9.len; rw [List.length_append, List.length_singleton, ← HYN.out] at hzn; have HZN := Lib.hid hzn; have HX9 := Lib.hid hX9; clear hX9 hzn)
                    go_roundg (l.length - (k + 1))
                    case measure => omega
                    case rel => exact ⟨k + 1, _, ls ++ [ct], za, zn, zc, _, rfl, rfl, rfl, by go_num, hlt, Nat.le_refl _, by have := HZN.out; omega, hz, Lib.hid HX9.out.len, HX9, HB⟩
                  · have e3 : ((ck : Int) == 3) = false := beq_eq_false_iff_ne.2 k3
                    by_cases k4 : ck = 4
                    · subst k4
                      have hW2 := HW.out
                      rw [if_neg k1, if_neg k2, if_neg k3, if_pos rfl] at hW2
                      have HC := Lib.hid (HIK.out X ya yn yc ls HX.out (by have := HYN.out; omega))
                      clear HW HIK k1 k2 k3 e1 e2 e3
                      cases hn : wrt true [] ls kids with
                      | none =>
                        rw [hn] at hW2 HC
                        have HE : Hid (R = none) := Lib.hid hW2.symm
                        clear hW2 hn
                        go_wp2_with (go_at_call 52; refine HC.out.mono ?_; rintro e w7 ⟨he7, hb7⟩; obtain rfl := he7; have HB7 := Lib.hid hb7; clear hb7)
                        go_ret3
                        exact ⟨by rw [HE.out]; rfl, HB7.out⟩
                      | some q =>
                        obtain ⟨x, ls7⟩ := q
                        rw [hn] at hW2 HC
                        have hx : x = wl true kids := by have := (wrt_sound _ _ _ _ _ _ hn).1; rw [List.nil_append] at this; exact this
                        have hl7 := wrt_lits _ _ _ _ _ _ hn (by have := HYN.out; omega)
                        have hxz : (S x).size ≤ 5242880 := by rw [S_size, hx]; exact hkk
                        have HB : Hid (wrt (k + 1 == 0) (L (s2 ++ ⟨#[40]⟩ ++ S x ++ ⟨#[41]⟩)) ls7 (l.drop (k + 1)) = R) := Lib.hid (by
                          rw [L_appS, L_appS, L_appS, L_S]
                          have e : L s2 ++ L ⟨#[40]⟩ ++ x ++ L ⟨#[41]⟩ = L s2 ++ (40 :: (x ++ [41])) := by
                            show L s2 ++ [40] ++ x ++ [41] = _
                            simp
                          rw [e]
                          exact hW2)
                        clear hW2 hn hx
                        have hz1 : (s2 ++ ⟨#[40]⟩).size ≤ 4098 := by rw [ByteArray.size_append]; show s2.size + 1 ≤ 4098; omega
                        have hz2 : (s2 ++ ⟨#[40]⟩ ++ S x).size ≤ 6000000 := by rw [ByteArray.size_append]; omega
                        have hz : (s2 ++ ⟨#[40]⟩ ++ S x ++ ⟨#[41]⟩).size ≤ 10000000 := by rw [ByteArray.size_append]; show (s2 ++ ⟨#[40]⟩ ++ S x).size + 1 ≤ 10000000; omega
                        go_wp2_with (go_at_call 52; refine HC.out.mono ?_; rintro e w7 ⟨⟨za, zn, zc, rfl, hX7⟩, hb7⟩; have HX7 := Lib.hid hX7; have HB7 := Lib.hid hb7; have hzn := hX7.len; have HZN := Lib.hid hzn; replace p0 := (HP0.out _ hb7); clear hX7 hb7 hzn HC; generalize S x = xt at *)
                        go_roundg (l.length - (k + 1))
                        case measure => omega
                        case rel => exact ⟨k + 1, _, ls7, za, zn, zc, _, rfl, rfl, rfl, by go_num, hlt, Nat.le_refl _, by have := HZN.out; omega, hz, Lib.hid HX7.out.len, HX7, HB⟩
                    · have e4 : ((ck : Int) == 4) = false := beq_eq_false_iff_ne.2 k4
                      by_cases k5 : ck = 5
                      · subst k5
                        have hW2 := HW.out
                        rw [if_neg k1, if_neg k2, if_neg k3, if_neg k4, if_pos rfl] at hW2
                        have HC := Lib.hid (HIK.out X ya yn yc ls HX.out (by have := HYN.out; omega))
                        clear HW HIK k1 k2 k3 k4 e1 e2 e3 e4
                        cases hn : wrt true [] ls kids with
                        | none =>
                          rw [hn] at hW2 HC
                          have HE : Hid (R = none) := Lib.hid hW2.symm
                          clear hW2 hn
                          go_wp2_with (go_at_call 52; refine HC.out.mono ?_; rintro e w7 ⟨he7, hb7⟩; obtain rfl := he7; have HB7 := Lib.hid hb7; clear hb7)
                          go_ret3
                          exact ⟨by rw [HE.out]; rfl, HB7.out⟩
                        | some q =>
                          obtain ⟨x, ls7⟩ := q
                          rw [hn] at hW2 HC
                          have hx : x = wl true kids := by have := (wrt_sound _ _ _ _ _ _ hn).1; rw [List.nil_append] at this; exact this
                          have hl7 := wrt_lits _ _ _ _ _ _ hn (by have := HYN.out; omega)
                          have hxz : (S x).size ≤ 5242880 := by rw [S_size, hx]; exact hkk
                          have HB : Hid (wrt (k + 1 == 0) (L (s2 ++ ⟨#[91]⟩ ++ S x ++ ⟨#[93]⟩)) ls7 (l.drop (k + 1)) = R) := Lib.hid (by
                            rw [L_appS, L_appS, L_appS, L_S]
                            have e : L s2 ++ L ⟨#[91]⟩ ++ x ++ L ⟨#[93]⟩ = L s2 ++ (91 :: (x ++ [93])) := by
                              show L s2 ++ [91] ++ x ++ [93] = _
                              simp
                            rw [e]
                            exact hW2)
                          clear hW2 hn hx
                          have hz1 : (s2 ++ ⟨#[91]⟩).size ≤ 4098 := by rw [ByteArray.size_append]; show s2.size + 1 ≤ 4098; omega
                          have hz2 : (s2 ++ ⟨#[91]⟩ ++ S x).size ≤ 6000000 := by rw [ByteArray.size_append]; omega
                          have hz : (s2 ++ ⟨#[91]⟩ ++ S x ++ ⟨#[93]⟩).size ≤ 10000000 := by rw [ByteArray.size_append]; show (s2 ++ ⟨#[91]⟩ ++ S x).size + 1 ≤ 10000000; omega
                          go_wp2_with (go_at_call 52; refine HC.out.mono ?_; rintro e w7 ⟨⟨za, zn, zc, rfl, hX7⟩, hb7⟩; have HX7 := Lib.hid hX7; have HB7 := Lib.hid hb7; have hzn := hX7.len; have HZN := Lib.hid hzn; replace p0 := (HP0.out _ hb7); clear hX7 hb7 hzn HC; generalize S x = xt at *)
                          go_roundg (l.length - (k + 1))
                          case measure => omega
                          case rel => exact ⟨k + 1, _, ls7, za, zn, zc, _, rfl, rfl, rfl, by go_num, hlt, Nat.le_refl _, by have := HZN.out; omega, hz, Lib.hid HX7.out.len, HX7, HB⟩
                      · have e5 : ((ck : Int) == 5) = false := beq_eq_false_iff_ne.2 k5
                        have HE : Hid (R = none) := Lib.hid (by have := HW.out; rw [if_neg k1, if_neg k2, if_neg k3, if_neg k4, if_neg k5] at this; exact this.symm)
                        clear HW HIK k1 k2 k3 k4 k5
                        go_wp2_with fail
                        go_ret3
                        exact ⟨by rw [HE.out]; rfl, HX.out.below⟩
            | false =>
              have hse : sb ++ ⟨#[32]⟩ = s2 := by rw [hs2]; unfold sepB; rw [hk9b]; rfl
              clear hs2 hk9b hk9
              by_cases k1 : ck = 1
              · subst k1
                have HB : Hid (wrt (k + 1 == 0) (L (s2 ++ ct)) ls (l.drop (k + 1)) = R) := Lib.hid (by have := HW.out; rw [if_pos rfl] at this; rw [L_appS]; exact this)
                have hz : (s2 ++ ct).size ≤ 10000000 := by rw [ByteArray.size_append]; omega
                clear HW HIK
                go_wp2_with fail
                go_roundg (l.length - (k + 1))
                case measure => omega
                case rel => exact ⟨k + 1, _, ls, ya, yn, yc, _, rfl, rfl, rfl, by go_num, hlt, Nat.le_refl _, hyn, hz, HYN, HX, HB⟩
              · have e1 : ((ck : Int) == 1) = false := beq_eq_false_iff_ne.2 k1
                by_cases k2 : ck = 2
                · subst k2
                  have HQ := Lib.hid (fun W => rquote_any ct W hct)
                  have hqz : (S (quoteL (L ct))).size ≤ 2100000 := by rw [S_size]; have := quoteL_len (L ct); have := L_length ct; omega
                  have HB : Hid (wrt (k + 1 == 0) (L (s2 ++ S (quoteL (L ct)))) ls (l.drop (k + 1)) = R) := Lib.hid (by have := HW.out; rw [if_neg k1, if_pos rfl] at this; rw [L_appS, L_S]; exact this)
                  generalize S (quoteL (L ct)) = qt at *
                  have hz : (s2 ++ qt).size ≤ 10000000 := by rw [ByteArray.size_append]; omega
                  clear HW HIK k1 e1
                  go_wp2_with (go_at_call 74; refine (HQ.out _).mono ?_; rintro e w7 ⟨rfl, hb7⟩; have HX7 := Lib.hid (HX.out.on hb7); clear hb7)
                  go_roundg (l.length - (k + 1))
                  case measure => omega
                  case rel => exact ⟨k + 1, _, ls, ya, yn, yc, _, rfl, rfl, rfl, by go_num, hlt, Nat.le_refl _, hyn, hz, HYN, HX7, HB⟩
                · have e2 : ((ck : Int) == 2) = false := beq_eq_false_iff_ne.2 k2
                  by_cases k3 : ck = 3
                  · subst k3
                    have HD := Lib.hid (fun W => decimal_any ct.size W (by omega))
                    have hdz : (S (Lib.decDigits ct.size)).size ≤ 2000000 := by rw [S_size]; have := dec_len ct.size; omega
                    have HB : Hid (wrt (k + 1 == 0) (L (s2 ++ ⟨#[123]⟩ ++ S (Lib.decDigits ct.size) ++ ⟨#[125]⟩)) (ls ++ [ct]) (l.drop (k + 1)) = R) := Lib.hid (by
                      have := HW.out
                      rw [if_neg k1, if_neg k2, if_pos rfl] at this
                      rw [L_appS, L_appS, L_appS, L_S]
                      have e : L s2 ++ L ⟨#[123]⟩ ++ Lib.decDigits ct.size ++ L ⟨#[125]⟩ = L s2 ++ annL ct.size := by
                        show L s2 ++ [123] ++ Lib.decDigits ct.size ++ [125] = _
                        unfold annL
                        simp
                      rw [e]
                      exact this)
                    generalize S (Lib.decDigits ct.size) = dt at *
                    have hz1 : (s2 ++ ⟨#[123]⟩).size ≤ 4098 := by rw [ByteArray.size_append]; show s2.size + 1 ≤ 4098; omega
                    have hz2 : (s2 ++ ⟨#[123]⟩ ++ dt).size ≤ 3000000 := by rw [ByteArray.size_append]; omega
                    have hz : (s2 ++ ⟨#[123]⟩ ++ dt ++ ⟨#[125]⟩).size ≤ 10000000 := by rw [ByteArray.size_append]; show (s2 ++ ⟨#[123]⟩ ++ dt).size + 1 ≤ 10000000; omega
                    clear HW HIK k1 k2 e1 e2
                    go_upto_region 17 with (go_at_call 75; refine (HD.out _).mono ?_; rintro e w7 ⟨rfl, hb7⟩; have HX7 := Lib.hid (HX.out.on hb7); have hbw := hb7; replace p0 := cellB p0 hb7; replace p1 := cellB p1 hb7; replace p2 := cellB p2 hb7; replace p3 := cellB p3 hb7; clear hb7 hbw)
                    go_wp2_with (at_builtin; refine sput rfl _ _ rfl HX7.out ct rfl rfl (by have := HYN.out; omega) ?_; intro za zn zc X9 hX9; have hzn := hX9.len; rw [List.length_append, List.length_singleton, ← HYN.out] at hzn; have HZN := Lib.hid hzn; have HX9 := Lib.hid hX9; clear hX9 hzn)
                    go_roundg (l.length - (k + 1))
                    case measure => omega
                    case rel => exact ⟨k + 1, _, ls ++ [ct], za, zn, zc, _, rfl, rfl, rfl, by go_num, hlt, Nat.le_refl _, by have := HZN.out; omega, hz, Lib.hid HX9.out.len, HX9, HB⟩
                  · have e3 : ((ck : Int) == 3) = false := beq_eq_false_iff_ne.2 k3
                    by_cases k4 : ck = 4
                    · subst k4
                      have hW2 := HW.out
                      rw [if_neg k1, if_neg k2, if_neg k3, if_pos rfl] at hW2
                      have HC := Lib.hid (HIK.out X ya yn yc ls HX.out (by have := HYN.out; omega))
                      clear HW HIK k1 k2 k3 e1 e2 e3
                      cases hn : wrt true [] ls kids with
                      | none =>
                        rw [hn] at hW2 HC
                        have HE : Hid (R = none) := Lib.hid hW2.symm
                        clear hW2 hn
                        go_wp2_with (go_at_call 52; refine HC.out.mono ?_; rintro e w7 ⟨he7, hb7⟩; obtain rfl := he7; have HB7 := Lib.hid hb7; clear hb7)
                        go_ret3
                        exact ⟨by rw [HE.out]; rfl, HB7.out⟩
                      | some q =>
                        obtain ⟨x, ls7⟩ := q
                        rw [hn] at hW2 HC
                        have hx : x = wl true kids := by have := (wrt_sound _ _ _ _ _ _ hn).1; rw [List.nil_append] at this; exact this
                        have hl7 := wrt_lits _ _ _ _ _ _ hn (by have := HYN.out; omega)
                        have hxz : (S x).size ≤ 5242880 := by rw [S_size, hx]; exact hkk
                        have HB : Hid (wrt (k + 1 == 0) (L (s2 ++ ⟨#[40]⟩ ++ S x ++ ⟨#[41]⟩)) ls7 (l.drop (k + 1)) = R) := Lib.hid (by
                          rw [L_appS, L_appS, L_appS, L_S]
                          have e : L s2 ++ L ⟨#[40]⟩ ++ x ++ L ⟨#[41]⟩ = L s2 ++ (40 :: (x ++ [41])) := by
                            show L s2 ++ [40] ++ x ++ [41] = _
                            simp
                          rw [e]
                          exact hW2)
                        clear hW2 hn hx
                        have hz1 : (s2 ++ ⟨#[40]⟩).size ≤ 4098 := by rw [ByteArray.size_append]; show s2.size + 1 ≤ 4098; omega
                        have hz2 : (s2 ++ ⟨#[40]⟩ ++ S x).size ≤ 6000000 := by rw [ByteArray.size_append]; omega
                        have hz : (s2 ++ ⟨#[40]⟩ ++ S x ++ ⟨#[41]⟩).size ≤ 10000000 := by rw [ByteArray.size_append]; show (s2 ++ ⟨#[40]⟩ ++ S x).size + 1 ≤ 10000000; omega
                        go_wp2_with (go_at_call 52; refine HC.out.mono ?_; rintro e w7 ⟨⟨za, zn, zc, rfl, hX7⟩, hb7⟩; have HX7 := Lib.hid hX7; have HB7 := Lib.hid hb7; have hzn := hX7.len; have HZN := Lib.hid hzn; replace p0 := (HP0.out _ hb7); clear hX7 hb7 hzn HC; generalize S x = xt at *)
                        go_roundg (l.length - (k + 1))
                        case measure => omega
                        case rel => exact ⟨k + 1, _, ls7, za, zn, zc, _, rfl, rfl, rfl, by go_num, hlt, Nat.le_refl _, by have := HZN.out; omega, hz, Lib.hid HX7.out.len, HX7, HB⟩
                    · have e4 : ((ck : Int) == 4) = false := beq_eq_false_iff_ne.2 k4
                      by_cases k5 : ck = 5
                      · subst k5
                        have hW2 := HW.out
                        rw [if_neg k1, if_neg k2, if_neg k3, if_neg k4, if_pos rfl] at hW2
                        have HC := Lib.hid (HIK.out X ya yn yc ls HX.out (by have := HYN.out; omega))
                        clear HW HIK k1 k2 k3 k4 e1 e2 e3 e4
                        cases hn : wrt true [] ls kids with
                        | none =>
                          rw [hn] at hW2 HC
                          have HE : Hid (R = none) := Lib.hid hW2.symm
                          clear hW2 hn
                          go_wp2_with (go_at_call 52; refine HC.out.mono ?_; rintro e w7 ⟨he7, hb7⟩; obtain rfl := he7; have HB7 := Lib.hid hb7; clear hb7)
                          go_ret3
                          exact ⟨by rw [HE.out]; rfl, HB7.out⟩
                        | some q =>
                          obtain ⟨x, ls7⟩ := q
                          rw [hn] at hW2 HC
                          have hx : x = wl true kids := by have := (wrt_sound _ _ _ _ _ _ hn).1; rw [List.nil_append] at this; exact this
                          have hl7 := wrt_lits _ _ _ _ _ _ hn (by have := HYN.out; omega)
                          have hxz : (S x).size ≤ 5242880 := by rw [S_size, hx]; exact hkk
                          have HB : Hid (wrt (k + 1 == 0) (L (s2 ++ ⟨#[91]⟩ ++ S x ++ ⟨#[93]⟩)) ls7 (l.drop (k + 1)) = R) := Lib.hid (by
                            rw [L_appS, L_appS, L_appS, L_S]
                            have e : L s2 ++ L ⟨#[91]⟩ ++ x ++ L ⟨#[93]⟩ = L s2 ++ (91 :: (x ++ [93])) := by
                              show L s2 ++ [91] ++ x ++ [93] = _
                              simp
                            rw [e]
                            exact hW2)
                          clear hW2 hn hx
                          have hz1 : (s2 ++ ⟨#[91]⟩).size ≤ 4098 := by rw [ByteArray.size_append]; show s2.size + 1 ≤ 4098; omega
                          have hz2 : (s2 ++ ⟨#[91]⟩ ++ S x).size ≤ 6000000 := by rw [ByteArray.size_append]; omega
                          have hz : (s2 ++ ⟨#[91]⟩ ++ S x ++ ⟨#[93]⟩).size ≤ 10000000 := by rw [ByteArray.size_append]; show (s2 ++ ⟨#[91]⟩ ++ S x).size + 1 ≤ 10000000; omega
                          go_wp2_with (go_at_call 52; refine HC.out.mono ?_; rintro e w7 ⟨⟨za, zn, zc, rfl, hX7⟩, hb7⟩; have HX7 := Lib.hid hX7; have HB7 := Lib.hid hb7; have hzn := hX7.len; have HZN := Lib.hid hzn; replace p0 := (HP0.out _ hb7); clear hX7 hb7 hzn HC; generalize S x = xt at *)
                          go_roundg (l.length - (k + 1))
                          case measure => omega
                          case rel => exact ⟨k + 1, _, ls7, za, zn, zc, _, rfl, rfl, rfl, by go_num, hlt, Nat.le_refl _, by have := HZN.out; omega, hz, Lib.hid HX7.out.len, HX7, HB⟩
                      · have e5 : ((ck : Int) == 5) = false := beq_eq_false_iff_ne.2 k5
                        have HE : Hid (R = none) := Lib.hid (by have := HW.out; rw [if_neg k1, if_neg k2, if_neg k3, if_neg k4, if_neg k5] at this; exact this.symm)
                        clear HW HIK k1 k2 k3 k4 k5
                        go_wp2_with fail
                        go_ret3
                        exact ⟨by rw [HE.out]; rfl, HX.out.below⟩
    · have hkz : ¬ (k : Int) < (l.length : Int) := by omega
      have HE : Hid (some (L sb, ls) = R) := Lib.hid (by have := HR.out; rw [List.drop_of_length_le (by omega), wrt] at this; exact this)
      go_wp2_with fail
      go_ret3
      refine ⟨?_, HX.out.below⟩
      rw [← HE.out]
      exact ⟨ya, yn, yc, by rw [S_L]; rfl, HX.out⟩
theorem written_any (N : Nat) : ∀ (l : List Wd), SizeOf.sizeOf l < N → ∀ (w : World) (D : Nat → Prop) (a : Option Addr) (n c : Nat), Lies w D a n c l → bkL l ≤ 1048576 → ∀ (W : World) (xa : Option Addr) (xn xc : Nat) (ls : List ByteArray), RowT w xa xn xc ls W → ls.length ≤ 513 →
    Calls Tryd.prog 52 #[.slice a n c, .slice xa xn xc] W fun e W' => WrOut w W' (wrt true [] ls l) e ∧ Below w.heap.size w W' := by
  induction N with
  | zero => intro l h; omega
  | succ N ih =>
    intro l hN w D a n c h hb W xa xn xc ls hr hl
    exact written_step l w D a n c h hb (fun i hi va vn vc k1 W' xa' xn' xc' ls' hr' hl' => ih _ (by have := kids_lt l i hi; omega) w D va vn vc k1 (by have := bk_at l i hi; omega) W' xa' xn' xc' ls' hr' hl') W xa xn xc ls hr hl
end Go.Proofs.YtliiapdakojomabDoor
