/- lex: isSame, EqualFunc over words. -/
import Derived.Test.YtliiapdakojomabDoorAt
namespace Go.Proofs.YtliiapdakojomabDoor
open Go.RowKit

mutual
def eqW : Wd → Wd → Bool
  | .mk k t l g, .mk k' t' l' g' => decide (k = k') && (decide (t = t') && (decide (g = g') && eqL l l'))
def eqL : List Wd → List Wd → Bool
  | [], [] => true
  | a :: r, b :: s => eqW a b && eqL r s
  | [], _ :: _ => false
  | _ :: _, [] => false
end
theorem eqL_len : ∀ (l m : List Wd), l.length ≠ m.length → eqL l m = false
  | [], [], h => by simp at h
  | [], _ :: _, _ => by simp [eqL]
  | _ :: _, [], _ => by simp [eqL]
  | a :: r, b :: s, h => by
    have := eqL_len r s (by simpa using h)
    simp [eqL, this]
/-- Alike up to a place. -/
theorem eqL_take : ∀ (k : Nat) (l m : List Wd), l.length = m.length → k < l.length → eqL (l.take k) (m.take k) = true → eqL (l.take (k + 1)) (m.take (k + 1)) = eqW (l.getD k wd0) (m.getD k wd0)
  | 0, a :: r, b :: s, _, _, _ => by simp [eqL]
  | k + 1, a :: r, b :: s, h, hk, he => by
    simp only [List.take_succ_cons, eqL, Bool.and_eq_true] at he
    have := eqL_take k r s (by simpa using h) (by simpa using hk) he.2
    simp only [List.take_succ_cons, eqL, List.getD_cons_succ] at this ⊢
    rw [this, he.1, Bool.true_and]
  | _, [], _, _, hk, _ => by simp at hk
  | _, _ :: _, [], h, _, _ => by simp at h
theorem eqL_no : ∀ (k : Nat) (l m : List Wd), l.length = m.length → k < l.length → eqW (l.getD k wd0) (m.getD k wd0) = false → eqL l m = false
  | 0, a :: r, b :: s, _, _, h => by simp at h; simp [eqL, h]
  | k + 1, a :: r, b :: s, h, hk, he => by
    have := eqL_no k r s (by simpa using h) (by simpa using hk) (by simpa using he)
    simp [eqL, this]
  | _, [], _, _, hk, _ => by simp at hk
  | _, _ :: _, [], h, _, _ => by simp at h
theorem eqW_parts (c d : Wd) : eqW c d = (decide (c.kind = d.kind) && (decide (c.text = d.text) && (decide (c.glued = d.glued) && eqL c.kids d.kids))) := by
  cases c; cases d; rfl
set_option maxRecDepth 100000 in
set_option maxHeartbeats 4000000 in
theorem isSame_of (c d : Wd) (a1 a2 : Option Addr) (n1 k1 n2 k2 : Nat) (w : World)
    (hE : ∀ W, Below w.heap.size w W → Calls Tryd.prog 38 #[.slice a1 n1 k1, .slice a2 n2 k2, (.func (.func 39) #[] #[])] W fun e w' => e = .returned (.bool (eqL c.kids d.kids)) ∧ Below W.heap.size W w') :
    Calls Tryd.prog 39 #[.agg #[.int .i64 c.kind, .string c.text, .slice a1 n1 k1, .bool c.glued], .agg #[.int .i64 d.kind, .string d.text, .slice a2 n2 k2, .bool d.glued]] w fun e w' => e = .returned (.bool (eqW c d)) ∧ Below w.heap.size w w' := by
  have HE := Lib.hid hE
  rw [eqW_parts]
  generalize eqL c.kids d.kids = ek at *
  have hbb : Below w.heap.size w ((w.alloc (.cells #[.int .i64 c.kind, .string c.text, .slice a1 n1 k1, .bool c.glued] 33)).alloc (.cells #[.int .i64 d.kind, .string d.text, .slice a2 n2 k2, .bool d.glued] 33)) := ((Below.refl _ _).alloc (Nat.le_refl _) _).alloc (by simp) _
  by_cases h1 : c.kind = d.kind
  · have e1 : (c.kind == d.kind) = true := by rw [h1]; simp
    rw [decide_eq_true h1]
    clear h1
    by_cases h2 : c.text = d.text
    · have e2 : (c.text.toList == d.text.toList) = true := by rw [h2]; simp
      rw [decide_eq_true h2]
      clear h2
      by_cases h3 : c.glued = d.glued
      · have e3 : (c.glued == d.glued) = true := by rw [h3]; simp
        rw [decide_eq_true h3]
        clear h3
        generalize c.kind = ck at *
        generalize c.text = ct at *
        generalize c.glued = cg at *
        generalize d.kind = dk at *
        generalize d.text = dt at *
        generalize d.glued = dg at *
        clear hE
        go_enter Tryd.func39, Tryd.ntmps39
        go_wp2_with fail
        refine (HE.out _ hbb).mono ?_
        rintro e w3 ⟨rfl, hb3⟩
        go_wp2_with fail
        go_ret
        exact ⟨by simp, hbb.trans (hb3.mono hbb.size)⟩
      · have e3 : (c.glued == d.glued) = false := by simpa using h3
        rw [decide_eq_false h3]
        clear h3 hE HE
        generalize c.kind = ck at *
        generalize c.text = ct at *
        generalize c.glued = cg at *
        generalize d.kind = dk at *
        generalize d.text = dt at *
        generalize d.glued = dg at *
        go_enter Tryd.func39, Tryd.ntmps39
        go_wp2_with fail
        go_ret
        exact ⟨by simp, hbb⟩
    · have e2 : (c.text.toList == d.text.toList) = false := by
        rw [beq_eq_false_iff_ne]
        intro h
        rw [toList_L, toList_L] at h
        exact h2 (by rw [← S_L c.text, ← S_L d.text, h])
      rw [decide_eq_false h2]
      clear h2 hE HE
      generalize c.kind = ck at *
      generalize c.text = ct at *
      generalize c.glued = cg at *
      generalize d.kind = dk at *
      generalize d.text = dt at *
      generalize d.glued = dg at *
      go_enter Tryd.func39, Tryd.ntmps39
      go_wp2_with fail
      go_ret
      exact ⟨by simp, hbb⟩
  · have e1 : (c.kind == d.kind) = false := by simpa using h1
    rw [decide_eq_false h1]
    clear h1 hE HE
    generalize c.kind = ck at *
    generalize c.text = ct at *
    generalize c.glued = cg at *
    generalize d.kind = dk at *
    generalize d.text = dt at *
    generalize d.glued = dg at *
    go_enter Tryd.func39, Tryd.ntmps39
    go_wp2_with fail
    go_ret
    exact ⟨by simp, hbb⟩
end Go.Proofs.YtliiapdakojomabDoor
