/- lex, plain: what stays true of a scanner from round to round. -/
import Derived.Test.YtliiapdakojomabDoorAq
namespace Go.Proofs.YtliiapdakojomabDoor
open Go.RowKit

def kidsSum (l : List Fr) : Nat := (l.map (fun f => f.kids.length)).sum
theorem kidsSum_append (a b : List Fr) : kidsSum (a ++ b) = kidsSum a + kidsSum b := by simp [kidsSum]
theorem kidsSum_one (f : Fr) : kidsSum [f] = f.kids.length := by simp [kidsSum]
structure SInv (size : Nat) (s : Sc) : Prop where
  pos : s.pos ≤ size
  under : s.under.length ≤ 12
  begun : s.begun ≤ 512
  cnt : kidsSum s.under + s.top.kids.length + s.under.length ≤ s.begun
  bot : s.under = [] → s.top.kind = 0
  bot2 : ∀ f u, s.under = f :: u → f.kind = 0
theorem SInv.new (size : Nat) (lits : List ByteArray) : SInv size (Sc.new lits) := ⟨Nat.zero_le _, by simp [Sc.new], by simp [Sc.new], by simp [Sc.new, kidsSum], fun _ => rfl, fun f u h => by simp [Sc.new] at h⟩
theorem SInv.at {size : Nat} {s : Sc} (h : SInv size s) (k : Nat) (hk : k ≤ size) : SInv size { s with pos := k } := ⟨hk, h.under, h.begun, h.cnt, h.bot, h.bot2⟩
theorem SInv.word {size : Nat} {s : Sc} (h : SInv size s) (k : Nat) (hk : k ≤ size) (ls : List ByteArray) (d : Wd) (hb : s.begun < 512) : SInv size ({ s with pos := k, begun := s.begun + 1, lits := ls }.add d) := by
  have hc := h.cnt
  refine ⟨hk, h.under, by show s.begun + 1 ≤ 512; omega, ?_, h.bot, h.bot2⟩
  show kidsSum s.under + (s.top.kids ++ [d]).length + s.under.length ≤ s.begun + 1
  simp
  omega
theorem SInv.push {size : Nat} {s : Sc} (h : SInv size s) (k : Nat) (hk : k ≤ size) (kd : Int) (g : Bool) (hb : s.begun < 512) (hu : s.under.length < 12) : SInv size { s with pos := k, begun := s.begun + 1, under := s.under ++ [s.top], top := ⟨kd, g, []⟩ } := by
  have hc := h.cnt
  refine ⟨hk, by simp; omega, by show s.begun + 1 ≤ 512; omega, ?_, fun e => by simp at e, fun f u e => ?_⟩
  · show kidsSum (s.under ++ [s.top]) + ([] : List Wd).length + (s.under ++ [s.top]).length ≤ s.begun + 1
    rw [kidsSum_append, kidsSum_one]
    simp
    omega
  · cases hun : s.under with
    | nil => rw [hun] at e; simp at e; rw [← e.1]; exact h.bot hun
    | cons a r => rw [hun] at e; simp at e; rw [← e.1]; exact h.bot2 a r hun
theorem SInv.pop {size : Nat} {s : Sc} (h : SInv size s) (k : Nat) (hk : k ≤ size) (u : List Fr) (f : Fr) (hu : s.under = u ++ [f]) (d : Wd) : SInv size { s with pos := k, under := u, top := { f with kids := f.kids ++ [d] } } := by
  have hc := h.cnt
  have hul := h.under
  rw [hu, kidsSum_append, kidsSum_one] at hc
  rw [hu] at hul
  simp at hul hc
  refine ⟨hk, by show u.length ≤ 12; omega, h.begun, ?_, fun e => ?_, fun g r e => ?_⟩
  · show kidsSum u + (f.kids ++ [d]).length + u.length ≤ s.begun
    simp
    omega
  · have e' : u = [] := e
    exact h.bot2 f [] (by rw [hu, e']; rfl)
  · have e' : u = g :: r := e
    exact h.bot2 g (r ++ [f]) (by rw [hu, e']; rfl)
theorem SInv.kids {size : Nat} {s : Sc} (h : SInv size s) : s.top.kids.length ≤ 1000 ∧ ∀ u f, s.under = u ++ [f] → f.kids.length ≤ 1000 := by
  have hc := h.cnt
  have hb := h.begun
  refine ⟨by omega, fun u f e => ?_⟩
  rw [e, kidsSum_append, kidsSum_one] at hc
  omega
/-- A closer that has no fault closes something. -/
theorem SInv.open {size : Nat} {s : Sc} (h : SInv size s) {c : UInt8} (hk : s.top.kind = kindC c) : ∃ u f, s.under = u ++ [f] := by
  cases hu : s.under.reverse with
  | nil =>
    have : s.under = [] := by simpa using hu
    have h0 := h.bot this
    rw [h0] at hk
    unfold kindC at hk
    split at hk <;> omega
  | cons f r => exact ⟨r.reverse, f, by rw [← List.reverse_reverse s.under, hu]; simp⟩
/-- What no fault says. -/
theorem no_fault {b b5 op deep cl km br fit sp pa : Bool} (h : faultV b b5 op deep cl km br fit sp pa = 0) : (b = true → b5 = false) ∧ (op = true → deep = false) ∧ (cl = true → km = true) ∧ (br = true → b = true → fit = true) ∧ (b = true ∨ cl = true ∨ (sp = true ∧ pa = true)) := by
  revert h
  cases b <;> cases b5 <;> cases op <;> cases deep <;> cases cl <;> cases km <;> cases br <;> cases fit <;> cases sp <;> cases pa <;> decide
theorem Sc.fault_eq (l : List UInt8) (s : Sc) : s.fault l = faultV (begB l s.pos) (s.begun == 512) (openerB (bt l s.pos)) (decide (12 < s.under.length + 1)) (closerB (bt l s.pos)) (s.top.kind == kindC (bt l s.pos)) (bt l s.pos == 123) (fitB l s.pos s.lits) (bt l s.pos == 32) (s.pause l) := rfl
/-- The byte at which the scanner stands, by what it does there. -/
theorem step_class (c : UInt8) :
    ((c == 32) = true ∧ ((c.toNat : Int) == 32) = true ∧ openerB c = false ∧ closerB c = false) ∨
    ((c == 32) = false ∧ ((c.toNat : Int) == 32) = false ∧ openerB c = true ∧ closerB c = false ∧ (c == 123) = false ∧ (c == 34 || openerB c || wordC c) = true ∧ (((c.toNat : Int) == 40) = true ∨ (((c.toNat : Int) == 40) = false ∧ ((c.toNat : Int) == 91) = true))) ∨
    ((c == 32) = false ∧ ((c.toNat : Int) == 32) = false ∧ openerB c = false ∧ closerB c = true ∧ ((c.toNat : Int) == 40) = false ∧ ((c.toNat : Int) == 91) = false ∧ (((c.toNat : Int) == 41) = true ∨ (((c.toNat : Int) == 41) = false ∧ ((c.toNat : Int) == 93) = true))) ∨
    ((c == 32) = false ∧ ((c.toNat : Int) == 32) = false ∧ openerB c = false ∧ closerB c = false ∧ ((c.toNat : Int) == 40) = false ∧ ((c.toNat : Int) == 91) = false ∧ ((c.toNat : Int) == 41) = false ∧ ((c.toNat : Int) == 93) = false ∧ (c == 123) = true ∧ ((c.toNat : Int) == 123) = true) ∨
    ((c == 32) = false ∧ ((c.toNat : Int) == 32) = false ∧ openerB c = false ∧ closerB c = false ∧ ((c.toNat : Int) == 40) = false ∧ ((c.toNat : Int) == 91) = false ∧ ((c.toNat : Int) == 41) = false ∧ ((c.toNat : Int) == 93) = false ∧ (c == 123) = false ∧ ((c.toNat : Int) == 123) = false ∧ (c == 34) = true ∧ ((c.toNat : Int) == 34) = true) ∨
    ((c == 32) = false ∧ ((c.toNat : Int) == 32) = false ∧ openerB c = false ∧ closerB c = false ∧ ((c.toNat : Int) == 40) = false ∧ ((c.toNat : Int) == 91) = false ∧ ((c.toNat : Int) == 41) = false ∧ ((c.toNat : Int) == 93) = false ∧ (c == 123) = false ∧ ((c.toNat : Int) == 123) = false ∧ (c == 34) = false ∧ ((c.toNat : Int) == 34) = false) :=
  all_bytes (p := fun c =>
    ((c == 32) = true ∧ ((c.toNat : Int) == 32) = true ∧ openerB c = false ∧ closerB c = false) ∨
    ((c == 32) = false ∧ ((c.toNat : Int) == 32) = false ∧ openerB c = true ∧ closerB c = false ∧ (c == 123) = false ∧ (c == 34 || openerB c || wordC c) = true ∧ (((c.toNat : Int) == 40) = true ∨ (((c.toNat : Int) == 40) = false ∧ ((c.toNat : Int) == 91) = true))) ∨
    ((c == 32) = false ∧ ((c.toNat : Int) == 32) = false ∧ openerB c = false ∧ closerB c = true ∧ ((c.toNat : Int) == 40) = false ∧ ((c.toNat : Int) == 91) = false ∧ (((c.toNat : Int) == 41) = true ∨ (((c.toNat : Int) == 41) = false ∧ ((c.toNat : Int) == 93) = true))) ∨
    ((c == 32) = false ∧ ((c.toNat : Int) == 32) = false ∧ openerB c = false ∧ closerB c = false ∧ ((c.toNat : Int) == 40) = false ∧ ((c.toNat : Int) == 91) = false ∧ ((c.toNat : Int) == 41) = false ∧ ((c.toNat : Int) == 93) = false ∧ (c == 123) = true ∧ ((c.toNat : Int) == 123) = true) ∨
    ((c == 32) = false ∧ ((c.toNat : Int) == 32) = false ∧ openerB c = false ∧ closerB c = false ∧ ((c.toNat : Int) == 40) = false ∧ ((c.toNat : Int) == 91) = false ∧ ((c.toNat : Int) == 41) = false ∧ ((c.toNat : Int) == 93) = false ∧ (c == 123) = false ∧ ((c.toNat : Int) == 123) = false ∧ (c == 34) = true ∧ ((c.toNat : Int) == 34) = true) ∨
    ((c == 32) = false ∧ ((c.toNat : Int) == 32) = false ∧ openerB c = false ∧ closerB c = false ∧ ((c.toNat : Int) == 40) = false ∧ ((c.toNat : Int) == 91) = false ∧ ((c.toNat : Int) == 41) = false ∧ ((c.toNat : Int) == 93) = false ∧ (c == 123) = false ∧ ((c.toNat : Int) == 123) = false ∧ (c == 34) = false ∧ ((c.toNat : Int) == 34) = false)) (by decide +kernel) c
/-- One round that goes on. -/
theorem Sc.run_go {l : List UInt8} {s s' : Sc} {n : Nat} {R : Int × List Wd} (h : s.run l (n + 1) = R) (hp : s.pos < l.length) (hf : s.fault l = 0) (hs : s.step l = .go s') : s'.run l n = R := by
  unfold Sc.run at h
  rw [if_pos hp, if_pos hf, hs] at h
  exact h
theorem Sc.run_err {l : List UInt8} {s : Sc} {n : Nat} {e : Int} {R : Int × List Wd} (h : s.run l (n + 1) = R) (hp : s.pos < l.length) (hf : s.fault l = 0) (hs : s.step l = .err e) : R = (e, []) := by
  unfold Sc.run at h
  rw [if_pos hp, if_pos hf, hs] at h
  exact h.symm
theorem Sc.run_cut {l : List UInt8} {s s' : Sc} {n : Nat} {R : Int × List Wd} (h : s.run l (n + 1) = R) (hp : s.pos < l.length) (hf : s.fault l = 0) (hs : s.step l = .cut s') : R = (s'.endE l true, []) := by
  unfold Sc.run at h
  rw [if_pos hp, if_pos hf, hs] at h
  exact h.symm
theorem Sc.run_fault {l : List UInt8} {s : Sc} {n : Nat} {R : Int × List Wd} (h : s.run l (n + 1) = R) (hp : s.pos < l.length) (hf : s.fault l ≠ 0) : R = (s.fault l, []) := by
  unfold Sc.run at h
  rw [if_pos hp, if_neg hf] at h
  exact h.symm
theorem Sc.run_end {l : List UInt8} {s : Sc} {n : Nat} {R : Int × List Wd} (h : s.run l n = R) (hp : ¬ s.pos < l.length) : R = (s.endE l false, s.top.kids) := by
  cases n with
  | zero => exact h.symm
  | succ n =>
    unfold Sc.run at h
    rw [if_neg hp] at h
    exact h.symm
end Go.Proofs.YtliiapdakojomabDoor
