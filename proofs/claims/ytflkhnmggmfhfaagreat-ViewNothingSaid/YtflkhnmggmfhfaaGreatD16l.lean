/- A step's calls, in the house. -/
import Derived.Test.YtflkhnmggmfhfaaGreatD16m
import Derived.Test.YtflkhnmggmfhfaaGreatD16n
import Derived.Test.YtflkhnmggmfhfaaGreatD16h
import Derived.Test.YtflkhnmggmfhfaaGreatN16e
namespace Go.Proofs.YtflkhnmggmfhfaaGreat
open Go.RowKit

variable {W w : World} {K : List (Nat × Obj)} {P Q D N : Nat} {V U : PV}
/-- A nil list of uids has no room behind it. -/
def StX (s : ST) : Prop := ∀ a k, s.ev.vu = .slice a s.us.length k → s.us.length = 0 → a = none → k = 0
def SBx (b : Nat) (s : ST) : Nat × Obj := (b, .cells (stL s).toArray 47 (0, 0))
theorem event_H (h : HH W K P Q D V U w) (s : ST) (ho : StOK W s) (hx : StX s) (hs : StShort s) (hf : StF s) :
    Calls Tryz.prog 13 #[.pointer (some ⟨D, 0, none⟩), .agg (evA s.ev).toList.toArray] w fun r w' => ∃ e' ms', r = .returned (.agg (evA e')) ∧ HE W K P Q D V U s.us s.ms (evP s) e' ms' w' := by
  obtain ⟨fv, fr, vd, c, h⟩ := h
  have hO := st_evOut (f := fpD D vd c.F) ho h.base.size h.lk
  refine (event_any h.desk h.ok s.ev s.us s.ms ((st_evAt ho hs).on h.base) (fun h0 b e => (hO.uids h0 b e).2) hO.marks hs.us hs.ms hf hx ⟨ho.one _ (stL_ev (by simp [evA])), ho.one _ (stL_ev (by simp [evA]))⟩).mono ?_
  rintro r w' ⟨e', ms', v', c', rfl, q1, q2, q3, q4, q5, q6, q7, q8, _, _⟩
  exact ⟨e', ms', rfl, fv, fr, v', c', h.toD q1.1 q2 q1.2, q3, q4, q5, q6, q7, q8⟩
theorem evAt0 (w : World) : EvAt w EV0 [] [] := ⟨⟨none, 0, rfl, fun q => by simp at q⟩, ⟨⟨none, 0, rfl, fun q => by simp at q⟩, fun m hm => (by cases hm)⟩, by decide, by simp, by simp⟩
theorem event0_H (h : HH W K P Q D V U w) :
    Calls Tryz.prog 13 #[.pointer (some ⟨D, 0, none⟩), .agg (evA EV0)] w fun r w' => ∃ e', r = .returned (.agg (evA e')) ∧ HH W K P Q D V U w' := by
  obtain ⟨fv, fr, vd, c, h⟩ := h
  refine (event_any h.desk h.ok EV0 [] [] (evAt0 w) (fun q => by simp at q) ⟨fun q => by simp at q, fun m hm => (by cases hm)⟩ (by simp) (by simp) (fun m hm => (by cases hm)) (fun a k e _ _ => by injection e with _ _ e3; exact e3.symm) ⟨rfl, rfl⟩).mono ?_
  rintro r w' ⟨e', ms', v', c', rfl, q1, q2, _⟩
  exact ⟨e', rfl, fv, fr, v', c', h.toD q1.1 q2 q1.2⟩
theorem lies_H (s : ST) (h : HL W K P Q D V U s.us s.ms w) (ho : StOK W s) (hs : StShort s) (hf : StF s) :
    Calls Tryz.prog 14 #[.pointer (some ⟨D, 0, none⟩), .agg (evA s.ev).toList.toArray] w fun r w' => r = .returned (.bool true) ∧ HH W K P Q D V U w' := by
  obtain ⟨fv, fr, vd, c, h, h2⟩ := h
  exact (lies_any h.desk h.ok s.ev s.us s.ms h2 ((st_evAt ho hs).on h.base) hf).mono (fun _ _ ⟨q1, q2⟩ => ⟨q1, fv, fr, vd, c, h.on q2⟩)
theorem alike_H {a b : Value} {l : List Int} (h : HH W K P Q D V U w) (h1 : Nms w a l) (h2 : Nms w b l) (hl : l.length ≤ 1000000) :
    Calls Tryz.prog 22 #[a, b] w fun e w' => e = .returned (.bool true) ∧ HH W K P Q D V U w' :=
  (alike_any a b l l w h1 h2 hl).mono (fun _ _ ⟨q1, q2⟩ => ⟨by rw [q1, decide_eq_true rfl], h.on q2⟩)
theorem HH.drew (h : HH W K P Q D V U w) : HH W K P Q D V U w.drew := h.on (Below.refl _ _).drew
theorem stL_n {X : World} {b : Nat} {s : ST} {t : TypeId} (h : X.heap[b]? = some (.cells (stL s).toArray t (0, 0))) : X.cell? ⟨b, 25, none⟩ = some (.int .i64 s.n) := cell_of h 25
end Go.Proofs.YtflkhnmggmfhfaaGreat
