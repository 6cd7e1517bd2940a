/- lex: a list or bracket is opened: what the memory is then. -/
import Derived.Test.YtliiapdakojomabDoorAl
namespace Go.Proofs.YtliiapdakojomabDoor
open Go.RowKit

/-- The stack behind a word that is opened. -/
theorem Stk.pushed {B P ob oc : Nat} {fs : List Wc} {F : List Fr} {D : Nat → Prop} {w w4 : World} (h : Stk B P ob oc fs F D w) (hP : P < w.heap.size) {k : Int} {b : Bool} {g' cap : Nat}
    (h1 : w.heap.size ≤ w4.heap.size) (h2 : ∀ g, g < w.heap.size → g ≠ ob → g ≠ P → w4.heap[g]? = w.heap[g]?)
    (h4 : RowW B (.slice (some ⟨g', 0, none⟩) (fs.length + 1) cap) (fs ++ [⟨k, S [], none, 0, 0, b⟩]) w4)
    (h5 : g' = ob ∨ w.heap.size ≤ g') :
    Stk B P g' cap (fs ++ [⟨k, S [], none, 0, 0, b⟩]) (F ++ [⟨k, b, []⟩]) D w4 := by
  have hl := h.len
  have hob := h.row.lt ob rfl
  have hD : ∀ g, D g → g < w.heap.size → g < w4.heap.size ∧ w4.heap[g]? = w.heap[g]? := fun g hg hlt => ⟨by omega, h2 g hlt (h.dd g hg).2.2.2 (h.dd g hg).2.2.1⟩
  have hgP : g' ≠ P := by
    rcases h5 with rfl | h5
    · exact h.obP
    · omega
  have hgk : ∀ g, g < w.heap.size → g ≠ ob → g ≠ g' := fun g hlt hne => by
    rcases h5 with rfl | h5
    · exact hne
    · omega
  have hlast : (fs ++ [(⟨k, S [], none, 0, 0, b⟩ : Wc)]).getD F.length wc0 = ⟨k, S [], none, 0, 0, b⟩ := by rw [← hl]; exact getD_snoc_eq _ _ _
  refine ⟨by simp [hl], by rw [List.length_append]; exact h4, hgP, fun i hi => ?_, fun i hi g e => ?_, fun i j hi hj hij g e e' => ?_, fun g hg => ?_⟩
  · by_cases hin : i < F.length
    · rw [getD_snoc_lt _ _ _ _ (by omega), getD_snoc_lt _ _ _ _ hin]
      exact (h.fr i hin).move hD (fun _ x => x) (fun g e => h2 g ((h.fr i hin).lt g e).2 (h.kP i hin g e).2.1 (h.kP i hin g e).1)
    · obtain rfl : i = F.length := by simp at hi; omega
      rw [hlast, getD_snoc_eq]
      exact ⟨rfl, rfl, rfl, [], World.ownsRow_nil _ _ _ _, rfl, fun j hj => by simp at hj⟩
  · by_cases hin : i < F.length
    · rw [getD_snoc_lt _ _ _ _ (by omega)] at e
      obtain ⟨a, b', c⟩ := h.kP i hin g e
      exact ⟨a, hgk g ((h.fr i hin).lt g e).2 b', c⟩
    · obtain rfl : i = F.length := by simp at hi; omega
      rw [hlast] at e
      simp [Wc.kv, Value.ownBlock] at e
  · by_cases hin : i < F.length
    · rw [getD_snoc_lt _ _ _ _ (by omega)] at e
      by_cases hjn : j < F.length
      · rw [getD_snoc_lt _ _ _ _ (by omega)] at e'
        exact h.kk i j hin hjn hij g e e'
      · obtain rfl : j = F.length := by simp at hj; omega
        rw [hlast] at e'
        simp [Wc.kv, Value.ownBlock] at e'
    · obtain rfl : i = F.length := by simp at hi; omega
      rw [hlast] at e
      simp [Wc.kv, Value.ownBlock] at e
  · obtain ⟨a, b', c, d⟩ := h.dd g hg
    exact ⟨a, by omega, c, hgk g b' d⟩
/-- The scanner behind a word that is opened. -/
theorem SmX.pushed {B P : Nat} {line : ByteArray} {vl : Value} {s : Sc} {ob oc : Nat} {fs : List Wc} {D : Nat → Prop} {W0 w w4 : World} (h : SmX B P line vl s ob oc fs D W0 w) {k : Int} {b : Bool} {g' cap : Nat}
    (h1 : w.heap.size ≤ w4.heap.size) (h2 : ∀ g, g < w.heap.size → g ≠ ob → g ≠ P → w4.heap[g]? = w.heap[g]?)
    (h4 : RowW B (.slice (some ⟨g', 0, none⟩) (fs.length + 1) cap) (fs ++ [⟨k, S [], none, 0, 0, b⟩]) w4)
    (h5 : g' = ob ∨ w.heap.size ≤ g') (hq : Below B W0 w4)
    (hP : w4.heap[P]? = some (.cells #[.string line, .int .i64 s.pos, vl, .int .i64 s.begun, .slice (some ⟨g', 0, none⟩) (fs.length + 1) cap] 67 (0, 0))) :
    ∃ ob' oc' fs', SmX B P line vl { s with under := s.under ++ [s.top], top := ⟨k, b, []⟩ } ob' oc' fs' D W0 w4 :=
  ⟨g', cap, _, by rw [List.length_append]; exact hP, h.bP, h.bW, h.lits, hq, h.st.pushed h.plt h1 h2 h4 h5⟩
end Go.Proofs.YtliiapdakojomabDoor
