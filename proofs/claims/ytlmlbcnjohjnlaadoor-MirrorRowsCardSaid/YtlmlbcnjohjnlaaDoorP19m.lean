/- mirror: two sights of one mirror. -/
import Derived.Test.YtlmlbcnjohjnlaaDoorP19j
import Derived.Test.YtlmlbcnjohjnlaaDoorN19g
namespace Go.Proofs.YtlmlbcnjohjnlaaDoor
open Go.RowKit

def sightP (M : PM) : PS := if M.sel = true then ⟨true, M.v, M.n, M.h, M.rows.map (·.uid), M.rows.map (·.fl), M.rows.map (·.kn)⟩ else ⟨false, 0, 0, 0, [], [], []⟩
theorem LisA.nil (X : World) : LisA X (.slice none 0 0) [] := ⟨none, 0, rfl, by simp, fun h => by simp at h⟩
theorem lis_row {X : World} {e : TypeId} {v : Value} {n : Nat} {cs : List Value} (h : X.ownsRow 0 e 1 v n cs) (hn : n ≤ 1000000) : LisA X v cs := by
  have hl := h.1
  rw [Nat.mul_one] at hl
  rcases h.2 with ⟨rfl, e0⟩ | ⟨g, cap, cur, rfl, hb, hg, rest⟩
  · obtain rfl := List.eq_nil_of_length_eq_zero (show cs.length = 0 by omega)
    exact LisA.nil X
  · refine ⟨some ⟨g, 0, none⟩, cap, by rw [hl], by omega, fun _ => ⟨g, 0, rfl, lt_of_heap hg, fun j u hj => ?_⟩⟩
    have := h.cells (g := g) rfl j u hj
    rw [Addr.add_lit] at this
    exact this
theorem lis_strs {fr : List Nat} {X : World} {v : Value} {l : List ByteArray} (h : StrsIn fr X v l) (hl : l.length ≤ 1000000) : LisA X v (l.map .string) := by
  obtain ⟨a, c, rfl, h⟩ := h
  refine ⟨a, c, by rw [List.length_map], by rw [List.length_map]; exact hl, fun h0 => ?_⟩
  rw [List.length_map] at h0
  obtain ⟨g, o, cs, rfl, _, hh, hc⟩ := h h0
  refine ⟨g, o, rfl, lt_of_heap hh, fun j u hj => ?_⟩
  have hjl := (List.getElem?_eq_some_iff.1 hj).1
  rw [List.length_map] at hjl
  rw [cell_of hh, hc j hjl, ← hj, List.getElem?_map, List.getD_eq_getElem?_getD, List.getElem?_eq_getElem hjl]
  rfl
end Go.Proofs.YtlmlbcnjohjnlaaDoor
