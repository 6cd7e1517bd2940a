/- The frame of a row that lists the type error's handle too. -/
import Derived.Test.YtgafomknpdnfcaaGreatDoorM9j
import Derived.Test.YtgafomknpdnfcaaGreatDoorD9zf
import Derived.LaidHandle
namespace Go.Proofs.YtgafomknpdnfcaaGreatDoor
open Go.Shelf Go.ChangeShapes Go.WideShapes Go.ChangeAt Go.RowKit Go.Lib

def laidH : List (String × DataW Unit) := Rows.diskPlaysRow.laid
theorem laidH_plain : (laidH.filter fun x => x.2.handleName?.isNone) = laidL := by kernel_rfl
theorem et_named : Tryz.prog.globalNamed "errors.errorType" = some 5 := by kernel_rfl
theorem et_type : (Tryz.prog.cutTypes.find? (·.1 == "internal/reflectlite.rtype")).map (·.2) = some 115 := by kernel_rfl
theorem et_count : Tryz.prog.types.size = 303 - 100 := by kernel_rfl
theorem et_one : ((List.range (303 - 100)).filter fun t => Tryz.prog.rowNamed t [101, 114, 114, 111, 114]) = [26] := by kernel_rfl
/-- What the list gives: the reasons, and the handle. -/
theorem env_ofN {W : World} (hL : laidMetH Tryz.prog laidH W) : ∃ A B, Env A B W ∧ W.cell? ⟨5, 0, none⟩ = some (rtV 26) := by
  have h' : laidMet Tryz.prog (laidH.filter fun x => x.2.handleName?.isNone) W ∧ handlesMet Tryz.prog [("errors.errorType", Rows.laid_errors_errorType)] W := hL
  rw [laidH_plain] at h'
  have hcell : W.cell? ⟨5, 0, none⟩ = some (rtV 26) := by
    obtain ⟨name, u, ty, e1, e2, e3, e4, e5⟩ := h'.2 _ (List.mem_singleton.2 rfl)
    have en : name = [101, 114, 114, 111, 114] := (Option.some.inj e1).symm
    subst en
    obtain rfl := Option.some.inj (et_type.symm.trans e2)
    have hm : ty ∈ (List.range (303 - 100)).filter fun t => Tryz.prog.rowNamed t [101, 114, 114, 111, 114] := List.mem_filter.2 ⟨List.mem_range.2 (by rw [← et_count]; exact e3), e4⟩
    rw [et_one] at hm
    obtain rfl := List.mem_singleton.1 hm
    have hh : typeHandle Tryz.prog 26 = .pointer (some ⟨6, 26, none⟩) := by kernel_rfl
    rw [hh] at e5
    have := World.var?_cell et_named e5 0
    exact this
  obtain ⟨A, B, hE⟩ := env_of (by rw [laid_plain]; exact h'.1) (block_lt_of_cell hcell)
  exact ⟨A, B, hE, hcell⟩
/-- A start that fits. -/
noncomputable def baseN (os : Os) : World :=
  { World.holding Tryz.prog os ⟨#[], #[], []⟩ with heap := (World.holding Tryz.prog os ⟨#[], #[], []⟩).heap.modify 5 fun o => match o with | .cells _ t fr => .cells #[rtV 26] t fr | o => o }
noncomputable def laidN (os : Os) : World := (baseN os).layVars Tryz.prog laidL
theorem laidN_os (os : Os) : (laidN os).os = os := World.layVars_os _ _ _
theorem laidN_fits (os : Os) : (baseN os).layFits Tryz.prog laidL [] = true := by kernel_rfl
theorem laidN_ifaces (os : Os) : (baseN os).layIfaces Tryz.prog laidL (laidN os) = true := by kernel_rfl
theorem laidN_met (os : Os) (args : Array Value) : laidMetH Tryz.prog laidH ((laidN os).forCall (fun _ _ => 0) ⟨#[], args, []⟩).memory := by
  have e1 : (laidL.filter fun x => (laidL.map (·.1)).contains x.1) = laidL := List.filter_eq_self.2 fun x hx => List.contains_iff_mem.2 (List.mem_map.2 ⟨x, hx, rfl⟩)
  have e2 : (laidL.filter fun x => !(laidL.map (·.1)).contains x.1) = [] := List.filter_eq_nil_iff.2 fun x hx => by rw [List.contains_iff_mem.2 (List.mem_map.2 ⟨x, hx, rfl⟩)]; simp
  have h : laidMet Tryz.prog laidL (laidN os) := laidMet_layVars (w0 := baseN os) (laidL.map (·.1)) [] (by rw [e1]; rfl) (by rw [e1]; exact laidN_fits os) (by rw [e1]; exact laidN_ifaces os) (by rw [e2]; exact LaidIn.none)
  refine laidMetH_of_parts ?_ (by kernel_rfl)
  rw [laidH_plain]
  exact h.of_heap (by simp [World.memory, World.forCall, Input.heap])
end Go.Proofs.YtgafomknpdnfcaaGreatDoor
