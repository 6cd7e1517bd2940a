/- The frame of a row that lists the type error's handle too. -/
import Derived.Test.YtfihgofgidmmiaaDoorD9ff
import Derived.Test.YtfihgofgidmmiaaDoorD9zf
import Derived.LaidHandle
namespace Go.Proofs.YtfihgofgidmmiaaDoor
open Go.Shelf Go.ChangeShapes Go.WideShapes Go.ChangeAt Go.RowKit Go.Lib

def laidH : List (String × DataW Unit) := Rows.diskNewsRow.laid
theorem laidH_plain : (laidH.filter fun x => x.2.handleName?.isNone) = laidL := by kernel_rfl
theorem et_named : Tryd.prog.globalNamed "errors.errorType" = some 2 := by kernel_rfl
theorem et_type : (Tryd.prog.cutTypes.find? (·.1 == "internal/reflectlite.rtype")).map (·.2) = some 109 := by kernel_rfl
theorem et_count : Tryd.prog.types.size = 296 - 100 := by kernel_rfl
theorem et_one : ((List.range (296 - 100)).filter fun t => Tryd.prog.rowNamed t [101, 114, 114, 111, 114]) = [25] := by kernel_rfl
/-- What the list gives: the reasons, and the handle. -/
theorem env_ofN {W : World} (hL : laidMetH Tryd.prog laidH W) : ∃ A B, Env A B W ∧ W.cell? ⟨2, 0, none⟩ = some (rtV 25) := by
  have h' : laidMet Tryd.prog (laidH.filter fun x => x.2.handleName?.isNone) W ∧ handlesMet Tryd.prog [("errors.errorType", Rows.laid_errors_errorType)] W := hL
  rw [laidH_plain] at h'
  obtain ⟨A, B, hE⟩ := env_of (by rw [laid_plain]; exact h'.1)
  refine ⟨A, B, hE, ?_⟩
  obtain ⟨name, u, ty, e1, e2, e3, e4, e5⟩ := h'.2 _ (List.mem_singleton.2 rfl)
  have en : name = [101, 114, 114, 111, 114] := (Option.some.inj e1).symm
  subst en
  obtain rfl := Option.some.inj (et_type.symm.trans e2)
  have hm : ty ∈ (List.range (296 - 100)).filter fun t => Tryd.prog.rowNamed t [101, 114, 114, 111, 114] := List.mem_filter.2 ⟨List.mem_range.2 (by rw [← et_count]; exact e3), e4⟩
  rw [et_one] at hm
  obtain rfl := List.mem_singleton.1 hm
  have hh : typeHandle Tryd.prog 25 = .pointer (some ⟨6, 25, none⟩) := by kernel_rfl
  rw [hh] at e5
  have := World.var?_cell et_named e5 0
  exact this
/-- A start that fits. -/
noncomputable def baseN (os : Os) : World :=
  { World.holding Tryd.prog os ⟨#[], #[], []⟩ with heap := (World.holding Tryd.prog os ⟨#[], #[], []⟩).heap.modify 2 fun o => match o with | .cells _ t fr => .cells #[rtV 25] t fr | o => o }
noncomputable def laidN (os : Os) : World := (baseN os).layVars Tryd.prog laidL
theorem laidN_os (os : Os) : (laidN os).os = os := World.layVars_os _ _ _
theorem laidN_fits (os : Os) : (baseN os).layFits Tryd.prog laidL [] = true := by kernel_rfl
theorem laidN_ifaces (os : Os) : (baseN os).layIfaces Tryd.prog laidL (laidN os) = true := by kernel_rfl
theorem laidN_met (os : Os) (args : Array Value) : laidMetH Tryd.prog laidH ((laidN os).forCall (fun _ _ => 0) ⟨#[], args, []⟩).memory := by
  have e1 : (laidL.filter fun x => (laidL.map (·.1)).contains x.1) = laidL := List.filter_eq_self.2 fun x hx => List.contains_iff_mem.2 (List.mem_map.2 ⟨x, hx, rfl⟩)
  have e2 : (laidL.filter fun x => !(laidL.map (·.1)).contains x.1) = [] := List.filter_eq_nil_iff.2 fun x hx => by rw [List.contains_iff_mem.2 (List.mem_map.2 ⟨x, hx, rfl⟩)]; simp
  have h : laidMet Tryd.prog laidL (laidN os) := laidMet_layVars (w0 := baseN os) (laidL.map (·.1)) [] (by rw [e1]; rfl) (by rw [e1]; exact laidN_fits os) (by rw [e1]; exact laidN_ifaces os) (by rw [e2]; exact LaidIn.none)
  refine laidMetH_of_parts ?_ (by kernel_rfl)
  rw [laidH_plain]
  exact h.of_heap (by simp [World.memory, World.forCall, Input.heap])
end Go.Proofs.YtfihgofgidmmiaaDoor
