/- The frame that all rows of this seat share: the program's tables, a start that fits, what a row's world gives. Stage 3. -/
import Derived.Test.YtliiapdakojomabDoorXp
import Derived.Test.YtliiapdakojomabDoorRows
import Derived.Lib.LaidIn
import Derived.Lib.LaidU8
import Derived.Deep.DeepHandedRow
import Derived.ProofKit
import Derived.SizedLaws
import Derived.PinnedBridge
import Derived.OpenShut
import Derived.Lay
import Derived.MakeChecks
import Derived.Carry
import Derived.SliceStrings
import Derived.Test.YtliiapdakojomabDoorAd
namespace Go.Proofs.YtliiapdakojomabDoor
open Go.Shelf Go.ChangeShapes Go.WideShapes Go.ChangeAt Go.RowKit Go.Lib
open Go.ChangeMaps (open_string shut_string)

theorem Tryd.own : ownKnob Tryd.prog.godebug = none := by kernel_rfl
theorem Tryd.laidOutP : laidOutB Tryd.prog = true := by kernel_rfl
/-- What the rows list: the same tables in each. -/
def laidL : List (String × DataW Unit) := Rows.lexKnowsLiteralsRow.laid
theorem laid_fits (os : Os) : (World.holding Tryd.prog os ⟨#[], #[], []⟩).layFits Tryd.prog laidL [] = true := by kernel_rfl
theorem laid_ifaces (os : Os) : (World.holding Tryd.prog os ⟨#[], #[], []⟩).layIfaces Tryd.prog laidL (World.laidAll Tryd.prog os laidL) = true := by kernel_rfl
theorem laid_met (os : Os) (args : Array Value) : laidMet Tryd.prog laidL ((World.laidAll Tryd.prog os laidL).forCall (fun _ _ => 0) ⟨#[], args, []⟩).memory :=
  laidMet_laidAll _ (laid_fits os) (laid_ifaces os)
theorem witness_row_sh {H : Type} {enc : TypeId × Value → H} {C : Checked} {os : Os} {f : FuncId} {fn : Func} {s : OpenSpec} {conds : List PathCond} {apart : Bool} {laid : List (String × DataW Unit)} (w0 : World) (args : Array Value) (hos : w0.os = os)
    (hsh : (w0.forCall (fun _ _ => 0) ⟨#[], args, []⟩).Shaped C.prog)
    (hok : Input.okWideB C.prog (w0.forCall (fun _ _ => 0) ⟨#[], args, []⟩) f ⟨#[], args, []⟩ = true)
    (hrow : s.preRow enc C.prog fn conds apart laid (w0.forCall (fun _ _ => 0) ⟨#[], args, []⟩).memory args) :
    ∃ (w : World) (tape : Tape) (i : Input), w.os = os ∧ (w.forCall tape i).Shaped C.prog ∧ i.vars = [] ∧ Input.okWide C.prog (w.forCall tape i) .any w.heap.size f i ∧
      s.preRow enc C.prog fn conds apart laid (w.forCall tape i).memory i.args ∧ ({} : Assume).holds C.prog (lone (Frame.enter C.prog f i.args .normal) [] (w.forCall tape i)) :=
  ⟨w0, fun _ _ => 0, ⟨#[], args, []⟩, hos, hsh, (Input.okWide_of_okWideB (base := 0) hok).1, (Input.okWide_of_okWideB hok).2, hrow, by
    simp only [Assume.holds]
    exact ⟨by simp, by simp, fun _ => Modest.zero, by simp, by simp⟩⟩
theorem wf_i64 {n : Int} (h : (Lit.int .i64 n).wf = true) : -9223372036854775808 ≤ n ∧ n ≤ 9223372036854775807 := by
  simp [Lit.wf, IntKind.min, IntKind.max, IntKind.signed, IntKind.bits] at h
  omega
/-- An array of integers that is listed. -/
theorem tab_of_reads {W : World} {n : String} {k : IntKind} {zs : List Int} {g : Nat} {t e : TypeId} {m : Nat} (h : VarReads Tryd.prog W n (tabData k zs)) (hg : Tryd.prog.globalNamed n = some g) (hty : (Tryd.prog.globals[g]?).map (·.type) = some t) (ht : Tryd.prog.underlying t = some (.array m e)) (he : Tryd.prog.underlying e = some (.int k)) (hce : Tryd.prog.cellsOf e = 1) (hct : Tryd.prog.cellsOf t = m) : TabIs Tryd.prog W n k zs := by
  obtain ⟨g', t', cs, fuel, p, hg', ht', hvar, hd⟩ := h
  obtain rfl := Option.some.inj (hg.symm.trans hg')
  obtain rfl := Option.some.inj (hty.symm.trans ht')
  unfold TabIs
  rw [hvar, ← cells_of_tab ht he hce hct hd]
theorem laid_plain : laidMetH Tryd.prog laidL = laidMet Tryd.prog laidL := by
  funext W
  exact MakeChecks.laidMetH_plain _ _ _ (by kernel_rfl)
theorem laid_pow : ("internal/strconv.uint64pow10", (tabData .u64 pow10Tab : DataW Unit)) ∈ laidL := List.mem_of_getElem? (i := laidL.findIdx (fun x => x.1 == "internal/strconv.uint64pow10")) (by kernel_rfl)
theorem env_of {W : World} (hL : laidMetH Tryd.prog laidL W) : Env W := by
  rw [laid_plain] at hL
  exact ⟨tab_of_reads (laidMet.reads hL laid_pow) Tryd.gPow (by kernel_rfl) Tryd.underlying113 Tryd.underlying107 (by kernel_rfl) (by kernel_rfl)⟩
end Go.Proofs.YtliiapdakojomabDoor

/- Rows of texts as an argument (stage 3), with how many there are. -/
namespace Go.Proofs.YtliiapdakojomabDoor
open Go.Shelf Go.ChangeShapes Go.WideShapes Go.ChangeAt Go.RowKit Go.Lib
open Go.ChangeMaps (open_string shut_string)

theorem weights_strs {H : Type} (ss : List ByteArray) (e : TypeId) (s : ByteArray) (h : s ∈ ss) : s.data.toList.length ∈ DataW.weightsAll (H := H) Tryd.prog e (strs ss) := by
  induction ss with
  | nil => cases h
  | cons a r ih =>
    show _ ∈ DataW.weightsAll Tryd.prog e (DataW.lit (.string a.data.toList) :: strs r)
    rw [DataW.weightsAll, List.mem_append]
    rcases List.mem_cons.1 h with rfl | h
    · left; simp [DataW.weights]
    · right; exact ih h
theorem Tryd.cellsStr : Tryd.prog.cellsOf 9 = 1 := by kernel_rfl
theorem Tryd.bytesStr : Tryd.prog.bytesOf 9 = 16 := by kernel_rfl

set_option maxRecDepth 100000 in
theorem open_strs_arg {H : Type} {enc : TypeId × Value → H} {W : World} {v : Value} {d : DataW H} {p : List MemPlace} {base : Nat} {ts : List TypeId} {ds : List (DataW H)} {j : Nat}
    (hok : Value.okWide Tryd.prog W .any base 22 v) (h0 : DataW.Trod enc Tryd.prog W 0 (fun _ => true) true 22 v d p)
    (hsz : (DataW.weightsEach Tryd.prog ts ds).all (· ≤ reachBytes) = true) (ht : ts[j]? = some 22) (hd : ds[j]? = some d) :
    ∃ ss, Strs W v ss ∧ (∀ i, i < ss.length → (ss.getD i ByteArray.empty).size ≤ 140737488355328) ∧ ss.length ≤ 8796093021952 := by
  obtain ⟨ao, len, cap, rfl⟩ := okWide_slice Tryd.underlying22 hok
  obtain ⟨fuel, hf0⟩ := h0
  have hf : DataW.trod enc Tryd.prog W 0 (fun _ => true) true fuel 22 [.slice ao len cap] = some (d, p) := by simpa [Value.cells] using hf0
  rcases open_strings Tryd.underlying22 Tryd.underlying9 Tryd.cellsStr hf with ⟨hcs, hx⟩ | ⟨a, len', cap', ss, hcs, _, hl, hm, hz, hx, hcell, _⟩
  · simp at hcs
    obtain ⟨rfl, rfl, rfl⟩ := hcs
    exact ⟨[], .inl ⟨rfl, _, _, rfl⟩, fun i hi => by simp at hi, by simp⟩
  · simp at hcs
    obtain ⟨rfl, rfl, rfl⟩ := hcs
    simp only [if_true] at hz
    have hd0 : d = .slice (strs (ss.take len)) (strs (ss.drop len)) := congrArg Prod.fst hx
    subst hd0
    have hreach := sized_slice hsz ht hd Tryd.underlying22
    rw [Tryd.bytesStr] at hreach
    have hlen : (ss.take len).length = len := by rw [List.length_take]; omega
    have hr : len ≤ 140737488355328 := by
      simp only [strs, List.length_map, List.length_take, List.length_drop, reachBytes] at hreach
      omega
    have hr2 : len ≤ 8796093021952 := by
      simp only [strs, List.length_map, List.length_take, List.length_drop, reachBytes] at hreach
      omega
    have hstr : ∀ i, i < (ss.take len).length → ((ss.take len).getD i ByteArray.empty).size ≤ 140737488355328 := by
      intro i hi
      have hmem : (ss.take len).getD i ByteArray.empty ∈ ss.take len := by
        rw [List.getD_eq_getElem?_getD, List.getElem?_eq_getElem hi]; exact List.getElem_mem hi
      have hw := weights_strs (H := H) (ss.take len) 9 _ hmem
      have := List.all_eq_true.1 hsz _ (DataW.weights_mem_each ht hd _ (by
        simp only [DataW.weights, Tryd.underlying22]
        exact List.mem_cons_of_mem _ (List.mem_append_left _ hw)))
      have h2 : ((ss.take len).getD i ByteArray.empty).data.toList.length ≤ reachBytes := by simpa using this
      unfold reachBytes at h2
      rw [← Lib.size_eq] at h2
      omega
    by_cases h0 : len = 0
    · subst h0
      exact ⟨[], .inl ⟨rfl, _, _, rfl⟩, fun i hi => by simp at hi, by simp⟩
    · obtain ⟨b, off, spot⟩ := a
      have hspot : spot = none := by simpa [Addr.add] using World.cell?_spot (hcell 0 (by omega))
      subst hspot
      refine ⟨ss.take len, .inr ⟨b, off, cap, by rw [hlen], by omega, by omega, ?_, fun i hi => ?_⟩, hstr, by rw [hlen]; exact hr2⟩
      · exact block_lt_of_cell (hcell 0 (by omega))
      · have := hcell i (by omega)
        have e : (⟨b, off, none⟩ : Addr).add i = ⟨b, off + i, none⟩ := by
          unfold Addr.add; split
          · rename_i h; rw [h]; rfl
          · rfl
        rw [e] at this
        rw [this]
        congr 2
        rw [List.getD_eq_getElem?_getD, List.getD_eq_getElem?_getD, List.getElem?_take]
        rw [if_pos (by omega)]
end Go.Proofs.YtliiapdakojomabDoor
