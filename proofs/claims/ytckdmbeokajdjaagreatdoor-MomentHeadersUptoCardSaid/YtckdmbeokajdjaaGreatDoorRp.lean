/- The frame that all rows of this seat share: the program's tables, a start that fits, what a row's world gives; a moment that came in. -/
import Derived.Test.YtckdmbeokajdjaaGreatDoorDy
import Derived.Test.YtckdmbeokajdjaaGreatDoorRows
import Derived.Lib.LaidIn
import Derived.Lib.LaidU8
import Derived.Deep.DeepHandedRow
import Derived.ProofKit
import Derived.SizedLaws
import Derived.PinnedBridge
import Derived.OpenShut
import Derived.Lay
import Derived.MakeChecks
import Derived.Carry
import Derived.SliceStrings
namespace Go.Proofs.YtckdmbeokajdjaaGreatDoor
open Go.Shelf Go.ChangeShapes Go.WideShapes Go.ChangeAt Go.RowKit Go.Lib
open Go.ChangeMaps (open_string shut_string)

theorem Tryz.own : ownKnob Tryz.prog.godebug = none := by kernel_rfl
theorem Tryz.laidOutP : laidOutB Tryz.prog = true := by kernel_rfl
/-- What the rows list: the same tables in each. -/
def laidL : List (String × DataW Unit) := Rows.momentHeadersRow.laid
theorem laid_fits (os : Os) : (World.holding Tryz.prog os ⟨#[], #[], []⟩).layFits Tryz.prog laidL [] = true := by kernel_rfl
theorem laid_ifaces (os : Os) : (World.holding Tryz.prog os ⟨#[], #[], []⟩).layIfaces Tryz.prog laidL (World.laidAll Tryz.prog os laidL) = true := by kernel_rfl
theorem laid_met (os : Os) (args : Array Value) : laidMet Tryz.prog laidL ((World.laidAll Tryz.prog os laidL).forCall (fun _ _ => 0) ⟨#[], args, []⟩).memory :=
  laidMet_laidAll _ (laid_fits os) (laid_ifaces os)
theorem witness_row_sh {H : Type} {enc : TypeId × Value → H} {C : Checked} {os : Os} {f : FuncId} {fn : Func} {s : OpenSpec} {conds : List PathCond} {apart : Bool} {laid : List (String × DataW Unit)} (w0 : World) (args : Array Value) (hos : w0.os = os)
    (hsh : (w0.forCall (fun _ _ => 0) ⟨#[], args, []⟩).Shaped C.prog)
    (hok : Input.okWideB C.prog (w0.forCall (fun _ _ => 0) ⟨#[], args, []⟩) f ⟨#[], args, []⟩ = true)
    (hrow : s.preRow enc C.prog fn conds apart laid (w0.forCall (fun _ _ => 0) ⟨#[], args, []⟩).memory args) :
    ∃ (w : World) (tape : Tape) (i : Input), w.os = os ∧ (w.forCall tape i).Shaped C.prog ∧ i.vars = [] ∧ Input.okWide C.prog (w.forCall tape i) .any w.heap.size f i ∧
      s.preRow enc C.prog fn conds apart laid (w.forCall tape i).memory i.args ∧ ({} : Assume).holds C.prog (lone (Frame.enter C.prog f i.args .normal) [] (w.forCall tape i)) :=
  ⟨w0, fun _ _ => 0, ⟨#[], args, []⟩, hos, hsh, (Input.okWide_of_okWideB (base := 0) hok).1, (Input.okWide_of_okWideB hok).2, hrow, by
    simp only [Assume.holds]
    exact ⟨by simp, by simp, fun _ => Modest.zero, by simp, by simp⟩⟩

/-- An array of integers that is listed. -/
theorem tab_of_reads {W : World} {n : String} {k : IntKind} {zs : List Int} {g : Nat} {t e : TypeId} {m : Nat} (h : VarReads Tryz.prog W n (tabData k zs)) (hg : Tryz.prog.globalNamed n = some g) (hty : (Tryz.prog.globals[g]?).map (·.type) = some t) (ht : Tryz.prog.underlying t = some (.array m e)) (he : Tryz.prog.underlying e = some (.int k)) (hce : Tryz.prog.cellsOf e = 1) (hct : Tryz.prog.cellsOf t = m) : TabIs Tryz.prog W n k zs := by
  obtain ⟨g', t', cs, fuel, p, hg', ht', hvar, hd⟩ := h
  obtain rfl := Option.some.inj (hg.symm.trans hg')
  obtain rfl := Option.some.inj (hty.symm.trans ht')
  unfold TabIs
  rw [hvar, ← cells_of_tab ht he hce hct hd]
/-- An array of texts that is listed. -/
theorem texts_of_reads {W : World} {n : String} {ls : List (List UInt8)} {g : Nat} {t e : TypeId} {m : Nat} (h : VarReads Tryz.prog W n (.agg (ls.map fun l => .lit (.string l)))) (hg : Tryz.prog.globalNamed n = some g) (hty : (Tryz.prog.globals[g]?).map (·.type) = some t) (ht : Tryz.prog.underlying t = some (.array m e)) (he : Tryz.prog.underlying e = some .string) (hce : Tryz.prog.cellsOf e = 1) (hct : Tryz.prog.cellsOf t = m) :
    ∃ t fr, W.heap[g]? = some (.cells (ls.map fun l => Value.string (S l)).toArray t fr) := by
  obtain ⟨g', t', cs, fuel, p, hg', ht', hvar, hd⟩ := h
  obtain rfl := Option.some.inj (hg.symm.trans hg')
  obtain rfl := Option.some.inj (hty.symm.trans ht')
  obtain ⟨xs, k, _, hx, hl, hxl, hel⟩ := DataW.trod_array ht hd
  have hxs : xs.map (·.1) = ls.map fun l => (DataW.lit (.string l) : DataW Unit) := by
    have := congrArg Prod.fst hx
    simpa using this.symm
  have hll : ls.length = m := by
    have := congrArg List.length hxs
    simp at this
    omega
  have hcs : cs = (ls.map fun l => Value.string (S l)).toArray := by
    apply Array.ext'
    apply List.ext_getElem?
    intro i
    by_cases hi : i < m
    · have h1 := hel i hi
      rw [hce, Nat.mul_one, List.getElem?_eq_getElem (by omega)] at h1
      obtain ⟨s, e1, e2, _⟩ := DataW.trod_string he h1
      have h2 : (xs.map (·.1))[i]? = some (DataW.lit (.string s.data.toList) : DataW Unit) := by
        rw [List.getElem?_map, List.getElem?_eq_getElem (by omega), e2]; rfl
      rw [hxs, List.getElem?_map] at h2
      obtain ⟨l, hl1, hl2⟩ := Option.map_eq_some_iff.1 h2
      have hl3 : l = s.data.toList := by
        simp only [DataW.lit.injEq, Lit.string.injEq] at hl2
        exact hl2
      have h3 : cs.toList[i]? = some (.string s) := by
        have h0 : ((cs.toList.drop i).take 1)[0]? = some (.string s) := by rw [e1]; rfl
        simpa using h0
      rw [h3]
      simp only [List.getElem?_map, hl1, Option.map_some, hl3]
      rfl
    · rw [List.getElem?_eq_none (by omega), List.getElem?_eq_none (by simp; omega)]
  unfold World.var? at hvar
  rw [hg] at hvar
  simp only [Option.bind_some] at hvar
  split at hvar
  · rename_i cs' t fr hh
    obtain rfl := Option.some.inj hvar
    exact ⟨t, fr, by rw [hh, hcs]⟩
  · cases hvar
theorem laid_plain : laidMetH Tryz.prog laidL = laidMet Tryz.prog laidL := by
  funext W
  exact MakeChecks.laidMetH_plain _ _ _ (by kernel_rfl)
theorem laid_len : ("postbag/moment.monthLengths", (tabData .i64 lenT : DataW Unit)) ∈ laidL := List.mem_of_getElem? (i := laidL.findIdx (fun x => x.1 == "postbag/moment.monthLengths")) (by kernel_rfl)
theorem laid_pow : ("internal/strconv.uint64pow10", (tabData .u64 pow10Tab : DataW Unit)) ∈ laidL := List.mem_of_getElem? (i := laidL.findIdx (fun x => x.1 == "internal/strconv.uint64pow10")) (by kernel_rfl)
theorem laid_mon : ("postbag/moment.monthNames", (.agg (monT.map fun l => .lit (.string l)) : DataW Unit)) ∈ laidL := List.mem_of_getElem? (i := laidL.findIdx (fun x => x.1 == "postbag/moment.monthNames")) (by kernel_rfl)
theorem laid_wd : ("postbag/moment.weekdayNames", (.agg (wdT.map fun l => .lit (.string l)) : DataW Unit)) ∈ laidL := List.mem_of_getElem? (i := laidL.findIdx (fun x => x.1 == "postbag/moment.weekdayNames")) (by kernel_rfl)
theorem env_of {W : World} (hL : laidMetH Tryz.prog laidL W) : Env W := by
  rw [laid_plain] at hL
  exact ⟨tab_of_reads (laidMet.reads hL laid_len) Tryz.gLen (by kernel_rfl) Tryz.underlying89 Tryz.underlying3 (by kernel_rfl) (by kernel_rfl),
    texts_of_reads (laidMet.reads hL laid_mon) (by kernel_rfl) (by kernel_rfl) Tryz.underlying59 Tryz.underlying9 (by kernel_rfl) (by kernel_rfl),
    texts_of_reads (laidMet.reads hL laid_wd) (by kernel_rfl) (by kernel_rfl) Tryz.underlying61 Tryz.underlying9 (by kernel_rfl) (by kernel_rfl),
    tab_of_reads (laidMet.reads hL laid_pow) Tryz.gPow (by kernel_rfl) Tryz.underlying128 Tryz.underlying111 (by kernel_rfl) (by kernel_rfl)⟩

theorem wf_i64 {n : Int} (h : (Lit.int .i64 n).wf = true) : -9223372036854775808 ≤ n ∧ n ≤ 9223372036854775807 := by
  simp [Lit.wf, IntKind.min, IntKind.max, IntKind.signed, IntKind.bits] at h
  omega
set_option maxRecDepth 100000 in
/-- A moment that came in. -/
theorem open_mom {H : Type} {enc : TypeId × Value → H} {W : World} {v : Value} {dd : DataW H} {ps : List MemPlace} {b0 : Nat}
    (hok : Value.okWide Tryz.prog W .any b0 23 v) (hd : DataW.Trod enc Tryz.prog W 0 (fun _ => true) true 23 v dd ps) : ∃ y m d h n s z, v = mom y m d h n s z := by
  obtain ⟨cs, rfl, hsz⟩ := okWide_struct Tryz.underlying23 hok
  obtain ⟨fuel, hf0⟩ := hd
  have hf : DataW.trod enc Tryz.prog W 0 (fun _ => true) true fuel 23 cs.toList = some (dd, ps) := by simpa [Value.cells] using hf0
  obtain ⟨xs, k, _, _, hlc, hlen, hel⟩ := DataW.trod_struct Tryz.underlying23 hf
  have c3 : Tryz.prog.cellsOf 3 = 1 := by kernel_rfl
  have c23 : Tryz.prog.cellsOf 23 = 7 := by kernel_rfl
  rw [c23] at hlc
  have hlen7 : xs.length = 7 := hlen
  have h0 : DataW.trod enc Tryz.prog W 0 (fun _ => true) true k 3 ((cs.toList.drop 0).take (Tryz.prog.cellsOf 3)) = xs[0]? := hel 0 _ rfl
  have h1 : DataW.trod enc Tryz.prog W 0 (fun _ => true) true k 3 ((cs.toList.drop 1).take (Tryz.prog.cellsOf 3)) = xs[1]? := hel 1 _ rfl
  have h2 : DataW.trod enc Tryz.prog W 0 (fun _ => true) true k 3 ((cs.toList.drop 2).take (Tryz.prog.cellsOf 3)) = xs[2]? := hel 2 _ rfl
  have h3 : DataW.trod enc Tryz.prog W 0 (fun _ => true) true k 3 ((cs.toList.drop 3).take (Tryz.prog.cellsOf 3)) = xs[3]? := hel 3 _ rfl
  have h4 : DataW.trod enc Tryz.prog W 0 (fun _ => true) true k 3 ((cs.toList.drop 4).take (Tryz.prog.cellsOf 3)) = xs[4]? := hel 4 _ rfl
  have h5 : DataW.trod enc Tryz.prog W 0 (fun _ => true) true k 3 ((cs.toList.drop 5).take (Tryz.prog.cellsOf 3)) = xs[5]? := hel 5 _ rfl
  have h6 : DataW.trod enc Tryz.prog W 0 (fun _ => true) true k 3 ((cs.toList.drop 6).take (Tryz.prog.cellsOf 3)) = xs[6]? := hel 6 _ rfl
  rw [c3] at h0 h1 h2 h3 h4 h5 h6
  rw [List.getElem?_eq_getElem (by omega)] at h0 h1 h2 h3 h4 h5 h6
  obtain ⟨n0, e0, _, _⟩ := DataW.trod_int Tryz.underlying3 h0
  obtain ⟨n1, e1, _, _⟩ := DataW.trod_int Tryz.underlying3 h1
  obtain ⟨n2, e2, _, _⟩ := DataW.trod_int Tryz.underlying3 h2
  obtain ⟨n3, e3, _, _⟩ := DataW.trod_int Tryz.underlying3 h3
  obtain ⟨n4, e4, _, _⟩ := DataW.trod_int Tryz.underlying3 h4
  obtain ⟨n5, e5, _, _⟩ := DataW.trod_int Tryz.underlying3 h5
  obtain ⟨n6, e6, _, _⟩ := DataW.trod_int Tryz.underlying3 h6
  refine ⟨n0, n1, n2, n3, n4, n5, n6, ?_⟩
  have hcs : cs.toList = [.int .i64 n0, .int .i64 n1, .int .i64 n2, .int .i64 n3, .int .i64 n4, .int .i64 n5, .int .i64 n6] := by
    match hl : cs.toList, hlc with
    | [a0, a1, a2, a3, a4, a5, a6], _ =>
      rw [hl] at e0 e1 e2 e3 e4 e5 e6
      simp at e0 e1 e2 e3 e4 e5 e6
      rw [e0, e1, e2, e3, e4, e5, e6]
  unfold mom
  congr 1
  exact Array.ext' hcs
end Go.Proofs.YtckdmbeokajdjaaGreatDoor
