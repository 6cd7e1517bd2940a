/- The frame of stage 11's rows: the program's tables, a start that fits, what a row's world gives; rows of texts as an argument. -/
import Derived.Test.YtbncaiocmklgnaaGreatDoorV11s
import Derived.Test.YtbncaiocmklgnaaGreatDoorRows
import Derived.Lib.LaidIn
import Derived.Lib.LaidU8
import Derived.Lib.LaidU8T
import Derived.Deep.DeepHandedRow
import Derived.ProofKit
import Derived.SizedLaws
import Derived.PinnedBridge
import Derived.OpenShut
import Derived.ChangeSame
import Derived.Lay
import Derived.MakeChecks
import Derived.Carry
import Derived.SliceStrings
import Derived.Shelf.Vars
namespace Go.Proofs.YtbncaiocmklgnaaGreatDoor
open Go.Shelf Go.ChangeShapes Go.WideShapes Go.ChangeAt Go.RowKit Go.Lib
open Go.ChangeMaps (open_string shut_string)

theorem Tryz.own : ownKnob Tryz.prog.godebug = none := by kernel_rfl
theorem Tryz.laidOutP : laidOutB Tryz.prog = true := by kernel_rfl
/-- What the rows list: the same tables in each. -/
def laidL : List (String × DataW Unit) := Rows.eventFormedRow.laid
theorem laid_fits (os : Os) : (World.holding Tryz.prog os ⟨#[], #[], []⟩).layFits Tryz.prog laidL [] = true := by kernel_rfl
theorem laid_ifaces (os : Os) : (World.holding Tryz.prog os ⟨#[], #[], []⟩).layIfaces Tryz.prog laidL (World.laidAll Tryz.prog os laidL) = true := by kernel_rfl
theorem laid_met (os : Os) (args : Array Value) : laidMet Tryz.prog laidL ((World.laidAll Tryz.prog os laidL).forCall (fun _ _ => 0) ⟨#[], args, []⟩).memory :=
  laidMet_laidAll _ (laid_fits os) (laid_ifaces os)
theorem witness_row_sh {H : Type} {enc : TypeId × Value → H} {C : Checked} {os : Os} {f : FuncId} {fn : Func} {s : OpenSpec} {conds : List PathCond} {apart : Bool} {laid : List (String × DataW Unit)} (w0 : World) (args : Array Value) (hos : w0.os = os)
    (hsh : (w0.forCall (fun _ _ => 0) ⟨#[], args, []⟩).Shaped C.prog)
    (hok : Input.okWideB C.prog (w0.forCall (fun _ _ => 0) ⟨#[], args, []⟩) f ⟨#[], args, []⟩ = true)
    (hrow : s.preRow enc C.prog fn conds apart laid (w0.forCall (fun _ _ => 0) ⟨#[], args, []⟩).memory args) :
    ∃ (w : World) (tape : Tape) (i : Input), w.os = os ∧ (w.forCall tape i).Shaped C.prog ∧ i.vars = [] ∧ Input.okWide C.prog (w.forCall tape i) .any w.heap.size f i ∧
      s.preRow enc C.prog fn conds apart laid (w.forCall tape i).memory i.args ∧ ({} : Assume).holds C.prog (lone (Frame.enter C.prog f i.args .normal) [] (w.forCall tape i)) :=
  ⟨w0, fun _ _ => 0, ⟨#[], args, []⟩, hos, hsh, (Input.okWide_of_okWideB (base := 0) hok).1, (Input.okWide_of_okWideB hok).2, hrow, by
    simp only [Assume.holds]
    exact ⟨by simp, by simp, fun _ => Modest.zero, by simp, by simp⟩⟩
theorem wf_i64 {n : Int} (h : (Lit.int .i64 n).wf = true) : -9223372036854775808 ≤ n ∧ n ≤ 9223372036854775807 := by
  simp [Lit.wf, IntKind.min, IntKind.max, IntKind.signed, IntKind.bits] at h
  omega
theorem laid_plain : laidMetH Tryz.prog laidL = laidMet Tryz.prog laidL := by
  funext W
  exact MakeChecks.laidMetH_plain _ _ _ (by kernel_rfl)
theorem laid_acc : ("unicode/utf8.acceptRanges", (Lib.acceptData : DataW Unit)) ∈ laidL := List.mem_of_getElem? (i := laidL.findIdx (fun x => x.1 == "unicode/utf8.acceptRanges")) (by kernel_rfl)
theorem laid_first : ("unicode/utf8.first", (Lib.firstData : DataW Unit)) ∈ laidL := List.mem_of_getElem? (i := laidL.findIdx (fun x => x.1 == "unicode/utf8.first")) (by kernel_rfl)
theorem laid_sys : ("postbag/event.systemFlags", (Rows.laid_postbag_event_systemFlags : DataW Unit)) ∈ laidL := List.mem_of_getElem? (i := laidL.findIdx (fun x => x.1 == "postbag/event.systemFlags")) (by kernel_rfl)
theorem Tryz.cellsPair : Tryz.prog.cellsOf 82 = 2 := by kernel_rfl
theorem Tryz.cellsStrI : Tryz.prog.cellsOf 9 = 1 := by kernel_rfl
theorem Tryz.cellsIntI : Tryz.prog.cellsOf 3 = 1 := by kernel_rfl
theorem Tryz.cellsSys : Tryz.prog.cellsOf 83 = 10 := by kernel_rfl
set_option maxRecDepth 100000 in
theorem pair_of {W : World} {m : Nat} {cs : List Value} {x : DataW Unit × List MemPlace} {l : List UInt8} {b : Int} (h : DataW.trod (fun _ => ()) Tryz.prog W 0 (fun _ => true) false m 82 cs = some x) (hx : x.1 = .agg [.lit (.string l), .lit (.int .i64 b)]) : cs = [.string (S l), .int .i64 b] := by
  obtain ⟨y0, y1, n, rfl, hl, h0, h1⟩ := trod_struct2 Tryz.underlying82 h
  rw [Tryz.cellsPair] at hl
  obtain ⟨s, e0, rfl, _⟩ := DataW.trod_string Tryz.underlying9 h0
  obtain ⟨k, e1, rfl, _⟩ := DataW.trod_int Tryz.underlying3 h1
  simp only [DataW.agg.injEq, List.cons.injEq, DataW.lit.injEq, Lit.string.injEq, Lit.int.injEq, true_and, and_true] at hx
  obtain ⟨hx0, hx1⟩ := hx
  subst hx1
  rw [Tryz.cellsStrI] at e0
  rw [Tryz.cellsIntI] at e1
  match cs, hl with
  | [c0, c1], _ =>
    simp at e0 e1
    rw [e0, e1, ← hx0]
    rfl
set_option maxRecDepth 100000 in
theorem sys_of_reads {W : World} (h : VarReads Tryz.prog W "postbag/event.systemFlags" Rows.laid_postbag_event_systemFlags) : EnvF W := by
  obtain ⟨g', t', cs, fuel, p, hg', ht', hvar, hd⟩ := h
  obtain rfl := Option.some.inj ((show Tryz.prog.globalNamed "postbag/event.systemFlags" = some 0 by kernel_rfl).symm.trans hg')
  obtain rfl := Option.some.inj ((show (Tryz.prog.globals[0]?).map (·.type) = some 83 by kernel_rfl).symm.trans ht')
  obtain ⟨xs, k, _, hx, hl, hxl, hel⟩ := DataW.trod_array Tryz.underlying83 hd
  rw [Tryz.cellsSys] at hl
  have hcs : cs = sysA := by
    match xs, hxl with
    | [x0, x1, x2, x3, x4], _ =>
      have hx1 := congrArg Prod.fst hx
      unfold Rows.laid_postbag_event_systemFlags at hx1
      simp only [List.map_cons, List.map_nil, DataW.agg.injEq, List.cons.injEq, and_true] at hx1
      obtain ⟨q0, q1, q2, q3, q4⟩ := hx1
      have p0 := pair_of (hel 0 (by decide)) q0.symm
      have p1 := pair_of (hel 1 (by decide)) q1.symm
      have p2 := pair_of (hel 2 (by decide)) q2.symm
      have p3 := pair_of (hel 3 (by decide)) q3.symm
      have p4 := pair_of (hel 4 (by decide)) q4.symm
      rw [Tryz.cellsPair] at p0 p1 p2 p3 p4
      apply Array.ext'
      generalize cs.toList = l at *
      match l, hl with
      | [c0, c1, c2, c3, c4, c5, c6, c7, c8, c9], _ =>
        simp at p0 p1 p2 p3 p4
        rw [p0.1, p0.2, p1.1, p1.2, p2.1, p2.2, p3.1, p3.2, p4.1, p4.2]
        rfl
  unfold World.var? at hvar
  rw [hg'] at hvar
  simp only [Option.bind_some] at hvar
  split at hvar
  · rename_i cs' t fr hh
    obtain rfl := Option.some.inj hvar
    exact ⟨t, fr, by rw [hh, hcs]⟩
  · cases hvar
theorem env_of {W : World} (hL : laidMetH Tryz.prog laidL W) (hsh : W.ShapedOpen Tryz.prog) : Env2 W := by
  have hm := cell_of_shapedOpen_int (g := 1) (t := 3) (k := .i64) (zero := #[.int .i64 0]) hsh (of_decide_eq_true (by kernel_rfl)) (by kernel_rfl) rfl (by kernel_rfl) (by kernel_rfl) Tryz.underlying3
  rw [laid_plain] at hL
  obtain ⟨m, hm⟩ := hm
  exact ⟨⟨⟨m, hm⟩, utf8Tabs_of_readsT (U8Types.of196 Tryz.lays196) ⟨by kernel_rfl, by kernel_rfl, by kernel_rfl, by kernel_rfl, by kernel_rfl, by kernel_rfl, by kernel_rfl⟩ (Lib.laidMet.reads hL laid_first) (Lib.laidMet.reads hL laid_acc), block_lt_of_cell hm⟩, sys_of_reads (Lib.laidMet.reads hL laid_sys)⟩
theorem weights_strs {H : Type} (ss : List ByteArray) (e : TypeId) (s : ByteArray) (h : s ∈ ss) : s.data.toList.length ∈ DataW.weightsAll (H := H) Tryz.prog e (strs ss) := by
  induction ss with
  | nil => cases h
  | cons a r ih =>
    show _ ∈ DataW.weightsAll Tryz.prog e (DataW.lit (.string a.data.toList) :: strs r)
    rw [DataW.weightsAll, List.mem_append]
    rcases List.mem_cons.1 h with rfl | h
    · left; simp [DataW.weights]
    · right; exact ih h
theorem Tryz.cellsStr : Tryz.prog.cellsOf 9 = 1 := by kernel_rfl
theorem Tryz.bytesStr : Tryz.prog.bytesOf 9 = 16 := by kernel_rfl

set_option maxRecDepth 100000 in
theorem open_strs_arg {H : Type} {enc : TypeId × Value → H} {W : World} {v : Value} {d : DataW H} {p : List MemPlace} {base : Nat} {ts : List TypeId} {ds : List (DataW H)} {j : Nat}
    (hok : Value.okWide Tryz.prog W .any base 22 v) (h0 : DataW.Trod enc Tryz.prog W 0 (fun _ => true) true 22 v d p)
    (hsz : (DataW.weightsEach Tryz.prog ts ds).all (· ≤ reachBytes) = true) (ht : ts[j]? = some 22) (hd : ds[j]? = some d) :
    ∃ ss, (Strs W v ss ∧ (∀ c, v = .slice none 0 c → c = 0) ∧ ∀ a n c, v = .slice a n c → n ≤ c) ∧ ∀ i, i < ss.length → (ss.getD i ByteArray.empty).size ≤ 140737488355328 := by
  obtain ⟨ao, len, cap, rfl⟩ := okWide_slice Tryz.underlying22 hok
  obtain ⟨fuel, hf0⟩ := h0
  have hf : DataW.trod enc Tryz.prog W 0 (fun _ => true) true fuel 22 [.slice ao len cap] = some (d, p) := by simpa [Value.cells] using hf0
  rcases open_strings Tryz.underlying22 Tryz.underlying9 Tryz.cellsStr hf with ⟨hcs, hx⟩ | ⟨a, len', cap', ss, hcs, _, hl, hm, hz, hx, hcell, _⟩
  · simp at hcs
    obtain ⟨rfl, rfl, rfl⟩ := hcs
    exact ⟨[], ⟨.inl ⟨rfl, _, _, rfl⟩, fun c e => by cases e; rfl, fun a n c e => by cases e; exact Nat.zero_le _⟩, fun i hi => by simp at hi⟩
  · simp at hcs
    obtain ⟨rfl, rfl, rfl⟩ := hcs
    simp only [if_true] at hz
    have hd0 : d = .slice (strs (ss.take len)) (strs (ss.drop len)) := congrArg Prod.fst hx
    subst hd0
    have hreach := sized_slice hsz ht hd Tryz.underlying22
    rw [Tryz.bytesStr] at hreach
    have hlen : (ss.take len).length = len := by rw [List.length_take]; omega
    have hr : len ≤ 140737488355328 := by
      simp only [strs, List.length_map, List.length_take, List.length_drop, reachBytes] at hreach
      omega
    have hstr : ∀ i, i < (ss.take len).length → ((ss.take len).getD i ByteArray.empty).size ≤ 140737488355328 := by
      intro i hi
      have hmem : (ss.take len).getD i ByteArray.empty ∈ ss.take len := by
        rw [List.getD_eq_getElem?_getD, List.getElem?_eq_getElem hi]; exact List.getElem_mem hi
      have hw := weights_strs (H := H) (ss.take len) 9 _ hmem
      have := List.all_eq_true.1 hsz _ (DataW.weights_mem_each ht hd _ (by
        simp only [DataW.weights, Tryz.underlying22]
        exact List.mem_cons_of_mem _ (List.mem_append_left _ hw)))
      have h2 : ((ss.take len).getD i ByteArray.empty).data.toList.length ≤ reachBytes := by simpa using this
      unfold reachBytes at h2
      rw [← Lib.size_eq] at h2
      omega
    by_cases h0 : len = 0
    · subst h0
      exact ⟨[], ⟨.inl ⟨rfl, _, _, rfl⟩, (fun c e => by cases e), fun a n c e => by cases e; exact Nat.zero_le _⟩, fun i hi => by simp at hi⟩
    · obtain ⟨b, off, spot⟩ := a
      have hspot : spot = none := by simpa [Addr.add] using World.cell?_spot (hcell 0 (by omega))
      subst hspot
      refine ⟨ss.take len, ⟨.inr ⟨b, off, cap, by rw [hlen], by omega, ?_, fun i hi => ?_⟩, (fun c e => by cases e), fun a n c e => by cases e; omega⟩, hstr⟩
      · exact block_lt_of_cell (hcell 0 (by omega))
      · have := hcell i (by omega)
        have e : (⟨b, off, none⟩ : Addr).add i = ⟨b, off + i, none⟩ := by
          unfold Addr.add; split
          · rename_i h; rw [h]; rfl
          · rfl
        rw [e] at this
        rw [this]
        congr 2
        rw [List.getD_eq_getElem?_getD, List.getD_eq_getElem?_getD, List.getElem?_take]
        rw [if_pos (by omega)]
end Go.Proofs.YtbncaiocmklgnaaGreatDoor
