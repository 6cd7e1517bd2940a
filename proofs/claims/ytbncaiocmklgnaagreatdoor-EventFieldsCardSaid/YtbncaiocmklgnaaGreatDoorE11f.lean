/- The frame of stage 11's rows: the program's tables, a start that fits, what a row's world gives; rows of texts as an argument. -/
import Derived.Test.YtbncaiocmklgnaaGreatDoorV11s
import Derived.Test.YtbncaiocmklgnaaGreatDoorRows
import Derived.Lib.LaidIn
import Derived.Lib.LaidU8
import Derived.Lib.LaidU8T
import Derived.Deep.DeepHandedRow
import Derived.ProofKit
import Derived.SizedLaws
import Derived.PinnedBridge
import Derived.OpenShut
import Derived.ChangeSame
import Derived.Lay
import Derived.MakeChecks
import Derived.Carry
import Derived.SliceStrings
import Derived.Shelf.Vars
import Derived.Test.YtbncaiocmklgnaaGreatDoorC11u
import Derived.Deep.Slices
namespace Go.Proofs.YtbncaiocmklgnaaGreatDoor
open Go.Shelf Go.ChangeShapes Go.WideShapes Go.ChangeAt Go.RowKit Go.Lib
open Go.ChangeMaps (open_string shut_string)

theorem Tryz.own : ownKnob Tryz.prog.godebug = none := by kernel_rfl
theorem Tryz.laidOutP : laidOutB Tryz.prog = true := by kernel_rfl
/-- What the rows list: the same tables in each. -/
def laidL : List (String × DataW Unit) := Rows.eventFormedRow.laid
theorem laid_fits (os : Os) : (World.holding Tryz.prog os ⟨#[], #[], []⟩).layFits Tryz.prog laidL [] = true := by kernel_rfl
theorem laid_ifaces (os : Os) : (World.holding Tryz.prog os ⟨#[], #[], []⟩).layIfaces Tryz.prog laidL (World.laidAll Tryz.prog os laidL) = true := by kernel_rfl
theorem laid_met (os : Os) (args : Array Value) : laidMet Tryz.prog laidL ((World.laidAll Tryz.prog os laidL).forCall (fun _ _ => 0) ⟨#[], args, []⟩).memory :=
  laidMet_laidAll _ (laid_fits os) (laid_ifaces os)
theorem witness_row_sh {H : Type} {enc : TypeId × Value → H} {C : Checked} {os : Os} {f : FuncId} {fn : Func} {s : OpenSpec} {conds : List PathCond} {apart : Bool} {laid : List (String × DataW Unit)} (w0 : World) (args : Array Value) (hos : w0.os = os)
    (hsh : (w0.forCall (fun _ _ => 0) ⟨#[], args, []⟩).Shaped C.prog)
    (hok : Input.okWideB C.prog (w0.forCall (fun _ _ => 0) ⟨#[], args, []⟩) f ⟨#[], args, []⟩ = true)
    (hrow : s.preRow enc C.prog fn conds apart laid (w0.forCall (fun _ _ => 0) ⟨#[], args, []⟩).memory args) :
    ∃ (w : World) (tape : Tape) (i : Input), w.os = os ∧ (w.forCall tape i).Shaped C.prog ∧ i.vars = [] ∧ Input.okWide C.prog (w.forCall tape i) .any w.heap.size f i ∧
      s.preRow enc C.prog fn conds apart laid (w.forCall tape i).memory i.args ∧ ({} : Assume).holds C.prog (lone (Frame.enter C.prog f i.args .normal) [] (w.forCall tape i)) :=
  ⟨w0, fun _ _ => 0, ⟨#[], args, []⟩, hos, hsh, (Input.okWide_of_okWideB (base := 0) hok).1, (Input.okWide_of_okWideB hok).2, hrow, by
    simp only [Assume.holds]
    exact ⟨by simp, by simp, fun _ => Modest.zero, by simp, by simp⟩⟩
theorem wf_i64 {n : Int} (h : (Lit.int .i64 n).wf = true) : -9223372036854775808 ≤ n ∧ n ≤ 9223372036854775807 := by
  simp [Lit.wf, IntKind.min, IntKind.max, IntKind.signed, IntKind.bits] at h
  omega
theorem laid_plain : laidMetH Tryz.prog laidL = laidMet Tryz.prog laidL := by
  funext W
  exact MakeChecks.laidMetH_plain _ _ _ (by kernel_rfl)
theorem laid_acc : ("unicode/utf8.acceptRanges", (Lib.acceptData : DataW Unit)) ∈ laidL := List.mem_of_getElem? (i := laidL.findIdx (fun x => x.1 == "unicode/utf8.acceptRanges")) (by kernel_rfl)
theorem laid_first : ("unicode/utf8.first", (Lib.firstData : DataW Unit)) ∈ laidL := List.mem_of_getElem? (i := laidL.findIdx (fun x => x.1 == "unicode/utf8.first")) (by kernel_rfl)
theorem laid_sys : ("postbag/event.systemFlags", (Rows.laid_postbag_event_systemFlags : DataW Unit)) ∈ laidL := List.mem_of_getElem? (i := laidL.findIdx (fun x => x.1 == "postbag/event.systemFlags")) (by kernel_rfl)
theorem Tryz.cellsPair : Tryz.prog.cellsOf 82 = 2 := by kernel_rfl
theorem Tryz.cellsStrI : Tryz.prog.cellsOf 9 = 1 := by kernel_rfl
theorem Tryz.cellsIntI : Tryz.prog.cellsOf 3 = 1 := by kernel_rfl
theorem Tryz.cellsSys : Tryz.prog.cellsOf 83 = 10 := by kernel_rfl
set_option maxRecDepth 100000 in
theorem pair_of {W : World} {m : Nat} {cs : List Value} {x : DataW Unit × List MemPlace} {l : List UInt8} {b : Int} (h : DataW.trod (fun _ => ()) Tryz.prog W 0 (fun _ => true) false m 82 cs = some x) (hx : x.1 = .agg [.lit (.string l), .lit (.int .i64 b)]) : cs = [.string (S l), .int .i64 b] := by
  obtain ⟨y0, y1, n, rfl, hl, h0, h1⟩ := trod_struct2 Tryz.underlying82 h
  rw [Tryz.cellsPair] at hl
  obtain ⟨s, e0, rfl, _⟩ := DataW.trod_string Tryz.underlying9 h0
  obtain ⟨k, e1, rfl, _⟩ := DataW.trod_int Tryz.underlying3 h1
  simp only [DataW.agg.injEq, List.cons.injEq, DataW.lit.injEq, Lit.string.injEq, Lit.int.injEq, true_and, and_true] at hx
  obtain ⟨hx0, hx1⟩ := hx
  subst hx1
  rw [Tryz.cellsStrI] at e0
  rw [Tryz.cellsIntI] at e1
  match cs, hl with
  | [c0, c1], _ =>
    simp at e0 e1
    rw [e0, e1, ← hx0]
    rfl
set_option maxRecDepth 100000 in
theorem sys_of_reads {W : World} (h : VarReads Tryz.prog W "postbag/event.systemFlags" Rows.laid_postbag_event_systemFlags) : EnvF W := by
  obtain ⟨g', t', cs, fuel, p, hg', ht', hvar, hd⟩ := h
  obtain rfl := Option.some.inj ((show Tryz.prog.globalNamed "postbag/event.systemFlags" = some 0 by kernel_rfl).symm.trans hg')
  obtain rfl := Option.some.inj ((show (Tryz.prog.globals[0]?).map (·.type) = some 83 by kernel_rfl).symm.trans ht')
  obtain ⟨xs, k, _, hx, hl, hxl, hel⟩ := DataW.trod_array Tryz.underlying83 hd
  rw [Tryz.cellsSys] at hl
  have hcs : cs = sysA := by
    match xs, hxl with
    | [x0, x1, x2, x3, x4], _ =>
      have hx1 := congrArg Prod.fst hx
      unfold Rows.laid_postbag_event_systemFlags at hx1
      simp only [List.map_cons, List.map_nil, DataW.agg.injEq, List.cons.injEq, and_true] at hx1
      obtain ⟨q0, q1, q2, q3, q4⟩ := hx1
      have p0 := pair_of (hel 0 (by decide)) q0.symm
      have p1 := pair_of (hel 1 (by decide)) q1.symm
      have p2 := pair_of (hel 2 (by decide)) q2.symm
      have p3 := pair_of (hel 3 (by decide)) q3.symm
      have p4 := pair_of (hel 4 (by decide)) q4.symm
      rw [Tryz.cellsPair] at p0 p1 p2 p3 p4
      apply Array.ext'
      generalize cs.toList = l at *
      match l, hl with
      | [c0, c1, c2, c3, c4, c5, c6, c7, c8, c9], _ =>
        simp at p0 p1 p2 p3 p4
        rw [p0.1, p0.2, p1.1, p1.2, p2.1, p2.2, p3.1, p3.2, p4.1, p4.2]
        rfl
  unfold World.var? at hvar
  rw [hg'] at hvar
  simp only [Option.bind_some] at hvar
  split at hvar
  · rename_i cs' t fr hh
    obtain rfl := Option.some.inj hvar
    exact ⟨t, fr, by rw [hh, hcs]⟩
  · cases hvar
theorem env_of {W : World} (hL : laidMetH Tryz.prog laidL W) (hsh : W.ShapedOpen Tryz.prog) : Env2 W := by
  have hm := cell_of_shapedOpen_int (g := 1) (t := 3) (k := .i64) (zero := #[.int .i64 0]) hsh (of_decide_eq_true (by kernel_rfl)) (by kernel_rfl) rfl (by kernel_rfl) (by kernel_rfl) Tryz.underlying3
  rw [laid_plain] at hL
  obtain ⟨m, hm⟩ := hm
  exact ⟨⟨⟨m, hm⟩, utf8Tabs_of_readsT (U8Types.of196 Tryz.lays196) ⟨by kernel_rfl, by kernel_rfl, by kernel_rfl, by kernel_rfl, by kernel_rfl, by kernel_rfl, by kernel_rfl⟩ (Lib.laidMet.reads hL laid_first) (Lib.laidMet.reads hL laid_acc), block_lt_of_cell hm⟩, sys_of_reads (Lib.laidMet.reads hL laid_sys)⟩
theorem weights_strs {H : Type} (ss : List ByteArray) (e : TypeId) (s : ByteArray) (h : s ∈ ss) : s.data.toList.length ∈ DataW.weightsAll (H := H) Tryz.prog e (strs ss) := by
  induction ss with
  | nil => cases h
  | cons a r ih =>
    show _ ∈ DataW.weightsAll Tryz.prog e (DataW.lit (.string a.data.toList) :: strs r)
    rw [DataW.weightsAll, List.mem_append]
    rcases List.mem_cons.1 h with rfl | h
    · left; simp [DataW.weights]
    · right; exact ih h
theorem Tryz.cellsStr : Tryz.prog.cellsOf 9 = 1 := by kernel_rfl
theorem Tryz.bytesStr : Tryz.prog.bytesOf 9 = 16 := by kernel_rfl

set_option maxRecDepth 100000 in
theorem open_strs_arg {H : Type} {enc : TypeId × Value → H} {W : World} {v : Value} {d : DataW H} {p : List MemPlace} {base : Nat} {ts : List TypeId} {ds : List (DataW H)} {j : Nat}
    (hok : Value.okWide Tryz.prog W .any base 22 v) (h0 : DataW.Trod enc Tryz.prog W 0 (fun _ => true) true 22 v d p)
    (hsz : (DataW.weightsEach Tryz.prog ts ds).all (· ≤ reachBytes) = true) (ht : ts[j]? = some 22) (hd : ds[j]? = some d) :
    ∃ ss, (Strs W v ss ∧ (∀ c, v = .slice none 0 c → c = 0) ∧ ∀ a n c, v = .slice a n c → n ≤ c) ∧ ∀ i, i < ss.length → (ss.getD i ByteArray.empty).size ≤ 140737488355328 := by
  obtain ⟨ao, len, cap, rfl⟩ := okWide_slice Tryz.underlying22 hok
  obtain ⟨fuel, hf0⟩ := h0
  have hf : DataW.trod enc Tryz.prog W 0 (fun _ => true) true fuel 22 [.slice ao len cap] = some (d, p) := by simpa [Value.cells] using hf0
  rcases open_strings Tryz.underlying22 Tryz.underlying9 Tryz.cellsStr hf with ⟨hcs, hx⟩ | ⟨a, len', cap', ss, hcs, _, hl, hm, hz, hx, hcell, _⟩
  · simp at hcs
    obtain ⟨rfl, rfl, rfl⟩ := hcs
    exact ⟨[], ⟨.inl ⟨rfl, _, _, rfl⟩, fun c e => by cases e; rfl, fun a n c e => by cases e; exact Nat.zero_le _⟩, fun i hi => by simp at hi⟩
  · simp at hcs
    obtain ⟨rfl, rfl, rfl⟩ := hcs
    simp only [if_true] at hz
    have hd0 : d = .slice (strs (ss.take len)) (strs (ss.drop len)) := congrArg Prod.fst hx
    subst hd0
    have hreach := sized_slice hsz ht hd Tryz.underlying22
    rw [Tryz.bytesStr] at hreach
    have hlen : (ss.take len).length = len := by rw [List.length_take]; omega
    have hr : len ≤ 140737488355328 := by
      simp only [strs, List.length_map, List.length_take, List.length_drop, reachBytes] at hreach
      omega
    have hstr : ∀ i, i < (ss.take len).length → ((ss.take len).getD i ByteArray.empty).size ≤ 140737488355328 := by
      intro i hi
      have hmem : (ss.take len).getD i ByteArray.empty ∈ ss.take len := by
        rw [List.getD_eq_getElem?_getD, List.getElem?_eq_getElem hi]; exact List.getElem_mem hi
      have hw := weights_strs (H := H) (ss.take len) 9 _ hmem
      have := List.all_eq_true.1 hsz _ (DataW.weights_mem_each ht hd _ (by
        simp only [DataW.weights, Tryz.underlying22]
        exact List.mem_cons_of_mem _ (List.mem_append_left _ hw)))
      have h2 : ((ss.take len).getD i ByteArray.empty).data.toList.length ≤ reachBytes := by simpa using this
      unfold reachBytes at h2
      rw [← Lib.size_eq] at h2
      omega
    by_cases h0 : len = 0
    · subst h0
      exact ⟨[], ⟨.inl ⟨rfl, _, _, rfl⟩, (fun c e => by cases e), fun a n c e => by cases e; exact Nat.zero_le _⟩, fun i hi => by simp at hi⟩
    · obtain ⟨b, off, spot⟩ := a
      have hspot : spot = none := by simpa [Addr.add] using World.cell?_spot (hcell 0 (by omega))
      subst hspot
      refine ⟨ss.take len, ⟨.inr ⟨b, off, cap, by rw [hlen], by omega, ?_, fun i hi => ?_⟩, (fun c e => by cases e), fun a n c e => by cases e; omega⟩, hstr⟩
      · exact block_lt_of_cell (hcell 0 (by omega))
      · have := hcell i (by omega)
        have e : (⟨b, off, none⟩ : Addr).add i = ⟨b, off + i, none⟩ := by
          unfold Addr.add; split
          · rename_i h; rw [h]; rfl
          · rfl
        rw [e] at this
        rw [this]
        congr 2
        rw [List.getD_eq_getElem?_getD, List.getD_eq_getElem?_getD, List.getElem?_take]
        rw [if_pos (by omega)]
end Go.Proofs.YtbncaiocmklgnaaGreatDoor

/- Rows of stage 11: an event as an argument. -/
namespace Go.Proofs.YtbncaiocmklgnaaGreatDoor
open Go.Shelf Go.ChangeShapes Go.WideShapes Go.ChangeAt Go.RowKit Go.Lib
open Go.ChangeMaps (open_string shut_string)

theorem Tryz.cellsMark : Tryz.prog.cellsOf 39 = 2 := by kernel_rfl
theorem Tryz.bytesMark : Tryz.prog.bytesOf 39 = 32 := by kernel_rfl
theorem Tryz.bytesInt : Tryz.prog.bytesOf 3 = 8 := by kernel_rfl
theorem Tryz.cellsStrs : Tryz.prog.cellsOf 22 = 1 := by kernel_rfl
theorem Tryz.cellsInts : Tryz.prog.cellsOf 30 = 1 := by kernel_rfl
theorem Tryz.cellsMarks : Tryz.prog.cellsOf 31 = 1 := by kernel_rfl
theorem Tryz.cellsMomE : Tryz.prog.cellsOf 33 = 7 := by kernel_rfl
theorem Tryz.cellsEv : Tryz.prog.cellsOf 35 = 18 := by kernel_rfl
theorem add_noneE (b off i : Nat) : (⟨b, off, none⟩ : Addr).add i = ⟨b, off + i, none⟩ := by rw [Addr.add_lit]
theorem weightsAll_memE {H : Type} {P : Program} {t : TypeId} : ∀ {l : List (DataW H)} {d : DataW H} {x : Nat}, d ∈ l → x ∈ d.weights P t → x ∈ DataW.weightsAll P t l
  | e :: l, d, x, hd, hx => by
    simp only [DataW.weightsAll, List.mem_append]
    rcases List.mem_cons.1 hd with rfl | hd
    · exact .inl hx
    · exact .inr (weightsAll_memE hd hx)
set_option maxRecDepth 100000 in
theorem open_strs_f {H : Type} {enc : TypeId × Value → H} {W : World} {v : Value} {d : DataW H} {p : List MemPlace} {fuel : Nat}
    (hf : DataW.trod enc Tryz.prog W 0 (fun _ => true) true fuel 22 [v] = some (d, p)) (hw : ∀ x ∈ d.weights Tryz.prog 22, x ≤ reachBytes) :
    ∃ ss, Strs W v ss ∧ (∀ a n c, v = .slice a n c → n ≤ c) ∧ ∀ f, f ∈ ss → f.size ≤ 140737488355328 := by
  rcases open_strings Tryz.underlying22 Tryz.underlying9 Tryz.cellsStr hf with ⟨hcs, hx⟩ | ⟨a, len, cap, ss, hcs, _, hl, hm, hz, hx, hcell, _⟩
  · simp at hcs
    subst hcs
    exact ⟨[], .inl ⟨rfl, _, _, rfl⟩, (fun a n c e => by cases e; exact Nat.zero_le _), fun f hf => by cases hf⟩
  · simp at hcs
    subst hcs
    simp only [if_true] at hz
    have hd0 : d = .slice (strs (ss.take len)) (strs (ss.drop len)) := congrArg Prod.fst hx
    subst hd0
    have hreach := hw _ (by simp only [DataW.weights, Tryz.underlying22, Tryz.bytesStr]; exact List.mem_cons_self)
    have hlen : (ss.take len).length = len := by rw [List.length_take]; omega
    have hr : len ≤ 140737488355328 := by
      simp only [strs, List.length_map, List.length_take, List.length_drop, reachBytes] at hreach
      omega
    have hstr : ∀ f, f ∈ ss.take len → f.size ≤ 140737488355328 := by
      intro f hf
      have h2 := hw _ (by
        simp only [DataW.weights, Tryz.underlying22]
        exact List.mem_cons_of_mem _ (List.mem_append_left _ (weights_strs (H := H) (ss.take len) 9 f hf)))
      unfold reachBytes at h2
      rw [← Lib.size_eq] at h2
      omega
    by_cases h0 : len = 0
    · subst h0
      exact ⟨[], .inl ⟨rfl, _, _, rfl⟩, (fun a n c e => by cases e; exact Nat.zero_le _), fun f hf => by cases hf⟩
    · obtain ⟨b, off, spot⟩ := a
      have hspot : spot = none := by simpa [Addr.add] using World.cell?_spot (hcell 0 (by omega))
      subst hspot
      refine ⟨ss.take len, .inr ⟨b, off, cap, by rw [hlen], by omega, block_lt_of_cell (hcell 0 (by omega)), fun i hi => ?_⟩, (fun a n c e => by cases e; omega), hstr⟩
      have := hcell i (by omega)
      rw [add_noneE] at this
      rw [this]
      congr 2
      rw [List.getD_eq_getElem?_getD, List.getD_eq_getElem?_getD, List.getElem?_take]
      rw [if_pos (by omega)]
set_option maxRecDepth 100000 in
theorem open_ints_f {H : Type} {enc : TypeId × Value → H} {W : World} {v : Value} {d : DataW H} {p : List MemPlace} {fuel : Nat}
    (hf : DataW.trod enc Tryz.prog W 0 (fun _ => true) true fuel 30 [v] = some (d, p)) (hw : ∀ x ∈ d.weights Tryz.prog 30, x ≤ reachBytes) : ∃ l, Ints W v l := by
  rcases Deep.open_slice Tryz.underlying30 hf with ⟨hcs, hx⟩ | ⟨a, len, cap, m, n, D, Pl, hcs, _, hl, hm, hmm, hx, hall⟩
  · simp at hcs
    subst hcs
    exact ⟨[], .inl ⟨rfl, _, _, rfl⟩⟩
  · simp at hcs
    subst hcs
    simp only [if_true] at hmm
    subst hmm
    have hd0 : d = .slice ((List.range len).map D) ((List.range (m - len)).map fun j => D (len + j)) := congrArg Prod.fst hx
    subst hd0
    have hw1 := hw _ (by simp only [DataW.weights, Tryz.underlying30, Tryz.bytesInt, List.length_map, List.length_range]; exact List.mem_cons_self)
    unfold reachBytes at hw1
    have key : ∀ i, i < len → ∃ x : Int, W.cell? (a.add i) = some (.int .i64 x) := by
      intro i hi
      obtain ⟨cs', h1, h2⟩ := hall i (by omega)
      rw [Tryz.cellsIntI] at h1
      obtain ⟨_, hlen, hcc⟩ := World.cells?_some h1
      match cs', hlen with
      | [c0], _ =>
        obtain ⟨n0, e0, _, _⟩ := DataW.trod_int Tryz.underlying3 h2
        simp at e0
        subst e0
        have q0 := hcc 0 (by omega)
        rw [Deep.add_add] at q0
        exact ⟨n0, by simpa using q0⟩
    obtain ⟨f, hf'⟩ := Deep.choose_lt key
    by_cases h0 : len = 0
    · subst h0
      exact ⟨[], .inl ⟨rfl, _, _, rfl⟩⟩
    · obtain ⟨b, off, spot⟩ := a
      have hspot : spot = none := by simpa [Addr.add] using World.cell?_spot (hf' 0 (by omega))
      subst hspot
      refine ⟨(List.range len).map f, .inr ⟨b, off, m, by simp, by simp; omega, block_lt_of_cell (hf' 0 (by omega)), fun i hi => ?_⟩⟩
      have hi' : i < len := by simpa using hi
      have := hf' i hi'
      rw [add_noneE] at this
      rw [this]
      simp [hi']
set_option maxRecDepth 100000 in
theorem open_mark_f {H : Type} {enc : TypeId × Value → H} {W : World} {cs : List Value} {d : DataW H} {p : List MemPlace} {fuel : Nat}
    (hlen : cs.length = 2) (hf : DataW.trod enc Tryz.prog W 0 (fun _ => true) true fuel 39 cs = some (d, p)) (hw : ∀ x ∈ d.weights Tryz.prog 39, x ≤ reachBytes) :
    ∃ (u : Int) (fv : Value) (fl : List ByteArray), cs = [.int .i64 u, fv] ∧ Strs W fv fl ∧ ∀ f, f ∈ fl → f.size ≤ 140737488355328 := by
  obtain ⟨xs, k, hk, hxy, _, hxl, hg⟩ := DataW.trod_struct Tryz.underlying39 hf
  match xs, hxl, cs, hlen with
  | [y0, y1], _, [c0, c1], _ =>
    have g0 := hg 0 _ rfl
    have g1 := hg 1 _ rfl
    simp [Tryz.cellsIntI, Tryz.cellsStrs] at g0 g1
    have hd0 : d = .agg [y0.1, y1.1] := congrArg Prod.fst hxy
    subst hd0
    simp only [DataW.weights, Tryz.underlying39] at hw
    obtain ⟨n0, e0, _, _⟩ := DataW.trod_int Tryz.underlying3 g0
    obtain ⟨fl, hs, _, hz⟩ := open_strs_f (d := y1.1) (p := y1.2) g1 (fun x hx => hw x (DataW.weights_mem_each (j := 1) rfl rfl _ hx))
    simp at e0
    subst e0
    exact ⟨n0, c1, fl, rfl, hs, hz⟩
set_option maxRecDepth 100000 in
theorem open_marks_f {H : Type} {enc : TypeId × Value → H} {W : World} {v : Value} {d : DataW H} {p : List MemPlace} {fuel : Nat}
    (hf : DataW.trod enc Tryz.prog W 0 (fun _ => true) true fuel 31 [v] = some (d, p)) (hw : ∀ x ∈ d.weights Tryz.prog 31, x ≤ reachBytes) :
    ∃ l, Mks W v l ∧ ∀ m, m ∈ l → ∀ f, f ∈ m.2 → f.size ≤ 140737488355328 := by
  rcases Deep.open_slice Tryz.underlying31 hf with ⟨hcs, hx⟩ | ⟨a, len, cap, m, n, D, Pl, hcs, _, hl, hm, hmm, hx, hall⟩
  · simp at hcs
    subst hcs
    exact ⟨[], .inl ⟨rfl, _, _, rfl⟩, fun m hm => by cases hm⟩
  · simp at hcs
    subst hcs
    simp only [if_true] at hmm
    subst hmm
    have hd0 : d = .slice ((List.range len).map D) ((List.range (m - len)).map fun j => D (len + j)) := congrArg Prod.fst hx
    subst hd0
    have hw1 := hw _ (by simp only [DataW.weights, Tryz.underlying31, Tryz.bytesMark, List.length_map, List.length_range]; exact List.mem_cons_self)
    unfold reachBytes at hw1
    have key : ∀ i, i < len → ∃ q : Int × List ByteArray, (W.cell? (a.add (i * 2)) = some (.int .i64 q.1) ∧ ∃ fv, W.cell? (a.add (i * 2 + 1)) = some fv ∧ Strs W fv q.2) ∧ ∀ f, f ∈ q.2 → f.size ≤ 140737488355328 := by
      intro i hi
      obtain ⟨cs', h1, h2⟩ := hall i (by omega)
      rw [Tryz.cellsMark] at h1
      obtain ⟨_, hlen, hcc⟩ := World.cells?_some h1
      obtain ⟨u, fv, fl, hcs', hs, hz⟩ := open_mark_f hlen h2 (fun x hx => hw x (by
        simp only [DataW.weights, Tryz.underlying31]
        exact List.mem_cons_of_mem _ (List.mem_append_left _ (weightsAll_memE (d := D i) (List.mem_map.2 ⟨i, List.mem_range.2 hi, rfl⟩) hx))))
      subst hcs'
      have q0 := hcc 0 (by omega)
      have q1 := hcc 1 (by omega)
      rw [Deep.add_add] at q0 q1
      exact ⟨(u, fl), ⟨by simpa using q0, fv, by simpa using q1, hs⟩, hz⟩
    obtain ⟨f, hf'⟩ := Deep.choose_lt key
    by_cases h0 : len = 0
    · subst h0
      exact ⟨[], .inl ⟨rfl, _, _, rfl⟩, fun m hm => by cases hm⟩
    · obtain ⟨b, off, spot⟩ := a
      have hspot : spot = none := by simpa [Addr.add] using World.cell?_spot (hf' 0 (by omega)).1.1
      subst hspot
      refine ⟨(List.range len).map f, .inr ⟨b, off, m, by simp, by simp; omega, block_lt_of_cell (hf' 0 (by omega)).1.1, fun i hi => ?_⟩, fun m hm => ?_⟩
      · have hi' : i < len := by simpa using hi
        obtain ⟨⟨q0, fv, q1, hs⟩, _⟩ := hf' i hi'
        rw [add_noneE] at q0 q1
        have e : ((List.range len).map f).getD i (0, []) = f i := by simp [hi']
        rw [e]
        exact ⟨fv, q0, by rw [Nat.add_assoc]; exact q1, hs⟩
      · simp at hm
        obtain ⟨i, hi, rfl⟩ := hm
        exact (hf' i hi).2
set_option maxRecDepth 100000 in
set_option maxHeartbeats 2000000 in
theorem open_event_arg {H : Type} {enc : TypeId × Value → H} {W : World} {v : Value} {d : DataW H} {p : List MemPlace} {base : Nat} {ts : List TypeId} {ds : List (DataW H)} {j : Nat}
    (hok : Value.okWide Tryz.prog W .any base 35 v) (h0 : DataW.Trod enc Tryz.prog W 0 (fun _ => true) true 35 v d p)
    (hsz : (DataW.weightsEach Tryz.prog ts ds).all (· ≤ reachBytes) = true) (ht : ts[j]? = some 35) (hd : ds[j]? = some d) :
    ∃ e vn vb vu vm, v = .agg (evC e vn vb vu vm) ∧ Lst W e vn vb vu vm := by
  obtain ⟨cs, rfl, hcsz⟩ := okWide_struct Tryz.underlying35 hok
  obtain ⟨fuel, hf0⟩ := h0
  have hf : DataW.trod enc Tryz.prog W 0 (fun _ => true) true fuel 35 cs.toList = some (d, p) := by simpa [Value.cells] using hf0
  have hw : ∀ x ∈ d.weights Tryz.prog 35, x ≤ reachBytes := fun x hx => by
    have := List.all_eq_true.1 hsz _ (DataW.weights_mem_each ht hd _ hx)
    simpa using this
  obtain ⟨xs, k, hk, hxy, hlc, hxl, hg⟩ := DataW.trod_struct Tryz.underlying35 hf
  rw [Tryz.cellsEv] at hlc
  obtain ⟨cl, hcl⟩ : ∃ cl, cs.toList = cl := ⟨_, rfl⟩
  rw [hcl] at hlc hg
  match xs, hxl, cl, hlc with
  | [y0, y1, y2, y3, y4, y5, y6, y7, y8, y9, y10, y11], _, [c0, c1, c2, c3, c4, c5, c6, c7, c8, c9, c10, c11, c12, c13, c14, c15, c16, c17], _ =>
    have g0 := hg 0 _ rfl
    have g1 := hg 1 _ rfl
    have g2 := hg 2 _ rfl
    have g3 := hg 3 _ rfl
    have g4 := hg 4 _ rfl
    have g5 := hg 5 _ rfl
    have g6 := hg 6 _ rfl
    have g7 := hg 7 _ rfl
    have g8 := hg 8 _ rfl
    have g9 := hg 9 _ rfl
    have g10 := hg 10 _ rfl
    have g11 := hg 11 _ rfl
    simp [Tryz.cellsIntI, Tryz.cellsStrI, Tryz.cellsStrs, Tryz.cellsInts, Tryz.cellsMarks, Tryz.cellsMomE] at g0 g1 g2 g3 g4 g5 g6 g7 g8 g9 g10 g11
    have hd0 : d = .agg [y0.1, y1.1, y2.1, y3.1, y4.1, y5.1, y6.1, y7.1, y8.1, y9.1, y10.1, y11.1] := congrArg Prod.fst hxy
    subst hd0
    simp only [DataW.weights, Tryz.underlying35] at hw
    obtain ⟨n0, e0, _, _⟩ := DataW.trod_int Tryz.underlying3 g0
    obtain ⟨n1, e1, _, _⟩ := DataW.trod_int Tryz.underlying3 g1
    obtain ⟨n2, e2, _, _⟩ := DataW.trod_int Tryz.underlying3 g2
    obtain ⟨n3, e3, _, _⟩ := DataW.trod_int Tryz.underlying3 g3
    obtain ⟨n4, e4, _, _⟩ := DataW.trod_int Tryz.underlying3 g4
    obtain ⟨s5, e5, _, _⟩ := DataW.trod_string Tryz.underlying9 g5
    obtain ⟨s11, e11, _, _⟩ := DataW.trod_string Tryz.underlying9 g11
    obtain ⟨ns, hns, hcap, _⟩ := open_strs_f (d := y6.1) (p := y6.2) g6 (fun x hx => hw x (DataW.weights_mem_each (j := 6) rfl rfl _ hx))
    obtain ⟨bs, hbs⟩ := open_ints_f (d := y7.1) (p := y7.2) g7 (fun x hx => hw x (DataW.weights_mem_each (j := 7) rfl rfl _ hx))
    obtain ⟨us, hus⟩ := open_ints_f (d := y8.1) (p := y8.2) g8 (fun x hx => hw x (DataW.weights_mem_each (j := 8) rfl rfl _ hx))
    obtain ⟨ms, hms, hmz⟩ := open_marks_f (d := y9.1) (p := y9.2) g9 (fun x hx => hw x (DataW.weights_mem_each (j := 9) rfl rfl _ hx))
    obtain ⟨zs, k2, _, _, _, hzl, hz⟩ := DataW.trod_struct Tryz.underlying33 g10
    match zs, hzl with
    | [z0, z1, z2, z3, z4, z5, z6], _ =>
      have i0 := hz 0 _ rfl
      have i1 := hz 1 _ rfl
      have i2 := hz 2 _ rfl
      have i3 := hz 3 _ rfl
      have i4 := hz 4 _ rfl
      have i5 := hz 5 _ rfl
      have i6 := hz 6 _ rfl
      simp [Tryz.cellsIntI] at i0 i1 i2 i3 i4 i5 i6
      obtain ⟨m0, f0, _, _⟩ := DataW.trod_int Tryz.underlying3 i0
      obtain ⟨m1, f1, _, _⟩ := DataW.trod_int Tryz.underlying3 i1
      obtain ⟨m2, f2, _, _⟩ := DataW.trod_int Tryz.underlying3 i2
      obtain ⟨m3, f3, _, _⟩ := DataW.trod_int Tryz.underlying3 i3
      obtain ⟨m4, f4, _, _⟩ := DataW.trod_int Tryz.underlying3 i4
      obtain ⟨m5, f5, _, _⟩ := DataW.trod_int Tryz.underlying3 i5
      obtain ⟨m6, f6, _, _⟩ := DataW.trod_int Tryz.underlying3 i6
      simp at e0 e1 e2 e3 e4 e5 e11 f0 f1 f2 f3 f4 f5 f6
      subst e0 e1 e2 e3 e4 e5 e11 f0 f1 f2 f3 f4 f5 f6
      refine ⟨⟨n0, n1, n2, n3, n4, s5, ns, bs, us, ms, m0, m1, m2, m3, m4, m5, m6, s11⟩, c6, c7, c8, c9, ?_, ⟨hns, hbs, hus, hms, hcap, hmz⟩⟩
      unfold evC
      congr 1
      exact Array.ext' hcl
theorem tab_of_readsE {W : World} {n : String} {k : IntKind} {zs : List Int} {g : Nat} {t e : TypeId} {m : Nat} (h : VarReads Tryz.prog W n (tabData k zs)) (hg : Tryz.prog.globalNamed n = some g) (hty : (Tryz.prog.globals[g]?).map (·.type) = some t) (ht : Tryz.prog.underlying t = some (.array m e)) (he : Tryz.prog.underlying e = some (.int k)) (hce : Tryz.prog.cellsOf e = 1) (hct : Tryz.prog.cellsOf t = m) : TabIs Tryz.prog W n k zs := by
  obtain ⟨g', t', cs, fuel, p, hg', ht', hvar, hd⟩ := h
  obtain rfl := Option.some.inj (hg.symm.trans hg')
  obtain rfl := Option.some.inj (hty.symm.trans ht')
  unfold TabIs
  rw [hvar, ← cells_of_tab ht he hce hct hd]
theorem laid_lenE : ("postbag/moment.monthLengths", (tabData .i64 lenT : DataW Unit)) ∈ laidL := List.mem_of_getElem? (i := laidL.findIdx (fun x => x.1 == "postbag/moment.monthLengths")) (by kernel_rfl)
theorem env3_of {W : World} (hL : laidMetH Tryz.prog laidL W) (hsh : W.ShapedOpen Tryz.prog) : Env3 W := by
  have h2 := env_of hL hsh
  rw [laid_plain] at hL
  exact ⟨h2.e, h2.f, ⟨tab_of_readsE (Lib.laidMet.reads hL laid_lenE) Tryz.gLen (by kernel_rfl) Tryz.underlying139 Tryz.underlying3 (by kernel_rfl) (by kernel_rfl)⟩⟩
end Go.Proofs.YtbncaiocmklgnaaGreatDoor
