/- The frame that all rows of this seat share: the program's tables, a start that fits, what a row's world gives; lists that came in. -/
import Derived.Test.YtkclcjnfjielfabDoorVu
import Derived.Test.YtkclcjnfjielfabDoorRows
import Derived.Lib.LaidIn
import Derived.Lib.LaidU8
import Derived.Deep.DeepHandedRow
import Derived.Deep.SlicePairs
import Derived.LaidLaws
import Derived.ProofKit
import Derived.SizedLaws
import Derived.PinnedBridge
import Derived.OpenShut
import Derived.Lay
import Derived.MakeChecks
import Derived.Carry
namespace Go.Proofs.YtkclcjnfjielfabDoor
open Go.Shelf Go.ChangeShapes Go.WideShapes Go.ChangeAt Go.RowKit Go.Lib
open Go.ChangeMaps (open_string shut_string)

theorem Tryd.own : ownKnob Tryd.prog.godebug = none := by kernel_rfl
theorem Tryd.laidOutP : laidOutB Tryd.prog = true := by kernel_rfl
/-- What the rows list: the same in each. -/
def laidL : List (String × DataW Unit) := Rows.spanLeastsRow.laid
theorem laid_fits (os : Os) : (World.holding Tryd.prog os ⟨#[], #[], []⟩).layFits Tryd.prog laidL [] = true := by kernel_rfl
theorem laid_ifaces (os : Os) : (World.holding Tryd.prog os ⟨#[], #[], []⟩).layIfaces Tryd.prog laidL (World.laidAll Tryd.prog os laidL) = true := by kernel_rfl
theorem laid_met (os : Os) (args : Array Value) : laidMet Tryd.prog laidL ((World.laidAll Tryd.prog os laidL).forCall (fun _ _ => 0) ⟨#[], args, []⟩).memory :=
  laidMet_laidAll _ (laid_fits os) (laid_ifaces os)
theorem witness_row_sh {H : Type} {enc : TypeId × Value → H} {C : Checked} {os : Os} {f : FuncId} {fn : Func} {s : OpenSpec} {conds : List PathCond} {apart : Bool} {laid : List (String × DataW Unit)} (w0 : World) (args : Array Value) (hos : w0.os = os)
    (hsh : (w0.forCall (fun _ _ => 0) ⟨#[], args, []⟩).Shaped C.prog)
    (hok : Input.okWideB C.prog (w0.forCall (fun _ _ => 0) ⟨#[], args, []⟩) f ⟨#[], args, []⟩ = true)
    (hrow : s.preRow enc C.prog fn conds apart laid (w0.forCall (fun _ _ => 0) ⟨#[], args, []⟩).memory args) :
    ∃ (w : World) (tape : Tape) (i : Input), w.os = os ∧ (w.forCall tape i).Shaped C.prog ∧ i.vars = [] ∧ Input.okWide C.prog (w.forCall tape i) .any w.heap.size f i ∧
      s.preRow enc C.prog fn conds apart laid (w.forCall tape i).memory i.args ∧ ({} : Assume).holds C.prog (lone (Frame.enter C.prog f i.args .normal) [] (w.forCall tape i)) :=
  ⟨w0, fun _ _ => 0, ⟨#[], args, []⟩, hos, hsh, (Input.okWide_of_okWideB (base := 0) hok).1, (Input.okWide_of_okWideB hok).2, hrow, by
    simp only [Assume.holds]
    exact ⟨by simp, by simp, fun _ => Modest.zero, by simp, by simp⟩⟩

/-- An array of integers that is listed. -/
theorem tab_of_reads {W : World} {n : String} {k : IntKind} {zs : List Int} {g : Nat} {t e : TypeId} {m : Nat} (h : VarReads Tryd.prog W n (tabData k zs)) (hg : Tryd.prog.globalNamed n = some g) (hty : (Tryd.prog.globals[g]?).map (·.type) = some t) (ht : Tryd.prog.underlying t = some (.array m e)) (he : Tryd.prog.underlying e = some (.int k)) (hce : Tryd.prog.cellsOf e = 1) (hct : Tryd.prog.cellsOf t = m) : TabIs Tryd.prog W n k zs := by
  obtain ⟨g', t', cs, fuel, p, hg', ht', hvar, hd⟩ := h
  obtain rfl := Option.some.inj (hg.symm.trans hg')
  obtain rfl := Option.some.inj (hty.symm.trans ht')
  unfold TabIs
  rw [hvar, ← cells_of_tab ht he hce hct hd]
/-- An error that is listed. -/
theorem err_of_reads {W : World} {n : String} {nm : String} {d : DataW Unit} {g : Nat} {ms : Array (String × TypeId)} (h : VarReads Tryd.prog W n (.iface nm d)) (hg : Tryd.prog.globalNamed n = some g) (hty : (Tryd.prog.globals[g]?).map (·.type) = some 93) (ht : Tryd.prog.underlying 93 = some (.interface ms)) : ∃ te pe, W.cell? ⟨g, 0, none⟩ = some (.iface te pe) := by
  obtain ⟨g', t', cs, fuel, p, hg', ht', hvar, hd⟩ := h
  obtain rfl := Option.some.inj (hg.symm.trans hg')
  obtain rfl := Option.some.inj (hty.symm.trans ht')
  obtain ⟨_, u, v, hcs, _, _⟩ := iface_of_trod ht hd
  refine ⟨u, v, ?_⟩
  unfold World.var? at hvar
  rw [hg] at hvar
  simp only [Option.bind_some] at hvar
  split at hvar
  · rename_i cs' t fr hh
    obtain rfl := Option.some.inj hvar
    rw [cell_of_row _ _ 0 _ _ _ hh]
    rw [← Array.getElem?_toList, hcs]
    rfl
  · cases hvar
theorem laid_plain : laidMetH Tryd.prog laidL = laidMet Tryd.prog laidL := by
  funext W
  exact MakeChecks.laidMetH_plain _ _ _ (by kernel_rfl)
theorem laid_pow : ("internal/strconv.uint64pow10", (tabData .u64 pow10Tab : DataW Unit)) ∈ laidL := List.mem_of_getElem? (i := laidL.findIdx (fun x => x.1 == "internal/strconv.uint64pow10")) (by kernel_rfl)
theorem laid_syn : ("strconv.ErrSyntax", (Rows.laid_strconv_ErrSyntax : DataW Unit)) ∈ laidL := List.mem_of_getElem? (i := laidL.findIdx (fun x => x.1 == "strconv.ErrSyntax")) (by kernel_rfl)
theorem laid_rng : ("strconv.ErrRange", (Rows.laid_strconv_ErrRange : DataW Unit)) ∈ laidL := List.mem_of_getElem? (i := laidL.findIdx (fun x => x.1 == "strconv.ErrRange")) (by kernel_rfl)
theorem env_of {W : World} (hL : laidMetH Tryd.prog laidL W) : Env W := by
  rw [laid_plain] at hL
  exact ⟨tab_of_reads (laidMet.reads hL laid_pow) Tryd.gPow (by kernel_rfl) Tryd.underlying132 Tryd.underlying91 (by kernel_rfl) (by kernel_rfl),
    err_of_reads (laidMet.reads hL laid_syn) (by kernel_rfl) (by kernel_rfl) Tryd.underlying93,
    err_of_reads (laidMet.reads hL laid_rng) (by kernel_rfl) (by kernel_rfl) Tryd.underlying93⟩
theorem wf_i64 {n : Int} (h : (Lit.int .i64 n).wf = true) : -9223372036854775808 ≤ n ∧ n ≤ 9223372036854775807 := by
  simp [Lit.wf, IntKind.min, IntKind.max, IntKind.signed, IntKind.bits] at h
  omega
theorem add_none (b off i : Nat) : (⟨b, off, none⟩ : Addr).add i = ⟨b, off + i, none⟩ := by rw [Addr.add_lit]

theorem Tryd.cellsRange : Tryd.prog.cellsOf 63 = 2 := by kernel_rfl
theorem Tryd.cellsInt : Tryd.prog.cellsOf 3 = 1 := by kernel_rfl
theorem Tryd.bytesRange : Tryd.prog.bytesOf 63 = 16 := by kernel_rfl
theorem Tryd.bytesInt : Tryd.prog.bytesOf 3 = 8 := by kernel_rfl
/-- Bounds of all numbers of a list of pieces. -/
def InR (l : List Rg) : Prop := ∀ p ∈ l, (-9223372036854775808 ≤ p.1 ∧ p.1 ≤ 9223372036854775807) ∧ (-9223372036854775808 ≤ p.2 ∧ p.2 ≤ 9223372036854775807)
/-- A slice of pieces, opened: of its cells. -/
theorem open_rgs_cells {H : Type} {enc : TypeId × Value → H} {W : World} {v : Value} {d : DataW H} {p : List MemPlace} {fuel : Nat}
    (hf : DataW.trod enc Tryd.prog W 0 (fun _ => true) true fuel 25 [v] = some (d, p)) :
    (v = .slice none 0 0 ∧ d = .nil) ∨ ∃ (a : Addr) (len cap : Nat) (l : List Rg) (D E : List (DataW H)), v = .slice (some a) len cap ∧ d = .slice D E ∧ D.length = len ∧ E.length = cap - len ∧ len ≤ cap ∧ l.length = len ∧ InR l ∧ ∀ i, i < len → W.cell? (a.add (i * 2)) = some (.int .i64 (l.getD i (0, 0)).1) ∧ W.cell? (a.add (i * 2 + 1)) = some (.int .i64 (l.getD i (0, 0)).2) := by
  rcases Deep.open_slice_pairs Tryd.underlying25 Tryd.underlying63 Tryd.cellsRange rfl rfl Tryd.cellsInt Tryd.cellsInt hf with ⟨hcs, hx⟩ | ⟨a, len, cap, m, n, V0, V1, D0, D1, P0, P1, hcs, _, hl, hm, hmm, hx, hall⟩
  · left
    simp at hcs
    exact ⟨hcs, congrArg Prod.fst hx⟩
  · right
    simp at hcs
    simp only [if_true] at hmm
    subst hmm
    have key : ∀ i, i < m → ∃ q : Rg, V0 i = .int .i64 q.1 ∧ V1 i = .int .i64 q.2 ∧ (-9223372036854775808 ≤ q.1 ∧ q.1 ≤ 9223372036854775807) ∧ (-9223372036854775808 ≤ q.2 ∧ q.2 ≤ 9223372036854775807) := by
      intro i hi
      obtain ⟨_, _, t0, t1⟩ := hall i hi
      obtain ⟨n0, e0, _, w0⟩ := DataW.trod_int Tryd.underlying3 t0
      obtain ⟨n1, e1, _, w1⟩ := DataW.trod_int Tryd.underlying3 t1
      simp at e0 e1
      exact ⟨(n0, n1), e0, e1, wf_i64 w0, wf_i64 w1⟩
    obtain ⟨q, hq⟩ := Deep.choose_lt key
    refine ⟨a, len, m, (List.range len).map q, _, _, hcs, congrArg Prod.fst hx, by simp, by simp, hl, by simp, ?_, ?_⟩
    · intro p hp
      obtain ⟨i, hi, rfl⟩ := List.mem_map.1 hp
      have := hq i (by have := List.mem_range.1 hi; omega)
      exact this.2.2
    · intro i hi
      obtain ⟨c0, c1, _, _⟩ := hall i (by omega)
      have hqi := hq i (by omega)
      have eg : ((List.range len).map q).getD i (0, 0) = q i := by simp [List.getD, hi]
      rw [eg, c0, c1, hqi.1, hqi.2.1]
      exact ⟨rfl, rfl⟩
theorem rgs_of_cells {W : World} {a : Addr} {len cap : Nat} {l : List Rg} (hl : l.length = len) (hlen : len ≤ 8796093022208) (hc : ∀ i, i < len → W.cell? (a.add (i * 2)) = some (.int .i64 (l.getD i (0, 0)).1) ∧ W.cell? (a.add (i * 2 + 1)) = some (.int .i64 (l.getD i (0, 0)).2)) : Rgs W (.slice (some a) len cap) l := by
  by_cases h0 : len = 0
  · subst h0
    exact .inl ⟨List.eq_nil_of_length_eq_zero hl, _, _, rfl, fun h => by cases h⟩
  · obtain ⟨b, off, spot⟩ := a
    have hspot : spot = none := by simpa [Addr.add] using World.cell?_spot (hc 0 (by omega)).1
    subst hspot
    refine .inr ⟨b, off, cap, by rw [hl], by omega, block_lt_of_cell (hc 0 (by omega)).1, fun i hi => ?_⟩
    have := hc i (by omega)
    rw [add_none, add_none] at this
    exact this
set_option maxRecDepth 100000 in
/-- A list of pieces that came in. -/
theorem open_rgs_arg {H : Type} {enc : TypeId × Value → H} {W : World} {v : Value} {d : DataW H} {p : List MemPlace} {base : Nat} {ts : List TypeId} {ds : List (DataW H)} {j : Nat}
    (hok : Value.okWide Tryd.prog W .any base 25 v) (h0 : DataW.Trod enc Tryd.prog W 0 (fun _ => true) true 25 v d p)
    (hsz : (DataW.weightsEach Tryd.prog ts ds).all (· ≤ reachBytes) = true) (ht : ts[j]? = some 25) (hd : ds[j]? = some d) :
    ∃ l, Rgs W v l ∧ l.length ≤ 8796093022208 ∧ InR l := by
  obtain ⟨ao, len, cap, rfl⟩ := okWide_slice Tryd.underlying25 hok
  obtain ⟨fuel, hf0⟩ := h0
  have hf : DataW.trod enc Tryd.prog W 0 (fun _ => true) true fuel 25 [.slice ao len cap] = some (d, p) := by simpa [Value.cells] using hf0
  rcases open_rgs_cells hf with ⟨hv, _⟩ | ⟨a, len', cap', l, D, E, hv, hdd, hD, hE, hlc, hl, hin, hc⟩
  · rw [hv]
    exact ⟨[], .inl ⟨rfl, none, 0, rfl, fun _ => rfl⟩, by simp, fun p hp => by cases hp⟩
  · subst hdd
    have hreach := sized_slice hsz ht hd Tryd.underlying25
    rw [Tryd.bytesRange] at hreach
    have hr : len' ≤ 8796093022208 := by
      simp only [hD, hE, reachBytes] at hreach
      omega
    rw [hv]
    exact ⟨l, rgs_of_cells hl hr hc, by omega, hin⟩
set_option maxRecDepth 100000 in
/-- A list of numbers that came in. -/
theorem open_ints_arg {H : Type} {enc : TypeId × Value → H} {W : World} {v : Value} {d : DataW H} {p : List MemPlace} {base : Nat} {ts : List TypeId} {ds : List (DataW H)} {j : Nat}
    (hok : Value.okWide Tryd.prog W .any base 26 v) (h0 : DataW.Trod enc Tryd.prog W 0 (fun _ => true) true 26 v d p)
    (hsz : (DataW.weightsEach Tryd.prog ts ds).all (· ≤ reachBytes) = true) (ht : ts[j]? = some 26) (hd : ds[j]? = some d) :
    ∃ l, Ints W v l ∧ l.length ≤ 17592186044416 ∧ ∀ n ∈ l, -9223372036854775808 ≤ n ∧ n ≤ 9223372036854775807 := by
  obtain ⟨ao, len, cap, rfl⟩ := okWide_slice Tryd.underlying26 hok
  obtain ⟨fuel, hf0⟩ := h0
  have hf : DataW.trod enc Tryd.prog W 0 (fun _ => true) true fuel 26 [.slice ao len cap] = some (d, p) := by simpa [Value.cells] using hf0
  rcases open_ints Tryd.underlying26 Tryd.underlying3 Tryd.cellsInt hf with ⟨hcs, hx⟩ | ⟨a, len', cap', zs, hcs, _, hl, hm, hz, hx, hcell, hwf⟩
  · simp at hcs
    obtain ⟨rfl, rfl, rfl⟩ := hcs
    exact ⟨[], .inl ⟨rfl, none, 0, rfl, fun _ => rfl⟩, by simp, fun p hp => by cases hp⟩
  · simp at hcs
    obtain ⟨rfl, rfl, rfl⟩ := hcs
    simp only [if_true] at hz
    have hd0 : d = .slice (lits .i64 (zs.take len)) (lits .i64 (zs.drop len)) := congrArg Prod.fst hx
    subst hd0
    have hreach := sized_slice hsz ht hd Tryd.underlying26
    rw [Tryd.bytesInt] at hreach
    have hr : len ≤ 17592186044416 := by
      simp only [lits, List.length_map, List.length_take, List.length_drop, reachBytes] at hreach
      omega
    have hlen : (zs.take len).length = len := by rw [List.length_take]; omega
    refine ⟨zs.take len, ?_, by omega, fun n hn => wf_i64 (hwf n (List.mem_of_mem_take hn))⟩
    by_cases h0 : len = 0
    · subst h0
      exact .inl ⟨rfl, _, _, rfl, fun h => by cases h⟩
    · obtain ⟨b, off, spot⟩ := a
      have hspot : spot = none := by simpa [Addr.add] using World.cell?_spot (hcell 0 (by omega))
      subst hspot
      refine .inr ⟨b, off, cap, by rw [hlen], by omega, block_lt_of_cell (hcell 0 (by omega)), fun i hi => ?_⟩
      have := hcell i (by omega)
      rw [add_none] at this
      rw [this, List.getD_eq_getElem?_getD, List.getD_eq_getElem?_getD, List.getElem?_take, if_pos (by omega)]
end Go.Proofs.YtkclcjnfjielfabDoor
