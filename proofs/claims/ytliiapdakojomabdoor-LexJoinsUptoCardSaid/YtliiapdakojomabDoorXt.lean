/- The frame that all rows of this seat share: the program's tables, a start that fits, what a row's world gives. Stage 3. -/
import Derived.Test.YtliiapdakojomabDoorXp
import Derived.Test.YtliiapdakojomabDoorRows
import Derived.Lib.LaidIn
import Derived.Lib.LaidU8
import Derived.Deep.DeepHandedRow
import Derived.ProofKit
import Derived.SizedLaws
import Derived.PinnedBridge
import Derived.OpenShut
import Derived.Lay
import Derived.MakeChecks
import Derived.Carry
import Derived.SliceStrings
import Derived.Test.YtliiapdakojomabDoorAb
import Derived.Test.YtliiapdakojomabDoorCq
import Derived.Deep.Slices
namespace Go.Proofs.YtliiapdakojomabDoor
open Go.Shelf Go.ChangeShapes Go.WideShapes Go.ChangeAt Go.RowKit Go.Lib
open Go.ChangeMaps (open_string shut_string)

theorem Tryd.own : ownKnob Tryd.prog.godebug = none := by kernel_rfl
theorem Tryd.laidOutP : laidOutB Tryd.prog = true := by kernel_rfl
/-- What the rows list: the same tables in each. -/
def laidL : List (String × DataW Unit) := Rows.lexKnowsLiteralsRow.laid
theorem laid_fits (os : Os) : (World.holding Tryd.prog os ⟨#[], #[], []⟩).layFits Tryd.prog laidL [] = true := by kernel_rfl
theorem laid_ifaces (os : Os) : (World.holding Tryd.prog os ⟨#[], #[], []⟩).layIfaces Tryd.prog laidL (World.laidAll Tryd.prog os laidL) = true := by kernel_rfl
theorem laid_met (os : Os) (args : Array Value) : laidMet Tryd.prog laidL ((World.laidAll Tryd.prog os laidL).forCall (fun _ _ => 0) ⟨#[], args, []⟩).memory :=
  laidMet_laidAll _ (laid_fits os) (laid_ifaces os)
theorem witness_row_sh {H : Type} {enc : TypeId × Value → H} {C : Checked} {os : Os} {f : FuncId} {fn : Func} {s : OpenSpec} {conds : List PathCond} {apart : Bool} {laid : List (String × DataW Unit)} (w0 : World) (args : Array Value) (hos : w0.os = os)
    (hsh : (w0.forCall (fun _ _ => 0) ⟨#[], args, []⟩).Shaped C.prog)
    (hok : Input.okWideB C.prog (w0.forCall (fun _ _ => 0) ⟨#[], args, []⟩) f ⟨#[], args, []⟩ = true)
    (hrow : s.preRow enc C.prog fn conds apart laid (w0.forCall (fun _ _ => 0) ⟨#[], args, []⟩).memory args) :
    ∃ (w : World) (tape : Tape) (i : Input), w.os = os ∧ (w.forCall tape i).Shaped C.prog ∧ i.vars = [] ∧ Input.okWide C.prog (w.forCall tape i) .any w.heap.size f i ∧
      s.preRow enc C.prog fn conds apart laid (w.forCall tape i).memory i.args ∧ ({} : Assume).holds C.prog (lone (Frame.enter C.prog f i.args .normal) [] (w.forCall tape i)) :=
  ⟨w0, fun _ _ => 0, ⟨#[], args, []⟩, hos, hsh, (Input.okWide_of_okWideB (base := 0) hok).1, (Input.okWide_of_okWideB hok).2, hrow, by
    simp only [Assume.holds]
    exact ⟨by simp, by simp, fun _ => Modest.zero, by simp, by simp⟩⟩
theorem wf_i64 {n : Int} (h : (Lit.int .i64 n).wf = true) : -9223372036854775808 ≤ n ∧ n ≤ 9223372036854775807 := by
  simp [Lit.wf, IntKind.min, IntKind.max, IntKind.signed, IntKind.bits] at h
  omega
/-- An array of integers that is listed. -/
theorem tab_of_reads {W : World} {n : String} {k : IntKind} {zs : List Int} {g : Nat} {t e : TypeId} {m : Nat} (h : VarReads Tryd.prog W n (tabData k zs)) (hg : Tryd.prog.globalNamed n = some g) (hty : (Tryd.prog.globals[g]?).map (·.type) = some t) (ht : Tryd.prog.underlying t = some (.array m e)) (he : Tryd.prog.underlying e = some (.int k)) (hce : Tryd.prog.cellsOf e = 1) (hct : Tryd.prog.cellsOf t = m) : TabIs Tryd.prog W n k zs := by
  obtain ⟨g', t', cs, fuel, p, hg', ht', hvar, hd⟩ := h
  obtain rfl := Option.some.inj (hg.symm.trans hg')
  obtain rfl := Option.some.inj (hty.symm.trans ht')
  unfold TabIs
  rw [hvar, ← cells_of_tab ht he hce hct hd]
theorem laid_plain : laidMetH Tryd.prog laidL = laidMet Tryd.prog laidL := by
  funext W
  exact MakeChecks.laidMetH_plain _ _ _ (by kernel_rfl)
theorem laid_pow : ("internal/strconv.uint64pow10", (tabData .u64 pow10Tab : DataW Unit)) ∈ laidL := List.mem_of_getElem? (i := laidL.findIdx (fun x => x.1 == "internal/strconv.uint64pow10")) (by kernel_rfl)
theorem env_of {W : World} (hL : laidMetH Tryd.prog laidL W) : Env W := by
  rw [laid_plain] at hL
  exact ⟨tab_of_reads (laidMet.reads hL laid_pow) Tryd.gPow (by kernel_rfl) Tryd.underlying113 Tryd.underlying107 (by kernel_rfl) (by kernel_rfl)⟩
end Go.Proofs.YtliiapdakojomabDoor

/- Lists of words that came in, with how much they are. -/
namespace Go.Proofs.YtliiapdakojomabDoor
open Go.Shelf Go.ChangeShapes Go.WideShapes Go.ChangeAt Go.RowKit Go.Lib

theorem Tryd.cellsWord : Tryd.prog.cellsOf 33 = 4 := by kernel_rfl
theorem Tryd.cellsWords : Tryd.prog.cellsOf 24 = 1 := by kernel_rfl
theorem Tryd.cellsIntW : Tryd.prog.cellsOf 3 = 1 := by kernel_rfl
theorem Tryd.cellsStrW : Tryd.prog.cellsOf 9 = 1 := by kernel_rfl
theorem Tryd.cellsBoolW : Tryd.prog.cellsOf 4 = 1 := by kernel_rfl
theorem bk_map {H : Type} : ∀ (xs : List (DataW H × List MemPlace)) (f : Nat → Wd), (∀ i x, xs[i]? = some x → bk1 (f i) ≤ Rows.uptoBulk x.1) → bkL ((List.range xs.length).map f) ≤ Rows.uptoBulkAll (xs.map (·.1))
  | [], f, _ => by simp [bkL]
  | x :: r, f, h => by
    have h0 := h 0 x rfl
    have h1 := bk_map r (fun i => f (i + 1)) (fun i y hy => h (i + 1) y (by simpa using hy))
    rw [List.length_cons, List.range_succ_eq_map, List.map_cons, List.map_cons, List.map_map, bkL, Rows.uptoBulkAll]
    have e : (f ∘ Nat.succ) = fun i => f (i + 1) := rfl
    rw [e]
    omega
theorem add_noneW (b off i : Nat) : (⟨b, off, none⟩ : Addr).add i = ⟨b, off + i, none⟩ := by rw [Addr.add_lit]
set_option maxRecDepth 100000 in
set_option maxHeartbeats 1000000 in
/-- A slice of words, opened, however deep. -/
theorem open_words_cells {H : Type} {enc : TypeId × Value → H} {W : World} : ∀ (fuel : Nat) {v : Value} {d : DataW H} {p : List MemPlace},
    DataW.trod enc Tryd.prog W 0 (fun _ => true) true fuel 24 [v] = some (d, p) → ∃ a n c l, v = .slice a n c ∧ Lies W (fun g => g < W.heap.size) a n c l ∧ bkL l ≤ Rows.uptoBulk d := by
  intro fuel
  induction fuel using Nat.strongRecOn with
  | ind fuel ih =>
  intro v d p hf
  rcases DataW.trod_slice Tryd.underlying24 hf with ⟨hcs, hx⟩ | ⟨a, len, cap, elems, rest, n, rfl, hcs, hx, hb, hl, hm, hlen, hall, _, _⟩
  · simp at hcs
    exact ⟨none, 0, 0, [], hcs, .nil, by simp [bkL]⟩
  · simp at hcs
    subst hcs
    by_cases h0 : len = 0
    · subst h0
      exact ⟨_, _, _, [], rfl, .nil, by simp [bkL]⟩
    obtain ⟨b, off, spot⟩ := a
    have hcell : ∀ i, i < len → ∃ cs' x, cs'.length = 4 ∧ (∀ j, j < 4 → ∃ v, cs'[j]? = some v ∧ W.cell? ((⟨b, off, spot⟩ : Addr).add (i * 4 + j)) = some v) ∧ DataW.trod enc Tryd.prog W 0 (fun _ => true) true n 33 cs' = some x ∧ elems[i]? = some x := by
      intro i hi
      have h1 := hall i hi
      rw [Tryd.cellsWord, List.getElem?_eq_getElem (by omega)] at h1
      obtain ⟨cs', h2, h3⟩ := Option.bind_eq_some_iff.1 h1
      obtain ⟨_, hlen', hcc⟩ := World.cells?_some h2
      refine ⟨cs', _, hlen', fun j hj => ?_, h3, List.getElem?_eq_getElem (by omega)⟩
      have := hcc j (by omega)
      rw [Deep.add_add] at this
      exact ⟨cs'[j]'(by omega), List.getElem?_eq_getElem _, by rw [this]; exact List.getElem?_eq_getElem _⟩
    have hspot : spot = none := by
      obtain ⟨_, _, _, h, _, _⟩ := hcell 0 (by omega)
      obtain ⟨v, _, h⟩ := h 0 (by omega)
      simpa [Addr.add] using World.cell?_spot h
    subst hspot
    have key : ∀ i, i < len → ∃ q : Wd × Option Addr × Nat × Nat, (W.cell? ⟨b, off + i * 4, none⟩ = some (.int .i64 q.1.kind) ∧ W.cell? ⟨b, off + i * 4 + 1, none⟩ = some (.string q.1.text) ∧ W.cell? ⟨b, off + i * 4 + 2, none⟩ = some (.slice q.2.1 q.2.2.1 q.2.2.2) ∧ W.cell? ⟨b, off + i * 4 + 3, none⟩ = some (.bool q.1.glued)) ∧ Lies W (fun g => g < W.heap.size) q.2.1 q.2.2.1 q.2.2.2 q.1.kids ∧ ∃ x, elems[i]? = some x ∧ bk1 q.1 ≤ Rows.uptoBulk x.1 := by
      intro i hi
      obtain ⟨cs', x, h1, h2, h3, h4⟩ := hcell i hi
      obtain ⟨xs, k, hk, hxy, _, hxl, hg⟩ := DataW.trod_struct Tryd.underlying33 h3
      match xs, hxl, cs', h1 with
      | [y0, y1, y2, y3], _, [c0, c1, c2, c3], _ =>
        have g0 := hg 0 _ rfl
        have g1 := hg 1 _ rfl
        have g2 := hg 2 _ rfl
        have g3 := hg 3 _ rfl
        simp [Tryd.cellsStrW, Tryd.cellsWords, Tryd.cellsIntW, Tryd.cellsBoolW] at g0 g1 g2 g3
        obtain ⟨n0, e0, _, _⟩ := DataW.trod_int Tryd.underlying3 g0
        obtain ⟨s, e1, es1, _⟩ := DataW.trod_string Tryd.underlying9 g1
        obtain ⟨a2, n2, c2', l2, e2, hli, hbl⟩ := ih k (by omega) (d := y2.1) (p := y2.2) g2
        obtain ⟨b3, e3, _⟩ := DataW.trod_bool Tryd.underlying4 g3
        simp at e0 e1 e3
        subst e0
        subst e1
        subst e2
        subst e3
        have k0 := h2 0 (by omega)
        have k1 := h2 1 (by omega)
        have k2 := h2 2 (by omega)
        have k3 := h2 3 (by omega)
        simp [add_noneW] at k0 k1 k2 k3
        exact ⟨(.mk n0 s l2 b3, a2, n2, c2'), ⟨k0, by rw [Nat.add_assoc]; exact k1, by rw [Nat.add_assoc]; exact k2, by rw [Nat.add_assoc]; exact k3⟩, hli, x, h4, by
          have ex : x.1 = .agg [y0.1, y1.1, y2.1, y3.1] := congrArg Prod.fst hxy
          have es : y1.1 = .lit (.string s.data.toList) := congrArg Prod.fst es1
          have hsz := Lib.size_eq s
          rw [ex, bk1]
          simp only [Rows.uptoBulk, Rows.uptoBulkAll]
          rw [es]
          simp only [Rows.uptoBulk]
          omega⟩
    haveI : Inhabited Wd := ⟨wd0⟩
    obtain ⟨q, hq⟩ := Deep.choose_lt key
    have hlt : b < W.heap.size := block_lt_of_cell (hq 0 (by omega)).1.1
    have hll : ((List.range len).map fun i => (q i).1).length = len := by simp
    have eg : ∀ i, i < len → ((List.range len).map fun i => (q i).1).getD i wd0 = (q i).1 := fun i hi => by simp [List.getD, hi]
    refine ⟨_, _, _, (List.range len).map fun i => (q i).1, rfl, ?_, ?_⟩
    rotate_left
    · have hd : d = .slice (elems.map (·.1)) (rest.map (·.1)) := congrArg Prod.fst hx
      have := bk_map elems (fun i => (q i).1) (fun i x hx => by
        have hil : i < len := by rw [← hlen]; exact (List.getElem?_eq_some_iff.1 hx).1
        obtain ⟨y, hy, hb⟩ := (hq i hil).2.2
        rw [hx] at hy
        obtain rfl := Option.some.inj hy
        exact hb)
      rw [hlen] at this
      rw [hd, Rows.uptoBulk]
      omega
    have := Lies.row (w := W) (D := fun g => g < W.heap.size) b off cap ((List.range len).map fun i => (q i).1) (fun i => (q i).2.1) (fun i => (q i).2.2.1) (fun i => (q i).2.2.2) hlt hlt (by omega) (fun i hi => by
      rw [hll] at hi
      rw [eg i hi]
      exact (hq i hi).1) (fun i hi => by
      rw [hll] at hi
      rw [eg i hi]
      exact (hq i hi).2.1)
    rw [hll] at this
    exact this
set_option maxRecDepth 100000 in
/-- A list of words that came in. -/
theorem open_words_arg {H : Type} {enc : TypeId × Value → H} {W : World} {v : Value} {d : DataW H} {p : List MemPlace} {base : Nat}
    (hok : Value.okWide Tryd.prog W .any base 24 v) (h0 : DataW.Trod enc Tryd.prog W 0 (fun _ => true) true 24 v d p) :
    ∃ a n c l, v = .slice a n c ∧ Lies W (fun g => g < W.heap.size) a n c l ∧ bkL l ≤ Rows.uptoBulk d := by
  obtain ⟨ao, len, cap, rfl⟩ := okWide_slice Tryd.underlying24 hok
  obtain ⟨fuel, hf0⟩ := h0
  have hf : DataW.trod enc Tryd.prog W 0 (fun _ => true) true fuel 24 [.slice ao len cap] = some (d, p) := by simpa [Value.cells] using hf0
  exact open_words_cells fuel hf
end Go.Proofs.YtliiapdakojomabDoor
