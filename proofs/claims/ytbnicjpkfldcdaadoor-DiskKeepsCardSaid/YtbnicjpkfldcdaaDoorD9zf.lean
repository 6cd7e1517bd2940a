/- The frame that the rows of this seat share: a start that fits, what a row's world gives. -/
import Derived.Test.YtbnicjpkfldcdaaDoorD9zd
import Derived.Test.YtbnicjpkfldcdaaDoorRows
import Derived.Lib.LaidIn
import Derived.Stop.LaidErr
import Derived.Deep.DeepHandedRow
import Derived.LaidLaws
import Derived.ProofKit
import Derived.SizedLaws
import Derived.OpenShut
import Derived.Lay
import Derived.MakeChecks
import Derived.Carry
namespace Go.Proofs.YtbnicjpkfldcdaaDoor
open Go.Shelf Go.ChangeShapes Go.WideShapes Go.ChangeAt Go.RowKit Go.Lib
open Go.ChangeMaps (open_string shut_string)

theorem Tryd.own : ownKnob Tryd.prog.godebug = none := by kernel_rfl
theorem Tryd.laidOutP : laidOutB Tryd.prog = true := by kernel_rfl
def laidL : List (String × DataW Unit) := Rows.diskKeepsRow.laid
theorem laid_fits (os : Os) : (World.holding Tryd.prog os ⟨#[], #[], []⟩).layFits Tryd.prog laidL [] = true := by kernel_rfl
theorem laid_ifaces (os : Os) : (World.holding Tryd.prog os ⟨#[], #[], []⟩).layIfaces Tryd.prog laidL (World.laidAll Tryd.prog os laidL) = true := by kernel_rfl
theorem laid_met (os : Os) (args : Array Value) : laidMet Tryd.prog laidL ((World.laidAll Tryd.prog os laidL).forCall (fun _ _ => 0) ⟨#[], args, []⟩).memory :=
  laidMet_laidAll _ (laid_fits os) (laid_ifaces os)
theorem witness_row_sh {H : Type} {enc : TypeId × Value → H} {C : Checked} {os : Os} {f : FuncId} {fn : Func} {s : OpenSpec} {conds : List PathCond} {apart : Bool} {laid : List (String × DataW Unit)} (w0 : World) (args : Array Value) (hos : w0.os = os)
    (hsh : (w0.forCall (fun _ _ => 0) ⟨#[], args, []⟩).Shaped C.prog)
    (hok : Input.okWideB C.prog (w0.forCall (fun _ _ => 0) ⟨#[], args, []⟩) f ⟨#[], args, []⟩ = true)
    (hrow : s.preRow enc C.prog fn conds apart laid (w0.forCall (fun _ _ => 0) ⟨#[], args, []⟩).memory args) :
    ∃ (w : World) (tape : Tape) (i : Input), w.os = os ∧ (w.forCall tape i).Shaped C.prog ∧ i.vars = [] ∧ Input.okWide C.prog (w.forCall tape i) .any w.heap.size f i ∧
      s.preRow enc C.prog fn conds apart laid (w.forCall tape i).memory i.args ∧ ({} : Assume).holds C.prog (lone (Frame.enter C.prog f i.args .normal) [] (w.forCall tape i)) :=
  ⟨w0, fun _ _ => 0, ⟨#[], args, []⟩, hos, hsh, (Input.okWide_of_okWideB (base := 0) hok).1, (Input.okWide_of_okWideB hok).2, hrow, by
    simp only [Assume.holds]
    exact ⟨by simp, by simp, fun _ => Modest.zero, by simp, by simp⟩⟩
theorem laid_plain : laidMetH Tryd.prog laidL = laidMet Tryd.prog laidL := by
  funext W
  exact MakeChecks.laidMetH_plain _ _ _ (by kernel_rfl)
theorem star_es : "*" ++ "errors.errorString" = "*errors.errorString" := by decide
theorem es_row (u : TypeId) (h : Tryd.prog.typeName? 3 u = some "*errors.errorString") : u = 128 :=
  typeName_ptr_named (nm := "errors.errorString") (by rw [star_es]; kernel_rfl) (by kernel_rfl) (by decide) u (by rw [star_es]; exact h)
theorem es_cells : Tryd.prog.cellsOf 151 = 1 := by kernel_rfl
theorem st_cells : Tryd.prog.cellsOf 9 = 1 := by kernel_rfl
def placed (a : Addr) : MemPlace := .cell a.block a.off
set_option maxRecDepth 100000 in
/-- A reason that is listed. -/
theorem why_laid {W : World} {n : String} {text : List UInt8} {r : List (String × DataW Unit)} {ps : List MemPlace} {g : Nat} (h : DataW.LaidVars Tryd.prog W ((n, .iface "*errors.errorString" (.ptr (.agg [.lit (.string text)]))) :: r) ps) (hg : Tryd.prog.globalNamed n = some g) (hty : (Tryd.prog.globals[g]?).map (·.type) = some 26)
    (hrows : ∀ b off, MemPlace.cell b off ∈ ps → (∃ c t, W.heap[b]? = some (.cells c t (0, 0))) ∧ ∀ u v, W.cell? ⟨b, off, none⟩ = some (.iface u v) → Value.okWide Tryd.prog W .any 0 u v) :
    ∃ a q, W.cell? ⟨g, 0, none⟩ = some (whyV a) ∧ (∃ c t, W.heap[a.block]? = some (.cells c t (0, 0))) ∧ DataW.LaidVars Tryd.prog W r q ∧ ps = .cell g 0 :: placed a :: q := by
  obtain ⟨g', t', cs, f, p, q, hg', ht', hv, hd, hr, e⟩ := h
  obtain rfl := Option.some.inj (hg.symm.trans hg')
  obtain rfl := Option.some.inj (hty.symm.trans ht')
  subst e
  obtain ⟨l⟩ := cs
  have ok : ∀ u v, l = [.iface u v] → Value.okWide Tryd.prog W .any 0 u v := fun u v e => by
    subst e
    exact (hrows g 0 (by simp [MemPlace.row])).2 u v (by simpa using World.var?_cell hg' hv 0)
  obtain ⟨a, s, rfl, hc, hs, hz, rfl⟩ := errorString_of_trod Tryd.underlying26 es_row Tryd.underlying128 Tryd.underlying151 rfl rfl Tryd.underlying9 es_cells st_cells hd ok
  refine ⟨a, q, World.var?_cell hg' hv 0, (hrows a.block a.off (by simp [MemPlace.row])).1, hr, ?_⟩
  simp [MemPlace.row, placed]
set_option maxRecDepth 100000 in
theorem env_of {W : World} (hL : laidMetH Tryd.prog laidL W) : ∃ A B, Env A B W := by
  rw [laid_plain] at hL
  obtain ⟨ps, h0, hnd, hrows⟩ := hL
  obtain ⟨a0, q0, c0, r0, h1, e0⟩ := why_laid (g := 1) h0 (by kernel_rfl) (by kernel_rfl) hrows
  subst e0
  have hrows1 := fun b off (h : MemPlace.cell b off ∈ q0) => hrows b off (List.mem_cons_of_mem _ (List.mem_cons_of_mem _ h))
  obtain ⟨a1, q1, c1, r1, h2, e1⟩ := why_laid (g := 2) h1 (by kernel_rfl) (by kernel_rfl) hrows1
  subst e1
  have hrows2 := fun b off (h : MemPlace.cell b off ∈ q1) => hrows1 b off (List.mem_cons_of_mem _ (List.mem_cons_of_mem _ h))
  obtain ⟨a2, q2, c2, r2, h3, e2⟩ := why_laid (g := 3) h2 (by kernel_rfl) (by kernel_rfl) hrows2
  subst e2
  have hrows3 := fun b off (h : MemPlace.cell b off ∈ q2) => hrows2 b off (List.mem_cons_of_mem _ (List.mem_cons_of_mem _ h))
  obtain ⟨a3, q3, c3, r3, h4, e3⟩ := why_laid (g := 0) h3 (by kernel_rfl) (by kernel_rfl) hrows3
  subst e3
  have hrows4 := fun b off (h : MemPlace.cell b off ∈ q3) => hrows3 b off (List.mem_cons_of_mem _ (List.mem_cons_of_mem _ h))
  obtain ⟨a4, q4, c4, r4, h5, e4⟩ := why_laid (g := 4) h4 (by kernel_rfl) (by kernel_rfl) hrows4
  subst e4
  have hsz : ∀ {b : Nat} {o : Obj}, W.heap[b]? = some o → b < W.heap.size := fun h => lt_of_heap h
  refine ⟨⟨a0, a1, a2, a3, a4⟩, W.heap.size, c0, c1, c2, c3, c4, ?_, ?_, ?_, ?_, Nat.le_refl _⟩
  · rintro a (rfl | rfl | rfl | rfl | rfl)
    · exact r0
    · exact r1
    · exact r2
    · exact r3
    · exact r4
  · have hs : ([a0, a1, a2, a3, a4].map placed).Sublist (.cell 1 0 :: placed a0 :: .cell 2 0 :: placed a1 :: .cell 3 0 :: placed a2 :: .cell 0 0 :: placed a3 :: .cell 4 0 :: placed a4 :: q4) :=
      .cons _ (.cons_cons _ (.cons _ (.cons_cons _ (.cons _ (.cons_cons _ (.cons _ (.cons_cons _ (.cons _ (.cons_cons _ (List.nil_sublist _))))))))))
    have hn := hs.nodup hnd
    exact List.Pairwise.of_map placed (fun a b h e => h (by rw [e])) hn
  · rintro a (rfl | rfl | rfl | rfl | rfl)
    · obtain ⟨_, _, h⟩ := r0; exact hsz h
    · obtain ⟨_, _, h⟩ := r1; exact hsz h
    · obtain ⟨_, _, h⟩ := r2; exact hsz h
    · obtain ⟨_, _, h⟩ := r3; exact hsz h
    · obtain ⟨_, _, h⟩ := r4; exact hsz h
  · first | exact block_lt_of_cell c4 | exact block_lt_of_cell c3 | exact block_lt_of_cell c2 | exact block_lt_of_cell c1 | exact block_lt_of_cell c0 | exact h6
theorem wf_i64 {n : Int} (h : (Lit.int .i64 n).wf = true) : -9223372036854775808 ≤ n ∧ n ≤ 9223372036854775807 := by
  simp [Lit.wf, IntKind.min, IntKind.max, IntKind.signed, IntKind.bits] at h
  omega
end Go.Proofs.YtbnicjpkfldcdaaDoor
