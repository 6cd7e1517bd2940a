/- disk: maps at work. -/
import Derived.Test.YtbnicjpkfldcdaaDoorD9b
import Derived.MapKept
namespace Go.Proofs.YtbnicjpkfldcdaaDoor
open Go.RowKit Go.MapKept

theorem ba_beq (a b : ByteArray) : (a == b) = decide (a = b) := by
  rw [Bool.eq_iff_iff, bytes_beq, decide_eq_true_iff]
/-- Where a name is among files. -/
theorem fe_split (n : ByteArray) (F : List FE) : (∃ F1 f F2, F = F1 ++ f :: F2 ∧ f.name = n ∧ ∀ g, g ∈ F1 → g.name ≠ n) ∨ ∀ g, g ∈ F → g.name ≠ n := by
  induction F with
  | nil => right; intro g hg; cases hg
  | cons f F ih =>
    by_cases e : f.name = n
    · left; exact ⟨[], f, F, rfl, e, by intro g hg; cases hg⟩
    · rcases ih with ⟨F1, g, F2, rfl, hn, h1⟩ | ih
      · left; exact ⟨f :: F1, g, F2, rfl, hn, by
          intro x hx
          rcases List.mem_cons.1 hx with rfl | hx
          · exact e
          · exact h1 x hx⟩
      · right
        intro x hx
        rcases List.mem_cons.1 hx with rfl | hx
        · exact e
        · exact ih x hx
theorem findNow_no (n : ByteArray) (F : List FE) (h : ∀ g, g ∈ F → g.name ≠ n) : ∀ i, Instr.findNow .string (.string n) (F.map FE.entry) i = some none := by
  induction F with
  | nil => intro i; rfl
  | cons f F ih =>
    intro i
    have e : (n == f.name) = false := by rw [ba_beq]; exact decide_eq_false (fun e => h f (by simp) e.symm)
    simp only [List.map_cons, Instr.findNow, FE.entry, Instr.sameNow, e]
    exact ih (fun g hg => h g (by simp [hg])) (i + 1)
theorem findNow_hit (n : ByteArray) (F1 : List FE) (f : FE) (F2 : List FE) (hn : f.name = n) (h : ∀ g, g ∈ F1 → g.name ≠ n) : ∀ i, Instr.findNow .string (.string n) ((F1 ++ f :: F2).map FE.entry) i = some (some (i + F1.length, .pointer (some ⟨f.blk, 0, none⟩))) := by
  induction F1 with
  | nil =>
    intro i
    have e : (n == f.name) = true := by rw [ba_beq]; exact decide_eq_true hn.symm
    simp only [List.nil_append, List.map_cons, Instr.findNow, FE.entry, Instr.sameNow, e, List.length_nil, Nat.add_zero]
  | cons g F1 ih =>
    intro i
    have e : (n == g.name) = false := by rw [ba_beq]; exact decide_eq_false (fun e => h g (by simp) e.symm)
    simp only [List.cons_append, List.map_cons, Instr.findNow, FE.entry, Instr.sameNow, e]
    rw [show i + (g :: F1).length = (i + 1) + F1.length by simp only [List.length_cons]; omega]
    exact ih (fun x hx => h x (by simp [hx])) (i + 1)

theorem keyS (n : ByteArray) : IsKey .string (.string n) := by simp [IsKey]
theorem run_look {w : World} {m clk : Nat} {es : Array MapEntry} (n : ByteArray) (h : w.heap[m]? = some (.map es clk)) {r : Option (Nat × Value)} (hf : Instr.findNow .string (.string n) es.toList 0 = some r) :
    (Instr.lookup 52 (.map (some m)) (.string n) false).run Tryd.prog w = .ok ((r.map (·.2)).getD (.pointer none)) w := by
  have hz : (zeroValue 67).run Tryd.prog w = .ok (.pointer none) w := by kernel_rfl
  have hc := run_checkKey (P := Tryd.prog) (w := w) Tryd.underlying9 (keyS n) es.isEmpty 9999
  have hk := run_findKey (P := Tryd.prog) (w := w) Tryd.underlying9 hf
  cases r with
  | none => simp [Instr.lookup, run_underlying Tryd.underlying52, Go.MapKept.run_getObj_map h, hc, hk, hz, Sem.run_bind, Result.andThen]
  | some x => simp [Instr.lookup, run_underlying Tryd.underlying52, Go.MapKept.run_getObj_map h, hc, hk, Sem.run_bind, Result.andThen]
theorem run_insert {w : World} {m clk : Nat} {es : Array MapEntry} (n : ByteArray) (v : Value) (h : w.heap[m]? = some (.map es clk)) (hf : Instr.findNow .string (.string n) es.toList 0 = some none) :
    (Instr.mapUpdate 52 (.map (some m)) (.string n) v).run Tryd.prog w = .ok () (putObj w m (.map (es.push { key := .string n, val := v, born := clk }) (clk + 1))) := by
  have hc := run_checkKey (P := Tryd.prog) (w := w) Tryd.underlying9 (keyS n) false 9999
  have hk := run_findKey (P := Tryd.prog) (w := w) Tryd.underlying9 hf
  simp [Instr.mapUpdate, run_underlying Tryd.underlying52, Go.MapKept.run_getObj_map h, hc, hk, Go.MapKept.run_setObj_map _ h, Sem.run_bind, Result.andThen, putObj]
theorem run_delete {w : World} {m clk : Nat} {es : Array MapEntry} (ty : TypeId) (n : ByteArray) (h : w.heap[m]? = some (.map es clk)) {i : Nat} {v : Value} (hf : Instr.findNow .string (.string n) es.toList 0 = some (some (i, v))) :
    (Builtin.delete_ #[52, 9] ty #[.map (some m), .string n]).run Tryd.prog w = .ok (.tuple #[]) (putObj w m (.map (es.eraseIdxIfInBounds i) clk)) := by
  have hc := run_checkKey (P := Tryd.prog) (w := w) Tryd.underlying9 (keyS n) es.isEmpty 9999
  have hk := run_findKey (P := Tryd.prog) (w := w) Tryd.underlying9 hf
  simp [Builtin.delete_, run_underlying Tryd.underlying52, Go.MapKept.run_getObj_map h, hc, hk, Go.MapKept.run_setObj_map _ h, Sem.run_bind, Result.andThen, putObj]
end Go.Proofs.YtbnicjpkfldcdaaDoor
