/- mirror: what is remembered, by number; a row under way. -/
import Derived.Test.YtlmlbcnjohjnlaaDoorN19q
import Derived.Test.YtlmlbcnjohjnlaaDoorPb
import Derived.MapKept
namespace Go.Proofs.YtlmlbcnjohjnlaaDoor
open Go.RowKit Go.MapKept

theorem findI_no (n : Int) (F : List WE) (h : ∀ g, g ∈ F → g.uid ≠ n) : ∀ i, Instr.findNow (.int .i64) (.int .i64 n) (F.map WE.entry) i = some none := by
  induction F with
  | nil => intro i; rfl
  | cons f F ih =>
    intro i
    have e : (n == f.uid) = false := by rw [beq_eq_false_iff_ne]; exact fun e => h f (by simp) e.symm
    simp only [List.map_cons, Instr.findNow, WE.entry, Instr.sameNow, if_true, e]
    exact ih (fun g hg => h g (by simp [hg])) (i + 1)
theorem findI_hit (n : Int) (F1 : List WE) (f : WE) (F2 : List WE) (hn : f.uid = n) (h : ∀ g, g ∈ F1 → g.uid ≠ n) : ∀ i, Instr.findNow (.int .i64) (.int .i64 n) ((F1 ++ f :: F2).map WE.entry) i = some (some (i + F1.length, f.fv)) := by
  induction F1 with
  | nil =>
    intro i
    have e : (n == f.uid) = true := by rw [beq_iff_eq]; exact hn.symm
    simp only [List.nil_append, List.map_cons, Instr.findNow, WE.entry, Instr.sameNow, if_true, e, List.length_nil, Nat.add_zero]
  | cons g F1 ih =>
    intro i
    have e : (n == g.uid) = false := by rw [beq_eq_false_iff_ne]; exact fun e => h g (by simp) e.symm
    simp only [List.cons_append, List.map_cons, Instr.findNow, WE.entry, Instr.sameNow, if_true, e]
    rw [show i + (g :: F1).length = (i + 1) + F1.length by simp only [List.length_cons]; omega]
    exact ih (fun x hx => h x (by simp [hx])) (i + 1)
theorem we_split (n : Int) (F : List WE) : (∃ F1 f F2, F = F1 ++ f :: F2 ∧ f.uid = n ∧ ∀ g, g ∈ F1 → g.uid ≠ n) ∨ ∀ g, g ∈ F → g.uid ≠ n := by
  induction F with
  | nil => right; intro g hg; cases hg
  | cons f F ih =>
    by_cases e : f.uid = n
    · left; exact ⟨[], f, F, rfl, e, by intro g hg; cases hg⟩
    · rcases ih with ⟨F1, g, F2, rfl, hn, h1⟩ | ih
      · left; exact ⟨f :: F1, g, F2, rfl, hn, by
          intro x hx
          rcases List.mem_cons.1 hx with rfl | hx
          · exact e
          · exact h1 x hx⟩
      · right
        intro x hx
        rcases List.mem_cons.1 hx with rfl | hx
        · exact e
        · exact ih x hx
theorem keyI (n : Int) : IsKey (.int .i64) (.int .i64 n) := by simp [IsKey]
theorem run_lookI {w : World} {m clk : Nat} {es : Array MapEntry} (n : Int) (h : w.heap[m]? = some (.map es clk)) {r : Option (Nat × Value)} (hf : Instr.findNow (.int .i64) (.int .i64 n) es.toList 0 = some r) :
    (Instr.lookup 71 (.map (some m)) (.int .i64 n) true).run Tryd.prog w = .ok (.tuple #[(r.map (·.2)).getD (.slice none 0 0), .bool r.isSome]) w := by
  have hz : (zeroValue 27).run Tryd.prog w = .ok (.slice none 0 0) w := by kernel_rfl
  have hc := run_checkKey (P := Tryd.prog) (w := w) Tryd.underlying3 (keyI n) es.isEmpty 9999
  have hk := run_findKey (P := Tryd.prog) (w := w) Tryd.underlying3 hf
  cases r with
  | none => simp [Instr.lookup, run_underlying Tryd.underlying71, Go.MapKept.run_getObj_map h, hc, hk, hz, Sem.run_bind, Result.andThen]
  | some x => simp [Instr.lookup, run_underlying Tryd.underlying71, Go.MapKept.run_getObj_map h, hc, hk, Sem.run_bind, Result.andThen]
theorem run_lookI0 (n : Int) (w : World) : (Instr.lookup 71 (.map none) (.int .i64 n) true).run Tryd.prog w = .ok (.tuple #[.slice none 0 0, .bool false]) w := by
  have hz : (zeroValue 27).run Tryd.prog w = .ok (.slice none 0 0) w := by kernel_rfl
  have hc := run_checkKey (P := Tryd.prog) (w := w) Tryd.underlying3 (keyI n) true 9999
  have hk := run_findKey (P := Tryd.prog) (w := w) Tryd.underlying3 (show Instr.findNow (.int .i64) (.int .i64 n) [] 0 = some none from rfl)
  simp [Instr.lookup, run_underlying Tryd.underlying71, hc, hk, hz, Sem.run_bind, Result.andThen]
theorem run_insertI {w : World} {m clk : Nat} {es : Array MapEntry} (n : Int) (v : Value) (h : w.heap[m]? = some (.map es clk)) (hf : Instr.findNow (.int .i64) (.int .i64 n) es.toList 0 = some none) :
    (Instr.mapUpdate 71 (.map (some m)) (.int .i64 n) v).run Tryd.prog w = .ok () (putObj w m (.map (es.push { key := .int .i64 n, val := v, born := clk }) (clk + 1))) := by
  have hc := run_checkKey (P := Tryd.prog) (w := w) Tryd.underlying3 (keyI n) false 9999
  have hk := run_findKey (P := Tryd.prog) (w := w) Tryd.underlying3 hf
  simp [Instr.mapUpdate, run_underlying Tryd.underlying71, Go.MapKept.run_getObj_map h, hc, hk, Go.MapKept.run_setObj_map _ h, Sem.run_bind, Result.andThen, putObj]
/-- What is looked up. -/
theorem look_in {fr : List Nat} {X : World} {was : Value} {f : Int → Option (List ByteArray)} (h : WasIn fr X was f) (u : Int) :
    ∃ a n c b, (Instr.lookup 71 was (.int .i64 u) true).run Tryd.prog X = .ok (.tuple #[.slice a n c, .bool b]) X ∧ b = (f u).isSome ∧ ∀ l, f u = some l → StrsIn fr X (.slice a n c) l := by
  rcases h with ⟨rfl, rfl⟩ | ⟨m, clk, F, rfl, hm, hh, h1, h2⟩
  · exact ⟨none, 0, 0, false, run_lookI0 u X, rfl, fun l e => by cases e⟩
  · rcases we_split u F with ⟨F1, e, F2, rfl, he, hn⟩ | hn
    · have hf := findI_hit u F1 e F2 he hn 0
      have hr := run_lookI (r := some (0 + F1.length, e.fv)) u hh (by simpa using hf)
      obtain ⟨l, hs, hl⟩ := h1 e (by simp)
      rw [he] at hl
      obtain ⟨a, c, hv⟩ := hs.shape
      refine ⟨a, l.length, c, true, ?_, by rw [hl]; rfl, fun l' e' => ?_⟩
      · rw [hr, ← hv]
        rfl
      · rw [hl] at e'
        injection e' with e'
        subst e'
        rw [← hv]
        exact hs
    · have hf := findI_no u F hn 0
      have hr := run_lookI (r := none) u hh (by simpa using hf)
      rw [h2 u hn]
      exact ⟨none, 0, 0, false, hr, rfl, fun l e => by cases e⟩
/-- A value's kids in memory. -/
def KidsA (X : World) (kv : Value) (l : List (Int × Int × ByteArray)) : Prop := ∃ a c, kv = .slice a l.length c ∧ l.length ≤ 1000000 ∧ (0 < l.length → ∃ g o, a = some ⟨g, o, none⟩ ∧ g < X.heap.size ∧ ∀ i x, l[i]? = some x → x.2.2.size ≤ maxLen ∧ ∃ ka kn kc, X.cell? ⟨g, o + i * 4, none⟩ = some (.int .i64 x.1) ∧ X.cell? ⟨g, o + i * 4 + 1, none⟩ = some (.int .i64 x.2.1) ∧ X.cell? ⟨g, o + i * 4 + 2, none⟩ = some (.string x.2.2) ∧ X.cell? ⟨g, o + i * 4 + 3, none⟩ = some (.slice ka kn kc))
theorem KidsA.on {X X' : World} {kv : Value} {l : List (Int × Int × ByteArray)} (h : KidsA X kv l) (hb : Below X.heap.size X X') : KidsA X' kv l := by
  obtain ⟨a, c, h1, h2, h3⟩ := h
  refine ⟨a, c, h1, h2, fun h0 => ?_⟩
  obtain ⟨g, o, e, hg, hc⟩ := h3 h0
  refine ⟨g, o, e, Nat.lt_of_lt_of_le hg hb.size, fun i x hx => ?_⟩
  obtain ⟨hs, ka, kn, kc, c0, c1, c2, c3⟩ := hc i x hx
  exact ⟨hs, ka, kn, kc, by rw [hb.cell (p := ⟨g, o + i * 4, none⟩) hg]; exact c0, by rw [hb.cell (p := ⟨g, o + i * 4 + 1, none⟩) hg]; exact c1, by rw [hb.cell (p := ⟨g, o + i * 4 + 2, none⟩) hg]; exact c2, by rw [hb.cell (p := ⟨g, o + i * 4 + 3, none⟩) hg]; exact c3⟩
theorem KidsA.shape {X : World} {kv : Value} {l : List (Int × Int × ByteArray)} (h : KidsA X kv l) : ∃ a c, kv = .slice a l.length c := by
  obtain ⟨a, c, e, _⟩ := h
  exact ⟨a, c, e⟩
/-- A draft's block. -/
def dfO (u : Int) (kn : Bool) (fv : Value) (i h : Int) : Obj := .cells #[.int .i64 u, .bool kn, fv, .int .i64 i, .int .i64 h] 105
theorem df_cells {X : World} {D : Nat} {u : Int} {kn : Bool} {fv : Value} {i h : Int} (e : X.heap[D]? = some (dfO u kn fv i h)) : X.cell? ⟨D, 0, none⟩ = some (.int .i64 u) ∧ X.cell? ⟨D, 1, none⟩ = some (.bool kn) ∧ X.cell? ⟨D, 2, none⟩ = some fv ∧ X.cell? ⟨D, 3, none⟩ = some (.int .i64 i) ∧ X.cell? ⟨D, 4, none⟩ = some (.int .i64 h) := by
  unfold dfO at e
  exact ⟨cell_of e 0, cell_of e 1, cell_of e 2, cell_of e 3, cell_of e 4⟩
theorem df_fz {X : World} {D : Nat} {u : Int} {kn : Bool} {fv : Value} {i h : Int} (e : X.heap[D]? = some (dfO u kn fv i h)) (o : Nat) : X.frozen? ⟨D, o, none⟩ = false := frozen_of (show X.heap[D]? = some (.cells _ _ (0, 0)) from e) o
/-- A draft in memory. -/
def DrIn (fr : List Nat) (B D : Nat) (i : Int) (d : PD) (X : World) : Prop := ∃ fv, X.heap[D]? = some (dfO d.r.uid d.r.kn fv i d.h) ∧ (StrsIn fr X fv d.r.fl ∨ StrsNew B X fv d.r.fl)
/-- What learning answers. -/
def LrO (fr : List Nat) (B D : Nat) (i : Int) (r : Option PD) (w : World) (e : Ending) (w' : World) : Prop := e = .returned (.bool r.isSome) ∧ Stays [D] w w' ∧ ∀ d', r = some d' → DrIn fr B D i d' w'
theorem DrIn.drew {fr : List Nat} {B D : Nat} {i : Int} {d : PD} {X : World} (h : DrIn fr B D i d X) : DrIn fr B D i d X.drew := h
theorem LrO.drew {fr : List Nat} {B D : Nat} {i : Int} {r : Option PD} {w w' : World} {e : Ending} (h : LrO fr B D i r w e w') : LrO fr B D i r w e w'.drew := ⟨h.1, h.2.1.drew, fun d' e => (h.2.2 d' e).drew⟩
theorem keepS_stays {X X' : World} {D : Nat} {u : Int} {kn : Bool} {fv : Value} {i h : Int} (hs : Stays [D] X X') (e : X.heap[D]? = some (dfO u kn fv i h)) : KeepS X X' := fun b cs f hb => by
  rw [hs.block b (lt_of_heap hb) (fun hm => by
    have e2 : b = D := by simpa using hm
    subst e2
    exact kind_ne hb e (by decide) rfl)]
  exact hb
/-- The draft's flags where its block alone is turned. -/
theorem strs_turn {fr : List Nat} {B D : Nat} {X X' : World} {fv : Value} {l : List ByteArray} {u : Int} {kn : Bool} {fv0 : Value} {i h : Int} (hs : Stays [D] X X') (e : X.heap[D]? = some (dfO u kn fv0 i h)) (hD : D ∉ fr) (hlt : ∀ b, b ∈ fr → b < X.heap.size) (hv : StrsIn fr X fv l ∨ StrsNew B X fv l) : StrsIn fr X' fv l ∨ StrsNew B X' fv l := by
  rcases hv with hv | hv
  · exact .inl (hv.on (fun b hb => hs.block b (hlt b hb) (fun hm => hD ((show b = D by simpa using hm) ▸ hb))) (fun _ e => e))
  · exact .inr (hv.ks (keepS_stays hs e))
end Go.Proofs.YtlmlbcnjohjnlaaDoor
