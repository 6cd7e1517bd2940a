/- mirror: a mirror in memory; calls of a nil one; the first that waits. -/
import Derived.Test.YtfcpmiafliegiaaDoorM19a
namespace Go.Proofs.YtfcpmiafliegiaaDoor
open Go.RowKit

/-- A mirror's block. -/
def mirC (q : Value) (sel : Bool) (v n h : Int) (rows was : Value) (bg : Bool) : Array Value := #[q, .bool sel, .int .i64 v, .int .i64 n, .int .i64 h, rows, was, .bool bg]
def mirO (q : Value) (sel : Bool) (v n h : Int) (rows was : Value) (bg : Bool) : Obj := .cells (mirC q sel v n h rows was bg) 75
structure MirF (P : Nat) (q : Value) (sel : Bool) (v n h : Int) (rows was : Value) (bg : Bool) (w : World) : Prop where
  c0 : w.cell? ⟨P, 0, none⟩ = some q
  c1 : w.cell? ⟨P, 1, none⟩ = some (.bool sel)
  c2 : w.cell? ⟨P, 2, none⟩ = some (.int .i64 v)
  c3 : w.cell? ⟨P, 3, none⟩ = some (.int .i64 n)
  c4 : w.cell? ⟨P, 4, none⟩ = some (.int .i64 h)
  c5 : w.cell? ⟨P, 5, none⟩ = some rows
  c6 : w.cell? ⟨P, 6, none⟩ = some was
  c7 : w.cell? ⟨P, 7, none⟩ = some (.bool bg)
theorem mir_cells {P : Nat} {q : Value} {sel : Bool} {v n h : Int} {rows was : Value} {bg : Bool} {w : World} (e : w.heap[P]? = some (mirO q sel v n h rows was bg)) : MirF P q sel v n h rows was bg w := by
  unfold mirO mirC at e
  exact ⟨cell_of e 0, cell_of e 1, cell_of e 2, cell_of e 3, cell_of e 4, cell_of e 5, cell_of e 6, cell_of e 7⟩
/-- An asked command. -/
structure AK where
  tag : ByteArray
  verb : Int
  uid : Bool
  sil : Bool
  set : Value
def akC (a : AK) : Array Value := #[.string a.tag, .int .i64 a.verb, .bool a.uid, .bool a.sil, a.set]
def AK0 : AK := ⟨⟨#[]⟩, 0, false, false, .slice none 0 0⟩
theorem Tryd.sizeAk : (Tryd.prog.info? 78).map (·.size) = some 5 := by kernel_rfl
/-- What is at hand: nothing, or the first of a list. -/
def Hand (w : World) (q : Value) : Option AK → Prop
  | none => ∃ a c, q = .slice a 0 c
  | some k => ∃ g o n c, q = .slice (some ⟨g, o, none⟩) (n + 1) c ∧ n + 1 < 4294967296 ∧ g < w.heap.size ∧ (∃ sa sn sc, k.set = .slice sa sn sc) ∧ w.cell? ⟨g, o, none⟩ = some (.string k.tag) ∧ w.cell? ⟨g, o + 1, none⟩ = some (.int .i64 k.verb) ∧ w.cell? ⟨g, o + 2, none⟩ = some (.bool k.uid) ∧ w.cell? ⟨g, o + 3, none⟩ = some (.bool k.sil) ∧ w.cell? ⟨g, o + 4, none⟩ = some k.set
theorem Hand.on {w w' : World} {q : Value} {k : Option AK} (h : Hand w q k) (hb : Below w.heap.size w w') : Hand w' q k := by
  cases k with
  | none => exact h
  | some k =>
    obtain ⟨g, o, n, c, rfl, hn, hg, hs, h0, h1, h2, h3, h4⟩ := h
    refine ⟨g, o, n, c, rfl, hn, Nat.lt_of_lt_of_le hg hb.size, hs, ?_, ?_, ?_, ?_, ?_⟩
    · rw [hb.cell (p := ⟨g, o, none⟩) hg]; exact h0
    · rw [hb.cell (p := ⟨g, o + 1, none⟩) hg]; exact h1
    · rw [hb.cell (p := ⟨g, o + 2, none⟩) hg]; exact h2
    · rw [hb.cell (p := ⟨g, o + 3, none⟩) hg]; exact h3
    · rw [hb.cell (p := ⟨g, o + 4, none⟩) hg]; exact h4

theorem Ask_nil (c : Array Value) (w : World) : Calls Tryd.prog 8 #[.pointer none, .agg c] w fun e w' => e = .returned (.int .i64 190) ∧ Below w.heap.size w w' := by
  go_enter Tryd.func8, Tryd.ntmps8
  go_wp2_with fail
  go_ret
  exact ⟨rfl, (Below.refl _ _).alloc (Nat.le_refl _) _⟩
theorem Hear_nil (c : Array Value) (w : World) : Calls Tryd.prog 9 #[.pointer none, .agg c] w fun e w' => e = .returned (.int .i64 190) ∧ Below w.heap.size w w' := by
  go_enter Tryd.func9, Tryd.ntmps9
  go_wp2_with fail
  go_ret
  exact ⟨rfl, (Below.refl _ _).alloc (Nat.le_refl _) _⟩
theorem Resync_nil (c : Array Value) (w : World) : Calls Tryd.prog 10 #[.pointer none, .agg c] w fun e w' => e = .returned (.slice none 0 0) ∧ Below w.heap.size w w' := by
  go_enter Tryd.func10, Tryd.ntmps10
  go_wp2_with fail
  go_ret
  exact ⟨rfl, (Below.refl _ _).alloc (Nat.le_refl _) _⟩
theorem num_any (n : Int) (w : World) : Calls Tryd.prog 7 #[.int .i64 n] w fun e w' => e = .returned (.int .i64 n) ∧ w' = w := by
  go_enter Tryd.func7, Tryd.ntmps7
  go_wp2_with fail
  go_ret
  first | exact ⟨rfl, rfl⟩ | trivial
/-- A sight's cells. -/
def siC (sel : Bool) (v n h : Int) (us fl kn : Value) : Array Value := #[.bool sel, .int .i64 v, .int .i64 n, .int .i64 h, us, fl, kn]
def si0 : Array Value := siC false 0 0 0 (.slice none 0 0) (.slice none 0 0) (.slice none 0 0)
theorem Tryd.sizeSi : (Tryd.prog.info? 47).map (·.size) = some 7 := by kernel_rfl
theorem Sight_nil (w : World) : Calls Tryd.prog 12 #[.pointer none] w fun e w' => e = .returned (.agg si0) ∧ Below w.heap.size w w' := by
  go_enter Tryd.func12, Tryd.ntmps12
  go_wp2_with fail
  refine bodyPost_ret (results_cell_row Tryd.results12 _ _ w.heap.size 47 si0 (0, 0) _ rfl (heap_new _ _) Tryd.underlying47 rfl Tryd.sizeSi) rfl ⟨rfl, ?_⟩
  exact (Below.refl _ _).alloc (Nat.le_refl _) _
theorem New_any (w : World) : Calls Tryd.prog 14 #[] w fun e w' => e = .returned (.pointer (some ⟨w.heap.size, 0, none⟩)) ∧ w' = w.alloc (mirO (.slice none 0 0) false 0 0 0 (.slice none 0 0) (.map none) false) := by
  go_enter Tryd.func14, Tryd.ntmps14
  go_wp2_with fail
  go_ret
  first | exact ⟨rfl, rfl⟩ | trivial
theorem opens_any (k : AK) (w : World) : Calls Tryd.prog 36 #[.agg (akC k)] w fun e w' => e = .returned (.bool (k.verb == 5 || k.verb == 6)) ∧ Below w.heap.size w w' := by
  have q : Below w.heap.size w (w.alloc (.cells (akC k) 78)) := (Below.refl _ _).alloc (Nat.le_refl _) _
  by_cases h5 : k.verb = 5
  · have e5 : (k.verb == 5) = true := by simp [h5]
    unfold akC at q ⊢
    obtain ⟨t, v, u, s, st⟩ := k
    simp only at h5 e5 q ⊢
    subst h5
    go_enter Tryd.func36, Tryd.ntmps36
    go_wp2_with fail
    go_ret
    first | exact ⟨rfl, q⟩ | exact q
  · have e5 : (k.verb == 5) = false := by simp [h5]
    unfold akC at q ⊢
    obtain ⟨t, v, u, s, st⟩ := k
    simp only at h5 e5 q ⊢
    go_enter Tryd.func36, Tryd.ntmps36
    go_wp2_with fail
    go_ret
    first | exact ⟨rfl, q⟩ | exact q | (simp [e5]; exact q)
end Go.Proofs.YtfcpmiafliegiaaDoor
