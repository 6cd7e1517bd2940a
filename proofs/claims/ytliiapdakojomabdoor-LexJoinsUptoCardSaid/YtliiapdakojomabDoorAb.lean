/- lex: words in memory; rows of words that the call has made. -/
import Derived.Test.YtliiapdakojomabDoorXb
import Derived.Laws.AppendOwnNone
import Derived.Lib.SliceRun
import Derived.Deep.AppendLies
namespace Go.Proofs.YtliiapdakojomabDoor
open Go.RowKit

/-- A word as it lies: its kids are a slice. -/
structure Wc where
  kind : Int
  text : ByteArray
  ka : Option Addr
  kn : Nat
  kc : Nat
  glued : Bool
def Wc.kv (p : Wc) : Value := .slice p.ka p.kn p.kc
def encW (p : Wc) : List Value := [.int .i64 p.kind, .string p.text, .slice p.ka p.kn p.kc, .bool p.glued]
def wc (l : List Wc) : List Value := l.flatMap encW
def wc0 : Wc := ⟨0, S [], none, 0, 0, false⟩
def wd0 : Wd := .mk 0 (S []) [] false
theorem wc_length (l : List Wc) : (wc l).length = l.length * 4 := by
  induction l with
  | nil => rfl
  | cons p r ih => simp only [wc, List.flatMap_cons, List.length_append, List.length_cons] at *; rw [ih]; simp [encW]; omega
theorem wc_append (a b : List Wc) : wc (a ++ b) = wc a ++ wc b := by simp [wc]
theorem wc_one (l : List Wc) : ∀ u ∈ wc l, u.oneCell' = true := by
  intro u hu
  simp only [wc, List.mem_flatMap, encW] at hu
  obtain ⟨p, _, hp⟩ := hu
  simp at hp
  rcases hp with rfl | rfl | rfl | rfl <;> rfl
theorem wc_at (l : List Wc) (i : Nat) (hi : i < l.length) : (wc l)[i * 4]? = some (.int .i64 (l.getD i wc0).kind) ∧ (wc l)[i * 4 + 1]? = some (.string (l.getD i wc0).text) ∧ (wc l)[i * 4 + 2]? = some (l.getD i wc0).kv ∧ (wc l)[i * 4 + 3]? = some (.bool (l.getD i wc0).glued) := by
  induction l generalizing i with
  | nil => simp at hi
  | cons p r ih =>
    cases i with
    | zero => exact ⟨rfl, rfl, rfl, rfl⟩
    | succ i =>
      have := ih i (by simpa using hi)
      have e : wc (p :: r) = .int .i64 p.kind :: .string p.text :: .slice p.ka p.kn p.kc :: .bool p.glued :: wc r := by simp [wc, encW]
      rw [e, show (i + 1) * 4 = i * 4 + 1 + 1 + 1 + 1 by omega]
      simp only [List.getElem?_cons_succ, List.getD_cons_succ]
      exact this

/-- A list of words lies in blocks of D. -/
inductive Lies (w : World) (D : Nat → Prop) : Option Addr → Nat → Nat → List Wd → Prop
  | nil {a : Option Addr} {c : Nat} : Lies w D a 0 c []
  | row (g off cap : Nat) (l : List Wd) (va : Nat → Option Addr) (vn vc : Nat → Nat) (hD : D g) (hg : g < w.heap.size) (hn : l.length ≤ maxLen)
      (hc : ∀ i, i < l.length → w.cell? ⟨g, off + i * 4, none⟩ = some (.int .i64 (l.getD i wd0).kind) ∧ w.cell? ⟨g, off + i * 4 + 1, none⟩ = some (.string (l.getD i wd0).text) ∧ w.cell? ⟨g, off + i * 4 + 2, none⟩ = some (.slice (va i) (vn i) (vc i)) ∧ w.cell? ⟨g, off + i * 4 + 3, none⟩ = some (.bool (l.getD i wd0).glued))
      (hk : ∀ i, i < l.length → Lies w D (va i) (vn i) (vc i) (l.getD i wd0).kids) : Lies w D (some ⟨g, off, none⟩) l.length cap l
theorem Lies.len {w : World} {D : Nat → Prop} {a : Option Addr} {n c : Nat} {l : List Wd} (h : Lies w D a n c l) : n = l.length := by cases h <;> rfl
theorem Lies.mono {w w' : World} {D D' : Nat → Prop} (hw : ∀ g, D g → g < w.heap.size → g < w'.heap.size ∧ ∀ i, w'.cell? ⟨g, i, none⟩ = w.cell? ⟨g, i, none⟩) (hD : ∀ g, D g → D' g) {a : Option Addr} {n c : Nat} {l : List Wd} (h : Lies w D a n c l) : Lies w' D' a n c l := by
  induction h with
  | nil => exact .nil
  | row g off cap l va vn vc hd hg hn hc _ ih =>
    obtain ⟨h1, h2⟩ := hw g hd hg
    refine .row g off cap l va vn vc (hD g hd) h1 hn (fun i hi => ?_) ih
    simp only [h2]
    exact hc i hi

/-- v is a slice of words that the call made itself. -/
abbrev RowW (B : Nat) (v : Value) (its : List Wc) (w : World) : Prop := w.ownsRow B 33 4 v its.length (wc its)
theorem RowW.on {B : Nat} {v : Value} {its : List Wc} {w w' : World} (h : RowW B v its w) (hb : Below w.heap.size w w') : RowW B v its w' := by
  refine ⟨h.1, ?_⟩
  rcases h.2 with hn | ⟨g, cap, cur, rfl, hB, hg, rest⟩
  · exact .inl hn
  · exact .inr ⟨g, cap, cur, rfl, hB, by rw [hb.block g (Array.getElem?_eq_some_iff.1 hg).1]; exact hg, rest⟩
theorem RowW.block {B : Nat} {v : Value} {its : List Wc} {w w' : World} (h : RowW B v its w) (hb : ∀ g, v.ownBlock = some g → w'.heap[g]? = w.heap[g]?) : RowW B v its w' := by
  refine ⟨h.1, ?_⟩
  rcases h.2 with hn | ⟨g, cap, cur, rfl, hB, hg, rest⟩
  · exact .inl hn
  · exact .inr ⟨g, cap, cur, rfl, hB, by rw [hb g rfl]; exact hg, rest⟩
theorem RowW.at {B : Nat} {g n cap : Nat} {its : List Wc} {w : World} (h : RowW B (.slice (some ⟨g, 0, none⟩) n cap) its w) (i : Nat) (hi : i < its.length) :
    w.cell? ⟨g, i * 4, none⟩ = some (.int .i64 (its.getD i wc0).kind) ∧ w.cell? ⟨g, i * 4 + 1, none⟩ = some (.string (its.getD i wc0).text) ∧ w.cell? ⟨g, i * 4 + 2, none⟩ = some (its.getD i wc0).kv ∧ w.cell? ⟨g, i * 4 + 3, none⟩ = some (.bool (its.getD i wc0).glued) := by
  obtain ⟨a1, a2, a3, a4⟩ := wc_at its i hi
  have c1 := h.cells (g := g) rfl _ _ a1
  have c2 := h.cells (g := g) rfl _ _ a2
  have c3 := h.cells (g := g) rfl _ _ a3
  have c4 := h.cells (g := g) rfl _ _ a4
  rw [Addr.add_lit] at c1 c2 c3 c4
  rw [Nat.zero_add] at c1 c2 c3 c4
  exact ⟨c1, c2, c3, c4⟩
/-- The front of a row is a row. -/
theorem RowW.cut {B : Nat} {g n cap : Nat} {its : List Wc} {w : World} (h : RowW B (.slice (some ⟨g, 0, none⟩) n cap) its w) (k : Nat) (hk : k ≤ its.length) : RowW B (.slice (some ⟨g, 0, none⟩) k cap) (its.take k) w := by
  refine ⟨wc_length _, ?_⟩
  have hlk : (its.take k).length = k := by simp; omega
  rcases h.2 with ⟨hn, _⟩ | ⟨g', cap', cur, he, hB, hg, h1, h2, h3, h4⟩
  · cases hn
  · injection he with e1 e2 e3
    injection e1 with e1
    injection e1 with e1 _ _
    subst e1 e2 e3
    refine .inr ⟨g, cap, cur, by rw [hlk], hB, hg, by omega, h2, h3, ?_⟩
    rw [hlk]
    have : wc its = wc (its.take k) ++ wc (its.drop k) := by rw [← wc_append, List.take_append_drop]
    have e : (cur.toList.take (its.length * 4)).take (k * 4) = wc (its.take k) := by
      rw [h4, this, List.take_append_of_le_length (by rw [wc_length, hlk]; omega)]
      rw [List.take_of_length_le (by rw [wc_length, hlk]; omega)]
    rw [List.take_take] at e
    rw [show min (k * 4) (its.length * 4) = k * 4 by omega] at e
    exact e
end Go.Proofs.YtliiapdakojomabDoor
