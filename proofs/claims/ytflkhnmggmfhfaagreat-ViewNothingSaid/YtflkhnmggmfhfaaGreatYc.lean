/- A place at which lists are laid: copy into a row that the call has made, cells written over, marks behind. -/
import Derived.Test.YtflkhnmggmfhfaaGreatVe
import Derived.Deep.AppendLies
import Derived.OwnWalk
namespace Go.Proofs.YtflkhnmggmfhfaaGreat
open Go.RowKit

theorem gbut {a c : World} (h : a.grownBy c none) (row : Option Nat) : a.grownBy c row := ⟨h.os, h.tape, h.output, h.size, fun i hi _ => h.block i hi (by simp)⟩
theorem gset {a w : World} {row : Option Nat} {b : Nat} (h : a.grownBy w row) (i : Nat) (v : Value) (hr : a.heap.size ≤ b ∨ row = some b) : a.grownBy (w.setCell ⟨b, i, none⟩ v) row := by
  refine ⟨h.os, h.tape, h.output, by simpa using h.size, fun k hk hne => ?_⟩
  rw [heap_setCell_other w ⟨b, i, none⟩ k v (fun e => ?_)]
  · exact h.block k hk hne
  · rcases hr with h1 | h1
    · simp at e; omega
    · exact hne (by rw [h1, e])
theorem gthen {a b c : World} {row row' : Option Nat} (h : a.grownBy b row) (k : b.grownBy c row') (hr : ∀ j, row' = some j → a.heap.size ≤ j ∨ row = some j) : a.grownBy c row := by
  refine ⟨k.os.trans h.os, k.tape.trans h.tape, k.output.trans h.output, Nat.le_trans h.size k.size, fun i hi hne => ?_⟩
  rw [k.block i (Nat.lt_of_lt_of_le hi h.size) (fun e => ?_)]
  · exact h.block i hi hne
  · rcases hr i e.symm with h1 | h1
    · omega
    · exact hne h1.symm
theorem run_copy_wide {P : Program} (w : World) (dT sT ty elem : TypeId) (g dLen dCap : Nat) (a : Addr) (sLen sCap sz : Nat) (cur : Array Value) (t : TypeId) (cs : List Value)
    (hu : P.underlying dT = some (.slice elem)) (hs : (P.info? elem).map (·.size) = some sz)
    (hg : w.heap[g]? = some (.cells cur t (0, 0))) (hn : Nat.min sLen dLen = sLen) (hc : cs.length = sLen * sz)
    (hsrc : ∀ j v, cs[j]? = some v → w.cell? (a.add j) = some v) (hfit : cs.length ≤ cur.size) (h1 : ∀ v ∈ cs, v.oneCell' = true) :
    (Builtin.copy_ #[dT, sT] ty #[.slice (some ⟨g, 0, none⟩) dLen dCap, .slice (some a) sLen sCap]).run P w =
      .ok (goInt sLen) (w.setRow g (cs ++ cur.toList.drop cs.length).toArray) := by
  have hl := run_loadCells_list (P := P) w a cs hsrc
  have hst := run_storeCells_at P g 0 t cs 0 cur w hg (by simpa using hfit) h1
  cases hq : P.info? elem with
  | none => simp [hq] at hs
  | some i =>
    have hi : i.size = sz := by simpa [hq] using hs
    simp [Builtin.copy_, run_underlying hu, Builtin.lenOf, Builtin.firstCells, sizeOf, typeInfo, hq, hi, hn, ← hc, hl, hst]
theorem run_copy_zero {P : Program} (w : World) (dT sT ty elem : TypeId) (dp sp : Option Addr) (dLen dCap sCap sz : Nat) (hsp : sp = none → sCap = 0)
    (hu : P.underlying dT = some (.slice elem)) (hs : (P.info? elem).map (·.size) = some sz) :
    (Builtin.copy_ #[dT, sT] ty #[.slice dp dLen dCap, .slice sp 0 sCap]).run P w = .ok (goInt 0) w := by
  cases hq : P.info? elem with
  | none => simp [hq] at hs
  | some i =>
    cases sp with
    | none =>
      rw [hsp rfl]
      cases dp <;> simp [Builtin.copy_, run_underlying hu, Builtin.lenOf, Builtin.firstCells, sizeOf, typeInfo, hq, storeCells]
    | some ad =>
      have hl := run_loadCells_list (P := P) w ad [] (by simp)
      simp at hl
      cases dp <;> simp [Builtin.copy_, run_underlying hu, Builtin.lenOf, Builtin.firstCells, sizeOf, typeInfo, hq, storeCells, hl]
/-- copy(at, l): the row that the call has made is as large, or larger. -/
theorem copyRun {P : Program} {w : World} (dT sT ty : TypeId) (elem : TypeId) (sz : Nat) (hu : P.underlying dT = some (.slice elem)) (hsz : (P.info? elem).map (·.size) = some sz)
    {B g n cap sLen sCap : Nat} {sp : Option Addr} {xs : List Value} (hown : w.ownsRow B elem sz (.slice (some ⟨g, 0, none⟩) n cap) n xs) (cs : List Value) (hc : cs.length = sLen * sz) (hle : sLen ≤ n)
    (h0 : sLen = 0 → sp = none → sCap = 0) (hpos : 0 < sLen → ∃ ad, sp = some ad ∧ ∀ j v, cs[j]? = some v → w.cell? (ad.add j) = some v) (h1 : ∀ v ∈ cs, v.oneCell' = true) :
    ∃ w', (Builtin.copy_ #[dT, sT] ty #[.slice (some ⟨g, 0, none⟩) n cap, .slice sp sLen sCap]).run P w = .ok (goInt sLen) w' ∧ w'.ownsRow B elem sz (.slice (some ⟨g, 0, none⟩) n cap) n (cs ++ xs.drop cs.length) ∧ w.grownBy w' (some g) := by
  rcases hown.2 with ⟨h', _⟩ | ⟨g', cap', cur, h', hB, hg, hnc, hcm, hcs, htake⟩
  · simp at h'
  · simp only [Value.slice.injEq, Option.some.injEq, Addr.mk.injEq, and_true, true_and] at h'
    obtain ⟨rfl, rfl⟩ := h'
    by_cases hz : sLen = 0
    · subst hz
      have hcn : cs = [] := List.eq_nil_of_length_eq_zero (by simpa using hc)
      subst hcn
      exact ⟨w, run_copy_zero (P := P) w dT sT ty elem (some ⟨g, 0, none⟩) sp n cap sCap sz (h0 rfl) hu hsz, by simpa using hown, World.grownBy.refl _ _⟩
    · obtain ⟨ad, rfl, hsrc⟩ := hpos (by omega)
      have hfit : cs.length ≤ cur.size := by
        rw [hc, hcs]
        exact Nat.mul_le_mul_right _ (by omega)
      have hrun := run_copy_wide (P := P) w dT sT ty elem g n cap ad sLen sCap sz cur elem cs hu hsz hg (Nat.min_eq_left hle) hc hsrc hfit h1
      have hcn : cs.length ≤ n * sz := by rw [hc]; exact Nat.mul_le_mul_right _ hle
      refine ⟨_, hrun, ⟨?_, .inr ⟨g, cap, _, rfl, hB, setRow_heap w g cur _ elem _ hg, hnc, hcm, ?_, ?_⟩⟩, ?_⟩
      · have := hown.1
        simp
        omega
      · simp
        omega
      · rw [List.take_append, List.take_of_length_le hcn, ← htake, List.drop_take]
      · refine ⟨rfl, rfl, rfl, by simp [World.setRow], fun k hk hne => setRow_other w g k _ (fun e => hne (by rw [e]))⟩

/-- What lies at a place: the list, then marks. -/
def laidG {α : Type} (mk : Nat → α) (l : List α) (n : Nat) : List α := l ++ (List.range (n - l.length)).map fun i => mk (l.length + i)
theorem laidG_length {α : Type} (mk : Nat → α) {l : List α} {n : Nat} (h : l.length ≤ n) : (laidG mk l n).length = n := by simp [laidG]; omega
theorem laidG_take {α : Type} (mk : Nat → α) (l : List α) (n : Nat) : (laidG mk l n).take l.length = l := by simp [laidG]
theorem laidG_at {α : Type} (mk : Nat → α) (l : List α) (n i : Nat) (z : α) (h : l.length ≤ i) (hn : i < n) : (laidG mk l n).getD i z = mk i := by
  unfold laidG
  rw [List.getD_eq_getElem?_getD, List.getElem?_append_right h]
  have h2 : i - l.length < n - l.length := by omega
  simp [h2]
  congr 1
  omega
theorem laidG_self {α : Type} (mk : Nat → α) (l : List α) : laidG mk l l.length = l := by simp [laidG]
def laidTo {α : Type} (mk : Nat → α) (l m : List α) (k : Nat) : List α := laidG mk l k ++ m.drop k
theorem laidTo_zero {α : Type} (mk : Nat → α) (l m : List α) : laidTo mk l m l.length = l ++ m.drop l.length := by rw [laidTo, laidG_self]
theorem laidTo_all {α : Type} (mk : Nat → α) (l m : List α) : laidTo mk l m m.length = laidG mk l m.length := by simp [laidTo]
theorem laidTo_length {α : Type} (mk : Nat → α) {l m : List α} {k : Nat} (h : l.length ≤ k) (hk : k ≤ m.length) : (laidTo mk l m k).length = m.length := by
  rw [laidTo, List.length_append, laidG_length mk h, List.length_drop]; omega
theorem laidTo_succ {α : Type} (mk : Nat → α) {l m : List α} {k : Nat} (h : l.length ≤ k) (hk : k < m.length) : (laidTo mk l m k).set k (mk k) = laidTo mk l m (k + 1) := by
  have e1 : (laidG mk l k).length = k := laidG_length mk h
  have e2 : laidG mk l (k + 1) = laidG mk l k ++ [mk k] := by
    unfold laidG
    rw [show k + 1 - l.length = (k - l.length) + 1 by omega, List.range_succ, List.map_append, List.append_assoc]
    simp
    congr 1
    omega
  unfold laidTo
  rw [List.set_append_right _ _ (by omega), e1, Nat.sub_self, e2, List.append_assoc, List.drop_eq_getElem_cons hk]
  rfl

def markR (i : Nat) : Rg := (-7 - (i : Int), -9)
def markI (i : Nat) : Int := -7 - (i : Int)
theorem rc_set (m : List Rg) (i : Nat) (p : Rg) : ((rc m).set (i * 2) (.int .i64 p.1)).set (i * 2 + 1) (.int .i64 p.2) = rc (m.set i p) := by
  induction m generalizing i with
  | nil => simp [rc]
  | cons q r ih =>
    cases i with
    | zero => simp [rc, encR]
    | succ i =>
      have e : ∀ (q : Rg) (r : List Rg), rc (q :: r) = .int .i64 q.1 :: .int .i64 q.2 :: rc r := fun q r => by simp [rc, encR]
      rw [e, List.set_cons_succ, e, ← ih i, show (i + 1) * 2 = i * 2 + 1 + 1 by omega]
      simp
theorem rc_drop (m : List Rg) (k : Nat) : (rc m).drop (k * 2) = rc (m.drop k) := by
  induction m generalizing k with
  | nil => simp [rc]
  | cons q r ih =>
    cases k with
    | zero => simp
    | succ k =>
      have e : ∀ (q : Rg) (r : List Rg), rc (q :: r) = .int .i64 q.1 :: .int .i64 q.2 :: rc r := fun q r => by simp [rc, encR]
      rw [e, List.drop_succ_cons, ← ih k, show (k + 1) * 2 = k * 2 + 1 + 1 by omega]
      simp
/-- The first pieces of a list that is there. -/
theorem Rgs.upto {w : World} {ao : Option Addr} {n cap k : Nat} {m : List Rg} (h : Rgs w (.slice ao n cap) m) (hk : k ≤ m.length) (c : Nat) (hc : ao = none → c = 0) : Rgs w (.slice ao k c) (m.take k) := by
  have e : (m.take k).length = k := by rw [List.length_take]; omega
  rcases h with ⟨rfl, ao', cap', he, hn⟩ | ⟨b, off, cap', he, h0, h1, h2⟩
  · have : k = 0 := by simpa using hk
    subst this
    exact .inl ⟨by simp, ao, c, rfl, hc⟩
  · simp only [Value.slice.injEq] at he
    obtain ⟨rfl, rfl, rfl⟩ := he
    refine .inr ⟨b, off, c, by rw [e], by omega, h1, fun i hi => ?_⟩
    rw [e] at hi
    rw [List.getD_eq_getElem?_getD, List.getElem?_take_of_lt hi, ← List.getD_eq_getElem?_getD]
    exact h2 i (by omega)
/-- A row that the call has made, as a list that is there. -/
theorem row_rgs {B n : Nat} {v : Value} {m : List Rg} {w : World} (h : w.ownsRow B 90 2 v n (rc m)) (hn : n = m.length) (hl : m.length ≤ 8796093022208) : Rgs w v m := by
  subst hn
  refine OwnR.rgs (B := 0) (W0 := w) ⟨⟨h.1, ?_⟩, ⟨rfl, rfl, rfl, Nat.le_refl _, fun _ _ => rfl⟩, Nat.zero_le _⟩ hl
  rcases h.2 with h2 | ⟨g, cap, cur, rfl, hB, rest⟩
  · exact .inl h2
  · exact .inr ⟨g, cap, cur, rfl, Nat.zero_le _, rest⟩
/-- What the cells of a list are, as a source to copy from. -/
theorem Rgs.src {w : World} {v : Value} {l : List Rg} (h : Rgs w v l) : ∃ sp cap, v = .slice sp l.length cap ∧ (l.length = 0 → sp = none → cap = 0) ∧ (0 < l.length → ∃ ad, sp = some ad ∧ ∀ j u, (rc l)[j]? = some u → w.cell? (ad.add j) = some u) := by
  rcases h with ⟨rfl, ao, cap, rfl, hn⟩ | ⟨b, off, cap, rfl, h0, h1, h2⟩
  · exact ⟨ao, cap, rfl, fun _ => hn, fun h => by simp at h⟩
  · refine ⟨_, cap, rfl, fun _ h => (by cases h), fun _ => ⟨_, rfl, fun j u hj => ?_⟩⟩
    have hj2 : j < l.length * 2 := by rw [← rc_length]; exact (List.getElem?_eq_some_iff.1 hj).1
    have hc' := h2 (j / 2) (by omega)
    have ha := rc_at l (j / 2) (by omega)
    rw [Addr.add_lit]
    rcases Nat.mod_two_eq_zero_or_one j with e | e
    · have ej : j / 2 * 2 = j := by omega
      rw [ej] at hc' ha
      rw [ha.1] at hj
      rw [hc'.1, hj]
    · have ej : j / 2 * 2 + 1 = j := by omega
      rw [ej] at ha
      rw [ha.2] at hj
      rw [show off + j = off + j / 2 * 2 + 1 by omega, hc'.2, hj]
end Go.Proofs.YtflkhnmggmfhfaaGreat
