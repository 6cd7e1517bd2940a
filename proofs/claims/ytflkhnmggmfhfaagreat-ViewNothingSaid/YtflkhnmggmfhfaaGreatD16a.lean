/- The law's desk in memory. -/
import Derived.Test.YtflkhnmggmfhfaaGreatR16s
import Derived.Test.YtflkhnmggmfhfaaGreatYc
namespace Go.Proofs.YtflkhnmggmfhfaaGreat
open Go.RowKit

/-- A place for flags: the slice, and what lies there. -/
structure FE where
  v : Value
  l : List ByteArray
def kE (p : Int × Value) : List Value := [.int .i64 p.1, p.2]
def kC (K : List (Int × Value)) : List Value := K.flatMap kE
structure DV where
  m : Value
  u : Value
  k : Value
  f : Value
  s : Value
structure DC where
  M : List MLE
  U : List Int
  K : List (Int × Value)
  F : List FE
  S : List Rg
structure DK (D : Nat) (v : DV) (c : DC) (w : World) : Prop where
  self : w.heap[D]? = some (.cells #[v.m, v.u, v.k, v.f, v.s] 35 (0, 0))
  mails : w.ownsRow 0 88 13 v.m c.M.length (mlC c.M)
  uids : w.ownsRow 0 3 1 v.u c.U.length (ic c.U)
  marks : w.ownsRow 0 58 2 v.k c.K.length (kC c.K)
  flags : w.ownsRow 0 41 1 v.f c.F.length (c.F.map FE.v)
  set : w.ownsRow 0 90 2 v.s c.S.length (rc c.S)
  fls : ∀ f ∈ c.F, w.ownsRow 0 9 1 f.v f.l.length (tcs f.l)
  dis : c.F.Pairwise (fun a b => ∀ x, a.v.ownBlock = some x → b.v.ownBlock ≠ some x)
def fpD (D : Nat) (v : DV) (F : List FE) : List Nat := D :: (v.m.ownBlock.toList ++ (v.u.ownBlock.toList ++ (v.k.ownBlock.toList ++ (v.f.ownBlock.toList ++ (v.s.ownBlock.toList ++ F.flatMap (fun f => f.v.ownBlock.toList))))))
theorem mem_fpD {D b : Nat} {v : DV} {F : List FE} : b ∈ fpD D v F ↔ b = D ∨ v.m.ownBlock = some b ∨ v.u.ownBlock = some b ∨ v.k.ownBlock = some b ∨ v.f.ownBlock = some b ∨ v.s.ownBlock = some b ∨ ∃ f ∈ F, f.v.ownBlock = some b := by
  simp only [fpD, List.mem_cons, List.mem_append, List.mem_flatMap, Option.mem_toList]
theorem stays_kind {w w' : World} {g b : Nat} {tg ty : TypeId} {cs cs2 : Array Value} (hst : Stays [g] w w') (hc : w.heap[g]? = some (.cells cs tg (0, 0))) (hb : w.heap[b]? = some (.cells cs2 ty (0, 0))) (hne : ty ≠ tg) : w'.heap[b]? = w.heap[b]? :=
  hst.block b (lt_of_heap hb) (by simpa using kind_ne hb hc hne)
theorem row_stays {w w' : World} {g n z : Nat} {tg e : TypeId} {cs : Array Value} {v : Value} {xs : List Value} (h : w.ownsRow 0 e z v n xs) (hst : Stays [g] w w') (hc : w.heap[g]? = some (.cells cs tg (0, 0))) (hne : e ≠ tg) : w'.ownsRow 0 e z v n xs :=
  ownsRow_same h (fun b e' => by obtain ⟨cs2, hk⟩ := row_kind h e'; exact stays_kind hst hc hk hne)
section
variable {D : Nat} {v : DV} {c : DC} {w w1 w' : World}
theorem DK.hold (h : DK D v c w) (hs : ∀ b, b ∈ fpD D v c.F → w'.heap[b]? = w.heap[b]?) : DK D v c w' :=
  ⟨by rw [hs D (mem_fpD.2 (.inl rfl))]; exact h.self,
   ownsRow_same h.mails (fun b e => hs b (mem_fpD.2 (.inr (.inl e)))),
   ownsRow_same h.uids (fun b e => hs b (mem_fpD.2 (.inr (.inr (.inl e))))),
   ownsRow_same h.marks (fun b e => hs b (mem_fpD.2 (.inr (.inr (.inr (.inl e)))))),
   ownsRow_same h.flags (fun b e => hs b (mem_fpD.2 (.inr (.inr (.inr (.inr (.inl e))))))),
   ownsRow_same h.set (fun b e => hs b (mem_fpD.2 (.inr (.inr (.inr (.inr (.inr (.inl e)))))))),
   fun f hf => ownsRow_same (h.fls f hf) (fun b e => hs b (mem_fpD.2 (.inr (.inr (.inr (.inr (.inr (.inr ⟨f, hf, e⟩)))))))),
   h.dis⟩
theorem DK.lt (h : DK D v c w) {b : Nat} (hb : b ∈ fpD D v c.F) : b < w.heap.size := by
  rcases mem_fpD.1 hb with rfl | hb | hb | hb | hb | hb | ⟨f, hf, hb⟩
  · exact lt_of_heap h.self
  · exact (h.mails.lt b hb).2
  · exact (h.uids.lt b hb).2
  · exact (h.marks.lt b hb).2
  · exact (h.flags.lt b hb).2
  · exact (h.set.lt b hb).2
  · exact ((h.fls f hf).lt b hb).2
theorem DK.on (h : DK D v c w) (hb : Below w.heap.size w w') : DK D v c w' := h.hold (fun b hm => hb.block b (h.lt hm))
theorem DK.cells (h : DK D v c w) : w.cell? ⟨D, 0, none⟩ = some v.m ∧ w.cell? ⟨D, 1, none⟩ = some v.u ∧ w.cell? ⟨D, 2, none⟩ = some v.k ∧ w.cell? ⟨D, 3, none⟩ = some v.f ∧ w.cell? ⟨D, 4, none⟩ = some v.s :=
  ⟨cell_of h.self 0, cell_of h.self 1, cell_of h.self 2, cell_of h.self 3, cell_of h.self 4⟩
theorem DK.frozen (h : DK D v c w) (o : Nat) : w.frozen? ⟨D, o, none⟩ = false := frozen_of h.self o
/-- mails is written over where it lies. -/
theorem DK.inM (h : DK D v c w) {g : Nat} (hg : v.m.ownBlock = some g) (hst : Stays [g] w w') (l : List MLE) (hrow : w'.ownsRow 0 88 13 v.m l.length (mlC l)) : DK D v { c with M := l } w' ∧ FO (fpD D v c.F) (fpD D v c.F) w w' := by
  obtain ⟨cs, hc⟩ := row_kind h.mails hg
  refine ⟨⟨?_, hrow, row_stays h.uids hst hc (by decide), row_stays h.marks hst hc (by decide), row_stays h.flags hst hc (by decide), row_stays h.set hst hc (by decide), fun f hf => row_stays (h.fls f hf) hst hc (by decide), h.dis⟩, hst.mono (fun b hb => ?_), fun b hb => .inl hb⟩
  · rw [stays_kind hst hc h.self (by decide)]; exact h.self
  · simp at hb
    subst hb
    exact mem_fpD.2 (by simp [hg])
/-- mails is another row. -/
theorem DK.newM (h : DK D v c w) (hb : Below w.heap.size w w1) (vx : Value) (l : List MLE) (hrow : w1.ownsRow 0 88 13 vx l.length (mlC l)) (hnew : ∀ b, vx.ownBlock = some b → w.heap.size ≤ b) : DK D { v with m := vx } { c with M := l } (w1.setCell ⟨D, 0, none⟩ vx) ∧ FO (fpD D v c.F) (fpD D { v with m := vx } c.F) w (w1.setCell ⟨D, 0, none⟩ vx) := by
  have h1 := h.on hb
  have hD : D < w.heap.size := lt_of_heap h.self
  have hst : Stays [D] w1 (w1.setCell ⟨D, 0, none⟩ vx) := Stays.setCell (p := ⟨D, 0, none⟩) (Stays.refl _ _) (.inl (by simp)) _
  have hr2 : (w1.setCell ⟨D, 0, none⟩ vx).ownsRow 0 88 13 vx l.length (mlC l) := ownsRow_same hrow (fun b e => hst.block b (hrow.lt b e).2 (by have := hnew b e; simp; omega))
  refine ⟨⟨?_, hr2, row_stays h1.uids hst h1.self (by decide), row_stays h1.marks hst h1.self (by decide), row_stays h1.flags hst h1.self (by decide), row_stays h1.set hst h1.self (by decide), fun f hf => row_stays (h1.fls f hf) hst h1.self (by decide), h1.dis⟩, Stays.setCell (p := ⟨D, 0, none⟩) (Stays.ofBelow hb) (.inl (mem_fpD.2 (.inl rfl))) _, fun b hb => ?_⟩
  · rw [heap_setCell_at _ h1.self]; rfl
  · rcases mem_fpD.1 hb with e | e | e | e | e | e | e
    · exact .inl (mem_fpD.2 (.inl e))
    · exact .inr (hnew b e)
    · exact .inl (mem_fpD.2 (.inr (.inr (.inl e))))
    · exact .inl (mem_fpD.2 (.inr (.inr (.inr (.inl e)))))
    · exact .inl (mem_fpD.2 (.inr (.inr (.inr (.inr (.inl e))))))
    · exact .inl (mem_fpD.2 (.inr (.inr (.inr (.inr (.inr (.inl e)))))))
    · exact .inl (mem_fpD.2 (.inr (.inr (.inr (.inr (.inr (.inr e)))))))
/-- uids is written over where it lies. -/
theorem DK.inU (h : DK D v c w) {g : Nat} (hg : v.u.ownBlock = some g) (hst : Stays [g] w w') (l : List Int) (hrow : w'.ownsRow 0 3 1 v.u l.length (ic l)) : DK D v { c with U := l } w' ∧ FO (fpD D v c.F) (fpD D v c.F) w w' := by
  obtain ⟨cs, hc⟩ := row_kind h.uids hg
  refine ⟨⟨?_, row_stays h.mails hst hc (by decide), hrow, row_stays h.marks hst hc (by decide), row_stays h.flags hst hc (by decide), row_stays h.set hst hc (by decide), fun f hf => row_stays (h.fls f hf) hst hc (by decide), h.dis⟩, hst.mono (fun b hb => ?_), fun b hb => .inl hb⟩
  · rw [stays_kind hst hc h.self (by decide)]; exact h.self
  · simp at hb
    subst hb
    exact mem_fpD.2 (by simp [hg])
/-- uids is another row. -/
theorem DK.newU (h : DK D v c w) (hb : Below w.heap.size w w1) (vx : Value) (l : List Int) (hrow : w1.ownsRow 0 3 1 vx l.length (ic l)) (hnew : ∀ b, vx.ownBlock = some b → w.heap.size ≤ b) : DK D { v with u := vx } { c with U := l } (w1.setCell ⟨D, 1, none⟩ vx) ∧ FO (fpD D v c.F) (fpD D { v with u := vx } c.F) w (w1.setCell ⟨D, 1, none⟩ vx) := by
  have h1 := h.on hb
  have hD : D < w.heap.size := lt_of_heap h.self
  have hst : Stays [D] w1 (w1.setCell ⟨D, 1, none⟩ vx) := Stays.setCell (p := ⟨D, 1, none⟩) (Stays.refl _ _) (.inl (by simp)) _
  have hr2 : (w1.setCell ⟨D, 1, none⟩ vx).ownsRow 0 3 1 vx l.length (ic l) := ownsRow_same hrow (fun b e => hst.block b (hrow.lt b e).2 (by have := hnew b e; simp; omega))
  refine ⟨⟨?_, row_stays h1.mails hst h1.self (by decide), hr2, row_stays h1.marks hst h1.self (by decide), row_stays h1.flags hst h1.self (by decide), row_stays h1.set hst h1.self (by decide), fun f hf => row_stays (h1.fls f hf) hst h1.self (by decide), h1.dis⟩, Stays.setCell (p := ⟨D, 1, none⟩) (Stays.ofBelow hb) (.inl (mem_fpD.2 (.inl rfl))) _, fun b hb => ?_⟩
  · rw [heap_setCell_at _ h1.self]; rfl
  · rcases mem_fpD.1 hb with e | e | e | e | e | e | e
    · exact .inl (mem_fpD.2 (.inl e))
    · exact .inl (mem_fpD.2 (.inr (.inl e)))
    · exact .inr (hnew b e)
    · exact .inl (mem_fpD.2 (.inr (.inr (.inr (.inl e)))))
    · exact .inl (mem_fpD.2 (.inr (.inr (.inr (.inr (.inl e))))))
    · exact .inl (mem_fpD.2 (.inr (.inr (.inr (.inr (.inr (.inl e)))))))
    · exact .inl (mem_fpD.2 (.inr (.inr (.inr (.inr (.inr (.inr e)))))))
/-- marks is written over where it lies. -/
theorem DK.inK (h : DK D v c w) {g : Nat} (hg : v.k.ownBlock = some g) (hst : Stays [g] w w') (l : List (Int × Value)) (hrow : w'.ownsRow 0 58 2 v.k l.length (kC l)) : DK D v { c with K := l } w' ∧ FO (fpD D v c.F) (fpD D v c.F) w w' := by
  obtain ⟨cs, hc⟩ := row_kind h.marks hg
  refine ⟨⟨?_, row_stays h.mails hst hc (by decide), row_stays h.uids hst hc (by decide), hrow, row_stays h.flags hst hc (by decide), row_stays h.set hst hc (by decide), fun f hf => row_stays (h.fls f hf) hst hc (by decide), h.dis⟩, hst.mono (fun b hb => ?_), fun b hb => .inl hb⟩
  · rw [stays_kind hst hc h.self (by decide)]; exact h.self
  · simp at hb
    subst hb
    exact mem_fpD.2 (by simp [hg])
/-- marks is another row. -/
theorem DK.newK (h : DK D v c w) (hb : Below w.heap.size w w1) (vx : Value) (l : List (Int × Value)) (hrow : w1.ownsRow 0 58 2 vx l.length (kC l)) (hnew : ∀ b, vx.ownBlock = some b → w.heap.size ≤ b) : DK D { v with k := vx } { c with K := l } (w1.setCell ⟨D, 2, none⟩ vx) ∧ FO (fpD D v c.F) (fpD D { v with k := vx } c.F) w (w1.setCell ⟨D, 2, none⟩ vx) := by
  have h1 := h.on hb
  have hD : D < w.heap.size := lt_of_heap h.self
  have hst : Stays [D] w1 (w1.setCell ⟨D, 2, none⟩ vx) := Stays.setCell (p := ⟨D, 2, none⟩) (Stays.refl _ _) (.inl (by simp)) _
  have hr2 : (w1.setCell ⟨D, 2, none⟩ vx).ownsRow 0 58 2 vx l.length (kC l) := ownsRow_same hrow (fun b e => hst.block b (hrow.lt b e).2 (by have := hnew b e; simp; omega))
  refine ⟨⟨?_, row_stays h1.mails hst h1.self (by decide), row_stays h1.uids hst h1.self (by decide), hr2, row_stays h1.flags hst h1.self (by decide), row_stays h1.set hst h1.self (by decide), fun f hf => row_stays (h1.fls f hf) hst h1.self (by decide), h1.dis⟩, Stays.setCell (p := ⟨D, 2, none⟩) (Stays.ofBelow hb) (.inl (mem_fpD.2 (.inl rfl))) _, fun b hb => ?_⟩
  · rw [heap_setCell_at _ h1.self]; rfl
  · rcases mem_fpD.1 hb with e | e | e | e | e | e | e
    · exact .inl (mem_fpD.2 (.inl e))
    · exact .inl (mem_fpD.2 (.inr (.inl e)))
    · exact .inl (mem_fpD.2 (.inr (.inr (.inl e))))
    · exact .inr (hnew b e)
    · exact .inl (mem_fpD.2 (.inr (.inr (.inr (.inr (.inl e))))))
    · exact .inl (mem_fpD.2 (.inr (.inr (.inr (.inr (.inr (.inl e)))))))
    · exact .inl (mem_fpD.2 (.inr (.inr (.inr (.inr (.inr (.inr e)))))))
/-- set is written over where it lies. -/
theorem DK.inS (h : DK D v c w) {g : Nat} (hg : v.s.ownBlock = some g) (hst : Stays [g] w w') (l : List Rg) (hrow : w'.ownsRow 0 90 2 v.s l.length (rc l)) : DK D v { c with S := l } w' ∧ FO (fpD D v c.F) (fpD D v c.F) w w' := by
  obtain ⟨cs, hc⟩ := row_kind h.set hg
  refine ⟨⟨?_, row_stays h.mails hst hc (by decide), row_stays h.uids hst hc (by decide), row_stays h.marks hst hc (by decide), row_stays h.flags hst hc (by decide), hrow, fun f hf => row_stays (h.fls f hf) hst hc (by decide), h.dis⟩, hst.mono (fun b hb => ?_), fun b hb => .inl hb⟩
  · rw [stays_kind hst hc h.self (by decide)]; exact h.self
  · simp at hb
    subst hb
    exact mem_fpD.2 (by simp [hg])
/-- set is another row. -/
theorem DK.newS (h : DK D v c w) (hb : Below w.heap.size w w1) (vx : Value) (l : List Rg) (hrow : w1.ownsRow 0 90 2 vx l.length (rc l)) (hnew : ∀ b, vx.ownBlock = some b → w.heap.size ≤ b) : DK D { v with s := vx } { c with S := l } (w1.setCell ⟨D, 4, none⟩ vx) ∧ FO (fpD D v c.F) (fpD D { v with s := vx } c.F) w (w1.setCell ⟨D, 4, none⟩ vx) := by
  have h1 := h.on hb
  have hD : D < w.heap.size := lt_of_heap h.self
  have hst : Stays [D] w1 (w1.setCell ⟨D, 4, none⟩ vx) := Stays.setCell (p := ⟨D, 4, none⟩) (Stays.refl _ _) (.inl (by simp)) _
  have hr2 : (w1.setCell ⟨D, 4, none⟩ vx).ownsRow 0 90 2 vx l.length (rc l) := ownsRow_same hrow (fun b e => hst.block b (hrow.lt b e).2 (by have := hnew b e; simp; omega))
  refine ⟨⟨?_, row_stays h1.mails hst h1.self (by decide), row_stays h1.uids hst h1.self (by decide), row_stays h1.marks hst h1.self (by decide), row_stays h1.flags hst h1.self (by decide), hr2, fun f hf => row_stays (h1.fls f hf) hst h1.self (by decide), h1.dis⟩, Stays.setCell (p := ⟨D, 4, none⟩) (Stays.ofBelow hb) (.inl (mem_fpD.2 (.inl rfl))) _, fun b hb => ?_⟩
  · rw [heap_setCell_at _ h1.self]; rfl
  · rcases mem_fpD.1 hb with e | e | e | e | e | e | e
    · exact .inl (mem_fpD.2 (.inl e))
    · exact .inl (mem_fpD.2 (.inr (.inl e)))
    · exact .inl (mem_fpD.2 (.inr (.inr (.inl e))))
    · exact .inl (mem_fpD.2 (.inr (.inr (.inr (.inl e)))))
    · exact .inl (mem_fpD.2 (.inr (.inr (.inr (.inr (.inl e))))))
    · exact .inr (hnew b e)
    · exact .inl (mem_fpD.2 (.inr (.inr (.inr (.inr (.inr (.inr e)))))))
/-- Flags at one place are written over. -/
theorem DK.inF (h : DK D v c w) {i g : Nat} {f : FE} (hf : c.F[i]? = some f) (hg : f.v.ownBlock = some g) (hst : Stays [g] w w') (l : List ByteArray) (hrow : w'.ownsRow 0 9 1 f.v l.length (tcs l)) : DK D v { c with F := c.F.set i ⟨f.v, l⟩ } w' ∧ FO (fpD D v c.F) (fpD D v (c.F.set i ⟨f.v, l⟩)) w w' := by
  have hi : i < c.F.length := (List.getElem?_eq_some_iff.1 hf).1
  have hfi : c.F[i] = f := (List.getElem?_eq_some_iff.1 hf).2
  have hfm : f ∈ c.F := List.mem_of_getElem? hf
  obtain ⟨cs, hc⟩ := row_kind (h.fls f hfm) hg
  have hmap : (c.F.set i ⟨f.v, l⟩).map FE.v = c.F.map FE.v := by
    rw [List.map_set]
    apply List.ext_getElem?
    intro j
    rw [List.getElem?_set]
    split
    · rename_i e
      subst e
      rw [if_pos (by simpa using hi), List.getElem?_map, hf]
      rfl
    · rfl
  have hpw := List.pairwise_iff_getElem.1 h.dis
  refine ⟨⟨?_, row_stays h.mails hst hc (by decide), row_stays h.uids hst hc (by decide), row_stays h.marks hst hc (by decide), ?_, row_stays h.set hst hc (by decide), ?_, ?_⟩, hst.mono (fun b hb => ?_), fun b hb => ?_⟩
  · rw [stays_kind hst hc h.self (by decide)]; exact h.self
  · rw [hmap, List.length_set]
    exact row_stays h.flags hst hc (by decide)
  · intro f2 hf2
    obtain ⟨j, hj, rfl⟩ := List.mem_iff_getElem.1 hf2
    rw [List.length_set] at hj
    rw [List.getElem_set]
    split
    · exact hrow
    · rename_i hne
      have hm : c.F[j] ∈ c.F := List.getElem_mem hj
      refine ownsRow_same (h.fls _ hm) (fun b e => hst.block b ((h.fls _ hm).lt b e).2 (fun e' => ?_))
      simp at e'
      subst e'
      rcases Nat.lt_or_gt_of_ne hne with hlt | hlt
      · exact hpw i j hi hj hlt b (by rw [hfi]; exact hg) e
      · exact hpw j i hj hi hlt b e (by rw [hfi]; exact hg)
  · rw [List.pairwise_iff_getElem]
    intro a b ha hb hab x e1 e2
    rw [List.length_set] at ha hb
    rw [List.getElem_set] at e1 e2
    have f1 : c.F[a].v.ownBlock = some x := by
      split at e1
      · rename_i q; subst q; rw [hfi]; exact e1
      · exact e1
    have f2 : c.F[b].v.ownBlock = some x := by
      split at e2
      · rename_i q; subst q; rw [hfi]; exact e2
      · exact e2
    exact hpw a b ha hb hab x f1 f2
  · simp at hb
    subst hb
    exact mem_fpD.2 (.inr (.inr (.inr (.inr (.inr (.inr ⟨f, hfm, hg⟩))))))
  · rcases mem_fpD.1 hb with e | e | e | e | e | e | ⟨f2, hf2, e⟩
    · exact .inl (mem_fpD.2 (.inl e))
    · exact .inl (mem_fpD.2 (.inr (.inl e)))
    · exact .inl (mem_fpD.2 (.inr (.inr (.inl e))))
    · exact .inl (mem_fpD.2 (.inr (.inr (.inr (.inl e)))))
    · exact .inl (mem_fpD.2 (.inr (.inr (.inr (.inr (.inl e))))))
    · exact .inl (mem_fpD.2 (.inr (.inr (.inr (.inr (.inr (.inl e)))))))
    · rcases List.mem_or_eq_of_mem_set hf2 with hm | rfl
      · exact .inl (mem_fpD.2 (.inr (.inr (.inr (.inr (.inr (.inr ⟨f2, hm, e⟩)))))))
      · exact .inl (mem_fpD.2 (.inr (.inr (.inr (.inr (.inr (.inr ⟨f, hfm, e⟩)))))))
/-- A new place for flags. -/
theorem DK.setF (h : DK D v c w) (hb : Below w.heap.size w w1) {i g n cp : Nat} (hv : v.f = .slice (some ⟨g, 0, none⟩) n cp) (vx : Value) (l : List ByteArray) (hrow : w1.ownsRow 0 9 1 vx l.length (tcs l)) (hnew : ∀ b, vx.ownBlock = some b → w.heap.size ≤ b) : DK D v { c with F := c.F.set i ⟨vx, l⟩ } (w1.setCell ⟨g, i, none⟩ vx) ∧ FO (fpD D v c.F) (fpD D v (c.F.set i ⟨vx, l⟩)) w (w1.setCell ⟨g, i, none⟩ vx) := by
  have h1 := h.on hb
  have hgo : v.f.ownBlock = some g := by rw [hv]; rfl
  have hgl : g < w.heap.size := (h.flags.lt g hgo).2
  obtain ⟨cs, hc⟩ := row_kind h1.flags hgo
  have hst : Stays [g] w1 (w1.setCell ⟨g, i, none⟩ vx) := Stays.setCell (p := ⟨g, i, none⟩) (Stays.refl _ _) (.inl (by simp)) _
  have hn : n = c.F.length := by
    obtain ⟨a, c2, e⟩ := ownsRow_shape h.flags
    rw [hv] at e
    injection e
  have hfr : (w1.setCell ⟨g, i, none⟩ vx).ownsRow 0 41 1 v.f (c.F.set i ⟨vx, l⟩).length ((c.F.set i ⟨vx, l⟩).map FE.v) := by
    have hf := h1.flags
    rw [hv, hn] at hf
    have := (hf.stored i vx).1
    rw [List.length_set, List.map_set, hv, hn]
    exact this
  have hpw := List.pairwise_iff_getElem.1 h.dis
  refine ⟨⟨?_, row_stays h1.mails hst hc (by decide), row_stays h1.uids hst hc (by decide), row_stays h1.marks hst hc (by decide), hfr, row_stays h1.set hst hc (by decide), ?_, ?_⟩, Stays.setCell (p := ⟨g, i, none⟩) (Stays.ofBelow hb) (.inl (mem_fpD.2 (.inr (.inr (.inr (.inr (.inl hgo))))))) _, fun b hb => ?_⟩
  · rw [stays_kind hst hc h1.self (by decide)]; exact h1.self
  · intro f2 hf2
    rcases List.mem_or_eq_of_mem_set hf2 with hm | rfl
    · exact row_stays (h1.fls f2 hm) hst hc (by decide)
    · exact row_stays hrow hst hc (by decide)
  · rw [List.pairwise_iff_getElem]
    intro a b ha hb2 hab x e1 e2
    rw [List.length_set] at ha hb2
    rw [List.getElem_set] at e1 e2
    have old : ∀ (j : Nat) (hj : j < c.F.length), c.F[j].v.ownBlock = some x → x < w.heap.size := fun j hj e => ((h.fls _ (List.getElem_mem hj)).lt x e).2
    split at e1
    · have := hnew x e1
      split at e2
      · omega
      · have := old b hb2 e2; omega
    · split at e2
      · have := hnew x e2
        have := old a ha e1
        omega
      · exact hpw a b ha hb2 hab x e1 e2
  · rcases mem_fpD.1 hb with e | e | e | e | e | e | ⟨f2, hf2, e⟩
    · exact .inl (mem_fpD.2 (.inl e))
    · exact .inl (mem_fpD.2 (.inr (.inl e)))
    · exact .inl (mem_fpD.2 (.inr (.inr (.inl e))))
    · exact .inl (mem_fpD.2 (.inr (.inr (.inr (.inl e)))))
    · exact .inl (mem_fpD.2 (.inr (.inr (.inr (.inr (.inl e))))))
    · exact .inl (mem_fpD.2 (.inr (.inr (.inr (.inr (.inr (.inl e)))))))
    · rcases List.mem_or_eq_of_mem_set hf2 with hm | rfl
      · exact .inl (mem_fpD.2 (.inr (.inr (.inr (.inr (.inr (.inr ⟨f2, hm, e⟩)))))))
      · exact .inr (hnew b e)
theorem Tryz.infoTexts : (Tryz.prog.info? 41).map (fun i => (i.zero, i.size, i.bytes)) = some (some (.slice none 0 0), 1, 24) := by kernel_rfl
/-- One place more: d.flags = append(d.flags, nil). -/
theorem DK.addF (h : DK D v c w) (hl : c.F.length + 1 ≤ 4294967296) :
    ∃ a cp W1, (Builtin.append_ #[32, 32] 32 #[v.f, .slice (some ⟨w.heap.size, 0, none⟩) 1 1]).run Tryz.prog (w.alloc (.cells #[.slice none 0 0] 41)) = .ok (.slice a (c.F.length + 1) cp) W1 ∧ W1.heap[D]? = some (.cells #[v.m, v.u, v.k, v.f, v.s] 35 (0, 0)) ∧
      DK D { v with f := .slice a (c.F.length + 1) cp } { c with F := c.F ++ [⟨.slice none 0 0, []⟩] } (W1.setCell ⟨D, 3, none⟩ (.slice a (c.F.length + 1) cp)) ∧ FO (fpD D v c.F) (fpD D { v with f := .slice a (c.F.length + 1) cp } (c.F ++ [⟨.slice none 0 0, []⟩])) w (W1.setCell ⟨D, 3, none⟩ (.slice a (c.F.length + 1) cp)) := by
  obtain ⟨a, cp, W1, hrun, hrow, hg, hown⟩ := row_app (P := Tryz.prog) 32 41 _ 1 24 Tryz.underlying32 Tryz.infoTexts rfl (by decide) h.flags #[.slice none 0 0] rfl (by intro x hx; simp at hx; subst hx; rfl) hl (by omega)
  have hD : D < w.heap.size := lt_of_heap h.self
  have hbl : ∀ (b : Nat) (ty : TypeId) (cs : Array Value), w.heap[b]? = some (Obj.cells cs ty (0, 0)) → ty ≠ 41 → W1.heap[b]? = w.heap[b]? := fun b ty cs hb hne => hg.block b (lt_of_heap hb) (fun e => by
    obtain ⟨cs2, hk⟩ := row_kind h.flags e.symm
    exact kind_ne hb hk hne rfl)
  have hs1 : W1.heap[D]? = some (.cells #[v.m, v.u, v.k, v.f, v.s] 35 (0, 0)) := by rw [hbl D _ _ h.self (by decide)]; exact h.self
  have hrs : ∀ {e : TypeId} {z n : Nat} {x : Value} {xs : List Value}, w.ownsRow 0 e z x n xs → e ≠ 41 → W1.ownsRow 0 e z x n xs := fun hr hne => ownsRow_same hr (fun b e' => by obtain ⟨cs, hk⟩ := row_kind hr e'; exact hbl b _ _ hk hne)
  have hst : Stays [D] W1 (W1.setCell ⟨D, 3, none⟩ (.slice a (c.F.length + 1) cp)) := Stays.setCell (p := ⟨D, 3, none⟩) (Stays.refl _ _) (.inl (by simp)) _
  refine ⟨a, cp, W1, hrun, hs1, ⟨?_, row_stays (hrs h.mails (by decide)) hst hs1 (by decide), row_stays (hrs h.uids (by decide)) hst hs1 (by decide), row_stays (hrs h.marks (by decide)) hst hs1 (by decide), ?_, row_stays (hrs h.set (by decide)) hst hs1 (by decide), ?_, ?_⟩, Stays.setCell (p := ⟨D, 3, none⟩) (Stays.ofGrown hg (fun b e => mem_fpD.2 (.inr (.inr (.inr (.inr (.inl e))))))) (.inl (mem_fpD.2 (.inl rfl))) _, fun b hb => ?_⟩
  · rw [heap_setCell_at _ hs1]; rfl
  · have := row_stays hrow hst hs1 (by decide)
    rw [List.length_append, List.map_append]
    exact this
  · intro f hf
    rcases List.mem_append.1 hf with hf | hf
    · exact row_stays (hrs (h.fls f hf) (by decide)) hst hs1 (by decide)
    · simp at hf
      subst hf
      exact World.ownsRow_nil _ _ _ _
  · rw [List.pairwise_append]
    refine ⟨h.dis, by simp, fun f _ f2 hf2 x _ e2 => ?_⟩
    simp at hf2
    subst hf2
    cases e2
  · rcases mem_fpD.1 hb with e | e | e | e | e | e | ⟨f2, hf2, e⟩
    · exact .inl (mem_fpD.2 (.inl e))
    · exact .inl (mem_fpD.2 (.inr (.inl e)))
    · exact .inl (mem_fpD.2 (.inr (.inr (.inl e))))
    · exact .inl (mem_fpD.2 (.inr (.inr (.inr (.inl e)))))
    · rcases hown b e with e | e
      · exact .inl (mem_fpD.2 (.inr (.inr (.inr (.inr (.inl e))))))
      · exact .inr e
    · exact .inl (mem_fpD.2 (.inr (.inr (.inr (.inr (.inr (.inl e)))))))
    · rcases List.mem_append.1 hf2 with hm | hm
      · exact .inl (mem_fpD.2 (.inr (.inr (.inr (.inr (.inr (.inr ⟨f2, hm, e⟩)))))))
      · simp at hm
        subst hm
        cases e
end
/-- What the desk's steps leave. -/
def DO (D : Nat) (c' : DC) (fp : List Nat) (w w' : World) : Prop := ∃ v', DK D v' c' w' ∧ FO fp (fpD D v' c'.F) w w'
theorem DO.on {D : Nat} {c : DC} {fp : List Nat} {w w1 w' : World} (h : DO D c fp w w1) (hb : Below w1.heap.size w1 w') : DO D c fp w w' := by
  obtain ⟨v, h1, h2⟩ := h
  exact ⟨v, h1.on hb, h2.trans (FO.below hb)⟩
/-- A row that was made: so many zeroes. -/
theorem made_flat (z : Array Value) (hz : 0 < z.size) : ∀ n : Nat, (madeCells z (n * z.size)).toList = (List.replicate n z.toList).flatten := by
  intro n
  have hL : ∀ (n j : Nat), (madeCells z (n * z.size)).toList[j]? = if j < n * z.size then z[j % z.size]? else none := by
    intro n j
    have hm : j % z.size < z.size := Nat.mod_lt _ hz
    by_cases hj : j < n * z.size
    · rw [if_pos hj]
      simp [madeCells, hj, hm]
    · rw [if_neg hj, List.getElem?_eq_none (by rw [Array.length_toList, size_madeCells]; omega)]
  have hR : ∀ (n j : Nat), ((List.replicate n z.toList).flatten)[j]? = if j < n * z.size then z[j % z.size]? else none := by
    intro n
    induction n with
    | zero => intro j; simp
    | succ n ih =>
      intro j
      rw [List.replicate_succ, List.flatten_cons]
      have e : (n + 1) * z.size = n * z.size + z.size := by rw [Nat.add_mul, Nat.one_mul]
      by_cases hj : j < z.size
      · rw [List.getElem?_append_left (by simpa using hj), if_pos (by omega), Nat.mod_eq_of_lt hj]
        simp
      · rw [List.getElem?_append_right (by simp; omega), Array.length_toList, ih (j - z.size), show j % z.size = (j - z.size) % z.size from Nat.mod_eq_sub_mod (by omega)]
        by_cases h2 : j - z.size < n * z.size
        · rw [if_pos h2, if_pos (by omega)]
        · rw [if_neg h2, if_neg (by omega)]
  apply List.ext_getElem?
  intro j
  rw [hL, hR]
theorem flat_map {α : Type} (enc : α → List Value) (x : α) (n : Nat) : (List.replicate n x).flatMap enc = (List.replicate n (enc x)).flatten := by
  rw [List.flatMap_def, List.map_replicate]
theorem kC_length (K : List (Int × Value)) : (kC K).length = K.length * 2 := by
  induction K with
  | nil => rfl
  | cons p r ih => simp only [kC, List.flatMap_cons, List.length_append, List.length_cons] at *; rw [ih]; simp [kE]; omega
theorem kC_at : ∀ (K : List (Int × Value)) (i : Nat) (p : Int × Value), K[i]? = some p → (kC K)[i * 2]? = some (.int .i64 p.1) ∧ (kC K)[i * 2 + 1]? = some p.2
  | [], i, p, h => by simp at h
  | q :: K, 0, p, h => by simp at h; subst h; exact ⟨rfl, rfl⟩
  | q :: K, i + 1, p, h => by
    have e : kC (q :: K) = .int .i64 q.1 :: q.2 :: kC K := rfl
    have := kC_at K i p (by simpa using h)
    rw [e, show (i + 1) * 2 = i * 2 + 1 + 1 by omega]
    simp only [List.getElem?_cons_succ]
    exact this
theorem kC_set : ∀ (K : List (Int × Value)) (i : Nat) (p : Int × Value), i < K.length → ((kC K).set (i * 2) (.int .i64 p.1)).set (i * 2 + 1) p.2 = kC (K.set i p)
  | [], i, p, h => by simp at h
  | q :: K, 0, p, h => rfl
  | q :: K, i + 1, p, h => by
    have e : ∀ (r : Int × Value) (L : List (Int × Value)), kC (r :: L) = .int .i64 r.1 :: r.2 :: kC L := fun _ _ => rfl
    have := kC_set K i p (by simpa using h)
    rw [e, show (i + 1) * 2 = i * 2 + 1 + 1 by omega]
    simp only [List.set_cons_succ]
    rw [this, e]
/-- One list beside another: the first k are f, the rest as they were. -/
def layK {α : Type} (f : Nat → α) (l : List α) (k : Nat) : List α := (List.range k).map f ++ l.drop k
theorem layK_zero {α : Type} (f : Nat → α) (l : List α) : layK f l 0 = l := by simp [layK]
theorem layK_length {α : Type} (f : Nat → α) (l : List α) {k : Nat} (hk : k ≤ l.length) : (layK f l k).length = l.length := by simp [layK]; omega
theorem layK_set {α : Type} (f : Nat → α) (l : List α) {k : Nat} (hk : k < l.length) : (layK f l k).set k (f k) = layK f l (k + 1) := by
  unfold layK
  have e : l.drop k = l[k] :: l.drop (k + 1) := List.drop_eq_getElem_cons hk
  rw [List.set_append_right _ _ (by simp), List.length_map, List.length_range, Nat.sub_self, e, List.range_succ, List.map_append, List.append_assoc]
  rfl
theorem layK_full {α : Type} (f : Nat → α) (l : List α) : layK f l l.length = (List.range l.length).map f := by simp [layK]
theorem range_at {α : Type} (f : Nat → α) {n i : Nat} (hi : i < n) : ((List.range n).map f)[i]? = some (f i) := by simp [hi]
end Go.Proofs.YtflkhnmggmfhfaaGreat

/- Steps on the law's desk. -/
namespace Go.Proofs.YtflkhnmggmfhfaaGreat
open Go.RowKit

/-- A desk, and what has been written since. -/
def DS (D : Nat) (v : DV) (c : DC) (fp : List Nat) (w X : World) : Prop := DK D v c X ∧ FO fp (fpD D v c.F) w X
theorem DS.on {D : Nat} {v : DV} {c : DC} {fp : List Nat} {w X Y : World} (h : DS D v c fp w X) (hb : Below X.heap.size X Y) : DS D v c fp w Y := ⟨h.1.on hb, h.2.trans (FO.below hb)⟩
theorem enc_set {α : Type} (enc : α → List Value) (x : α) : ∀ (l : List α) (k : Nat), k < l.length → l.flatMap enc = (l.take k).flatMap enc ++ (enc (l.getD k x) ++ (l.drop (k + 1)).flatMap enc)
  | [], k, h => by simp at h
  | a :: l, 0, h => by simp
  | a :: l, k + 1, h => by
    have := enc_set enc x l k (by simpa using h)
    simp only [List.flatMap_cons, List.take_succ_cons, List.drop_succ_cons, List.getD_cons_succ, List.append_assoc]
    rw [this]
theorem Tryz.infoMark : (Tryz.prog.info? 58).map (fun i => (i.zero, i.size, i.bytes)) = some (some (.agg #[.int .i64 0, .slice none 0 0]), 2, 32) := by kernel_rfl
theorem Tryz.infoMail : (Tryz.prog.info? 88).map (fun i => (i.zero, i.size, i.bytes)) = some (some (.agg (mlA ML0)), 13, 128) := by kernel_rfl
theorem Tryz.infoRg : (Tryz.prog.info? 90).map (fun i => (i.zero, i.size, i.bytes)) = some (some (.agg #[.int .i64 0, .int .i64 0]), 2, 16) := by kernel_rfl
theorem rcD_set : ∀ (K : List Rg) (i : Nat) (p : Rg), i < K.length → ((rc K).set (i * 2) (.int .i64 p.1)).set (i * 2 + 1) (.int .i64 p.2) = rc (K.set i p)
  | [], i, p, h => by simp at h
  | q :: K, 0, p, h => rfl
  | q :: K, i + 1, p, h => by
    have e : ∀ (r : Rg) (L : List Rg), rc (r :: L) = .int .i64 r.1 :: .int .i64 r.2 :: rc L := fun _ _ => rfl
    have := rcD_set K i p (by simpa using h)
    rw [e, show (i + 1) * 2 = i * 2 + 1 + 1 by omega]
    simp only [List.set_cons_succ]
    rw [this, e]
theorem rcD_drop : ∀ (n : Nat) (K : List Rg), (rc K).drop (n * 2) = rc (K.drop n)
  | 0, K => by simp
  | n + 1, [] => by simp [rc]
  | n + 1, q :: K => by
    have e : rc (q :: K) = .int .i64 q.1 :: .int .i64 q.2 :: rc K := rfl
    rw [e, show (n + 1) * 2 = n * 2 + 1 + 1 by omega, List.drop_succ_cons, List.drop_succ_cons, List.drop_succ_cons]
    exact rcD_drop n K
section
variable {D : Nat} {v : DV} {c : DC} {fp : List Nat} {w X : World}
theorem DS.makeU (h : DS D v c fp w X) (n : Nat) (hn : n ≤ 1000000) :
    ∃ W1, (Instr.makeSlice 26 (.int .i64 (n : Int)) (.int .i64 (n : Int))).run Tryz.prog X = .ok (.slice (some ⟨X.heap.size, 0, none⟩) n n) W1 ∧ W1.cell? ⟨D, 1, none⟩ = some v.u ∧ W1.frozen? ⟨D, 1, none⟩ = false ∧
      DS D { v with u := .slice (some ⟨X.heap.size, 0, none⟩) n n } { c with U := List.replicate n (0 : Int) } fp w (W1.setCell ⟨D, 1, none⟩ (.slice (some ⟨X.heap.size, 0, none⟩) n n)) := by
  obtain ⟨i0, hi0, hz0, hz1, hz2⟩ := info_parts' Tryz.infoInt
  obtain ⟨W1, hr, hrow, hg⟩ := run_make_full (P := Tryz.prog) X 0 26 3 i0 _ 1 Tryz.underlying26 hi0 hz0 hz1 .i64 .i64 n (by rw [hz2]; omega) (by unfold maxLen; omega) (Nat.zero_le _)
  have hb : Below X.heap.size X W1 := ⟨hg.os, hg.tape, hg.output, hg.size, fun b hb => hg.block b hb (by simp)⟩
  have h1 := h.1.on hb
  have hrow2 : W1.ownsRow 0 3 1 (.slice (some ⟨X.heap.size, 0, none⟩) n n) (List.replicate n (0 : Int)).length (ic (List.replicate n (0 : Int))) := by
    rw [List.length_replicate]
    have e : (madeCells (Value.cells (.int .i64 0)) (n * 1)).toList = ic (List.replicate n (0 : Int)) := by
      have := made_flat (Value.cells (.int .i64 0)) (by decide) n
      rw [show (Value.cells (.int .i64 0)).size = 1 from rfl] at this
      rw [this]
      unfold ic
      rw [List.map_replicate]
      induction n with
      | zero => rfl
      | succ n ih => rw [List.replicate_succ, List.replicate_succ, List.flatten_cons]; simp [Value.cells]
    rw [← e]
    exact hrow
  obtain ⟨q1, q2⟩ := h.1.newU hb _ _ hrow2 (fun b e => by simp [Value.ownBlock] at e; omega)
  exact ⟨W1, hr, h1.cells.2.1, h1.frozen _, q1, h.2.trans q2⟩
theorem DS.makeS (h : DS D v c fp w X) (n : Nat) (hn : n ≤ 1000000) :
    ∃ W1, (Instr.makeSlice 33 (.int .i64 (n : Int)) (.int .i64 (n : Int))).run Tryz.prog X = .ok (.slice (some ⟨X.heap.size, 0, none⟩) n n) W1 ∧ W1.cell? ⟨D, 4, none⟩ = some v.s ∧ W1.frozen? ⟨D, 4, none⟩ = false ∧
      DS D { v with s := .slice (some ⟨X.heap.size, 0, none⟩) n n } { c with S := List.replicate n ((0, 0) : Rg) } fp w (W1.setCell ⟨D, 4, none⟩ (.slice (some ⟨X.heap.size, 0, none⟩) n n)) := by
  obtain ⟨i0, hi0, hz0, hz1, hz2⟩ := info_parts' Tryz.infoRg
  obtain ⟨W1, hr, hrow, hg⟩ := run_make_full (P := Tryz.prog) X 0 33 90 i0 _ 2 Tryz.underlying33 hi0 hz0 hz1 .i64 .i64 n (by rw [hz2]; omega) (by unfold maxLen; omega) (Nat.zero_le _)
  have hb : Below X.heap.size X W1 := ⟨hg.os, hg.tape, hg.output, hg.size, fun b hb => hg.block b hb (by simp)⟩
  have h1 := h.1.on hb
  have hrow2 : W1.ownsRow 0 90 2 (.slice (some ⟨X.heap.size, 0, none⟩) n n) (List.replicate n ((0, 0) : Rg)).length (rc (List.replicate n ((0, 0) : Rg))) := by
    rw [List.length_replicate]
    have e : (madeCells (Value.cells (.agg #[.int .i64 0, .int .i64 0])) (n * 2)).toList = rc (List.replicate n ((0, 0) : Rg)) := by
      have := made_flat (Value.cells (.agg #[.int .i64 0, .int .i64 0])) (by decide) n
      rw [show (Value.cells (.agg #[.int .i64 0, .int .i64 0])).size = 2 from rfl] at this
      rw [this]
      exact (flat_map encR ((0, 0) : Rg) n).symm
    rw [← e]
    exact hrow
  obtain ⟨q1, q2⟩ := h.1.newS hb _ _ hrow2 (fun b e => by simp [Value.ownBlock] at e; omega)
  exact ⟨W1, hr, h1.cells.2.2.2.2, h1.frozen _, q1, h.2.trans q2⟩
theorem DS.makeK (h : DS D v c fp w X) (n : Nat) (hn : n ≤ 1000000) :
    ∃ W1, (Instr.makeSlice 31 (.int .i64 (n : Int)) (.int .i64 (n : Int))).run Tryz.prog X = .ok (.slice (some ⟨X.heap.size, 0, none⟩) n n) W1 ∧ W1.cell? ⟨D, 2, none⟩ = some v.k ∧ W1.frozen? ⟨D, 2, none⟩ = false ∧
      DS D { v with k := .slice (some ⟨X.heap.size, 0, none⟩) n n } { c with K := List.replicate n ((0, .slice none 0 0) : Int × Value) } fp w (W1.setCell ⟨D, 2, none⟩ (.slice (some ⟨X.heap.size, 0, none⟩) n n)) := by
  obtain ⟨i0, hi0, hz0, hz1, hz2⟩ := info_parts' Tryz.infoMark
  obtain ⟨W1, hr, hrow, hg⟩ := run_make_full (P := Tryz.prog) X 0 31 58 i0 _ 2 Tryz.underlying31 hi0 hz0 hz1 .i64 .i64 n (by rw [hz2]; omega) (by unfold maxLen; omega) (Nat.zero_le _)
  have hb : Below X.heap.size X W1 := ⟨hg.os, hg.tape, hg.output, hg.size, fun b hb => hg.block b hb (by simp)⟩
  have h1 := h.1.on hb
  have hrow2 : W1.ownsRow 0 58 2 (.slice (some ⟨X.heap.size, 0, none⟩) n n) (List.replicate n ((0, .slice none 0 0) : Int × Value)).length (kC (List.replicate n ((0, .slice none 0 0) : Int × Value))) := by
    rw [List.length_replicate]
    have e : (madeCells (Value.cells (.agg #[.int .i64 0, .slice none 0 0])) (n * 2)).toList = kC (List.replicate n ((0, .slice none 0 0) : Int × Value)) := by
      have := made_flat (Value.cells (.agg #[.int .i64 0, .slice none 0 0])) (by decide) n
      rw [show (Value.cells (.agg #[.int .i64 0, .slice none 0 0])).size = 2 from rfl] at this
      rw [this]
      exact (flat_map kE ((0, .slice none 0 0) : Int × Value) n).symm
    rw [← e]
    exact hrow
  obtain ⟨q1, q2⟩ := h.1.newK hb _ _ hrow2 (fun b e => by simp [Value.ownBlock] at e; omega)
  exact ⟨W1, hr, h1.cells.2.2.1, h1.frozen _, q1, h.2.trans q2⟩
theorem DS.makeM (h : DS D v c fp w X) (n : Nat) (hn : n ≤ 1000000) :
    ∃ W1, (Instr.makeSlice 30 (.int .i64 (n : Int)) (.int .i64 (n : Int))).run Tryz.prog X = .ok (.slice (some ⟨X.heap.size, 0, none⟩) n n) W1 ∧ W1.cell? ⟨D, 0, none⟩ = some v.m ∧ W1.frozen? ⟨D, 0, none⟩ = false ∧
      DS D { v with m := .slice (some ⟨X.heap.size, 0, none⟩) n n } { c with M := List.replicate n ML0 } fp w (W1.setCell ⟨D, 0, none⟩ (.slice (some ⟨X.heap.size, 0, none⟩) n n)) := by
  obtain ⟨i0, hi0, hz0, hz1, hz2⟩ := info_parts' Tryz.infoMail
  obtain ⟨W1, hr, hrow, hg⟩ := run_make_full (P := Tryz.prog) X 0 30 88 i0 _ 13 Tryz.underlying30 hi0 hz0 hz1 .i64 .i64 n (by rw [hz2]; omega) (by unfold maxLen; omega) (Nat.zero_le _)
  have hb : Below X.heap.size X W1 := ⟨hg.os, hg.tape, hg.output, hg.size, fun b hb => hg.block b hb (by simp)⟩
  have h1 := h.1.on hb
  have hrow2 : W1.ownsRow 0 88 13 (.slice (some ⟨X.heap.size, 0, none⟩) n n) (List.replicate n ML0).length (mlC (List.replicate n ML0)) := by
    rw [List.length_replicate]
    have e : (madeCells (Value.cells (.agg (mlA ML0))) (n * 13)).toList = mlC (List.replicate n ML0) := by
      have := made_flat (Value.cells (.agg (mlA ML0))) (by decide) n
      rw [show (Value.cells (.agg (mlA ML0))).size = 13 from rfl] at this
      rw [this]
      exact (flat_map (fun m => (mlA m).toList) ML0 n).symm
    rw [← e]
    exact hrow
  obtain ⟨q1, q2⟩ := h.1.newM hb _ _ hrow2 (fun b e => by simp [Value.ownBlock] at e; omega)
  exact ⟨W1, hr, h1.cells.1, h1.frozen _, q1, h.2.trans q2⟩
theorem DS.putS (h : DS D v c fp w X) {g n cp k : Nat} (es : v.s = .slice (some ⟨g, 0, none⟩) n cp) (hk : k < c.S.length) (p : Rg) :
    X.cell? ⟨g, k * 2, none⟩ = some (.int .i64 (c.S.getD k (0, 0)).1) ∧ X.cell? ⟨g, k * 2 + 1, none⟩ = some (.int .i64 (c.S.getD k (0, 0)).2) ∧ (∀ j, X.frozen? ⟨g, j, none⟩ = false) ∧ DS D v { c with S := c.S.set k p } fp w ((X.setCell ⟨g, k * 2, none⟩ (.int .i64 p.1)).setCell ⟨g, k * 2 + 1, none⟩ (.int .i64 p.2)) := by
  have hr := h.1.set
  obtain ⟨a, c2, e⟩ := ownsRow_shape hr
  have hn : n = c.S.length := by rw [es] at e; injection e
  rw [es, hn] at hr
  have hcs := rc_at c.S k hk
  have s1 := (hr.stored (k * 2) (.int .i64 p.1)).1
  have s2 := (s1.stored (k * 2 + 1) (.int .i64 p.2)).1
  rw [rcD_set c.S k p hk] at s2
  have hst : Stays [g] X ((X.setCell ⟨g, k * 2, none⟩ (.int .i64 p.1)).setCell ⟨g, k * 2 + 1, none⟩ (.int .i64 p.2)) := Stays.setCell (p := ⟨g, k * 2 + 1, none⟩) (Stays.setCell (p := ⟨g, k * 2, none⟩) (Stays.refl _ _) (.inl (by simp)) _) (.inl (by simp)) _
  obtain ⟨q1, q2⟩ := h.1.inS (g := g) (by rw [es]; rfl) hst (c.S.set k p) (by rw [List.length_set, es, hn]; exact s2)
  exact ⟨by rw [hr.cellAt _ (by omega)]; exact hcs.1, by rw [hr.cellAt _ (by omega)]; exact hcs.2, fun j => hr.frozenAt j, q1, h.2.trans q2⟩
theorem DS.putU (h : DS D v c fp w X) {g n cp k : Nat} (es : v.u = .slice (some ⟨g, 0, none⟩) n cp) (hk : k < c.U.length) (p : Int) :
    X.cell? ⟨g, k, none⟩ = some (.int .i64 (c.U.getD k 0)) ∧ (∀ j, X.frozen? ⟨g, j, none⟩ = false) ∧ DS D v { c with U := c.U.set k p } fp w (X.setCell ⟨g, k, none⟩ (.int .i64 p)) := by
  have hr := h.1.uids
  obtain ⟨a, c2, e⟩ := ownsRow_shape hr
  have hn : n = c.U.length := by rw [es] at e; injection e
  rw [es, hn] at hr
  have s1 := (hr.stored k (.int .i64 p)).1
  have es1 : (ic c.U).set k (.int .i64 p) = ic (c.U.set k p) := by unfold ic; rw [List.map_set]
  rw [es1] at s1
  have hst : Stays [g] X (X.setCell ⟨g, k, none⟩ (.int .i64 p)) := Stays.setCell (p := ⟨g, k, none⟩) (Stays.refl _ _) (.inl (by simp)) _
  obtain ⟨q1, q2⟩ := h.1.inU (g := g) (by rw [es]; rfl) hst (c.U.set k p) (by rw [List.length_set, es, hn]; exact s1)
  exact ⟨by rw [hr.cellAt _ (by omega)]; exact ic_at _ _ hk, fun j => hr.frozenAt j, q1, h.2.trans q2⟩
theorem DS.putK (h : DS D v c fp w X) {g n cp k : Nat} (es : v.k = .slice (some ⟨g, 0, none⟩) n cp) {p0 : Int × Value} (hk : c.K[k]? = some p0) (p : Int × Value) :
    X.cell? ⟨g, k * 2, none⟩ = some (.int .i64 p0.1) ∧ X.cell? ⟨g, k * 2 + 1, none⟩ = some p0.2 ∧ (∀ j, X.frozen? ⟨g, j, none⟩ = false) ∧ DS D v { c with K := c.K.set k p } fp w ((X.setCell ⟨g, k * 2, none⟩ (.int .i64 p.1)).setCell ⟨g, k * 2 + 1, none⟩ p.2) := by
  have hkl : k < c.K.length := (List.getElem?_eq_some_iff.1 hk).1
  have hr := h.1.marks
  obtain ⟨a, c2, e⟩ := ownsRow_shape hr
  have hn : n = c.K.length := by rw [es] at e; injection e
  rw [es, hn] at hr
  have hcs := kC_at c.K k p0 hk
  have s1 := (hr.stored (k * 2) (.int .i64 p.1)).1
  have s2 := (s1.stored (k * 2 + 1) p.2).1
  rw [kC_set c.K k p hkl] at s2
  have hst : Stays [g] X ((X.setCell ⟨g, k * 2, none⟩ (.int .i64 p.1)).setCell ⟨g, k * 2 + 1, none⟩ p.2) := Stays.setCell (p := ⟨g, k * 2 + 1, none⟩) (Stays.setCell (p := ⟨g, k * 2, none⟩) (Stays.refl _ _) (.inl (by simp)) _) (.inl (by simp)) _
  obtain ⟨q1, q2⟩ := h.1.inK (g := g) (by rw [es]; rfl) hst (c.K.set k p) (by rw [List.length_set, es, hn]; exact s2)
  exact ⟨by rw [hr.cellAt _ (by omega)]; exact hcs.1, by rw [hr.cellAt _ (by omega)]; exact hcs.2, fun j => hr.frozenAt j, q1, h.2.trans q2⟩
/-- copy(d.set, l). -/
theorem DS.copyS (h : DS D v c fp w X) {g n cp : Nat} (es : v.s = .slice (some ⟨g, 0, none⟩) n cp) {lv : Value} {l : List Rg} (hl : Rgs X lv l) (hle : l.length ≤ c.S.length) :
    ∃ W1, (Builtin.copy_ #[33, 33] 3 #[.slice (some ⟨g, 0, none⟩) n cp, lv]).run Tryz.prog X = .ok (goInt l.length) W1 ∧ DS D v { c with S := l ++ c.S.drop l.length } fp w W1 := by
  obtain ⟨sp, scap, rfl, hs0, hs1⟩ := hl.src
  have hr := h.1.set
  obtain ⟨a, c2, e⟩ := ownsRow_shape hr
  have hn : n = c.S.length := by rw [es] at e; injection e
  rw [es] at hr
  rw [← hn] at hr
  obtain ⟨i0, hi0, hz0, hz1, hz2⟩ := info_parts' Tryz.infoRg
  obtain ⟨W1, hrun, hr2, hg2⟩ := copyRun (P := Tryz.prog) 33 33 3 90 2 Tryz.underlying33 (by rw [hi0]; simp [hz1]) hr (rc l) (rc_length l) (by omega) hs0 hs1 (rc_one l)
  have ed : rc l ++ (rc c.S).drop (rc l).length = rc (l ++ c.S.drop l.length) := by
    rw [rc_append, rc_length, rcD_drop]
  rw [ed] at hr2
  have hst : Stays [g] X W1 := Stays.ofGrown hg2 (fun b e => by cases e; simp)
  obtain ⟨q1, q2⟩ := h.1.inS (g := g) (by rw [es]; rfl) hst (l ++ c.S.drop l.length) (by
    rw [es, List.length_append, List.length_drop, show l.length + (c.S.length - l.length) = n by omega]
    exact hr2)
  exact ⟨W1, hrun, q1, h.2.trans q2⟩
end
end Go.Proofs.YtflkhnmggmfhfaaGreat

/- The desk's pieces. -/
namespace Go.Proofs.YtflkhnmggmfhfaaGreat
open Go.RowKit

def fillS (i : Nat) : Rg := (1, -(i : Int))
/-- What pieces answers and leaves. -/
def PcOut (D : Nat) (c : DC) (l : List Rg) (fp : List Nat) (w : World) (e : Ending) (w' : World) : Prop :=
  ∃ (g cp n : Nat) (v' : DV), e = .returned (.slice (some ⟨g, 0, none⟩) l.length cp) ∧ DS D v' { c with S := l ++ ((List.range n).map fillS).drop l.length } fp w w' ∧ l.length ≤ n ∧ n ≤ 1000000 ∧ Rgs w' (.slice (some ⟨g, 0, none⟩) l.length cp) l ∧ v'.s = .slice (some ⟨g, 0, none⟩) n cp ∧ True
set_option maxRecDepth 100000 in
set_option maxHeartbeats 4000000 in
theorem pieces_any {D : Nat} {v : DV} {c : DC} {w : World} (h : DK D v c w) (lv : Value) (l : List Rg) (hr : Rgs w lv l) (ho : 0 < l.length → ∀ b, lv.ownBlock = some b → b ∉ fpD D v c.F) (hl : l.length ≤ 300) (hS : c.S.length ≤ 1000000) :
    Calls Tryz.prog 20 #[.pointer (some ⟨D, 0, none⟩), lv] w (PcOut D c l (fpD D v c.F) w) := by
  obtain ⟨sp, scap, rfl, hs⟩ := hr.shape
  have HRX : Hid (∀ X, FO (fpD D v c.F) (fpD D v c.F) w X ∨ True → True) := Lib.hid (fun _ _ => trivial)
  clear HRX
  have HRX : Hid (∀ (X : World) {f : List Nat}, FO (fpD D v c.F) f w X → Rgs X (.slice sp l.length scap) l) := Lib.hid (fun X f hf => by
    rcases hr with hq | ⟨b, off, cap, e, h0, h1, h2⟩
    · exact .inl hq
    · by_cases hz : 0 < l.length
      · have hb : b ∉ fpD D v c.F := ho hz b (by rw [e]; rfl)
        refine .inr ⟨b, off, cap, e, h0, Nat.lt_of_lt_of_le h1 hf.1.size, fun i hi => ?_⟩
        rw [World.cell?_of_block (a := ⟨b, off + i * 2, none⟩) (hf.keep h1 hb), World.cell?_of_block (a := ⟨b, off + i * 2 + 1, none⟩) (hf.keep h1 hb)]
        exact h2 i hi
      · exact .inr ⟨b, off, cap, e, h0, Nat.lt_of_lt_of_le h1 hf.1.size, fun i hi => absurd hi (by omega)⟩)
  obtain ⟨_, _, _, _, c4⟩ := h.cells
  obtain ⟨sa, sc, es⟩ := ownsRow_shape h.set
  have f4 := h.frozen 4
  rw [es] at c4
  generalize hfp : fpD D v c.F = fp at *
  have hd : DS D v c fp w w := ⟨h, by rw [hfp]; exact FO.refl _ _⟩
  by_cases hc : c.S.length < l.length + 3
  · have hcz : (c.S.length : Int) < (l.length : Int) + 3 := by omega
    obtain ⟨n, hn⟩ : ∃ n, 2 * l.length + 20 = n := ⟨_, rfl⟩
    have hnz : (2 : Int) * (l.length : Int) + 20 = (n : Int) := by omega
    have hln : l.length ≤ n := by omega
    have hn1 : n ≤ 1000000 := by omega
    obtain ⟨W1, hmk, m4, mf, hd1⟩ := hd.makeS n hn1
    rw [es] at m4
    obtain ⟨g, hg⟩ : ∃ g, w.heap.size = g := ⟨_, rfl⟩
    obtain ⟨cp, hcp⟩ : ∃ cp, n = cp := ⟨_, rfl⟩
    obtain ⟨v0, hv0⟩ : ∃ v0 : DV, ({ v with s := .slice (some ⟨w.heap.size, 0, none⟩) n n } : DV) = v0 := ⟨_, rfl⟩
    obtain ⟨c0, hc0⟩ : ∃ c0 : DC, ({ c with S := List.replicate n ((0, 0) : Rg) } : DC) = c0 := ⟨_, rfl⟩
    rw [hv0, hc0] at hd1
    have HES : Hid (v0.s = .slice (some ⟨g, 0, none⟩) n cp) := Lib.hid (by rw [← hv0, ← hg, ← hcp])
    have HN : Hid (c0.S.length = n) := Lib.hid (by rw [← hc0]; simp)
    have HC0 : Hid (∀ S, ({ c0 with S := S } : DC) = { c with S := S }) := Lib.hid (fun S => by rw [← hc0])
    have HD0 := Lib.hid hd1
    clear h hd hd1 hn es hr ho hS hv0 hc0 hg hcp
    go_enter Tryz.func20, Tryz.ntmps20
    go_upto_region 4 with fail
    clear hmk m4 mf c4 f4
    generalize W1.setCell ⟨D, 4, none⟩ (.slice (some ⟨w.heap.size, 0, none⟩) n n) = W4 at *
    go_loopw [5] (fun i wr => ∃ (k : Nat) (X : World), X = wr ∧ k ≤ n ∧ i = .int .i64 k ∧ DS D v0 { c0 with S := layK fillS c0.S k } fp w X) (fun i _ => n - (intOf i).toNat)
    case atStart => exact ⟨0, _, rfl, Nat.zero_le _, rfl, by rw [layK_zero]; exact HD0.out⟩
    case round =>
      obtain ⟨k, X, hX, hk, rfl, hd⟩ := hrel
      subst hX
      obtain ⟨_, _, _, _, c4⟩ := hd.1.cells
      rw [HES.out] at c4
      by_cases hlt : k < n
      · have hlti : (k : Int) < (n : Int) := by omega
        obtain ⟨p1, p2, pf, p3⟩ := hd.putS HES.out (k := k) (by show k < (layK fillS c0.S k).length; rw [layK_length _ _ (by rw [HN.out]; exact hk), HN.out]; exact hlt) (fillS k)
        have f1 := pf (k * 2)
        have f2 := pf (k * 2 + 1)
        have HP3 : Hid (DS D v0 { c0 with S := layK fillS c0.S (k + 1) } fp w ((X.setCell ⟨g, k * 2, none⟩ (.int .i64 1)).setCell ⟨g, k * 2 + 1, none⟩ (.int .i64 (-(k : Int))))) := Lib.hid (by
          have e := layK_set fillS c0.S (k := k) (by rw [HN.out]; exact hlt)
          rw [← e]
          exact p3)
        have hkw : IntKind.i64.wrap (-(k : Int)) = -(k : Int) := by simp only [IntKind.wrap, IntKind.signed, IntKind.bits]; simp; omega
        clear hd pf p3
        generalize (({ c0 with S := layK fillS c0.S k } : DC).S.getD k (0, 0)).1 = z1 at *
        generalize (({ c0 with S := layK fillS c0.S k } : DC).S.getD k (0, 0)).2 = z2 at *
        go_wp2_with fail
        go_roundw
        case rel => exact ⟨k + 1, _, rfl, by omega, by go_num, HP3.out⟩
        case measure => simp [intOf]; omega
      · obtain rfl : k = n := by omega
        have hd2 : DS D v0 { c0 with S := (List.range k).map fillS } fp w X := by
          have e := layK_full fillS c0.S
          rw [HN.out] at e
          rw [← e]
          exact hd
        have hlX : Rgs X (.slice sp l.length scap) l := HRX.out X hd2.2
        obtain ⟨W1, hrun, h5⟩ := hd2.copyS HES.out hlX (by simp; omega)
        have HRun := Lib.hid hrun
        have H5 := Lib.hid h5
        obtain ⟨_, _, _, _, c5⟩ := h5.1.cells
        rw [HES.out] at c5
        have HFin : Hid (PcOut D c l fp w (.returned (.slice (some ⟨g, 0, none⟩) l.length cp)) W1) := Lib.hid (by
          have hset := h5.1.set
          refine ⟨g, cp, k, _, rfl, by rw [← HC0.out]; exact h5, by omega, by omega, ?_, HES.out, ?_⟩
          · have hrow := hset
            rw [HES.out] at hrow
            have hlen : (l ++ ((List.range k).map fillS).drop l.length).length = k := by simp; omega
            have hrow2 : W1.ownsRow 0 90 2 (.slice (some ⟨g, 0, none⟩) k cp) k (rc (l ++ ((List.range k).map fillS).drop l.length)) := by rw [← hlen]; rw [hlen]; have := hrow; rw [hlen] at this; exact this
            refine .inr ⟨g, 0, cp, rfl, by omega, (hrow2.lt g rfl).2, fun i hi => ?_⟩
            have h1 := rc_at (l ++ ((List.range k).map fillS).drop l.length) i (by omega)
            have e1 : (l ++ ((List.range k).map fillS).drop l.length).getD i (0, 0) = l.getD i (0, 0) := by
              rw [List.getD_eq_getElem?_getD, List.getElem?_append_left hi, List.getD_eq_getElem?_getD]
            rw [e1] at h1
            rw [Nat.zero_add, hrow2.cellAt _ (by omega), hrow2.cellAt _ (by omega)]
            exact h1
          · exact trivial)
        have hlk : (l.length : Int) ≤ (k : Int) := by omega
        have hlc : (l.length : Int) ≤ (cp : Int) := by
          have hset := h5.1.set
          rw [HES.out] at hset
          rcases hset.2 with ⟨q, _⟩ | ⟨g', cap', cur, q, _, _, q1, _⟩
          · cases q
          · injection q with _ _ q3
            subst q3
            have : (l ++ ((List.range k).map fillS).drop l.length).length = k := by simp; omega
            have q1' : k ≤ cp := by rw [← this]; exact q1
            omega
        clear hd hd2 hlX hrun h5
        go_upto_region 7 with fail
        have hrun := HRun.out
        go_upto_region 8 with fail
        clear hrun
        go_wp2_with fail
        go_ret
        exact HFin.out
  · have hcz : ¬ (c.S.length : Int) < (l.length : Int) + 3 := by omega
    obtain ⟨n, hn⟩ : ∃ n, c.S.length = n := ⟨_, rfl⟩
    have hln : l.length ≤ n := by omega
    have hn1 : n ≤ 1000000 := by omega
    obtain ⟨g, cp, es2⟩ : ∃ g cp, v.s = .slice (some ⟨g, 0, none⟩) c.S.length cp := by
      rcases h.set.2 with ⟨_, h0⟩ | ⟨g, cap, cur, e, _⟩
      · omega
      · exact ⟨g, cap, e⟩
    obtain ⟨v0, hv0⟩ : ∃ v0 : DV, v = v0 := ⟨_, rfl⟩
    obtain ⟨c0, hc0⟩ : ∃ c0 : DC, c = c0 := ⟨_, rfl⟩
    rw [hn] at es2
    have HES : Hid (v0.s = .slice (some ⟨g, 0, none⟩) n cp) := Lib.hid (by rw [← hv0]; exact es2)
    have HN : Hid (c0.S.length = n) := Lib.hid (by rw [← hc0]; exact hn)
    have HC0 : Hid (∀ S, ({ c0 with S := S } : DC) = { c with S := S }) := Lib.hid (fun S => by rw [← hc0])
    have HD0 : Hid (DS D v0 c0 fp w w) := Lib.hid (by rw [← hv0, ← hc0]; exact hd)
    rw [hn] at c4 hcz
    clear h hd hn es es2 hr ho hS hv0 hc0
    go_enter Tryz.func20, Tryz.ntmps20
    go_upto_region 4 with fail
    clear c4 f4
    go_loopw [5] (fun i wr => ∃ (k : Nat) (X : World), X = wr ∧ k ≤ n ∧ i = .int .i64 k ∧ DS D v0 { c0 with S := layK fillS c0.S k } fp w X) (fun i _ => n - (intOf i).toNat)
    case atStart => exact ⟨0, _, rfl, Nat.zero_le _, rfl, by rw [layK_zero]; exact HD0.out⟩
    case round =>
      obtain ⟨k, X, hX, hk, rfl, hd⟩ := hrel
      subst hX
      obtain ⟨_, _, _, _, c4⟩ := hd.1.cells
      rw [HES.out] at c4
      by_cases hlt : k < n
      · have hlti : (k : Int) < (n : Int) := by omega
        obtain ⟨p1, p2, pf, p3⟩ := hd.putS HES.out (k := k) (by show k < (layK fillS c0.S k).length; rw [layK_length _ _ (by rw [HN.out]; exact hk), HN.out]; exact hlt) (fillS k)
        have f1 := pf (k * 2)
        have f2 := pf (k * 2 + 1)
        have HP3 : Hid (DS D v0 { c0 with S := layK fillS c0.S (k + 1) } fp w ((X.setCell ⟨g, k * 2, none⟩ (.int .i64 1)).setCell ⟨g, k * 2 + 1, none⟩ (.int .i64 (-(k : Int))))) := Lib.hid (by
          have e := layK_set fillS c0.S (k := k) (by rw [HN.out]; exact hlt)
          rw [← e]
          exact p3)
        have hkw : IntKind.i64.wrap (-(k : Int)) = -(k : Int) := by simp only [IntKind.wrap, IntKind.signed, IntKind.bits]; simp; omega
        clear hd pf p3
        generalize (({ c0 with S := layK fillS c0.S k } : DC).S.getD k (0, 0)).1 = z1 at *
        generalize (({ c0 with S := layK fillS c0.S k } : DC).S.getD k (0, 0)).2 = z2 at *
        go_wp2_with fail
        go_roundw
        case rel => exact ⟨k + 1, _, rfl, by omega, by go_num, HP3.out⟩
        case measure => simp [intOf]; omega
      · obtain rfl : k = n := by omega
        have hd2 : DS D v0 { c0 with S := (List.range k).map fillS } fp w X := by
          have e := layK_full fillS c0.S
          rw [HN.out] at e
          rw [← e]
          exact hd
        have hlX : Rgs X (.slice sp l.length scap) l := HRX.out X hd2.2
        obtain ⟨W1, hrun, h5⟩ := hd2.copyS HES.out hlX (by simp; omega)
        have HRun := Lib.hid hrun
        have H5 := Lib.hid h5
        obtain ⟨_, _, _, _, c5⟩ := h5.1.cells
        rw [HES.out] at c5
        have HFin : Hid (PcOut D c l fp w (.returned (.slice (some ⟨g, 0, none⟩) l.length cp)) W1) := Lib.hid (by
          have hset := h5.1.set
          refine ⟨g, cp, k, _, rfl, by rw [← HC0.out]; exact h5, by omega, by omega, ?_, HES.out, ?_⟩
          · have hrow := hset
            rw [HES.out] at hrow
            have hlen : (l ++ ((List.range k).map fillS).drop l.length).length = k := by simp; omega
            have hrow2 : W1.ownsRow 0 90 2 (.slice (some ⟨g, 0, none⟩) k cp) k (rc (l ++ ((List.range k).map fillS).drop l.length)) := by rw [← hlen]; rw [hlen]; have := hrow; rw [hlen] at this; exact this
            refine .inr ⟨g, 0, cp, rfl, by omega, (hrow2.lt g rfl).2, fun i hi => ?_⟩
            have h1 := rc_at (l ++ ((List.range k).map fillS).drop l.length) i (by omega)
            have e1 : (l ++ ((List.range k).map fillS).drop l.length).getD i (0, 0) = l.getD i (0, 0) := by
              rw [List.getD_eq_getElem?_getD, List.getElem?_append_left hi, List.getD_eq_getElem?_getD]
            rw [e1] at h1
            rw [Nat.zero_add, hrow2.cellAt _ (by omega), hrow2.cellAt _ (by omega)]
            exact h1
          · exact trivial)
        have hlk : (l.length : Int) ≤ (k : Int) := by omega
        have hlc : (l.length : Int) ≤ (cp : Int) := by
          have hset := h5.1.set
          rw [HES.out] at hset
          rcases hset.2 with ⟨q, _⟩ | ⟨g', cap', cur, q, _, _, q1, _⟩
          · cases q
          · injection q with _ _ q3
            subst q3
            have : (l ++ ((List.range k).map fillS).drop l.length).length = k := by simp; omega
            have q1' : k ≤ cp := by rw [← this]; exact q1
            omega
        clear hd hd2 hlX hrun h5
        go_upto_region 7 with fail
        have hrun := HRun.out
        go_upto_region 8 with fail
        clear hrun
        go_wp2_with fail
        go_ret
        exact HFin.out
end Go.Proofs.YtflkhnmggmfhfaaGreat

/- The desk's pieced. -/
namespace Go.Proofs.YtflkhnmggmfhfaaGreat
open Go.RowKit

theorem lay_at {α : Type} (f : Nat → α) (l : List α) (n k : Nat) (x : α) (hk : k < n) : (l ++ ((List.range n).map f).drop l.length).getD k x = if k < l.length then l.getD k x else f k := by
  by_cases h : k < l.length
  · rw [if_pos h, List.getD_eq_getElem?_getD, List.getElem?_append_left h, List.getD_eq_getElem?_getD]
  · rw [if_neg h, List.getD_eq_getElem?_getD, List.getElem?_append_right (by omega), List.getElem?_drop, show l.length + (k - l.length) = k by omega]
    simp [hk]
theorem lay_len {α : Type} (f : Nat → α) (l : List α) (n : Nat) (hl : l.length ≤ n) : (l ++ ((List.range n).map f).drop l.length).length = n := by simp; omega
set_option maxRecDepth 100000 in
set_option maxHeartbeats 4000000 in
theorem pieced_any {D n : Nat} {v : DV} {c : DC} {w : World} (lv : Value) (l : List Rg) (h : DK D v { c with S := l ++ ((List.range n).map fillS).drop l.length } w) (hln : l.length ≤ n) (hn : n ≤ 1000000) (hr : Rgs w lv l) :
    Calls Tryz.prog 21 #[.pointer (some ⟨D, 0, none⟩), lv] w fun e w' => e = .returned (.bool true) ∧ ∃ m, w' = w.drewN m := by
  obtain ⟨sp, scap, rfl, hs⟩ := hr.shape
  have HS := Lib.hid hs
  obtain ⟨_, _, _, _, c4⟩ := h.cells
  have hrow := h.set
  have hlen : ({ c with S := l ++ ((List.range n).map fillS).drop l.length } : DC).S.length = n := lay_len fillS l n hln
  rw [hlen] at hrow
  obtain ⟨sa, sc, es⟩ := ownsRow_shape hrow
  rw [es] at c4 hrow
  have HR : Hid (∀ k, k < n → ∃ g, sa = some ⟨g, 0, none⟩ ∧ g < w.heap.size ∧ w.cell? ⟨g, k * 2, none⟩ = some (.int .i64 (if k < l.length then l.getD k (0, 0) else fillS k).1) ∧ w.cell? ⟨g, k * 2 + 1, none⟩ = some (.int .i64 (if k < l.length then l.getD k (0, 0) else fillS k).2)) := Lib.hid (fun k hk => by
    rcases hrow.2 with ⟨e, h0⟩ | ⟨g, cap, cur, e, _⟩
    · omega
    · injection e with e1 e2 e3
      subst e1
      have h1 := rc_at (l ++ ((List.range n).map fillS).drop l.length) k (by rw [lay_len fillS l n hln]; exact hk)
      rw [lay_at fillS l n k (0, 0) hk] at h1
      exact ⟨g, rfl, (hrow.lt g rfl).2, by rw [hrow.cellAt _ (by omega)]; exact h1.1, by rw [hrow.cellAt _ (by omega)]; exact h1.2⟩)
  have hD := lt_of_heap h.self
  clear h hs hrow es hlen hr
  go_enter Tryz.func21, Tryz.ntmps21
  go_wp2_with fail
  go_loopw [5] (fun i wr => ∃ (k : Nat) (X : World), X = wr ∧ k ≤ n ∧ i = .int .i64 k ∧ (∃ m, X = w.drewN m)) (fun i _ => n - (intOf i).toNat)
  case atStart => exact ⟨0, _, rfl, Nat.zero_le _, rfl, ⟨0, rfl⟩⟩
  case round =>
    obtain ⟨k, X, hX, hk, rfl, ⟨dm, hdm⟩⟩ := hrel
    subst hX
    have hbX : Below w.heap.size w X := by rw [hdm]; exact below_drewN (Below.refl _ _) dm
    have c4x : X.cell? ⟨D, 4, none⟩ = some (.slice sa n sc) := by rw [hbX.cell (p := ⟨D, 4, none⟩) hD]; exact c4
    by_cases hlt : k < n
    · have hlti : (k : Int) < (n : Int) := by omega
      obtain ⟨g, rfl, hg, a1, a2⟩ := HR.out k hlt
      rw [← hbX.cell (p := ⟨g, k * 2, none⟩) hg] at a1
      rw [← hbX.cell (p := ⟨g, k * 2 + 1, none⟩) hg] at a2
      by_cases hkl : k < l.length
      · rw [if_pos hkl] at a1 a2
        obtain ⟨g2, o2, rfl, hg2, hc2⟩ := HS.out (by omega)
        obtain ⟨b1, b2⟩ := hc2 k hkl
        rw [← hbX.cell (p := ⟨g2, o2 + k * 2, none⟩) hg2] at b1
        rw [← hbX.cell (p := ⟨g2, o2 + k * 2 + 1, none⟩) hg2] at b2
        have hkli : (k : Int) < (l.length : Int) := by omega
        have d1 : decide (k < l.length) = true := by simpa using hkl
        have d2 : decide (l.length ≤ k) = false := by simp; omega
        have HDm := Lib.hid hdm
        clear hc2 hdm hbX
        generalize (l.getD k (0, 0)).1 = x at *
        generalize (l.getD k (0, 0)).2 = y at *
        have q1 : (x == x) = true := by simp
        have q2 : (y == y) = true := by simp
        go_upto_region 4 with fail
        go_quiet (fail)
        go_wp2_with fail
        go_roundw
        case rel => exact ⟨k + 1, _, rfl, by omega, by go_num, ⟨_, by rw [HDm.out, World.drewN_drewN]⟩⟩
        case measure => simp [intOf]; omega
      · rw [if_neg hkl] at a1 a2
        unfold fillS at a1 a2
        have hkli : ¬ (k : Int) < (l.length : Int) := by omega
        have d1 : decide (k < l.length) = false := by simp; omega
        have d2 : decide (l.length ≤ k) = true := by simp; omega
        have HDm := Lib.hid hdm
        have hkw : IntKind.i64.wrap (-(k : Int)) = -(k : Int) := by simp only [IntKind.wrap, IntKind.signed, IntKind.bits]; simp; omega
        have q2 : (-(k : Int) == -(k : Int)) = true := by simp
        clear hdm hbX
        go_upto_region 4 with fail
        go_quiet (fail)
        go_wp2_with fail
        go_roundw
        case rel => exact ⟨k + 1, _, rfl, by omega, by go_num, ⟨_, by rw [HDm.out, World.drewN_drewN]⟩⟩
        case measure => simp [intOf]; omega
    · obtain rfl : k = n := by omega
      have HB2 : Hid (∃ m, X = w.drewN m) := Lib.hid ⟨dm, hdm⟩
      clear hbX hdm
      go_wp2_with fail
      go_ret
      exact ⟨rfl, HB2.out⟩
end Go.Proofs.YtflkhnmggmfhfaaGreat
