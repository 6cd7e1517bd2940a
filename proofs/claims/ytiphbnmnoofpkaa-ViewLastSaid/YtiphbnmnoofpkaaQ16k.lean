/- view: a row goes, a row turns; a number that was coming is taken out. -/
import Derived.Test.YtiphbnmnoofpkaaQ16j
namespace Go.Proofs.Ytiphbnmnoofpkaa
open Go.RowKit

def goE (r : RE) : RE := { r with gone := true, tn := none }
def turnE (t : TE) (r : RE) : RE := { r with tn := some t }
theorem rwC_cons (q : RE) (s : List RE) : rwC (q :: s) = .int .i64 q.uid :: .bool q.gone :: .bool q.rct :: q.ptr :: rwC s := by simp [rwC, RE.enc]
theorem rwC_go (R : List RE) (i : Nat) (hi : i < R.length) : ((rwC R).set (i * 4 + 1) (.bool true)).set (i * 4 + 3) (.pointer none) = rwC (R.set i (goE (R.getD i RE0))) := by
  induction R generalizing i with
  | nil => simp at hi
  | cons p t ih =>
    cases i with
    | zero => rw [rwC_cons]; show _ = rwC (goE p :: t); rw [rwC_cons]; rfl
    | succ i =>
      have := ih i (by simpa using hi)
      rw [rwC_cons, show (i + 1) * 4 = i * 4 + 1 + 1 + 1 + 1 by omega]
      simp only [List.set_cons_succ, List.getD_cons_succ]
      rw [this, rwC_cons]
theorem rwC_turn (R : List RE) (i : Nat) (te : TE) (hi : i < R.length) : (rwC R).set (i * 4 + 3) (.pointer (some ⟨te.blk, 0, none⟩)) = rwC (R.set i (turnE te (R.getD i RE0))) := by
  induction R generalizing i with
  | nil => simp at hi
  | cons p t ih =>
    cases i with
    | zero => rw [rwC_cons]; show _ = rwC (turnE te p :: t); rw [rwC_cons]; rfl
    | succ i =>
      have := ih i (by simpa using hi)
      rw [rwC_cons, show (i + 1) * 4 = i * 4 + 1 + 1 + 1 + 1 by omega]
      simp only [List.set_cons_succ, List.getD_cons_succ]
      rw [this, rwC_cons]
theorem mem_set' {R : List RE} {i : Nat} {r x : RE} (h : x ∈ R.set i r) : x ∈ R ∨ x = r := by
  rcases List.mem_or_eq_of_mem_set h with h | h
  · exact .inl h
  · exact .inr h
theorem getD_mem' {R : List RE} {i : Nat} (hi : i < R.length) : R.getD i RE0 ∈ R := by
  rw [List.getD_eq_getElem?_getD, List.getElem?_eq_getElem hi]
  exact List.getElem_mem hi
section
variable {P : Nat} {val : Int} {cv : Value} {R : List RE} {C : List Int} {w : World} {g cap : Nat}
theorem VAt.row_at {rv : Value} (h : VAt P val rv cv R C w) {i : Nat} (hi : i < R.length) : ∃ g cap, rv = .slice (some ⟨g, 0, none⟩) R.length cap ∧ w.cell? ⟨g, i * 4, none⟩ = some (.int .i64 (R.getD i RE0).uid) ∧ w.cell? ⟨g, i * 4 + 1, none⟩ = some (.bool (R.getD i RE0).gone) ∧ w.cell? ⟨g, i * 4 + 2, none⟩ = some (.bool (R.getD i RE0).rct) ∧ w.cell? ⟨g, i * 4 + 3, none⟩ = some (R.getD i RE0).ptr ∧ ∀ j, w.frozen? ⟨g, j, none⟩ = false := by
  have hr := h.rows
  rcases hr.2 with ⟨rfl, h0⟩ | ⟨g, cap, cur, rfl, _⟩
  · omega
  · have := rwC_at R i hi
    exact ⟨g, cap, rfl, (hr.cellAt _ (by omega)).trans this.1, (hr.cellAt _ (by omega)).trans this.2.1, (hr.cellAt _ (by omega)).trans this.2.2.1, (hr.cellAt _ (by omega)).trans this.2.2.2, fun j => hr.frozenAt j⟩
/-- A row has gone. -/
theorem VAt.goR (h : VAt P val (.slice (some ⟨g, 0, none⟩) R.length cap) cv R C w) {i : Nat} (hi : i < R.length) :
    VAt P val (.slice (some ⟨g, 0, none⟩) R.length cap) cv (R.set i (goE (R.getD i RE0))) C ((w.setCell ⟨g, i * 4 + 1, none⟩ (.bool true)).setCell ⟨g, i * 4 + 3, none⟩ (.pointer none)) ∧
      FO (fpV P (.slice (some ⟨g, 0, none⟩) R.length cap) cv R) (fpV P (.slice (some ⟨g, 0, none⟩) R.length cap) cv (R.set i (goE (R.getD i RE0)))) w ((w.setCell ⟨g, i * 4 + 1, none⟩ (.bool true)).setCell ⟨g, i * 4 + 3, none⟩ (.pointer none)) := by
  obtain ⟨s1, g1⟩ := h.rows.stored (i * 4 + 1) (.bool true)
  obtain ⟨s2, g2⟩ := s1.stored (i * 4 + 3) (.pointer none)
  rw [rwC_go R i hi] at s2
  have keep : ∀ b, b ≠ g → ((w.setCell ⟨g, i * 4 + 1, none⟩ (.bool true)).setCell ⟨g, i * 4 + 3, none⟩ (.pointer none)).heap[b]? = w.heap[b]? := fun b hb => by
    rw [Below.heap_setCell _ _ _ _ hb, Below.heap_setCell _ _ _ _ hb]
  have hgo : (Value.slice (some ⟨g, 0, none⟩) R.length cap).ownBlock = some g := rfl
  refine ⟨⟨?_, ?_, ?_, ?_⟩, ?_, ?_⟩
  · rw [keep P (fun e => h.pr (e ▸ hgo))]; exact h.self
  · rw [List.length_set]; exact s2
  · exact ownsRow_same h.com (fun b e => keep b (fun e' => h.rc hgo (e' ▸ e)))
  · intro r hr t ht
    rcases mem_set' hr with hr | rfl
    · exact (h.turns r hr t ht).hold (fun b hb => keep b (fun e' => (h.tt hr ht hb).2.1 (e' ▸ hgo)))
    · cases ht
  · exact Stays.setCell (p := ⟨g, i * 4 + 3, none⟩) (Stays.setCell (p := ⟨g, i * 4 + 1, none⟩) (Stays.refl _ _) (.inl (mem_fpV_r hgo)) _) (.inl (mem_fpV_r hgo)) _
  · intro b hb
    rcases mem_fpV.1 hb with rfl | hb | hb | ⟨r, hr, hb⟩
    · exact .inl mem_fpV_p
    · exact .inl (mem_fpV_r hb)
    · exact .inl (mem_fpV_c hb)
    · rcases mem_set' hr with hr | rfl
      · exact .inl (mem_fpV_t hr hb)
      · rw [blks_no rfl] at hb; cases hb
/-- Something waits of a row; it lies in new blocks. -/
theorem VAt.turnR {w1 : World} (h : VAt P val (.slice (some ⟨g, 0, none⟩) R.length cap) cv R C w) {i : Nat} (hi : i < R.length) (hb1 : Below w.heap.size w w1) (t : TE) (ht1 : TurnAt w1 t) (hnew : ∀ b, b ∈ t.blks → w.heap.size ≤ b) :
    VAt P val (.slice (some ⟨g, 0, none⟩) R.length cap) cv (R.set i (turnE t (R.getD i RE0))) C (w1.setCell ⟨g, i * 4 + 3, none⟩ (.pointer (some ⟨t.blk, 0, none⟩))) ∧
      FO (fpV P (.slice (some ⟨g, 0, none⟩) R.length cap) cv R) (fpV P (.slice (some ⟨g, 0, none⟩) R.length cap) cv (R.set i (turnE t (R.getD i RE0)))) w (w1.setCell ⟨g, i * 4 + 3, none⟩ (.pointer (some ⟨t.blk, 0, none⟩))) := by
  have h1 := h.on hb1
  obtain ⟨s1, g1⟩ := h1.rows.stored (i * 4 + 3) (.pointer (some ⟨t.blk, 0, none⟩))
  rw [rwC_turn R i t hi] at s1
  have hgl : g < w.heap.size := (h.rows.lt g rfl).2
  have keep : ∀ b, b ≠ g → (w1.setCell ⟨g, i * 4 + 3, none⟩ (.pointer (some ⟨t.blk, 0, none⟩))).heap[b]? = w1.heap[b]? := fun b hb => by
    rw [Below.heap_setCell _ _ _ _ hb]
  have hgo : (Value.slice (some ⟨g, 0, none⟩) R.length cap).ownBlock = some g := rfl
  refine ⟨⟨?_, ?_, ?_, ?_⟩, ?_, ?_⟩
  · rw [keep P (fun e => h1.pr (e ▸ hgo))]; exact h1.self
  · rw [List.length_set]; exact s1
  · exact ownsRow_same h1.com (fun b e => keep b (fun e' => h1.rc hgo (e' ▸ e)))
  · intro r hr t' ht
    rcases mem_set' hr with hr | rfl
    · exact (h1.turns r hr t' ht).hold (fun b hb => keep b (fun e' => (h1.tt hr ht hb).2.1 (e' ▸ hgo)))
    · have : t = t' := by simpa [turnE] using ht
      subst this
      exact ht1.hold (fun b hb => keep b (fun e' => by have := hnew b hb; omega))
  · exact Stays.setCell (p := ⟨g, i * 4 + 3, none⟩) (Stays.ofBelow hb1) (.inl (mem_fpV_r hgo)) _
  · intro b hb
    rcases mem_fpV.1 hb with rfl | hb | hb | ⟨r, hr, hb⟩
    · exact .inl mem_fpV_p
    · exact .inl (mem_fpV_r hb)
    · exact .inl (mem_fpV_c hb)
    · rcases mem_set' hr with hr | rfl
      · exact .inl (mem_fpV_t hr hb)
      · rw [blks_tn (t := t) rfl] at hb; exact .inr (hnew b hb)
/-- coming is another row that the call made, in its own block or a new one. -/
theorem VAt.newC {rv cv' : Value} {C' : List Int} {w1 : World} (h : VAt P val rv cv R C w) (hg1 : w.grownBy w1 cv.ownBlock) (hrow : w1.ownsRow 0 3 1 cv' C'.length (ic C')) (hb : ∀ b, cv'.ownBlock = some b → cv.ownBlock = some b ∨ w.heap.size ≤ b) :
    w1.heap[P]? = some (selfV val rv cv) ∧ VAt P val rv cv' R C' (w1.setCell ⟨P, 3, none⟩ cv') ∧ FO (fpV P rv cv R) (fpV P rv cv' R) w (w1.setCell ⟨P, 3, none⟩ cv') := by
  have hbl := lt_of_heap h.self
  have hs1 : w1.heap[P]? = some (selfV val rv cv) := by rw [hg1.block P hbl (fun e => h.pc e.symm)]; exact h.self
  have hset : ∀ b, b ≠ P → (w1.setCell ⟨P, 3, none⟩ cv').heap[b]? = w1.heap[b]? := fun b hb => Below.heap_setCell _ _ _ _ hb
  have keep : ∀ b, b < w.heap.size → b ≠ P → cv.ownBlock ≠ some b → (w1.setCell ⟨P, 3, none⟩ cv').heap[b]? = w.heap[b]? := fun b hb hp hc => by
    rw [hset b hp, hg1.block b hb (fun e => hc e.symm)]
  refine ⟨hs1, ⟨?_, ?_, ?_, ?_⟩, ?_, ?_⟩
  · unfold selfV at hs1
    rw [heap_setCell_at _ hs1]
    rfl
  · exact ownsRow_same h.rows (fun b e => keep b (h.rows.lt b e).2 (fun e' => h.pr (e' ▸ e)) (h.rc e))
  · exact ownsRow_same hrow (fun b e => hset b (fun e' => by
      subst e'
      rcases hb _ e with e2 | e2
      · exact h.pc e2
      · omega))
  · intro r hr t ht
    refine (h.turns r hr t ht).hold (fun b hb => ?_)
    have q := h.tt hr ht hb
    exact keep b ((h.turns r hr t ht).lt hb) q.1 q.2.2
  · exact Stays.setCell (p := ⟨P, 3, none⟩) (Stays.ofGrown hg1 (fun b e => mem_fpV_c e)) (.inl mem_fpV_p) _
  · intro b hb'
    rcases mem_fpV.1 hb' with rfl | hb' | hb' | ⟨r, hr, hb'⟩
    · exact .inl mem_fpV_p
    · exact .inl (mem_fpV_r hb')
    · rcases hb b hb' with e | e
      · exact .inl (mem_fpV_c e)
      · exact .inr e
    · exact .inl (mem_fpV_t hr hb')
end
end Go.Proofs.Ytiphbnmnoofpkaa
