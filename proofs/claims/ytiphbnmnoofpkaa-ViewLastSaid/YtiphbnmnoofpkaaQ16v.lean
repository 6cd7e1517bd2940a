/- view: tellFlags. -/
import Derived.Test.YtiphbnmnoofpkaaQ16u
namespace Go.Proofs.Ytiphbnmnoofpkaa
open Go.RowKit

def calmE (r : RE) : RE := if r.gone = true then r else { r with tn := none }
theorem calmE_pl (r : RE) : (calmE r).pl = calmR r.pl := by
  unfold calmE calmR
  by_cases h : r.gone = true
  · rw [if_pos h, if_pos (show r.pl.gone = true from h)]
  · rw [if_neg h, if_neg (show ¬ r.pl.gone = true from h)]; rfl
def fE (n : Nat) (r : RE) : List TDE := if r.gone = true then [] else match r.tn with | none => [] | some t => [⟨4, (n : Int) + 1, r.uid, t.num, t.fv, t.fl⟩]
def flagE : Nat → List RE → List TDE
  | _, [] => []
  | n, r :: rs => fE n r ++ flagE (n + 1) rs
theorem flagE_pl : ∀ (R : List RE) (n : Nat), (flagE n R).map TDE.pl = flagT n (R.map RE.pl)
  | [], _ => rfl
  | r :: R, n => by
    show (fE n r ++ flagE (n + 1) R).map TDE.pl = _ ++ flagT (n + 1) (R.map RE.pl)
    rw [List.map_append, flagE_pl R (n + 1)]
    congr 1
    unfold fE
    by_cases h : r.gone = true
    · rw [if_pos h, if_pos (show r.pl.gone = true from h)]; rfl
    · rw [if_neg h, if_neg (show ¬ r.pl.gone = true from h)]
      cases htn : r.tn with
      | none =>
        have : r.pl.wt = none := by show r.tn.map TE.pl = none; rw [htn]; rfl
        rw [this]; rfl
      | some t =>
        have : r.pl.wt = some t.pl := by show r.tn.map TE.pl = _; rw [htn]; rfl
        rw [this]; rfl
theorem flagE_snoc : ∀ (R : List RE) (n : Nat) (r : RE), flagE n (R ++ [r]) = flagE n R ++ fE (n + R.length) r
  | [], n, r => by show fE n r ++ [] = [] ++ fE (n + 0) r; simp
  | x :: R, n, r => by
    show fE n x ++ flagE (n + 1) (R ++ [r]) = fE n x ++ flagE (n + 1) R ++ fE (n + (R.length + 1)) r
    rw [flagE_snoc R (n + 1) r, List.append_assoc, show n + 1 + R.length = n + (R.length + 1) by omega]
theorem flagE_len : ∀ (R : List RE) (n : Nat), (flagE n R).length ≤ R.length
  | [], _ => Nat.le_refl _
  | r :: R, n => by
    have h1 := flagE_len R (n + 1)
    have h2 : (fE n r).length ≤ 1 := by
      unfold fE
      split
      · simp
      · split <;> simp
    show (fE n r ++ flagE (n + 1) R).length ≤ _
    simp only [List.length_append, List.length_cons]; omega
/-- The flags of all that is told lie there. -/
def FlT (w : World) (T : List TDE) : Prop := ∀ t ∈ T, w.ownsRow 0 9 1 t.fv t.fl.length (tcs t.fl)
def atK (R : List RE) (k : Nat) : List RE := (R.take k).map calmE ++ R.drop k
theorem atK_length (R : List RE) (k : Nat) : (atK R k).length = R.length := by
  simp only [atK, List.length_append, List.length_map, List.length_take, List.length_drop]; omega
theorem atK_get (R : List RE) (k : Nat) (hk : k < R.length) : (atK R k).getD k RE0 = R.getD k RE0 := by
  unfold atK
  rw [List.getD_eq_getElem?_getD, List.getElem?_append_right (by simp; omega), List.getD_eq_getElem?_getD]
  simp [Nat.min_eq_left (Nat.le_of_lt hk)]
theorem atK_set (R : List RE) (k : Nat) (hk : k < R.length) : (atK R k).set k (calmE (R.getD k RE0)) = atK R (k + 1) := by
  unfold atK
  rw [take_snocE R k hk, List.map_append, List.set_append_right _ _ (by simp; omega)]
  have e : k - ((R.take k).map calmE).length = 0 := by simp; omega
  rw [e, List.append_assoc]
  congr 1
  rw [List.drop_eq_getElem_cons hk]
  rfl
theorem atK_skip (R : List RE) (k : Nat) (hk : k < R.length) (h : calmE (R.getD k RE0) = R.getD k RE0) : atK R (k + 1) = atK R k := by
  rw [← atK_set R k hk, h]
  refine List.ext_getElem? (fun i => ?_)
  rw [List.getElem?_set]
  by_cases e : k = i
  · subst e
    have hl : k < (atK R k).length := by rw [atK_length]; exact hk
    have hg := atK_get R k hk
    rw [List.getD_eq_getElem?_getD, List.getElem?_eq_getElem hl] at hg
    have hg2 : (atK R k)[k] = R.getD k RE0 := hg
    rw [if_pos rfl, if_pos hl, List.getElem?_eq_getElem hl, hg2]
  · rw [if_neg e]
theorem rwC_calm (R : List RE) (i : Nat) (hi : i < R.length) (hg : (R.getD i RE0).gone = false) : (rwC R).set (i * 4 + 3) (.pointer none) = rwC (R.set i (calmE (R.getD i RE0))) := by
  induction R generalizing i with
  | nil => simp at hi
  | cons p t ih =>
    cases i with
    | zero =>
      rw [rwC_cons]
      show _ = rwC (calmE p :: t)
      have hg' : p.gone = false := hg
      have : calmE p = { p with tn := none } := by unfold calmE; rw [if_neg (by rw [hg']; simp)]
      rw [this, rwC_cons]; rfl
    | succ i =>
      have := ih i (by simpa using hi) (by simpa only [List.getD_cons_succ] using hg)
      rw [rwC_cons, show (i + 1) * 4 = i * 4 + 1 + 1 + 1 + 1 by omega]
      simp only [List.set_cons_succ, List.getD_cons_succ]
      rw [this, rwC_cons]
section
variable {P : Nat} {val : Int} {cv : Value} {R : List RE} {C : List Int} {w : World} {g cap : Nat}
theorem VAt.calmR (h : VAt P val (.slice (some ⟨g, 0, none⟩) R.length cap) cv R C w) {i : Nat} (hi : i < R.length) (hg : (R.getD i RE0).gone = false) :
    VAt P val (.slice (some ⟨g, 0, none⟩) R.length cap) cv (R.set i (calmE (R.getD i RE0))) C (w.setCell ⟨g, i * 4 + 3, none⟩ (.pointer none)) ∧
      ∀ b, b ∈ fpV P (.slice (some ⟨g, 0, none⟩) R.length cap) cv (R.set i (calmE (R.getD i RE0))) → b ∈ fpV P (.slice (some ⟨g, 0, none⟩) R.length cap) cv R := by
  obtain ⟨s1, g1⟩ := h.rows.stored (i * 4 + 3) (.pointer none)
  rw [rwC_calm R i hi hg] at s1
  have keep : ∀ b, b ≠ g → (w.setCell ⟨g, i * 4 + 3, none⟩ (.pointer none)).heap[b]? = w.heap[b]? := fun b hb => Below.heap_setCell _ _ _ _ hb
  have hgo : (Value.slice (some ⟨g, 0, none⟩) R.length cap).ownBlock = some g := rfl
  have hn : (calmE (R.getD i RE0)).tn = none := by unfold calmE; rw [if_neg (by rw [hg]; simp)]
  refine ⟨⟨?_, ?_, ?_, ?_⟩, ?_⟩
  · rw [keep P (fun e => h.pr (e ▸ hgo))]; exact h.self
  · rw [List.length_set]; exact s1
  · exact ownsRow_same h.com (fun b e => keep b (fun e' => h.rc hgo (e' ▸ e)))
  · intro r hr t ht
    rcases mem_set' hr with hr | rfl
    · exact (h.turns r hr t ht).hold (fun b hb => keep b (fun e' => (h.tt hr ht hb).2.1 (e' ▸ hgo)))
    · rw [hn] at ht; cases ht
  · intro b hb
    rcases mem_fpV.1 hb with rfl | hb | hb | ⟨r, hr, hb⟩
    · exact mem_fpV_p
    · exact mem_fpV_r hb
    · exact mem_fpV_c hb
    · rcases mem_set' hr with hr | rfl
      · exact mem_fpV_t hr hb
      · rw [blks_no hn] at hb; cases hb
end
section
variable {P : Nat} {val : Int} {cv : Value} {R : List RE} {C : List Int} {w : World} {g cap : Nat}
/-- What tellFlags has in memory. -/
structure TF (P : Nat) (val : Int) (g cap : Nat) (cv : Value) (R : List RE) (C : List Int) (T : List TDE) (tv : Value) (w : World) (k : Nat) (s1 : Value) (wr : World) : Prop where
  view : VAt P val (.slice (some ⟨g, 0, none⟩) R.length cap) cv (atK R k) C wr
  told : TdRow wr s1 (T ++ flagE 0 (R.take k))
  fls : FlT wr (T ++ flagE 0 (R.take k))
  fo : FO (tv.ownBlock.toList ++ fpV P (.slice (some ⟨g, 0, none⟩) R.length cap) cv R) (s1.ownBlock.toList ++ fpV P (.slice (some ⟨g, 0, none⟩) R.length cap) cv (atK R k)) w wr
theorem FlT.on {w w' : World} {T : List TDE} (h : FlT w T) (hb : Below w.heap.size w w') : FlT w' T := fun t ht => ownsRow_same (h t ht) (fun b e => hb.block b ((h t ht).lt b e).2)
theorem TF.skip {T : List TDE} {tv s1 : Value} {k : Nat} {wr wr' : World} (h : TF P val g cap cv R C T tv w k s1 wr) (hk : k < R.length) (hb : Below wr.heap.size wr wr') (hc : calmE (R.getD k RE0) = R.getD k RE0) (hf : fE k (R.getD k RE0) = []) : TF P val g cap cv R C T tv w (k + 1) s1 wr' := by
  have e1 := atK_skip R k hk hc
  have e2 : flagE 0 (R.take (k + 1)) = flagE 0 (R.take k) := by
    rw [take_snocE R k hk, flagE_snoc, Nat.zero_add, List.length_take, Nat.min_eq_left (Nat.le_of_lt hk), hf, List.append_nil]
  refine ⟨by rw [e1]; exact h.view.on hb, ?_, ?_, ?_⟩
  · rw [e2]; exact ownsRow_same h.told (fun b e => hb.block b (h.told.lt b e).2)
  · rw [e2]; exact h.fls.on hb
  · rw [e1]; exact h.fo.trans (FO.below hb)
theorem TF.tell {T : List TDE} {tv s1 : Value} {k : Nat} {wr Y : World} (h : TF P val g cap cv R C T tv w k s1 wr) (hk : k < R.length) (hb : Below wr.heap.size wr Y) (hYs : Y.heap.size = wr.heap.size + 1) (hg : (R.getD k RE0).gone = false) (t : TE) (ht : (R.getD k RE0).tn = some t) (fa : Option Addr) (fc : Nat) (hfv : t.fv = .slice fa t.fl.length fc) (hl : R.length ≤ 1000000) (hT : T.length ≤ 2000000) :
    ∃ a n c W1, (Builtin.append_ #[32, 32] 32 #[s1, .slice (some ⟨wr.heap.size + 1, 0, none⟩) 1 1]).run Try.prog (Y.drew.alloc (.cells #[.int .i64 4, .int .i64 ((k : Int) + 1), .int .i64 (R.getD k RE0).uid, .int .i64 t.num, .slice fa t.fl.length fc] 43)) = .ok (.slice a n c) W1 ∧ W1.cell? ⟨P, 2, none⟩ = some (.slice (some ⟨g, 0, none⟩) R.length cap) ∧ (W1.cell? ⟨g, k * 4 + 3, none⟩).isSome = true ∧ W1.frozen? ⟨g, k * 4 + 3, none⟩ = false ∧
      TF P val g cap cv R C T tv w (k + 1) (.slice a n c) (W1.setCell ⟨g, k * 4 + 3, none⟩ (.pointer none)) := by
  have hfl := flagE_len (R.take k) 0
  rw [List.length_take] at hfl
  have hbd : Below wr.heap.size wr Y.drew := hb.drew
  have ht1 : TdRow Y.drew s1 (T ++ flagE 0 (R.take k)) := ownsRow_same h.told (fun b e => hbd.block b (h.told.lt b e).2)
  obtain ⟨a, c, W1, hr, h1, h2, h3⟩ := told_app ht1 ⟨4, (k : Int) + 1, (R.getD k RE0).uid, t.num, t.fv, t.fl⟩ fa t.fl.length fc hfv (by simp only [List.length_append]; omega)
  rw [show Y.drew.heap.size = wr.heap.size + 1 from hYs] at hr h3
  have hgw : wr.grownBy W1 s1.ownBlock := ⟨h2.os.trans hbd.os, h2.tape.trans hbd.tape, h2.output.trans hbd.output, Nat.le_trans hbd.size h2.size, fun b hb' hne => by rw [h2.block b (Nat.lt_of_lt_of_le hb' hbd.size) hne, hbd.block b hb']⟩
  have hV1 : VAt P val (.slice (some ⟨g, 0, none⟩) R.length cap) cv (atK R k) C W1 := h.view.hold (fun b hb' => hgw.block b (h.view.lt hb') (fun e => h.view.told h.told e.symm hb'))
  have hkl : k < (atK R k).length := by rw [atK_length]; exact hk
  have hV1' : VAt P val (.slice (some ⟨g, 0, none⟩) (atK R k).length cap) cv (atK R k) C W1 := by rw [atK_length]; exact hV1
  have hgk := atK_get R k hk
  obtain ⟨g3, cap3, e3, _, _, _, y3, y4⟩ := hV1'.row_at hkl
  cases e3
  obtain ⟨v1, v2⟩ := hV1'.calmR hkl (by rw [hgk]; exact hg)
  rw [hgk, atK_set R k hk, atK_length] at v1 v2
  have e2 : flagE 0 (R.take (k + 1)) = flagE 0 (R.take k) ++ [⟨4, (k : Int) + 1, (R.getD k RE0).uid, t.num, t.fv, t.fl⟩] := by
    have ef : fE k (R.getD k RE0) = [⟨4, (k : Int) + 1, (R.getD k RE0).uid, t.num, t.fv, t.fl⟩] := by
      unfold fE
      rw [if_neg (by rw [hg]; simp), ht]
    rw [take_snocE R k hk, flagE_snoc, Nat.zero_add, List.length_take, Nat.min_eq_left (Nat.le_of_lt hk), ef]
  have hset : ∀ b, b ≠ g → (W1.setCell ⟨g, k * 4 + 3, none⟩ (.pointer none)).heap[b]? = W1.heap[b]? := fun b hb' => Below.heap_setCell _ _ _ _ hb'
  have hkg : ∀ {e : TypeId} {z n : Nat} {v : Value} {xs : List Value}, W1.ownsRow 0 e z v n xs → e ≠ 75 → ∀ b, v.ownBlock = some b → b ≠ g := fun hrow hne b e => by
    obtain ⟨c1, k1⟩ := row_kind hrow e
    obtain ⟨c2, k2⟩ := row_kind hV1.rows (b := g) rfl
    exact kind_ne k1 k2 hne
  have hmem : R.getD k RE0 ∈ atK R k := by rw [← hgk]; exact getD_mem' hkl
  have hfw : ∀ x ∈ T ++ flagE 0 (R.take (k + 1)), wr.ownsRow 0 9 1 x.fv x.fl.length (tcs x.fl) := fun x hx => by
    rw [e2, ← List.append_assoc, List.mem_append] at hx
    rcases hx with hx | hx
    · exact h.fls x hx
    · rw [List.mem_singleton.1 hx]
      exact (h.view.turns _ hmem t ht).row
  refine ⟨a, _, c, W1, hr, hV1.cells.c2, by rw [y3]; rfl, y4 _, v1, ?_, ?_, ?_, ?_⟩
  · rw [e2, ← List.append_assoc]
    exact ownsRow_same h1 (fun b e => hset b (hkg h1 (by decide) b e))
  · intro x hx
    have hw := hfw x hx
    have hw1 : W1.ownsRow 0 9 1 x.fv x.fl.length (tcs x.fl) := ownsRow_same hw (fun b e => hgw.block b (hw.lt b e).2 (rows_apart hw h.told (by decide) e))
    exact ownsRow_same hw1 (fun b e => hset b (hkg hw1 (by decide) b e))
  · refine Stays.setCell (p := ⟨g, k * 4 + 3, none⟩) ?_ (.inl (List.mem_append_right _ (mem_fpV_r rfl))) _
    refine h.fo.1.trans (Stays.ofGrown hgw (fp := s1.ownBlock.toList) (fun b e => by simp [e])) (fun b hb' => ?_)
    exact h.fo.2 b (List.mem_append_left _ hb')
  · intro b hb'
    rcases List.mem_append.1 hb' with hb' | hb'
    · rw [Option.mem_toList] at hb'
      rcases h3 b hb' with e | e
      · exact h.fo.2 b (List.mem_append_left _ (by simp [e]))
      · right; have := h.fo.1.size; omega
    · exact h.fo.2 b (List.mem_append_right _ (v2 b hb'))
end
end Go.Proofs.Ytiphbnmnoofpkaa
