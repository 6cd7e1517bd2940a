/- A desk's places for several sets. -/
import Derived.Test.YtkclcjnfjielfabDoorYr
import Derived.Test.YtkclcjnfjielfabDoorYf
import Derived.Test.YtkclcjnfjielfabDoorZg
namespace Go.Proofs.YtkclcjnfjielfabDoor
open Go.RowKit

abbrev nilV : Value := .slice none 0 0
/-- Which blocks a desk's places for several sets have. -/
def PlS (vin vset : Value) (I : List Value) (k : Nat) : Prop := vin.ownBlock = some k ∨ vset.ownBlock = some k ∨ ∃ j, j < I.length ∧ (I.getD j nilV).ownBlock = some k
structure DeskS (D : Nat) (vin vset : Value) (I : List Value) (M : List (List Rg)) (Sx : List Value) (W0 w : World) : Prop where
  c2 : w.cell? ⟨D, 2, none⟩ = some vin
  c3 : w.cell? ⟨D, 3, none⟩ = some vset
  f2 : w.frozen? ⟨D, 2, none⟩ = false
  f3 : w.frozen? ⟨D, 3, none⟩ = false
  rin : w.ownsRow (D + 1) 25 1 vin I.length I
  rset : w.ownsRow (D + 1) 25 1 vset Sx.length Sx
  ap : ∀ k, vin.ownBlock = some k → vset.ownBlock ≠ some k
  len : I.length = M.length
  pls : ∀ j, j < I.length → w.ownsRow (D + 1) 63 2 (I.getD j nilV) (M.getD j []).length (rc (M.getD j [])) ∧ (M.getD j []).length ≤ 3000000
  pap : ∀ i j, i < I.length → j < I.length → i ≠ j → ∀ k, (I.getD i nilV).ownBlock = some k → (I.getD j nilV).ownBlock ≠ some k
  below : Below D W0 w
  base : D < w.heap.size
/-- What a call on the desk has left as it was. -/
structure FarS (D : Nat) (Pl : Nat → Prop) (w w' : World) : Prop where
  size : w.heap.size ≤ w'.heap.size
  os : w'.os = w.os
  tape : w'.tape = w.tape
  output : w'.output = w.output
  far : ∀ k, k < w.heap.size → k ≠ D → ¬ Pl k → w'.heap[k]? = w.heap[k]?
structure Sev (D : Nat) (Pl : Nat → Prop) (w0 : World) (vin vset : Value) (I : List Value) (M : List (List Rg)) (Sx : List Value) (W0 w : World) : Prop where
  desk : DeskS D vin vset I M Sx W0 w
  far : FarS D Pl w0 w
  new : ∀ k, PlS vin vset I k → Pl k ∨ w0.heap.size ≤ k
theorem DeskS.ty {D : Nat} {vin vset : Value} {I : List Value} {M : List (List Rg)} {Sx : List Value} {W0 w : World} (h : DeskS D vin vset I M Sx W0 w) (j : Nat) (hj : j < I.length) : (∀ k, (I.getD j nilV).ownBlock = some k → vin.ownBlock ≠ some k ∧ vset.ownBlock ≠ some k) :=
  fun k hk => ⟨fun e => type_apart (h.pls j hj).1 h.rin (by decide) k hk e, fun e => type_apart (h.pls j hj).1 h.rset (by decide) k hk e⟩
theorem DeskS.lt {D : Nat} {vin vset : Value} {I : List Value} {M : List (List Rg)} {Sx : List Value} {W0 w : World} (h : DeskS D vin vset I M Sx W0 w) : ∀ k, PlS vin vset I k → D + 1 ≤ k ∧ k < w.heap.size := by
  rintro k (hk | hk | ⟨j, hj, hk⟩)
  · exact h.rin.lt k hk
  · exact h.rset.lt k hk
  · exact (h.pls j hj).1.lt k hk
theorem FarS.refl (D : Nat) (Pl : Nat → Prop) (w : World) : FarS D Pl w w := ⟨Nat.le_refl _, rfl, rfl, rfl, fun _ _ _ _ => rfl⟩
theorem FarS.grown {D : Nat} {Pl : Nat → Prop} {w w1 w2 : World} {r : Option Nat} (h : FarS D Pl w w1) (hg : w1.grownBy w2 r) (hr : ∀ k, r = some k → Pl k ∨ w.heap.size ≤ k) : FarS D Pl w w2 := by
  refine ⟨Nat.le_trans h.size hg.size, hg.os.trans h.os, hg.tape.trans h.tape, hg.output.trans h.output, fun k hk hD hP => ?_⟩
  rw [hg.block k (Nat.lt_of_lt_of_le hk h.size) (fun e => ?_)]
  · exact h.far k hk hD hP
  · rcases hr k e.symm with h1 | h1
    · exact hP h1
    · omega
theorem FarS.set {D : Nat} {Pl : Nat → Prop} {w w1 : World} (h : FarS D Pl w w1) (b i : Nat) (v : Value) (hr : b = D ∨ Pl b ∨ w.heap.size ≤ b) : FarS D Pl w (w1.setCell ⟨b, i, none⟩ v) := by
  refine ⟨by simpa using h.size, h.os, h.tape, h.output, fun k hk hD hP => ?_⟩
  rw [heap_setCell_other w1 ⟨b, i, none⟩ k v (fun e => ?_)]
  · exact h.far k hk hD hP
  · have e' : k = b := e
    subst e'
    rcases hr with h1 | h1 | h1
    · exact hD h1
    · exact hP h1
    · omega
/-- Cells of the desk and blocks of its places as they were: the desk stands. -/
theorem DeskS.stay {D : Nat} {vin vset : Value} {I : List Value} {M : List (List Rg)} {Sx : List Value} {W0 w w' : World} (h : DeskS D vin vset I M Sx W0 w) (hb : ∀ k, k < w.heap.size → (k ≤ D ∨ PlS vin vset I k) → w'.heap[k]? = w.heap[k]?) (hs : w.heap.size ≤ w'.heap.size) (ho : w'.os = w.os) (ht : w'.tape = w.tape) (hp : w'.output = w.output) (hf : ∀ i, w'.frozen? ⟨D, i, none⟩ = w.frozen? ⟨D, i, none⟩) : DeskS D vin vset I M Sx W0 w' := by
  have hD := hb D h.base (.inl (Nat.le_refl _))
  have hl := h.lt
  refine ⟨(heap_cell hD).trans h.c2, (heap_cell hD).trans h.c3, (hf 2).trans h.f2, (hf 3).trans h.f3, row_on3 h.rin (fun k hk => hb k (hl k (.inl hk)).2 (.inr (.inl hk))), row_on3 h.rset (fun k hk => hb k (hl k (.inr (.inl hk))).2 (.inr (.inr (.inl hk)))), h.ap, h.len, fun j hj => ⟨row_on3 (h.pls j hj).1 (fun k hk => hb k (hl k (.inr (.inr ⟨j, hj, hk⟩))).2 (.inr (.inr (.inr ⟨j, hj, hk⟩)))), (h.pls j hj).2⟩, h.pap, ⟨ho.trans h.below.os, ht.trans h.below.tape, hp.trans h.below.output, Nat.le_trans h.below.size hs, fun k hk => ?_⟩, Nat.lt_of_lt_of_le h.base hs⟩
  rw [hb k (by have := h.base; omega) (.inl (by omega))]
  exact h.below.block k hk
theorem DeskS.on {D : Nat} {vin vset : Value} {I : List Value} {M : List (List Rg)} {Sx : List Value} {W0 w w' : World} (h : DeskS D vin vset I M Sx W0 w) (hb : Below w.heap.size w w') : DeskS D vin vset I M Sx W0 w' :=
  h.stay (fun k hk _ => hb.block k hk) hb.size hb.os hb.tape hb.output (fun i => hb.frozen (p := ⟨D, i, none⟩) h.base)
theorem Sev.on {D : Nat} {Pl : Nat → Prop} {w0 : World} {vin vset : Value} {I : List Value} {M : List (List Rg)} {Sx : List Value} {W0 w w' : World} (h : Sev D Pl w0 vin vset I M Sx W0 w) (hb : Below w.heap.size w w') : Sev D Pl w0 vin vset I M Sx W0 w' :=
  ⟨h.desk.on hb, h.far.grown (r := none) ⟨hb.os, hb.tape, hb.output, hb.size, fun i hi _ => hb.block i hi⟩ (fun k e => by cases e), h.new⟩
theorem getD_set_eq {α : Type} (l : List α) (j : Nat) (x z : α) (hj : j < l.length) : (l.set j x).getD j z = x := by
  rw [List.getD_eq_getElem?_getD, List.getElem?_set_self hj]; rfl
theorem getD_set_ne' {α : Type} (l : List α) (i j : Nat) (x z : α) (h : j ≠ i) : (l.set j x).getD i z = l.getD i z := by
  rw [List.getD_eq_getElem?_getD, List.getD_eq_getElem?_getD, List.getElem?_set_ne h]
theorem getD_app_lt {α : Type} (l : List α) (x z : α) (i : Nat) (h : i < l.length) : (l ++ [x]).getD i z = l.getD i z := by
  rw [List.getD_eq_getElem?_getD, List.getD_eq_getElem?_getD, List.getElem?_append_left h]
theorem getD_app_eq {α : Type} (l : List α) (x z : α) : (l ++ [x]).getD l.length z = x := by
  rw [List.getD_eq_getElem?_getD, List.getElem?_append_right (Nat.le_refl _)]; simp
/-- d.in = append(d.in, nil). -/
theorem Sev.more {D : Nat} {Pl : Nat → Prop} {w0 : World} {vin vset : Value} {I : List Value} {M : List (List Rg)} {Sx : List Value} {W0 w w' : World} (h : Sev D Pl w0 vin vset I M Sx W0 w) {g cap : Nat} (ho : w'.ownsRow (D + 1) 25 1 (.slice (some ⟨g, 0, none⟩) (I.length + 1) cap) (I.length + 1) (I ++ [nilV])) (hg : w.grownBy w' vin.ownBlock) (hat : vin.ownBlock = some g ∨ w.heap.size ≤ g) :
    w'.cell? ⟨D, 2, none⟩ = some vin ∧ w'.frozen? ⟨D, 2, none⟩ = false ∧ Sev D Pl w0 (.slice (some ⟨g, 0, none⟩) (I.length + 1) cap) vset (I ++ [nilV]) (M ++ [[]]) Sx W0 (w'.setCell ⟨D, 2, none⟩ (.slice (some ⟨g, 0, none⟩) (I.length + 1) cap)) := by
  have hd := h.desk
  have hb := hd.base
  have hvD : vin.ownBlock ≠ some D := fun e => by have := (hd.rin.lt D e).1; omega
  have hc2 : w'.cell? ⟨D, 2, none⟩ = some vin := (hg.cell_far ⟨D, 2, none⟩ hb (fun e => hvD e.symm)).trans hd.c2
  have hf : ∀ i, w'.frozen? ⟨D, i, none⟩ = w.frozen? ⟨D, i, none⟩ := fun i => hg.frozen_far ⟨D, i, none⟩ hb (fun e => hvD e.symm)
  refine ⟨hc2, (hf 2).trans hd.f2, ?_⟩
  have blk : ∀ k, k < w.heap.size → k ≠ D → vin.ownBlock ≠ some k → (w'.setCell ⟨D, 2, none⟩ (.slice (some ⟨g, 0, none⟩) (I.length + 1) cap)).heap[k]? = w.heap[k]? := fun k hk hkD hkv => by
    rw [heap_setCell_other w' ⟨D, 2, none⟩ k _ hkD]
    exact hg.block k hk (fun e => hkv e.symm)
  have hgl := ho.lt g rfl
  refine ⟨⟨?_, ?_, ?_, ?_, ?_, ?_, ?_, ?_, ?_, ?_, ?_, ?_⟩, ?_, ?_⟩
  · rw [World.cell?_setCell_same' _ _ _ (by rw [hc2]; rfl)]
  · rw [World.cell?_setCell_other _ _ _ _ (by simp)]
    exact (hg.cell_far ⟨D, 3, none⟩ hb (fun e => hvD e.symm)).trans hd.c3
  · rw [World.frozen?_setCell]; exact (hf 2).trans hd.f2
  · rw [World.frozen?_setCell]; exact (hf 3).trans hd.f3
  · rw [List.length_append]; exact ownsRow_setCell_below ho (Nat.lt_succ_self D) _
  · exact row_on3 hd.rset (fun k hk => blk k (hd.rset.lt k hk).2 (by have := (hd.rset.lt k hk).1; omega) (fun e => hd.ap k e hk))
  · intro k hk e
    have e' : g = k := by simpa [Value.ownBlock] using hk
    subst e'
    rcases hat with h1 | h1
    · exact hd.ap g h1 e
    · have := (hd.rset.lt g e).2; omega
  · rw [List.length_append, List.length_append, hd.len]; rfl
  · intro j hj
    by_cases hji : j < I.length
    · rw [getD_app_lt _ _ _ _ hji, getD_app_lt _ _ _ _ (by rw [← hd.len]; exact hji)]
      refine ⟨row_on3 (hd.pls j hji).1 (fun k hk => ?_), (hd.pls j hji).2⟩
      have := (hd.pls j hji).1.lt k hk
      exact blk k this.2 (by omega) (hd.ty j hji k hk).1
    · have e : j = I.length := by rw [List.length_append] at hj; simp at hj; omega
      subst e
      rw [getD_app_eq, hd.len, getD_app_eq]
      exact ⟨World.ownsRow_nil _ _ _ _, by simp⟩
  · intro i j hi hj hij k hk
    rw [List.length_append] at hi hj
    simp at hi hj
    by_cases hii : i < I.length
    · rw [getD_app_lt _ _ _ _ hii] at hk
      by_cases hji : j < I.length
      · rw [getD_app_lt _ _ _ _ hji]; exact hd.pap i j hii hji hij k hk
      · have e : j = I.length := by omega
        subst e
        rw [getD_app_eq]; simp [Value.ownBlock]
    · have e : i = I.length := by omega
      subst e
      rw [getD_app_eq] at hk; simp [Value.ownBlock] at hk
  · refine ⟨hg.os.trans hd.below.os, hg.tape.trans hd.below.tape, hg.output.trans hd.below.output, by simpa using Nat.le_trans hd.below.size hg.size, fun k hk => ?_⟩
    rw [blk k (by omega) (by omega) (fun e => by have := (hd.rin.lt k e).1; omega)]
    exact hd.below.block k hk
  · simpa using Nat.lt_of_lt_of_le hb hg.size
  · exact (h.far.grown hg (fun k e => h.new k (.inl e))).set D 2 _ (.inl rfl)
  · rintro k (hk | hk | ⟨j, hj, hk⟩)
    · have e' : g = k := by simpa [Value.ownBlock] using hk
      subst e'
      rcases hat with h1 | h1
      · exact h.new g (.inl h1)
      · exact .inr (Nat.le_trans h.far.size h1)
    · exact h.new k (.inr (.inl hk))
    · rw [List.length_append] at hj
      simp at hj
      by_cases hji : j < I.length
      · rw [getD_app_lt _ _ _ _ hji] at hk; exact h.new k (.inr (.inr ⟨j, hji, hk⟩))
      · have e : j = I.length := by omega
        subst e
        rw [getD_app_eq] at hk; simp [Value.ownBlock] at hk
/-- d.sets = make(..). -/
theorem Sev.made {D : Nat} {Pl : Nat → Prop} {w0 : World} {vin vset : Value} {I : List Value} {M : List (List Rg)} {Sx : List Value} {W0 w w' : World} (h : Sev D Pl w0 vin vset I M Sx W0 w) {g n : Nat} (hgw : g = w.heap.size) (Sy : List Value) (hn : Sy.length = n) (ho : w'.ownsRow (D + 1) 25 1 (.slice (some ⟨g, 0, none⟩) n n) n Sy) (hg : w.grownBy w' none) :
    w'.cell? ⟨D, 3, none⟩ = some vset ∧ w'.frozen? ⟨D, 3, none⟩ = false ∧ Sev D Pl w0 vin (.slice (some ⟨g, 0, none⟩) n n) I M Sy W0 (w'.setCell ⟨D, 3, none⟩ (.slice (some ⟨g, 0, none⟩) n n)) := by
  have hd := h.desk
  have hb := hd.base
  have hc3 : w'.cell? ⟨D, 3, none⟩ = some vset := (hg.cell_far ⟨D, 3, none⟩ hb (by simp)).trans hd.c3
  have hf : ∀ i, w'.frozen? ⟨D, i, none⟩ = w.frozen? ⟨D, i, none⟩ := fun i => hg.frozen_far ⟨D, i, none⟩ hb (by simp)
  refine ⟨hc3, (hf 3).trans hd.f3, ?_⟩
  have blk : ∀ k, k < w.heap.size → k ≠ D → (w'.setCell ⟨D, 3, none⟩ (.slice (some ⟨g, 0, none⟩) n n)).heap[k]? = w.heap[k]? := fun k hk hkD => by
    rw [heap_setCell_other w' ⟨D, 3, none⟩ k _ hkD]
    exact hg.block k hk (by simp)
  refine ⟨⟨?_, ?_, ?_, ?_, ?_, ?_, ?_, hd.len, ?_, hd.pap, ?_, ?_⟩, ?_, ?_⟩
  · rw [World.cell?_setCell_other _ _ _ _ (by simp)]
    exact (hg.cell_far ⟨D, 2, none⟩ hb (by simp)).trans hd.c2
  · rw [World.cell?_setCell_same' _ _ _ (by rw [hc3]; rfl)]
  · rw [World.frozen?_setCell]; exact (hf 2).trans hd.f2
  · rw [World.frozen?_setCell]; exact (hf 3).trans hd.f3
  · exact row_on3 hd.rin (fun k hk => blk k (hd.rin.lt k hk).2 (by have := (hd.rin.lt k hk).1; omega))
  · rw [hn]; exact ownsRow_setCell_below ho (Nat.lt_succ_self D) _
  · intro k hk e
    have e' : g = k := by simpa [Value.ownBlock] using e
    have := (hd.rin.lt k hk).2
    omega
  · intro j hj
    refine ⟨row_on3 (hd.pls j hj).1 (fun k hk => ?_), (hd.pls j hj).2⟩
    have := (hd.pls j hj).1.lt k hk
    exact blk k this.2 (by omega)
  · refine ⟨hg.os.trans hd.below.os, hg.tape.trans hd.below.tape, hg.output.trans hd.below.output, by simpa using Nat.le_trans hd.below.size hg.size, fun k hk => ?_⟩
    rw [blk k (by omega) (by omega)]
    exact hd.below.block k hk
  · simpa using Nat.lt_of_lt_of_le hb hg.size
  · exact (h.far.grown hg (fun k e => by cases e)).set D 3 _ (.inl rfl)
  · rintro k (hk | hk | hk)
    · exact h.new k (.inl hk)
    · have e' : g = k := by simpa [Value.ownBlock] using hk
      exact .inr (by have := h.far.size; omega)
    · exact h.new k (.inr (.inr hk))
/-- d.sets[i] = a value. -/
theorem Sev.put {D : Nat} {Pl : Nat → Prop} {w0 : World} {vin : Value} {I : List Value} {M : List (List Rg)} {Sx : List Value} {W0 w : World} {g n cap : Nat} (h : Sev D Pl w0 vin (.slice (some ⟨g, 0, none⟩) n cap) I M Sx W0 w) (hn : Sx.length = n) (i : Nat) (v : Value) :
    Sev D Pl w0 vin (.slice (some ⟨g, 0, none⟩) n cap) I M (Sx.set i v) W0 (w.setCell ⟨g, i, none⟩ v) := by
  have hd := h.desk
  have hb := hd.base
  have hgl := hd.rset.lt g rfl
  have blk : ∀ k, k ≠ g → (w.setCell ⟨g, i, none⟩ v).heap[k]? = w.heap[k]? := fun k hk => heap_setCell_other w ⟨g, i, none⟩ k v hk
  have hr := hd.rset
  rw [hn] at hr
  refine ⟨⟨?_, ?_, ?_, ?_, ?_, ?_, hd.ap, hd.len, ?_, hd.pap, ?_, ?_⟩, ?_, h.new⟩
  · exact (heap_cell (blk D (by omega))).trans hd.c2
  · exact (heap_cell (blk D (by omega))).trans hd.c3
  · rw [World.frozen?_setCell]; exact hd.f2
  · rw [World.frozen?_setCell]; exact hd.f3
  · exact row_on3 hd.rin (fun k hk => blk k (fun e => hd.ap k hk (by rw [e]; rfl)))
  · rw [List.length_set, hn]; exact (hr.stored i v).1
  · intro j hj
    exact ⟨row_on3 (hd.pls j hj).1 (fun k hk => blk k (fun e => (hd.ty j hj k hk).2 (by rw [e]; rfl))), (hd.pls j hj).2⟩
  · exact hd.below.setCell (by show D ≤ g; omega) _
  · simpa using hb
  · exact h.far.set g i v (.inr (h.new g (.inr (.inl rfl))))
/-- d.in[i] = lay(d.in[i], l). -/
theorem Sev.laid {D : Nat} {Pl : Nat → Prop} {w0 : World} {vset : Value} {I : List Value} {M : List (List Rg)} {Sx : List Value} {W0 w w' : World} {g nn cap : Nat} (h : Sev D Pl w0 (.slice (some ⟨g, 0, none⟩) nn cap) vset I M Sx W0 w) (hI : I.length = nn) (i : Nat) (hi : i < I.length) {l : List Rg} {gp n cp : Nat} (hL : Laid (D + 1) (I.getD i nilV).ownBlock l gp n cp w w') (hn : n ≤ 3000000) :
    (w'.cell? ⟨g, i, none⟩ = some (I.getD i nilV) ∧ w'.frozen? ⟨g, i, none⟩ = false ∧ w'.cell? ⟨D, 2, none⟩ = some (.slice (some ⟨g, 0, none⟩) nn cap) ∧ w'.cell? ⟨D, 3, none⟩ = some vset ∧ Below D W0 w') ∧ Sev D Pl w0 (.slice (some ⟨g, 0, none⟩) nn cap) vset (I.set i (.slice (some ⟨gp, 0, none⟩) n cp)) (M.set i (laidG markR l n)) Sx W0 (w'.setCell ⟨g, i, none⟩ (.slice (some ⟨gp, 0, none⟩) n cp)) := by
  have hd := h.desk
  have hb := hd.base
  have hgl := hd.rin.lt g rfl
  have hpi := (hd.pls i hi).1
  have hvD : (I.getD i nilV).ownBlock ≠ some D := fun e => by have := (hpi.lt D e).1; omega
  have hvg : (I.getD i nilV).ownBlock ≠ some g := fun e => (hd.ty i hi g e).1 rfl
  have hg := hL.grown
  have hlen : (laidG markR l n).length = n := laidG_length markR (by have := hL.len; omega)
  have rin' : w'.ownsRow (D + 1) 25 1 (.slice (some ⟨g, 0, none⟩) nn cap) nn I := by
    have := hd.rin
    rw [hI] at this
    exact row_on3 this (fun k hk => by
      have e' : g = k := by simpa [Value.ownBlock] using hk
      subst e'
      exact hg.block g hgl.2 (fun e => hvg e.symm))
  have hgpg : gp ≠ g := fun e => type_apart hL.row rin' (by decide) g (by rw [e]; rfl) rfl
  have cD : ∀ j, w'.cell? ⟨D, j, none⟩ = w.cell? ⟨D, j, none⟩ := fun j => hg.cell_far ⟨D, j, none⟩ hb (fun e => hvD e.symm)
  have hf : ∀ j, w'.frozen? ⟨D, j, none⟩ = w.frozen? ⟨D, j, none⟩ := fun j => hg.frozen_far ⟨D, j, none⟩ hb (fun e => hvD e.symm)
  have bw' : Below D W0 w' := ⟨hg.os.trans hd.below.os, hg.tape.trans hd.below.tape, hg.output.trans hd.below.output, Nat.le_trans hd.below.size hg.size, fun k hk => by
    rw [hg.block k (by omega) (fun e => by have := (hpi.lt k e.symm).1; omega)]
    exact hd.below.block k hk⟩
  have hci : w'.cell? ⟨g, i, none⟩ = some (I.getD i nilV) := by
    rw [rin'.cellAt i (by omega), List.getD_eq_getElem?_getD, List.getElem?_eq_getElem hi]; rfl
  refine ⟨⟨hci, rin'.frozenAt i, (cD 2).trans hd.c2, (cD 3).trans hd.c3, bw'⟩, ?_⟩
  have blk : ∀ k, k < w.heap.size → k ≠ g → (I.getD i nilV).ownBlock ≠ some k → (w'.setCell ⟨g, i, none⟩ (.slice (some ⟨gp, 0, none⟩) n cp)).heap[k]? = w.heap[k]? := fun k hk hkg hkv => by
    rw [heap_setCell_other w' ⟨g, i, none⟩ k _ hkg]
    exact hg.block k hk (fun e => hkv e.symm)
  have bD := blk D hb (by omega) hvD
  refine ⟨⟨(heap_cell bD).trans hd.c2, (heap_cell bD).trans hd.c3, ?_, ?_, ?_, ?_, hd.ap, ?_, ?_, ?_, ?_, ?_⟩, ?_, ?_⟩
  · rw [World.frozen?_setCell]; exact (hf 2).trans hd.f2
  · rw [World.frozen?_setCell]; exact (hf 3).trans hd.f3
  · rw [List.length_set, hI]; exact (rin'.stored i _).1
  · exact row_on3 hd.rset (fun k hk => blk k (hd.rset.lt k hk).2 (fun e => hd.ap k (by rw [e]; rfl) hk) (fun e => (hd.ty i hi k e).2 hk))
  · rw [List.length_set, List.length_set]; exact hd.len
  · intro j hj
    rw [List.length_set] at hj
    by_cases hji : j = i
    · subst hji
      rw [getD_set_eq _ _ _ _ hj, getD_set_eq _ _ _ _ (by rw [← hd.len]; exact hj), hlen]
      refine ⟨row_on3 hL.row (fun k hk => ?_), hn⟩
      have e' : gp = k := by simpa [Value.ownBlock] using hk
      subst e'
      exact heap_setCell_other w' ⟨g, j, none⟩ gp _ hgpg
    · rw [getD_set_ne' _ _ _ _ _ (Ne.symm hji), getD_set_ne' _ _ _ _ _ (Ne.symm hji)]
      refine ⟨row_on3 (hd.pls j hj).1 (fun k hk => ?_), (hd.pls j hj).2⟩
      exact blk k ((hd.pls j hj).1.lt k hk).2 (fun e => (hd.ty j hj k hk).1 (by rw [e]; rfl)) (fun e => hd.pap i j hi hj (Ne.symm hji) k e hk)
  · intro a b ha hb' hab k hk
    rw [List.length_set] at ha hb'
    have key : ∀ c, c < I.length → c ≠ i → (I.getD c nilV).ownBlock ≠ some gp := fun c hc hci e => by
      rcases hL.at_ with h1 | h1
      · exact hd.pap i c hi hc (Ne.symm hci) gp h1 e
      · have := ((hd.pls c hc).1.lt gp e).2; omega
    by_cases hai : a = i
    · subst hai
      rw [getD_set_eq _ _ _ _ ha] at hk
      have e' : gp = k := by simpa [Value.ownBlock] using hk
      subst e'
      rw [getD_set_ne' _ _ _ _ _ hab]
      exact key b hb' (Ne.symm hab)
    · rw [getD_set_ne' _ _ _ _ _ (Ne.symm hai)] at hk
      by_cases hbi : b = i
      · subst hbi
        rw [getD_set_eq _ _ _ _ hb']
        intro e
        have e' : gp = k := by simpa [Value.ownBlock] using e
        subst e'
        exact key a ha hai hk
      · rw [getD_set_ne' _ _ _ _ _ (Ne.symm hbi)]
        exact hd.pap a b ha hb' hab k hk
  · exact bw'.setCell (by show D ≤ g; omega) _
  · simpa using Nat.lt_of_lt_of_le hb hg.size
  · exact (h.far.grown hg (fun k e => h.new k (.inr (.inr ⟨i, hi, e⟩)))).set g i _ (.inr (h.new g (.inl rfl)))
  · rintro k (hk | hk | ⟨j, hj, hk⟩)
    · exact h.new k (.inl hk)
    · exact h.new k (.inr (.inl hk))
    · rw [List.length_set] at hj
      by_cases hji : j = i
      · subst hji
        rw [getD_set_eq _ _ _ _ hj] at hk
        have e' : gp = k := by simpa [Value.ownBlock] using hk
        subst e'
        rcases hL.at_ with h1 | h1
        · exact h.new gp (.inr (.inr ⟨j, hj, h1⟩))
        · exact .inr (Nat.le_trans h.far.size h1)
      · rw [getD_set_ne' _ _ _ _ _ (Ne.symm hji)] at hk
        exact h.new k (.inr (.inr ⟨j, hj, hk⟩))
end Go.Proofs.YtkclcjnfjielfabDoor
