/- lex: the scanner's add. -/
import Derived.Test.YtliiapdakojomabDoorAk
import Derived.Deep.AppendLies
namespace Go.Proofs.YtliiapdakojomabDoor
open Go.RowKit

theorem Tryd.infoWord : (Tryd.prog.info? 33).map (fun i => (i.zero, i.size, i.bytes)) = some (some (.agg #[.int .i64 0, .string ⟨#[]⟩, .slice none 0 0, .bool false]), 4, 56) := by kernel_rfl
theorem zero_word : wc [wc0] = [.int .i64 0, .string ⟨#[]⟩, .slice none 0 0, .bool false] := rfl
/-- The last four cells of a row that has grown by one. -/
def put4 (w : World) (g k : Nat) (c : Wc) : World := (((w.setCell ⟨g, k * 4, none⟩ (.int .i64 c.kind)).setCell ⟨g, k * 4 + 1, none⟩ (.string c.text)).setCell ⟨g, k * 4 + 2, none⟩ (.slice c.ka c.kn c.kc)).setCell ⟨g, k * 4 + 3, none⟩ (.bool c.glued)
theorem put4_size (w : World) (g k : Nat) (c : Wc) : (put4 w g k c).heap.size = w.heap.size := by simp [put4]
theorem put4_other (w : World) (g k j : Nat) (c : Wc) (h : j ≠ g) : (put4 w g k c).heap[j]? = w.heap[j]? := by
  unfold put4
  rw [heap_setCell_other _ ⟨g, _, none⟩ j _ (by simpa using h), heap_setCell_other _ ⟨g, _, none⟩ j _ (by simpa using h), heap_setCell_other _ ⟨g, _, none⟩ j _ (by simpa using h), heap_setCell_other _ ⟨g, _, none⟩ j _ (by simpa using h)]
theorem put4_below {B : Nat} {a w : World} (h : Below B a w) {g : Nat} (hg : B ≤ g) (k : Nat) (c : Wc) : Below B a (put4 w g k c) :=
  (((h.setCell (p := ⟨g, k * 4, none⟩) hg _).setCell (p := ⟨g, k * 4 + 1, none⟩) hg _).setCell (p := ⟨g, k * 4 + 2, none⟩) hg _).setCell (p := ⟨g, k * 4 + 3, none⟩) hg _
theorem SmX.added {B P : Nat} {line : ByteArray} {vl : Value} {s : Sc} {ob oc : Nat} {fs : List Wc} {D : Nat → Prop} {W0 w w4 : World} (h : SmX B P line vl s ob oc fs D W0 w) {its : List Wc} {c : Wc} {d : Wd} {g' cap : Nat}
    (hits : its.length = s.top.kids.length) (hwd : ∀ j, j < s.top.kids.length → WdIs D w (its.getD j wc0) (s.top.kids.getD j wd0)) (hd : WdIs D w c d)
    (h1 : w.heap.size ≤ w4.heap.size) (h2 : ∀ g, g < w.heap.size → g ≠ ob → (fs.getD s.under.length wc0).kv.ownBlock ≠ some g → w4.heap[g]? = w.heap[g]?)
    (h3 : RowW B (.slice (some ⟨ob, 0, none⟩) fs.length oc) (fs.set s.under.length ((fs.getD s.under.length wc0).kids (some ⟨g', 0, none⟩) (its.length + 1) cap)) w4)
    (h4 : RowW B (.slice (some ⟨g', 0, none⟩) (its.length + 1) cap) (its ++ [c]) w4)
    (h5 : (fs.getD s.under.length wc0).kv.ownBlock = some g' ∨ w.heap.size ≤ g') (hq : Below B W0 w4) : ∃ fs', SmX B P line vl (s.add d) ob oc fs' D W0 w4 := by
  refine ⟨_, ?_, h.bP, h.bW, h.lits, hq, h.st.added h.plt hits hwd hd h1 h2 h3 h4 h5⟩
  rw [List.length_set, h2 P h.plt h.st.obP.symm (fun e => ((h.st.kP s.under.length (by simp) P e).1 rfl))]
  exact h.blk
/-- What the region reads: the topmost's kids, and the word in its box. -/
abbrev adS (ob n x0 : Nat) (ka : Option Addr) (m kc : Nat) (c : Wc) : World → Prop := fun X => X.cell? ⟨ob, n * 4 + 2, none⟩ = some (.slice ka m kc) ∧ X.cell? ⟨x0, 0, none⟩ = some (.int .i64 c.kind) ∧ X.cell? ⟨x0, 1, none⟩ = some (.string c.text) ∧ X.cell? ⟨x0, 2, none⟩ = some (.slice c.ka c.kn c.kc) ∧ X.cell? ⟨x0, 3, none⟩ = some (.bool c.glued)
theorem adS.on {ob n x0 : Nat} {ka : Option Addr} {m kc : Nat} {c : Wc} {X Y : World} (h : adS ob n x0 ka m kc c X) (hb : Below X.heap.size X Y) : adS ob n x0 ka m kc c Y := ⟨cellB h.1 hb, cellB h.2.1 hb, cellB h.2.2.1 hb, cellB h.2.2.2.1 hb, cellB h.2.2.2.2 hb⟩
set_option maxRecDepth 100000 in
set_option maxHeartbeats 4000000 in
theorem add_any {B P : Nat} {line : ByteArray} {vl : Value} {s : Sc} {ob oc : Nat} {fs : List Wc} {D : Nat → Prop} {W0 w : World} (c : Wc) (d : Wd) (h : SmX B P line vl s ob oc fs D W0 w) (hd : WdIs D w c d) (hn : s.under.length ≤ 100) (hk : s.top.kids.length ≤ 1000) :
    Calls Tryd.prog 59 #[.pointer (some ⟨P, 0, none⟩), .agg #[.int .i64 c.kind, .string c.text, .slice c.ka c.kn c.kc, .bool c.glued]] w fun e w' => e = .returned (.tuple #[]) ∧ (∃ fs', SmX B P line vl (s.add d) ob oc fs' D W0 w') ∧ w.heap.size ≤ w'.heap.size := by
  obtain ⟨i0, hi, hz0, hz1, hz2⟩ := info_parts Tryd.infoWord
  have hYb : Below w.heap.size w (w.alloc (.cells #[.int .i64 c.kind, .string c.text, .slice c.ka c.kn c.kc, .bool c.glued] 33)) := (Below.refl _ _).alloc (Nat.le_refl _) _
  have hYx : (w.alloc (.cells #[.int .i64 c.kind, .string c.text, .slice c.ka c.kn c.kc, .bool c.glued] 33)).heap[w.heap.size]? = some (.cells #[.int .i64 c.kind, .string c.text, .slice c.ka c.kn c.kc, .bool c.glued] 33 (0, 0)) := heap_alloc_new w _
  have HT := Lib.hid (top_any (h.on hYb).sv hn)
  have H := Lib.hid h
  have HD := Lib.hid hd
  clear h hd
  go_enter Tryd.func59, Tryd.ntmps59
  go_wp2_with fail
  refine HT.out.mono ?_
  rintro e w1 ⟨rfl, hb1⟩
  have hbw1 := hYb.trans (hb1.mono hYb.size)
  have hx1 : w1.heap[w.heap.size]? = some (.cells #[.int .i64 c.kind, .string c.text, .slice c.ka c.kn c.kc, .bool c.glued] 33 (0, 0)) := by rw [hb1.block _ (Array.getElem?_eq_some_iff.1 hYx).1]; exact hYx
  clear HT hb1 hYx hYb
  go_upto_region 2 with fail
  have h1 := H.out.on hbw1
  have hS1 := h1.on ((Below.refl _ _).drew)
  obtain ⟨Z, hZ⟩ : ∃ Z, Z = w1.drew.alloc (.cells #[.int .i64 0, .string ⟨#[]⟩, .slice none 0 0, .bool false] 33) := ⟨_, rfl⟩
  have hZb : Below w1.heap.size w1 Z := by rw [hZ]; exact (Below.refl _ _).drew.alloc (by exact Nat.le_refl _) _
  have hZs := h1.on hZb
  have hbase : B ≤ w1.heap.size := by have := h1.bP; have := h1.plt; omega
  obtain ⟨its, hrow, hil, hwd⟩ := hZs.topFr.kids
  have hkn := hZs.topFr.kn
  have htv := h1.tv
  obtain ⟨c1, hc1⟩ : ∃ c1, c1 = fs.getD s.under.length wc0 := ⟨_, rfl⟩
  rw [← hc1] at hrow hkn htv
  rw [← hil] at hkn htv hk
  have hrow1 : Z.ownsRow B 33 4 (.slice c1.ka its.length c1.kc) its.length (wc its) := by have := hrow; unfold RowW Wc.kv at this; rw [hkn] at this; exact this
  have hS0 : adS ob s.under.length w.heap.size c1.ka its.length c1.kc c w1.drew := adS.on ⟨htv.2, cell_of_row _ _ 0 _ _ _ hx1, cell_of_row _ _ 1 _ _ _ hx1, cell_of_row _ _ 2 _ _ _ hx1, cell_of_row _ _ 3 _ _ _ hx1⟩ ((Below.refl w1.heap.size w1).drew)
  have hS1 : adS ob s.under.length w.heap.size c1.ka its.length c1.kc c Z := by rw [hZ]; exact hS0.on ((Below.refl _ _).alloc (Nat.le_refl _) _)
  have HH := Lib.hid (And.intro h1 (And.intro hZs (And.intro hwd (And.intro hil hbw1))))
  have HZB := Lib.hid hZb
  subst hZ
  have HC1 := Lib.hid hc1
  clear hc1
  clear h1 hZs hwd hil hbw1 hZb hrow htv hx1 H
  refine wp_region_N 7 (adS ob s.under.length w.heap.size c1.ka its.length c1.kc c) (by kernel_rfl) ?_
  refine wpAnyN_take (i := 0) (oi := { dst := some 7, op := Go.Op.move (Go.Operand.tmp 4), type := 101, pos := "scan.go:151", after := #[], guard := none }) (oL := { dst := some 14, op := Go.Op.call { callee := Go.Callee.builtin Go.Builtin.append, args := #[Go.Operand.tmp 10, Go.Operand.tmp 13], argTypes := #[24, 24] }, type := 24, pos := "scan.go:151", after := #[{ on := 3, ground := Go.Ground.data }, { on := 6, ground := Go.Ground.data }, { on := 0, ground := Go.Ground.phase }, { on := 1, ground := Go.Ground.phase }, { on := 2, ground := Go.Ground.phase }, { on := 3, ground := Go.Ground.phase }, { on := 4, ground := Go.Ground.phase }, { on := 5, ground := Go.Ground.phase }, { on := 6, ground := Go.Ground.phase }], guard := none }) (v := ?_) rfl rfl (by kernel_rfl) (by kernel_rfl) (by kernel_rfl) (by kernel_rfl) (fun _ _ _ h => h) (Or.inl ⟨by kernel_rfl, ?_⟩) hS0 ?_
  rotate_left
  · (intro X hX; (try dsimp only at hX); go_simp; try (with_reducible rfl))
  (try simp only [Act.put, List.setIfInBounds_toArray, List.set_cons_zero, List.set_cons_succ])
  refine wpAnyN_take (i := 1) (oi := { dst := some 8, op := Go.Op.nilCheck (Go.Operand.tmp 7), type := 0, pos := "scan.go:151", after := #[{ on := 0, ground := Go.Ground.data }], guard := none }) (oL := { dst := some 14, op := Go.Op.call { callee := Go.Callee.builtin Go.Builtin.append, args := #[Go.Operand.tmp 10, Go.Operand.tmp 13], argTypes := #[24, 24] }, type := 24, pos := "scan.go:151", after := #[{ on := 3, ground := Go.Ground.data }, { on := 6, ground := Go.Ground.data }, { on := 0, ground := Go.Ground.phase }, { on := 1, ground := Go.Ground.phase }, { on := 2, ground := Go.Ground.phase }, { on := 3, ground := Go.Ground.phase }, { on := 4, ground := Go.Ground.phase }, { on := 5, ground := Go.Ground.phase }, { on := 6, ground := Go.Ground.phase }], guard := none }) (v := ?_) rfl rfl (by kernel_rfl) (by kernel_rfl) (by kernel_rfl) (by kernel_rfl) (fun _ _ _ h => h) (Or.inl ⟨by kernel_rfl, ?_⟩) hS0 ?_
  rotate_left
  · (intro X hX; (try dsimp only at hX); go_simp; try (with_reducible rfl))
  (try simp only [Act.put, List.setIfInBounds_toArray, List.set_cons_zero, List.set_cons_succ])
  refine wpAnyN_take (i := 2) (oi := { dst := some 9, op := Go.Op.fieldAddr 33 (Go.Operand.tmp 8) 2, type := 0, pos := "scan.go:151", after := #[{ on := 1, ground := Go.Ground.data }], guard := none }) (oL := { dst := some 14, op := Go.Op.call { callee := Go.Callee.builtin Go.Builtin.append, args := #[Go.Operand.tmp 10, Go.Operand.tmp 13], argTypes := #[24, 24] }, type := 24, pos := "scan.go:151", after := #[{ on := 3, ground := Go.Ground.data }, { on := 6, ground := Go.Ground.data }, { on := 0, ground := Go.Ground.phase }, { on := 1, ground := Go.Ground.phase }, { on := 2, ground := Go.Ground.phase }, { on := 3, ground := Go.Ground.phase }, { on := 4, ground := Go.Ground.phase }, { on := 5, ground := Go.Ground.phase }, { on := 6, ground := Go.Ground.phase }], guard := none }) (v := ?_) rfl rfl (by kernel_rfl) (by kernel_rfl) (by kernel_rfl) (by kernel_rfl) (fun _ _ _ h => h) (Or.inl ⟨by kernel_rfl, ?_⟩) hS0 ?_
  rotate_left
  · (intro X hX; (try dsimp only at hX); go_simp; try (with_reducible rfl))
  (try simp only [Act.put, List.setIfInBounds_toArray, List.set_cons_zero, List.set_cons_succ])
  refine wpAnyN_take (i := 3) (oi := { dst := some 10, op := Go.Op.load 24 (Go.Operand.tmp 9), type := 24, pos := "scan.go:151", after := #[{ on := 2, ground := Go.Ground.data }], guard := none }) (oL := { dst := some 14, op := Go.Op.call { callee := Go.Callee.builtin Go.Builtin.append, args := #[Go.Operand.tmp 10, Go.Operand.tmp 13], argTypes := #[24, 24] }, type := 24, pos := "scan.go:151", after := #[{ on := 3, ground := Go.Ground.data }, { on := 6, ground := Go.Ground.data }, { on := 0, ground := Go.Ground.phase }, { on := 1, ground := Go.Ground.phase }, { on := 2, ground := Go.Ground.phase }, { on := 3, ground := Go.Ground.phase }, { on := 4, ground := Go.Ground.phase }, { on := 5, ground := Go.Ground.phase }, { on := 6, ground := Go.Ground.phase }], guard := none }) (v := ?_) rfl rfl (by kernel_rfl) (by kernel_rfl) (by kernel_rfl) (by kernel_rfl) (fun _ _ _ h => h) (Or.inl ⟨by kernel_rfl, ?_⟩) hS0 ?_
  rotate_left
  · (intro X hX; (try dsimp only at hX); go_simp; try (with_reducible rfl))
  (try simp only [Act.put, List.setIfInBounds_toArray, List.set_cons_zero, List.set_cons_succ])
  refine wpAnyN_take (i := 4) (oi := { dst := some 11, op := Go.Op.load 33 (Go.Operand.tmp 3), type := 33, pos := "scan.go:151", after := #[], guard := none }) (oL := { dst := some 14, op := Go.Op.call { callee := Go.Callee.builtin Go.Builtin.append, args := #[Go.Operand.tmp 10, Go.Operand.tmp 13], argTypes := #[24, 24] }, type := 24, pos := "scan.go:151", after := #[{ on := 3, ground := Go.Ground.data }, { on := 6, ground := Go.Ground.data }, { on := 0, ground := Go.Ground.phase }, { on := 1, ground := Go.Ground.phase }, { on := 2, ground := Go.Ground.phase }, { on := 3, ground := Go.Ground.phase }, { on := 4, ground := Go.Ground.phase }, { on := 5, ground := Go.Ground.phase }, { on := 6, ground := Go.Ground.phase }], guard := none }) (v := ?_) rfl rfl (by kernel_rfl) (by kernel_rfl) (by kernel_rfl) (by kernel_rfl) (fun _ _ _ h => h) (Or.inl ⟨by kernel_rfl, ?_⟩) hS0 ?_
  rotate_left
  · (intro X hX; (try dsimp only at hX); go_simp; try (with_reducible rfl))
  (try simp only [Act.put, List.setIfInBounds_toArray, List.set_cons_zero, List.set_cons_succ])
  refine wpAnyN_take (i := 5) (oi := { dst := some 12, op := Go.Op.call { callee := Go.Callee.builtin Go.Builtin.len, args := #[Go.Operand.tmp 10], argTypes := #[24] }, type := 3, pos := "scan.go:151", after := #[{ on := 3, ground := Go.Ground.data }], guard := none }) (oL := { dst := some 14, op := Go.Op.call { callee := Go.Callee.builtin Go.Builtin.append, args := #[Go.Operand.tmp 10, Go.Operand.tmp 13], argTypes := #[24, 24] }, type := 24, pos := "scan.go:151", after := #[{ on := 3, ground := Go.Ground.data }, { on := 6, ground := Go.Ground.data }, { on := 0, ground := Go.Ground.phase }, { on := 1, ground := Go.Ground.phase }, { on := 2, ground := Go.Ground.phase }, { on := 3, ground := Go.Ground.phase }, { on := 4, ground := Go.Ground.phase }, { on := 5, ground := Go.Ground.phase }, { on := 6, ground := Go.Ground.phase }], guard := none }) (v := ?_) rfl rfl (by kernel_rfl) (by kernel_rfl) (by kernel_rfl) (by kernel_rfl) (fun _ _ _ h => h) (Or.inl ⟨by kernel_rfl, ?_⟩) hS0 ?_
  rotate_left
  · (intro X hX; (try dsimp only at hX); go_simp; try (with_reducible rfl))
  (try simp only [Act.put, List.setIfInBounds_toArray, List.set_cons_zero, List.set_cons_succ])
  refine wpAnyN_one (i := 6) (o := { dst := some 13, op := Go.Op.buildSlice 24 1 #[(0, Go.Operand.const (Go.Value.agg #[Go.Value.int Go.IntKind.i64 0, Go.Value.string { data := #[] }, Go.Value.slice none 0 0, Go.Value.bool false]))], type := 24, pos := "scan.go:151", after := #[], guard := none }) (by kernel_rfl) rfl (fun K hK => ?_)
  go_simp
  refine hK.out _ _ (fun _ => hS1) ?_
  clear hK K
  (try simp only [Act.put, List.setIfInBounds_toArray, List.set_cons_zero, List.set_cons_succ])
  refine wpAnyN_one (i := 7) (o := { dst := some 14, op := Go.Op.call { callee := Go.Callee.builtin Go.Builtin.append, args := #[Go.Operand.tmp 10, Go.Operand.tmp 13], argTypes := #[24, 24] }, type := 24, pos := "scan.go:151", after := #[{ on := 3, ground := Go.Ground.data }, { on := 6, ground := Go.Ground.data }, { on := 0, ground := Go.Ground.phase }, { on := 1, ground := Go.Ground.phase }, { on := 2, ground := Go.Ground.phase }, { on := 3, ground := Go.Ground.phase }, { on := 4, ground := Go.Ground.phase }, { on := 5, ground := Go.Ground.phase }, { on := 6, ground := Go.Ground.phase }], guard := none }) (by kernel_rfl) rfl (fun K hK => ?_)
  refine step_append_lies _ rfl (.tmp 10) (.tmp 13) 24 rfl B 33 i0 (.agg #[.int .i64 0, .string ⟨#[]⟩, .slice none 0 0, .bool false]) 4 56 Tryd.underlying24 hi hz0 hz1 hz2 rfl (by decide) (.slice c1.ka its.length c1.kc) its.length (wc its) rfl hrow1 ⟨w1.heap.size, 0, none⟩ 1 1 (wc [wc0]) rfl rfl ?_ (wc_one _) (by decide) (by unfold maxLen; omega) (by omega) (by simp; omega) (w1.heap.size + 1) (by simp) ?_
  · intro j u hj
    rw [zero_word] at hj
    match j, hj with
    | 0, hj => simp at hj; subst hj; simp [Addr.add]
    | 1, hj => simp at hj; subst hj; simp [Addr.add]
    | 2, hj => simp at hj; subst hj; simp [Addr.add]
    | 3, hj => simp at hj; subst hj; simp [Addr.add]
  intro g cap w2 hrow2 hgr hgg hglt
  obtain ⟨cur2, hcur2⟩ : ∃ cur, w2.heap[g]? = some (.cells cur 33 (0, 0)) := by
    rcases hrow2.2 with ⟨hn', _⟩ | ⟨g', cap', cur, he, _, hg', _⟩
    · cases hn'
    · injection he with e1 _ _
      injection e1 with e1
      injection e1 with e1 _ _
      subst e1
      exact ⟨cur, hg'⟩
  have hf : ∀ i, w2.frozen? ⟨g, i, none⟩ = false := fun i => frozen_of_row w2 g i _ _ hcur2
  have hl4 := wc_length its
  have hcel : ∀ k u, (wc its ++ wc [wc0])[k]? = some u → w2.cell? ⟨g, k, none⟩ = some u := fun k u hu => by
    have := hrow2.cells (g := g) rfl k u hu
    rwa [Addr.add_lit, Nat.zero_add] at this
  have q0 := hcel (its.length * 4) (.int .i64 0) (by rw [← hl4, zero_word]; simp)
  have q1 := hcel (its.length * 4 + 1) (.string ⟨#[]⟩) (by rw [← hl4, zero_word]; simp)
  have q2 := hcel (its.length * 4 + 2) (.slice none 0 0) (by rw [← hl4, zero_word]; simp)
  have q3 := hcel (its.length * 4 + 3) (.bool false) (by rw [← hl4, zero_word]; simp)
  have f0 := hf (its.length * 4)
  have f1 := hf (its.length * 4 + 1)
  have f2 := hf (its.length * 4 + 2)
  have f3 := hf (its.length * 4 + 3)
  clear hf hcel
  obtain ⟨W3, hW3⟩ : ∃ W, W = put4 w2 g its.length c := ⟨_, rfl⟩
  obtain ⟨V, hV⟩ : ∃ V, V = w2.setCell ⟨ob, s.under.length * 4 + 2, none⟩ (.slice (some ⟨g, 0, none⟩) (its.length + 1) cap) := ⟨_, rfl⟩
  have HF : Hid ((∃ oldc, w2.cell? ⟨ob, s.under.length * 4 + 2, none⟩ = some oldc) ∧ w2.frozen? ⟨ob, s.under.length * 4 + 2, none⟩ = false ∧ ob ≠ g ∧ (∀ w4, (w4 = W3.setCell ⟨ob, s.under.length * 4 + 2, none⟩ (.slice (some ⟨g, 0, none⟩) (its.length + 1) cap) ∨ w4 = put4 V g its.length c) → (∃ fs', SmX B P line vl (s.add d) ob oc fs' D W0 w4) ∧ w.heap.size ≤ w4.heap.size)) := Lib.hid (by
    obtain ⟨hh1, hhZ, hwd, hil, hbw1⟩ := HH.out
    have hkv : (fs.getD s.under.length wc0).kv = .slice c1.ka its.length c1.kc := by rw [← HC1.out]; unfold Wc.kv; rw [hkn]
    have hob := hhZ.st.row.lt ob rfl
    have z1 := hgr.size
    have z2 := hob.2
    have z3 := hbw1.size
    simp at z1 z2
    have hne : (fs.getD s.under.length wc0).kv.ownBlock ≠ some ob := fun e => (hhZ.st.kP s.under.length (by simp) ob e).2.1 rfl
    have hog : ob ≠ g := fun e => by
      rcases hgg with hgg | hgg
      · rw [← hkv] at hgg; rw [← e] at hgg; exact hne hgg
      · have := hob.2; simp at this; omega
    have hob2 : w2.heap[ob]? = (w1.drew.alloc (.cells #[.int .i64 0, .string ⟨#[]⟩, .slice none 0 0, .bool false] 33)).heap[ob]? := hgr.block ob hob.2 (fun e => hne (by rw [hkv]; exact e.symm))
    have hrob : RowW B (.slice (some ⟨ob, 0, none⟩) fs.length oc) fs w2 := hhZ.st.row.block (fun g0 e => by obtain rfl : ob = g0 := (by simpa [Value.ownBlock] using e); exact hob2)
    have hlen := hhZ.len
    have hcl := hrob.at s.under.length (by omega)
    refine ⟨⟨_, hcl.2.2.1⟩, ?_, hog, ?_⟩
    · rcases hrob.2 with ⟨hn', _⟩ | ⟨g', cap', cur, he, _, hg', _⟩
      · cases hn'
      · injection he with e1 _ _
        injection e1 with e1
        injection e1 with e1 _ _
        subst e1
        exact frozen_of_row w2 ob _ _ _ hg'
    have hB : B ≤ w2.heap.size := by have := hob.1; omega
    have hbg : B ≤ g := by
      rcases hgg with hgg | hgg
      · rw [← hkv] at hgg; exact (hhZ.topFr.lt g hgg).1
      · omega
    have hbw2 : Below B W0 w2 := hhZ.below.grown hgr (by have := hob.1; have := hob.2; omega) (fun k e => by rw [← hkv] at e; exact (hhZ.topFr.lt k e).1)
    have hZw : w.heap.size ≤ (w1.drew.alloc (.cells #[.int .i64 0, .string ⟨#[]⟩, .slice none 0 0, .bool false] 33)).heap.size := by have := hbw1.size; simp; omega
    have hdZ : WdIs D (w1.drew.alloc (.cells #[.int .i64 0, .string ⟨#[]⟩, .slice none 0 0, .bool false] 33)) c d := HD.out.move (fun g0 _ hlt => ⟨by omega, (hbw1.trans (HZB.out.mono hbw1.size)).block g0 hlt⟩) (fun _ x => x)
    have h5 : (fs.getD s.under.length wc0).kv.ownBlock = some g ∨ (w1.drew.alloc (.cells #[.int .i64 0, .string ⟨#[]⟩, .slice none 0 0, .bool false] 33)).heap.size ≤ g := by
      rcases hgg with hgg | hgg
      · left; rw [hkv]; exact hgg
      · right; simp; omega
    have hg2 : ∀ g0, g0 < (w1.drew.alloc (.cells #[.int .i64 0, .string ⟨#[]⟩, .slice none 0 0, .bool false] 33)).heap.size → g0 ≠ ob → (fs.getD s.under.length wc0).kv.ownBlock ≠ some g0 → g0 ≠ g ∧ w2.heap[g0]? = (w1.drew.alloc (.cells #[.int .i64 0, .string ⟨#[]⟩, .slice none 0 0, .bool false] 33)).heap[g0]? := fun g0 hlt _ hnk => by
      refine ⟨fun e => ?_, hgr.block g0 hlt (fun e => hnk (by rw [hkv]; exact e.symm))⟩
      rcases h5 with h5 | h5
      · rw [e] at hnk; exact hnk h5
      · omega
    rintro w4 (rfl | rfl)
    · subst hW3
      have hsz : w2.heap.size = ((put4 w2 g its.length c).setCell ⟨ob, s.under.length * 4 + 2, none⟩ (.slice (some ⟨g, 0, none⟩) (its.length + 1) cap)).heap.size := by simp [put4_size]
      refine ⟨hhZ.added (c := c) (cap := cap) hil hwd hdZ (by rw [← hsz]; exact hgr.size) (fun g0 hlt hno hnk => ?_) ?_ ?_ h5 ((put4_below hbw2 hbg _ _).setCell (p := ⟨ob, _, none⟩) hob.1 _), by rw [← hsz]; omega⟩
      · obtain ⟨e1, e2⟩ := hg2 g0 hlt hno hnk
        rw [heap_setCell_other _ ⟨ob, _, none⟩ g0 _ (by simpa using hno), put4_other _ _ _ _ _ e1]
        exact e2
      · exact (RowW.block hrob (fun g0 e => by obtain rfl : ob = g0 := (by simpa [Value.ownBlock] using e); exact put4_other _ _ _ _ _ hog)).kidsAt s.under.length (by omega) _ _ _
      · exact RowW.block (RowW.last (c := c) hrow2) (fun g0 e => by obtain rfl : g = g0 := (by simpa [Value.ownBlock] using e); exact heap_setCell_other _ ⟨ob, _, none⟩ g _ (by simpa using hog.symm))
    · subst hV
      have hsz : w2.heap.size = (put4 (w2.setCell ⟨ob, s.under.length * 4 + 2, none⟩ (.slice (some ⟨g, 0, none⟩) (its.length + 1) cap)) g its.length c).heap.size := by simp [put4_size]
      refine ⟨hhZ.added (c := c) (cap := cap) hil hwd hdZ (by rw [← hsz]; exact hgr.size) (fun g0 hlt hno hnk => ?_) ?_ ?_ h5 (put4_below (hbw2.setCell (p := ⟨ob, _, none⟩) hob.1 _) hbg _ _), by rw [← hsz]; omega⟩
      · obtain ⟨e1, e2⟩ := hg2 g0 hlt hno hnk
        rw [put4_other _ _ _ _ _ e1, heap_setCell_other _ ⟨ob, _, none⟩ g0 _ (by simpa using hno)]
        exact e2
      · exact RowW.block (hrob.kidsAt s.under.length (by omega) _ _ _) (fun g0 e => by obtain rfl : ob = g0 := (by simpa [Value.ownBlock] using e); exact put4_other _ _ _ _ _ hog)
      · refine RowW.last (c := c) ?_
        refine ⟨hrow2.1, ?_⟩
        rcases hrow2.2 with ⟨hn', _⟩ | ⟨g1, cap1, cur, he, r1, r2, r3⟩
        · cases hn'
        · have hgg1 : g = g1 := by injection he with e1 _ _; injection e1 with e1; injection e1
          subst hgg1
          exact .inr ⟨g, cap1, cur, he, r1, by rw [heap_setCell_other _ ⟨ob, _, none⟩ g _ (by simpa using hog.symm)]; exact r2, r3⟩)
  obtain ⟨⟨oldc, o1⟩, o2, hog, hfin⟩ := HF.out
  have hgo : g ≠ ob := hog.symm
  refine hK.out _ _ (fun e => absurd (e.symm.trans (by kernel_rfl) : false = true) Bool.false_ne_true) ?_
  clear hK K
  (try simp only [Act.put, List.setIfInBounds_toArray, List.set_cons_zero, List.set_cons_succ])
  refine wpAnyN_of_H (S' := fun _ => True) _ _ _ _ (by kernel_rfl) ?_
  refine wpAnyH_take (i := 8) (oi := { dst := some 15, op := Go.Op.indexAddr 24 (Go.Operand.tmp 14) (Go.Operand.tmp 12), type := 0, pos := "scan.go:151", after := #[{ on := 7, ground := Go.Ground.data }, { on := 5, ground := Go.Ground.data }, { on := 0, ground := Go.Ground.phase }, { on := 1, ground := Go.Ground.phase }, { on := 2, ground := Go.Ground.phase }, { on := 3, ground := Go.Ground.phase }, { on := 4, ground := Go.Ground.phase }, { on := 5, ground := Go.Ground.phase }, { on := 6, ground := Go.Ground.phase }, { on := 7, ground := Go.Ground.phase }, { on := 12, ground := Go.Ground.gcOnly Go.Departure.appendInPlace }], guard := none }) (v := .pointer (some ⟨g, its.length * 4, none⟩)) rfl (by kernel_rfl) (by kernel_rfl) (by kernel_rfl) (fun _ _ _ h => h) (Or.inl ⟨by kernel_rfl, ?_⟩) trivial ?_
  · (intro X hX; (try dsimp only at hX); go_simp; try omega)
  (try simp only [Act.put, List.setIfInBounds_toArray, List.set_cons_zero, List.set_cons_succ])
  refine wpAnyH_take (i := 10) (oi := { dst := some 16, op := Go.Op.nilCheck (Go.Operand.tmp 7), type := 0, pos := "scan.go:151", after := #[{ on := 0, ground := Go.Ground.data }, { on := 0, ground := Go.Ground.phase }, { on := 1, ground := Go.Ground.phase }, { on := 2, ground := Go.Ground.phase }, { on := 3, ground := Go.Ground.phase }, { on := 4, ground := Go.Ground.phase }, { on := 5, ground := Go.Ground.phase }, { on := 6, ground := Go.Ground.phase }, { on := 7, ground := Go.Ground.phase }, { on := 8, ground := Go.Ground.textOnly Go.Departure.appendInPlace }, { on := 9, ground := Go.Ground.textOnly Go.Departure.appendInPlace }], guard := none }) (v := ?_) rfl (by kernel_rfl) (by kernel_rfl) (by kernel_rfl) (fun _ _ _ h => h) (Or.inl ⟨by kernel_rfl, ?_⟩) trivial ?_
  rotate_left
  · (intro X hX; (try dsimp only at hX); go_simp; try (with_reducible rfl))
  (try simp only [Act.put, List.setIfInBounds_toArray, List.set_cons_zero, List.set_cons_succ])
  refine wpAnyH_take (i := 11) (oi := { dst := some 17, op := Go.Op.fieldAddr 33 (Go.Operand.tmp 16) 2, type := 0, pos := "scan.go:151", after := #[{ on := 10, ground := Go.Ground.data }, { on := 0, ground := Go.Ground.phase }, { on := 1, ground := Go.Ground.phase }, { on := 2, ground := Go.Ground.phase }, { on := 3, ground := Go.Ground.phase }, { on := 4, ground := Go.Ground.phase }, { on := 5, ground := Go.Ground.phase }, { on := 6, ground := Go.Ground.phase }, { on := 7, ground := Go.Ground.phase }, { on := 8, ground := Go.Ground.textOnly Go.Departure.appendInPlace }, { on := 9, ground := Go.Ground.textOnly Go.Departure.appendInPlace }], guard := none }) (v := ?_) rfl (by kernel_rfl) (by kernel_rfl) (by kernel_rfl) (fun _ _ _ h => h) (Or.inl ⟨by kernel_rfl, ?_⟩) trivial ?_
  rotate_left
  · (intro X hX; (try dsimp only at hX); go_simp; try (with_reducible rfl))
  (try simp only [Act.put, List.setIfInBounds_toArray, List.set_cons_zero, List.set_cons_succ])
  refine wpAnyH_ready (rs := [9, 12]) (by kernel_rfl) (by simp) ?_
  refine AllReadyH.cons (o := { dst := none, op := Go.Op.store 33 (Go.Operand.tmp 15) (Go.Operand.tmp 11), type := 0, pos := "scan.go:151", after := #[{ on := 8, ground := Go.Ground.data }, { on := 4, ground := Go.Ground.data }, { on := 7, ground := Go.Ground.chain }, { on := 0, ground := Go.Ground.phase }, { on := 1, ground := Go.Ground.phase }, { on := 2, ground := Go.Ground.phase }, { on := 3, ground := Go.Ground.phase }, { on := 4, ground := Go.Ground.phase }, { on := 5, ground := Go.Ground.phase }, { on := 6, ground := Go.Ground.phase }, { on := 7, ground := Go.Ground.phase }, { on := 12, ground := Go.Ground.gcOnly Go.Departure.appendInPlace }], guard := none }) rfl (fun K hK => ?_) (AllReadyH.cons (o := { dst := none, op := Go.Op.store 24 (Go.Operand.tmp 17) (Go.Operand.tmp 14), type := 0, pos := "scan.go:151", after := #[{ on := 11, ground := Go.Ground.data }, { on := 7, ground := Go.Ground.data }, { on := 7, ground := Go.Ground.chain }, { on := 9, ground := Go.Ground.textOnly Go.Departure.appendInPlace }, { on := 0, ground := Go.Ground.phase }, { on := 1, ground := Go.Ground.phase }, { on := 2, ground := Go.Ground.phase }, { on := 3, ground := Go.Ground.phase }, { on := 4, ground := Go.Ground.phase }, { on := 5, ground := Go.Ground.phase }, { on := 6, ground := Go.Ground.phase }, { on := 7, ground := Go.Ground.phase }, { on := 8, ground := Go.Ground.textOnly Go.Departure.appendInPlace }, { on := 9, ground := Go.Ground.textOnly Go.Departure.appendInPlace }], guard := none }) rfl (fun K hK => ?_) AllReadyH.nil)
  · go_simp
    refine hK.out _ _ trivial (fun hHeld => ?_)
    clear hHeld hK K
    have e3 : (((w2.setCell ⟨g, its.length * 4, none⟩ (.int .i64 c.kind)).setCell ⟨g, its.length * 4 + 1, none⟩ (.string c.text)).setCell ⟨g, its.length * 4 + 2, none⟩ (.slice c.ka c.kn c.kc)).setCell ⟨g, its.length * 4 + 3, none⟩ (.bool c.glued) = W3 := hW3.symm
    rw [e3]
    have p1 : W3.cell? ⟨ob, s.under.length * 4 + 2, none⟩ = some oldc := by rw [hW3, cell_of_heap (put4_other w2 g its.length ob c hog)]; exact o1
    have p2 : W3.frozen? ⟨ob, s.under.length * 4 + 2, none⟩ = false := by rw [hW3, World.frozen?_of_block (a := ⟨ob, _, none⟩) (put4_other w2 g its.length ob c hog)]; exact o2
    have HFI := Lib.hid (hfin _ (.inl rfl))
    clear e3 hW3 hV hfin q0 q1 q2 q3 f0 f1 f2 f3 o1 o2
    refine wpAnyH_ready (rs := [12]) (by kernel_rfl) (by simp) ?_
    refine AllReadyH.cons (o := { dst := none, op := Go.Op.store 24 (Go.Operand.tmp 17) (Go.Operand.tmp 14), type := 0, pos := "scan.go:151", after := #[{ on := 11, ground := Go.Ground.data }, { on := 7, ground := Go.Ground.data }, { on := 7, ground := Go.Ground.chain }, { on := 9, ground := Go.Ground.textOnly Go.Departure.appendInPlace }, { on := 0, ground := Go.Ground.phase }, { on := 1, ground := Go.Ground.phase }, { on := 2, ground := Go.Ground.phase }, { on := 3, ground := Go.Ground.phase }, { on := 4, ground := Go.Ground.phase }, { on := 5, ground := Go.Ground.phase }, { on := 6, ground := Go.Ground.phase }, { on := 7, ground := Go.Ground.phase }, { on := 8, ground := Go.Ground.textOnly Go.Departure.appendInPlace }, { on := 9, ground := Go.Ground.textOnly Go.Departure.appendInPlace }], guard := none }) rfl (fun K hK => ?_) AllReadyH.nil
    go_simp
    refine hK.out _ _ trivial (fun hHeld => ?_)
    clear hHeld hK K
    refine wpAnyH_done (by kernel_rfl) ?_ _
    go_wp2_with fail
    go_end0
    exact ⟨rfl, HFI.out⟩
  · go_simp
    refine hK.out _ _ trivial (fun hHeld => ?_)
    clear hHeld hK K
    have e3 : w2.setCell ⟨ob, s.under.length * 4 + 2, none⟩ (.slice (some ⟨g, 0, none⟩) (its.length + 1) cap) = V := hV.symm
    rw [e3]
    have hVg : V.heap[g]? = w2.heap[g]? := by rw [hV]; exact heap_setCell_other w2 ⟨ob, _, none⟩ g _ (by simpa using hgo)
    have p0 : V.cell? ⟨g, its.length * 4, none⟩ = some (.int .i64 0) := by rw [cell_of_heap hVg]; exact q0
    have p1 : V.cell? ⟨g, its.length * 4 + 1, none⟩ = some (.string ⟨#[]⟩) := by rw [cell_of_heap hVg]; exact q1
    have p2 : V.cell? ⟨g, its.length * 4 + 2, none⟩ = some (.slice none 0 0) := by rw [cell_of_heap hVg]; exact q2
    have p3 : V.cell? ⟨g, its.length * 4 + 3, none⟩ = some (.bool false) := by rw [cell_of_heap hVg]; exact q3
    have r0 : V.frozen? ⟨g, its.length * 4, none⟩ = false := by rw [World.frozen?_of_block (a := ⟨g, _, none⟩) hVg]; exact f0
    have r1 : V.frozen? ⟨g, its.length * 4 + 1, none⟩ = false := by rw [World.frozen?_of_block (a := ⟨g, _, none⟩) hVg]; exact f1
    have r2 : V.frozen? ⟨g, its.length * 4 + 2, none⟩ = false := by rw [World.frozen?_of_block (a := ⟨g, _, none⟩) hVg]; exact f2
    have r3 : V.frozen? ⟨g, its.length * 4 + 3, none⟩ = false := by rw [World.frozen?_of_block (a := ⟨g, _, none⟩) hVg]; exact f3
    have HFI := Lib.hid (hfin _ (.inr rfl))
    clear e3 hW3 hV hfin q0 q1 q2 q3 f0 f1 f2 f3 o1 o2 hVg
    refine wpAnyH_ready (rs := [9]) (by kernel_rfl) (by simp) ?_
    refine AllReadyH.cons (o := { dst := none, op := Go.Op.store 33 (Go.Operand.tmp 15) (Go.Operand.tmp 11), type := 0, pos := "scan.go:151", after := #[{ on := 8, ground := Go.Ground.data }, { on := 4, ground := Go.Ground.data }, { on := 7, ground := Go.Ground.chain }, { on := 0, ground := Go.Ground.phase }, { on := 1, ground := Go.Ground.phase }, { on := 2, ground := Go.Ground.phase }, { on := 3, ground := Go.Ground.phase }, { on := 4, ground := Go.Ground.phase }, { on := 5, ground := Go.Ground.phase }, { on := 6, ground := Go.Ground.phase }, { on := 7, ground := Go.Ground.phase }, { on := 12, ground := Go.Ground.gcOnly Go.Departure.appendInPlace }], guard := none }) rfl (fun K hK => ?_) AllReadyH.nil
    go_simp
    refine hK.out _ _ trivial (fun hHeld => ?_)
    clear hHeld hK K
    refine wpAnyH_done (by kernel_rfl) ?_ _
    go_wp2_with fail
    go_end0
    exact ⟨rfl, HFI.out⟩
end Go.Proofs.YtliiapdakojomabDoor
