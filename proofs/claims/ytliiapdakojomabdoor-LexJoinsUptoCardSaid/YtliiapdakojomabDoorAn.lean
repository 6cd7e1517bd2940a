/- lex: the scanner's push. -/
import Derived.Test.YtliiapdakojomabDoorAm
namespace Go.Proofs.YtliiapdakojomabDoor
open Go.RowKit

theorem wpAnyN_two {P : Program} {ops : Array Oper} {Q : Exit → Act → World → Prop} {md : Region.Mode} {S : World → Prop} {L i j : Nat} {oi oj : Oper} {fuel : Nat} {listed : Array Bool} {a : Act} {w : World} (hr : Region.ready md ops listed = [i, j]) (hi : ops[i]? = some oi) (hj : ops[j]? = some oj)
    (h1 : ∀ K' : Act → World → Prop, Shut (∀ a w, ((listed.setIfInBounds i true).getD L false = false → S w) → wpAnyN P md ops Q S L fuel (listed.setIfInBounds i true) a w → K' a w) → if Region.wanted oi (yielded ops a.tmps) = true then Oper.wp P oi a w K' Q else K' (a.put oi.dst undef) w)
    (h2 : ∀ K' : Act → World → Prop, Shut (∀ a w, ((listed.setIfInBounds j true).getD L false = false → S w) → wpAnyN P md ops Q S L fuel (listed.setIfInBounds j true) a w → K' a w) → if Region.wanted oj (yielded ops a.tmps) = true then Oper.wp P oj a w K' Q else K' (a.put oj.dst undef) w) : wpAnyN P md ops Q S L (fuel + 1) listed a w := by
  refine ⟨fun h0 => (by rw [hr] at h0; cases h0), fun k hk => ?_⟩
  rw [hr] at hk
  rcases List.mem_cons.1 hk with rfl | hk
  · exact wpOp_step hi (fun K' hK => h1 K' (fun a w hS hW => hK a w ⟨hS, hW⟩))
  · obtain rfl : k = j := by simpa using hk
    exact wpOp_step hj (fun K' hK => h2 K' (fun a w hS hW => hK a w ⟨hS, hW⟩))
theorem SmX.base {B P : Nat} {line : ByteArray} {vl : Value} {s : Sc} {ob oc : Nat} {fs : List Wc} {D : Nat → Prop} {W0 w : World} (h : SmX B P line vl s ob oc fs D W0 w) : B ≤ w.heap.size := by have := h.bP; have := h.plt; omega
theorem news_zero {Z : World} {T : Nat} (hT : Z.heap[T]? = some (.cells #[.int .i64 0, .string ⟨#[]⟩, .slice none 0 0, .bool false] 33 (0, 0))) : ∀ j u, (wc [wc0])[j]? = some u → Z.cell? ((⟨T, 0, none⟩ : Addr).add j) = some u := by
  intro j u hj
  rw [zero_word] at hj
  rw [Addr.add_lit, Nat.zero_add, cell_of_row Z T j _ _ _ hT]
  simpa using hj
/-- What is known behind the append of a push. -/
structure PushF (B P : Nat) (line : ByteArray) (vl : Value) (s : Sc) (ob oc : Nat) (fs : List Wc) (D : Nat → Prop) (W0 Z w2 : World) (g cap : Nat) (k : Int) (wb : Bool) : Prop where
  cells : w2.cell? ⟨g, fs.length * 4, none⟩ = some (.int .i64 0) ∧ w2.cell? ⟨g, fs.length * 4 + 1, none⟩ = some (.string ⟨#[]⟩) ∧ w2.cell? ⟨g, fs.length * 4 + 2, none⟩ = some (.slice none 0 0) ∧ w2.cell? ⟨g, fs.length * 4 + 3, none⟩ = some (.bool false) ∧ w2.frozen? ⟨g, fs.length * 4, none⟩ = false ∧ w2.frozen? ⟨g, fs.length * 4 + 1, none⟩ = false ∧ w2.frozen? ⟨g, fs.length * 4 + 2, none⟩ = false ∧ w2.frozen? ⟨g, fs.length * 4 + 3, none⟩ = false
  own : (∃ oldc, w2.cell? ⟨P, 4, none⟩ = some oldc) ∧ w2.frozen? ⟨P, 4, none⟩ = false ∧ g ≠ P
  cellsV : (w2.setCell ⟨P, 4, none⟩ (.slice (some ⟨g, 0, none⟩) (fs.length + 1) cap)).cell? ⟨g, fs.length * 4, none⟩ = some (.int .i64 0) ∧ (w2.setCell ⟨P, 4, none⟩ (.slice (some ⟨g, 0, none⟩) (fs.length + 1) cap)).cell? ⟨g, fs.length * 4 + 1, none⟩ = some (.string ⟨#[]⟩) ∧ (w2.setCell ⟨P, 4, none⟩ (.slice (some ⟨g, 0, none⟩) (fs.length + 1) cap)).cell? ⟨g, fs.length * 4 + 2, none⟩ = some (.slice none 0 0) ∧ (w2.setCell ⟨P, 4, none⟩ (.slice (some ⟨g, 0, none⟩) (fs.length + 1) cap)).cell? ⟨g, fs.length * 4 + 3, none⟩ = some (.bool false) ∧ (w2.setCell ⟨P, 4, none⟩ (.slice (some ⟨g, 0, none⟩) (fs.length + 1) cap)).frozen? ⟨g, fs.length * 4, none⟩ = false ∧ (w2.setCell ⟨P, 4, none⟩ (.slice (some ⟨g, 0, none⟩) (fs.length + 1) cap)).frozen? ⟨g, fs.length * 4 + 1, none⟩ = false ∧ (w2.setCell ⟨P, 4, none⟩ (.slice (some ⟨g, 0, none⟩) (fs.length + 1) cap)).frozen? ⟨g, fs.length * 4 + 2, none⟩ = false ∧ (w2.setCell ⟨P, 4, none⟩ (.slice (some ⟨g, 0, none⟩) (fs.length + 1) cap)).frozen? ⟨g, fs.length * 4 + 3, none⟩ = false
  ownW : (∃ oldc, (put4 w2 g fs.length ⟨k, S [], none, 0, 0, wb⟩).cell? ⟨P, 4, none⟩ = some oldc) ∧ (put4 w2 g fs.length ⟨k, S [], none, 0, 0, wb⟩).frozen? ⟨P, 4, none⟩ = false
  endA : ∃ ob' oc' fs', SmX B P line vl { s with begun := s.begun + 1, under := s.under ++ [s.top], top := ⟨k, wb, []⟩ } ob' oc' fs' D W0 ((put4 w2 g fs.length ⟨k, S [], none, 0, 0, wb⟩).setCell ⟨P, 4, none⟩ (.slice (some ⟨g, 0, none⟩) (fs.length + 1) cap))
  endB : ∃ ob' oc' fs', SmX B P line vl { s with begun := s.begun + 1, under := s.under ++ [s.top], top := ⟨k, wb, []⟩ } ob' oc' fs' D W0 (put4 (w2.setCell ⟨P, 4, none⟩ (.slice (some ⟨g, 0, none⟩) (fs.length + 1) cap)) g fs.length ⟨k, S [], none, 0, 0, wb⟩)
theorem push_fin {B P : Nat} {line : ByteArray} {vl : Value} {s : Sc} {ob oc : Nat} {fs : List Wc} {D : Nat → Prop} {W0 Z w2 : World} {g cap : Nat} {k : Int} {wb : Bool} (hZ : SmX B P line vl { s with begun := s.begun + 1 } ob oc fs D W0 Z)
    (hrow2 : w2.ownsRow B 33 4 (.slice (some ⟨g, 0, none⟩) (fs.length + 1) cap) (fs.length + 1) (wc fs ++ wc [wc0])) (hgr : Z.grownBy w2 (Value.slice (some ⟨ob, 0, none⟩) fs.length oc).ownBlock) (hgg : (Value.slice (some ⟨ob, 0, none⟩) fs.length oc).ownBlock = some g ∨ g = Z.heap.size) : PushF B P line vl s ob oc fs D W0 Z w2 g cap k wb := by
  have hob := hZ.st.row.lt ob rfl
  have hP := hZ.plt
  have hoP := hZ.st.obP
  have hgb : g = ob ∨ Z.heap.size ≤ g := by
    rcases hgg with e | e
    · left; simpa [Value.ownBlock] using e.symm
    · right; omega
  have hgP : g ≠ P := by
    rcases hgb with e | e
    · rw [e]; exact hoP
    · omega
  have hBg : B ≤ g := by
    rcases hgb with e | e
    · rw [e]; exact hob.1
    · have := hob.1; omega
  obtain ⟨cur2, hcur2⟩ : ∃ cur, w2.heap[g]? = some (.cells cur 33 (0, 0)) := by
    rcases hrow2.2 with ⟨hn', _⟩ | ⟨g', cap', cur, he, _, hg', _⟩
    · cases hn'
    · injection he with e1 _ _
      injection e1 with e1
      injection e1 with e1 _ _
      subst e1
      exact ⟨cur, hg'⟩
  have hf : ∀ i, w2.frozen? ⟨g, i, none⟩ = false := fun i => frozen_of_row w2 g i _ _ hcur2
  have hl4 := wc_length fs
  have hcel : ∀ j u, (wc fs ++ wc [wc0])[j]? = some u → w2.cell? ⟨g, j, none⟩ = some u := fun j u hu => by
    have := hrow2.cells (g := g) rfl j u hu
    rwa [Addr.add_lit, Nat.zero_add] at this
  have q0 := hcel (fs.length * 4) (.int .i64 0) (by rw [← hl4, zero_word]; simp)
  have q1 := hcel (fs.length * 4 + 1) (.string ⟨#[]⟩) (by rw [← hl4, zero_word]; simp)
  have q2 := hcel (fs.length * 4 + 2) (.slice none 0 0) (by rw [← hl4, zero_word]; simp)
  have q3 := hcel (fs.length * 4 + 3) (.bool false) (by rw [← hl4, zero_word]; simp)
  have hP2 : w2.heap[P]? = Z.heap[P]? := hgr.block P hP (fun e => hoP (by simpa [Value.ownBlock] using e.symm))
  have hblk := hP2.trans hZ.blk
  have hVg : (w2.setCell ⟨P, 4, none⟩ (.slice (some ⟨g, 0, none⟩) (fs.length + 1) cap)).heap[g]? = w2.heap[g]? := heap_setCell_other w2 ⟨P, _, none⟩ g _ (by simpa using hgP)
  have hWP := put4_other w2 g fs.length P ⟨k, S [], none, 0, 0, wb⟩ hgP.symm
  have hbw2 : Below B W0 w2 := hZ.below.grown hgr hZ.base (fun j e => by obtain rfl : ob = j := (by simpa [Value.ownBlock] using e); exact hob.1)
  have z1 := hgr.size
  have hg2 : ∀ g0, g0 < Z.heap.size → g0 ≠ ob → g0 ≠ g ∧ w2.heap[g0]? = Z.heap[g0]? := fun g0 hlt hno => by
    refine ⟨fun e => ?_, hgr.block g0 hlt (fun e => hno (by simpa [Value.ownBlock] using e))⟩
    rcases hgb with e' | e'
    · exact hno (e.trans e')
    · omega
  refine ⟨⟨q0, q1, q2, q3, hf _, hf _, hf _, hf _⟩, ⟨⟨_, cell_of_row _ _ 4 _ _ _ hblk⟩, frozen_of_row _ _ 4 _ _ hblk, hgP⟩, ?_, ?_, ?_, ?_⟩
  · refine ⟨?_, ?_, ?_, ?_, ?_, ?_, ?_, ?_⟩
    · rw [cell_of_heap hVg]; exact q0
    · rw [cell_of_heap hVg]; exact q1
    · rw [cell_of_heap hVg]; exact q2
    · rw [cell_of_heap hVg]; exact q3
    · rw [World.frozen?_of_block (a := ⟨g, _, none⟩) hVg]; exact hf _
    · rw [World.frozen?_of_block (a := ⟨g, _, none⟩) hVg]; exact hf _
    · rw [World.frozen?_of_block (a := ⟨g, _, none⟩) hVg]; exact hf _
    · rw [World.frozen?_of_block (a := ⟨g, _, none⟩) hVg]; exact hf _
  · exact ⟨⟨_, (cell_of_heap hWP 4).trans (cell_of_row _ _ 4 _ _ _ hblk)⟩, (World.frozen?_of_block (a := ⟨P, 4, none⟩) hWP).trans (frozen_of_row _ _ 4 _ _ hblk)⟩
  · refine SmX.pushed (s := { s with begun := s.begun + 1 }) (cap := cap) hZ (by simp [put4_size]; exact z1) (fun g0 hlt hno hnP => ?_) ?_ hgb ((put4_below hbw2 hBg _ _).setCell (p := ⟨P, 4, none⟩) hZ.bP _) ?_
    · obtain ⟨e1, e2⟩ := hg2 g0 hlt hno
      rw [heap_setCell_other _ ⟨P, 4, none⟩ g0 _ (by simpa using hnP), put4_other _ _ _ _ _ e1]
      exact e2
    · exact RowW.block (RowW.last (c := ⟨k, S [], none, 0, 0, wb⟩) hrow2) (fun g0 e => by obtain rfl : g = g0 := (by simpa [Value.ownBlock] using e); exact heap_setCell_other _ ⟨P, 4, none⟩ g _ (by simpa using hgP))
    · have := heap_setCell_same (put4 w2 g fs.length ⟨k, S [], none, 0, 0, wb⟩) P 4 _ _ (.slice (some ⟨g, 0, none⟩) (fs.length + 1) cap) (hWP.trans hblk)
      simpa using this
  · refine SmX.pushed (s := { s with begun := s.begun + 1 }) (cap := cap) hZ (by simp [put4_size]; exact z1) (fun g0 hlt hno hnP => ?_) ?_ hgb (put4_below (hbw2.setCell (p := ⟨P, 4, none⟩) hZ.bP _) hBg _ _) ?_
    · obtain ⟨e1, e2⟩ := hg2 g0 hlt hno
      rw [put4_other _ _ _ _ _ e1, heap_setCell_other _ ⟨P, 4, none⟩ g0 _ (by simpa using hnP)]
      exact e2
    · refine RowW.last (c := ⟨k, S [], none, 0, 0, wb⟩) ⟨hrow2.1, ?_⟩
      rcases hrow2.2 with ⟨hn', _⟩ | ⟨g1, cap1, cur, he, r1, r2, r3⟩
      · cases hn'
      · have hgg1 : g = g1 := by injection he with e1 _ _; injection e1 with e1; injection e1
        subst hgg1
        exact .inr ⟨g, cap1, cur, he, r1, hVg.trans r2, r3⟩
    · rw [put4_other _ g fs.length P _ hgP.symm]
      have := heap_setCell_same w2 P 4 _ _ (.slice (some ⟨g, 0, none⟩) (fs.length + 1) cap) hblk
      simpa using this
set_option maxRecDepth 100000 in
set_option maxHeartbeats 8000000 in
theorem push_any {B P : Nat} {line : ByteArray} {vl : Value} {s : Sc} {ob oc : Nat} {fs : List Wc} {D : Nat → Prop} {W0 w : World} (c : UInt8) (h : SmX B P line vl s ob oc fs D W0 w) (hn : s.under.length ≤ 100) (hp : s.pos < line.size) (hs : line.size ≤ 140737488355328) (hbg : s.begun ≤ 1000) :
    Calls Tryd.prog 54 #[.pointer (some ⟨P, 0, none⟩), .int .u8 (c.toNat : Int)] w fun e w' => e = .returned (.tuple #[]) ∧ ∃ ob' oc' fs', SmX B P line vl { s with pos := s.pos + 1, begun := s.begun + 1, under := s.under ++ [s.top], top := ⟨kindC c, s.word (L line), []⟩ } ob' oc' fs' D W0 w' := by
  obtain ⟨i0, hi, hz0, hz1, hz2⟩ := info_parts Tryd.infoWord
  have HKD := Lib.hid (fun W => kindOf_any c W)
  have hlen := h.len
  have hfl : fs.length ≤ 101 := by omega
  obtain ⟨wb, hwb⟩ : ∃ b, b = s.word (L line) := ⟨_, rfl⟩
  have HWB := Lib.hid hwb
  clear hwb
  have h0 := h.on ((Below.refl _ _).drew)
  have h1 := h0.on ((Below.refl _ _).alloc (Nat.le_refl _) (.cells #[.int .i64 0, .string ⟨#[]⟩, .slice none 0 0, .bool false] 33))
  have hS0 : (fun X : World => X.cell? ⟨P, 4, none⟩ = some (.slice (some ⟨ob, 0, none⟩) fs.length oc)) w.drew := cell_of_row _ _ 4 _ _ _ h0.blk
  have hS1 : (fun X : World => X.cell? ⟨P, 4, none⟩ = some (.slice (some ⟨ob, 0, none⟩) fs.length oc)) (w.drew.alloc (.cells #[.int .i64 0, .string ⟨#[]⟩, .slice none 0 0, .bool false] 33)) := cell_of_row _ _ 4 _ _ _ h1.blk
  have hwP : w.heap.size ≠ P := by have := h.plt; omega
  clear h hlen
  go_enter Tryd.func54, Tryd.ntmps54
  go_upto_region 0 with fail
  refine wp_region_N 10 (fun X => X.cell? ⟨P, 4, none⟩ = some (.slice (some ⟨ob, 0, none⟩) fs.length oc)) (by kernel_rfl) ?_
  refine wpAnyN_take (i := 0) (oi := { dst := some 4, op := Go.Op.move (Go.Operand.tmp 0), type := 87, pos := "scan.go:155", after := #[], guard := none }) (oL := { dst := some 14, op := Go.Op.call { callee := Go.Callee.builtin Go.Builtin.append, args := #[Go.Operand.tmp 7, Go.Operand.tmp 13], argTypes := #[24, 24] }, type := 24, pos := "scan.go:155", after := #[{ on := 3, ground := Go.Ground.data }, { on := 9, ground := Go.Ground.data }, { on := 7, ground := Go.Ground.chain }, { on := 0, ground := Go.Ground.phase }, { on := 1, ground := Go.Ground.phase }, { on := 2, ground := Go.Ground.phase }, { on := 3, ground := Go.Ground.phase }, { on := 4, ground := Go.Ground.phase }, { on := 5, ground := Go.Ground.phase }, { on := 6, ground := Go.Ground.phase }, { on := 7, ground := Go.Ground.phase }, { on := 8, ground := Go.Ground.phase }, { on := 9, ground := Go.Ground.phase }], guard := none }) (v := ?_) rfl rfl (by kernel_rfl) (by kernel_rfl) (by kernel_rfl) (by kernel_rfl) (fun _ _ _ h => h) (Or.inl ⟨by kernel_rfl, ?_⟩) hS0 ?_
  rotate_left
  · (intro X hX; (try dsimp only at hX); go_simp; try (with_reducible rfl))
  (try simp only [Act.put, List.setIfInBounds_toArray, List.set_cons_zero, List.set_cons_succ])
  refine wpAnyN_take (i := 1) (oi := { dst := some 5, op := Go.Op.nilCheck (Go.Operand.tmp 4), type := 0, pos := "scan.go:155", after := #[{ on := 0, ground := Go.Ground.data }], guard := none }) (oL := { dst := some 14, op := Go.Op.call { callee := Go.Callee.builtin Go.Builtin.append, args := #[Go.Operand.tmp 7, Go.Operand.tmp 13], argTypes := #[24, 24] }, type := 24, pos := "scan.go:155", after := #[{ on := 3, ground := Go.Ground.data }, { on := 9, ground := Go.Ground.data }, { on := 7, ground := Go.Ground.chain }, { on := 0, ground := Go.Ground.phase }, { on := 1, ground := Go.Ground.phase }, { on := 2, ground := Go.Ground.phase }, { on := 3, ground := Go.Ground.phase }, { on := 4, ground := Go.Ground.phase }, { on := 5, ground := Go.Ground.phase }, { on := 6, ground := Go.Ground.phase }, { on := 7, ground := Go.Ground.phase }, { on := 8, ground := Go.Ground.phase }, { on := 9, ground := Go.Ground.phase }], guard := none }) (v := ?_) rfl rfl (by kernel_rfl) (by kernel_rfl) (by kernel_rfl) (by kernel_rfl) (fun _ _ _ h => h) (Or.inl ⟨by kernel_rfl, ?_⟩) hS0 ?_
  rotate_left
  · (intro X hX; (try dsimp only at hX); go_simp; try (with_reducible rfl))
  (try simp only [Act.put, List.setIfInBounds_toArray, List.set_cons_zero, List.set_cons_succ])
  refine wpAnyN_take (i := 2) (oi := { dst := some 6, op := Go.Op.fieldAddr 67 (Go.Operand.tmp 5) 4, type := 0, pos := "scan.go:155", after := #[{ on := 1, ground := Go.Ground.data }], guard := none }) (oL := { dst := some 14, op := Go.Op.call { callee := Go.Callee.builtin Go.Builtin.append, args := #[Go.Operand.tmp 7, Go.Operand.tmp 13], argTypes := #[24, 24] }, type := 24, pos := "scan.go:155", after := #[{ on := 3, ground := Go.Ground.data }, { on := 9, ground := Go.Ground.data }, { on := 7, ground := Go.Ground.chain }, { on := 0, ground := Go.Ground.phase }, { on := 1, ground := Go.Ground.phase }, { on := 2, ground := Go.Ground.phase }, { on := 3, ground := Go.Ground.phase }, { on := 4, ground := Go.Ground.phase }, { on := 5, ground := Go.Ground.phase }, { on := 6, ground := Go.Ground.phase }, { on := 7, ground := Go.Ground.phase }, { on := 8, ground := Go.Ground.phase }, { on := 9, ground := Go.Ground.phase }], guard := none }) (v := ?_) rfl rfl (by kernel_rfl) (by kernel_rfl) (by kernel_rfl) (by kernel_rfl) (fun _ _ _ h => h) (Or.inl ⟨by kernel_rfl, ?_⟩) hS0 ?_
  rotate_left
  · (intro X hX; (try dsimp only at hX); go_simp; try (with_reducible rfl))
  (try simp only [Act.put, List.setIfInBounds_toArray, List.set_cons_zero, List.set_cons_succ])
  refine wpAnyN_take (i := 3) (oi := { dst := some 7, op := Go.Op.load 24 (Go.Operand.tmp 6), type := 24, pos := "scan.go:155", after := #[{ on := 2, ground := Go.Ground.data }], guard := none }) (oL := { dst := some 14, op := Go.Op.call { callee := Go.Callee.builtin Go.Builtin.append, args := #[Go.Operand.tmp 7, Go.Operand.tmp 13], argTypes := #[24, 24] }, type := 24, pos := "scan.go:155", after := #[{ on := 3, ground := Go.Ground.data }, { on := 9, ground := Go.Ground.data }, { on := 7, ground := Go.Ground.chain }, { on := 0, ground := Go.Ground.phase }, { on := 1, ground := Go.Ground.phase }, { on := 2, ground := Go.Ground.phase }, { on := 3, ground := Go.Ground.phase }, { on := 4, ground := Go.Ground.phase }, { on := 5, ground := Go.Ground.phase }, { on := 6, ground := Go.Ground.phase }, { on := 7, ground := Go.Ground.phase }, { on := 8, ground := Go.Ground.phase }, { on := 9, ground := Go.Ground.phase }], guard := none }) (v := ?_) rfl rfl (by kernel_rfl) (by kernel_rfl) (by kernel_rfl) (by kernel_rfl) (fun _ _ _ h => h) (Or.inl ⟨by kernel_rfl, ?_⟩) hS0 ?_
  rotate_left
  · (intro X hX; (try dsimp only at hX); go_simp; try (with_reducible rfl))
  (try simp only [Act.put, List.setIfInBounds_toArray, List.set_cons_zero, List.set_cons_succ])
  refine wpAnyN_take (i := 4) (oi := { dst := some 8, op := Go.Op.move (Go.Operand.tmp 0), type := 87, pos := "scan.go:155", after := #[], guard := none }) (oL := { dst := some 14, op := Go.Op.call { callee := Go.Callee.builtin Go.Builtin.append, args := #[Go.Operand.tmp 7, Go.Operand.tmp 13], argTypes := #[24, 24] }, type := 24, pos := "scan.go:155", after := #[{ on := 3, ground := Go.Ground.data }, { on := 9, ground := Go.Ground.data }, { on := 7, ground := Go.Ground.chain }, { on := 0, ground := Go.Ground.phase }, { on := 1, ground := Go.Ground.phase }, { on := 2, ground := Go.Ground.phase }, { on := 3, ground := Go.Ground.phase }, { on := 4, ground := Go.Ground.phase }, { on := 5, ground := Go.Ground.phase }, { on := 6, ground := Go.Ground.phase }, { on := 7, ground := Go.Ground.phase }, { on := 8, ground := Go.Ground.phase }, { on := 9, ground := Go.Ground.phase }], guard := none }) (v := ?_) rfl rfl (by kernel_rfl) (by kernel_rfl) (by kernel_rfl) (by kernel_rfl) (fun _ _ _ h => h) (Or.inl ⟨by kernel_rfl, ?_⟩) hS0 ?_
  rotate_left
  · (intro X hX; (try dsimp only at hX); go_simp; try (with_reducible rfl))
  (try simp only [Act.put, List.setIfInBounds_toArray, List.set_cons_zero, List.set_cons_succ])
  refine wpAnyN_take (i := 5) (oi := { dst := some 9, op := Go.Op.move (Go.Operand.tmp 1), type := 5, pos := "scan.go:155", after := #[], guard := none }) (oL := { dst := some 14, op := Go.Op.call { callee := Go.Callee.builtin Go.Builtin.append, args := #[Go.Operand.tmp 7, Go.Operand.tmp 13], argTypes := #[24, 24] }, type := 24, pos := "scan.go:155", after := #[{ on := 3, ground := Go.Ground.data }, { on := 9, ground := Go.Ground.data }, { on := 7, ground := Go.Ground.chain }, { on := 0, ground := Go.Ground.phase }, { on := 1, ground := Go.Ground.phase }, { on := 2, ground := Go.Ground.phase }, { on := 3, ground := Go.Ground.phase }, { on := 4, ground := Go.Ground.phase }, { on := 5, ground := Go.Ground.phase }, { on := 6, ground := Go.Ground.phase }, { on := 7, ground := Go.Ground.phase }, { on := 8, ground := Go.Ground.phase }, { on := 9, ground := Go.Ground.phase }], guard := none }) (v := ?_) rfl rfl (by kernel_rfl) (by kernel_rfl) (by kernel_rfl) (by kernel_rfl) (fun _ _ _ h => h) (Or.inl ⟨by kernel_rfl, ?_⟩) hS0 ?_
  rotate_left
  · (intro X hX; (try dsimp only at hX); go_simp; try (with_reducible rfl))
  (try simp only [Act.put, List.setIfInBounds_toArray, List.set_cons_zero, List.set_cons_succ])
  refine wpAnyN_take (i := 8) (oi := { dst := some 12, op := Go.Op.call { callee := Go.Callee.builtin Go.Builtin.len, args := #[Go.Operand.tmp 7], argTypes := #[24] }, type := 3, pos := "scan.go:155", after := #[{ on := 3, ground := Go.Ground.data }], guard := none }) (oL := { dst := some 14, op := Go.Op.call { callee := Go.Callee.builtin Go.Builtin.append, args := #[Go.Operand.tmp 7, Go.Operand.tmp 13], argTypes := #[24, 24] }, type := 24, pos := "scan.go:155", after := #[{ on := 3, ground := Go.Ground.data }, { on := 9, ground := Go.Ground.data }, { on := 7, ground := Go.Ground.chain }, { on := 0, ground := Go.Ground.phase }, { on := 1, ground := Go.Ground.phase }, { on := 2, ground := Go.Ground.phase }, { on := 3, ground := Go.Ground.phase }, { on := 4, ground := Go.Ground.phase }, { on := 5, ground := Go.Ground.phase }, { on := 6, ground := Go.Ground.phase }, { on := 7, ground := Go.Ground.phase }, { on := 8, ground := Go.Ground.phase }, { on := 9, ground := Go.Ground.phase }], guard := none }) (v := ?_) rfl rfl (by kernel_rfl) (by kernel_rfl) (by kernel_rfl) (by kernel_rfl) (fun _ _ _ h => h) (Or.inl ⟨by kernel_rfl, ?_⟩) hS0 ?_
  rotate_left
  · (intro X hX; (try dsimp only at hX); go_simp; try (with_reducible rfl))
  (try simp only [Act.put, List.setIfInBounds_toArray, List.set_cons_zero, List.set_cons_succ])
  refine wpAnyN_two (i := 6) (j := 9) (oi := { dst := some 10, op := Go.Op.call { callee := Go.Callee.value (Go.Operand.func 80), args := #[Go.Operand.tmp 9], argTypes := #[5] }, type := 3, pos := "scan.go:155", after := #[{ on := 5, ground := Go.Ground.data }], guard := none }) (oj := { dst := some 13, op := Go.Op.buildSlice 24 1 #[(0, Go.Operand.const (Go.Value.agg #[Go.Value.int Go.IntKind.i64 0, Go.Value.string { data := #[] }, Go.Value.slice none 0 0, Go.Value.bool false]))], type := 24, pos := "scan.go:155", after := #[], guard := none }) (by kernel_rfl) rfl rfl (fun K hK => ?_) (fun K hK => ?_)
  · go_simp
    refine (HKD.out _).mono ?_
    rintro e w6 ⟨rfl, hw6⟩
    rw [hw6]
    clear hw6 w6
    dsimp only
    refine hK.out _ _ (fun _ => hS0) ?_
    clear hK K
    (try simp only [Act.put, List.setIfInBounds_toArray, List.set_cons_zero, List.set_cons_succ])
    refine wpAnyN_two (i := 7) (j := 9) (oi := { dst := some 11, op := Go.Op.call { callee := Go.Callee.value (Go.Operand.func 57), args := #[Go.Operand.tmp 8, Go.Operand.tmp 10], argTypes := #[87, 3] }, type := 33, pos := "scan.go:155", after := #[{ on := 4, ground := Go.Ground.data }, { on := 6, ground := Go.Ground.data }, { on := 6, ground := Go.Ground.chain }], guard := none }) (oj := { dst := some 13, op := Go.Op.buildSlice 24 1 #[(0, Go.Operand.const (Go.Value.agg #[Go.Value.int Go.IntKind.i64 0, Go.Value.string { data := #[] }, Go.Value.slice none 0 0, Go.Value.bool false]))], type := 24, pos := "scan.go:155", after := #[], guard := none }) (by kernel_rfl) rfl rfl (fun K hK => ?_) (fun K hK => ?_)
    · go_simp
      refine (begin_any (kindC c) h0 hn (by omega) hs hbg).mono ?_
      rintro e w7 ⟨rfl, hsm7, hbt7⟩
      have hS7 : (fun X => X.cell? ⟨P, 4, none⟩ = some (.slice (some ⟨ob, 0, none⟩) fs.length oc)) w7 := cell_of_row _ _ 4 _ _ _ hsm7.blk
      rw [← HWB.out]
      dsimp only
      refine hK.out _ _ (fun _ => hS7) ?_
      clear hK K hS7
      (try simp only [Act.put, List.setIfInBounds_toArray, List.set_cons_zero, List.set_cons_succ])
      refine wpAnyN_one (i := 9) (o := { dst := some 13, op := Go.Op.buildSlice 24 1 #[(0, Go.Operand.const (Go.Value.agg #[Go.Value.int Go.IntKind.i64 0, Go.Value.string { data := #[] }, Go.Value.slice none 0 0, Go.Value.bool false]))], type := 24, pos := "scan.go:155", after := #[], guard := none }) (by kernel_rfl) rfl (fun K hK => ?_)
      have hS0 : (fun X => X.cell? ⟨P, 4, none⟩ = some (.slice (some ⟨ob, 0, none⟩) fs.length oc)) (w7.alloc (.cells #[.int .i64 0, .string ⟨#[]⟩, .slice none 0 0, .bool false] 33)) := cellB (cell_of_row _ _ 4 _ _ _ hsm7.blk) ((Below.refl _ _).alloc (Nat.le_refl _) _)
      go_simp
      refine hK.out _ _ (fun _ => hS0) ?_
      clear hK K
      (try simp only [Act.put, List.setIfInBounds_toArray, List.set_cons_zero, List.set_cons_succ])
      have hZ := hsm7.on ((Below.refl _ _).alloc (Nat.le_refl _) (.cells #[.int .i64 0, .string ⟨#[]⟩, .slice none 0 0, .bool false] 33))
      have hT := heap_alloc_new w7 (.cells #[.int .i64 0, .string ⟨#[]⟩, .slice none 0 0, .bool false] 33)
      generalize hZe : w7.alloc (.cells #[.int .i64 0, .string ⟨#[]⟩, .slice none 0 0, .bool false] 33) = Z at *
      clear hZe
      refine wpAnyN_one (i := 10) (o := { dst := some 14, op := Go.Op.call { callee := Go.Callee.builtin Go.Builtin.append, args := #[Go.Operand.tmp 7, Go.Operand.tmp 13], argTypes := #[24, 24] }, type := 24, pos := "scan.go:155", after := #[{ on := 3, ground := Go.Ground.data }, { on := 9, ground := Go.Ground.data }, { on := 7, ground := Go.Ground.chain }, { on := 0, ground := Go.Ground.phase }, { on := 1, ground := Go.Ground.phase }, { on := 2, ground := Go.Ground.phase }, { on := 3, ground := Go.Ground.phase }, { on := 4, ground := Go.Ground.phase }, { on := 5, ground := Go.Ground.phase }, { on := 6, ground := Go.Ground.phase }, { on := 7, ground := Go.Ground.phase }, { on := 8, ground := Go.Ground.phase }, { on := 9, ground := Go.Ground.phase }], guard := none }) (by kernel_rfl) rfl (fun K hK => ?_)
      refine step_append_lies _ rfl (.tmp 7) (.tmp 13) 24 rfl B 33 i0 (.agg #[.int .i64 0, .string ⟨#[]⟩, .slice none 0 0, .bool false]) 4 56 Tryd.underlying24 hi hz0 hz1 hz2 rfl (by decide) (.slice (some ⟨ob, 0, none⟩) fs.length oc) fs.length (wc fs) rfl hZ.st.row ⟨w7.heap.size, 0, none⟩ 1 1 (wc [wc0]) rfl rfl (news_zero hT) (wc_one _) (by decide) (by unfold maxLen; omega) (by omega) hZ.base Z.heap.size rfl ?_
      intro g cap w2 hrow2 hgr hgg hglt
      obtain ⟨HF⟩ : Nonempty (PushF B P line vl s ob oc fs D W0 Z w2 g cap (kindC c) wb) := ⟨push_fin hZ hrow2 hgr hgg⟩
      obtain ⟨q0, q1, q2, q3, f0, f1, f2, f3⟩ := HF.cells
      obtain ⟨⟨oldc, o1⟩, o2, hgo⟩ := HF.own
      have HFA := Lib.hid HF.endA
      have HFB := Lib.hid HF.endB
      have HVF := Lib.hid HF.cellsV
      have HWF := Lib.hid HF.ownW
      clear HF hrow2 hgr hgg hglt hZ hT hS0
      refine hK.out _ _ (fun e => absurd (e.symm.trans (by kernel_rfl) : false = true) Bool.false_ne_true) ?_
      clear hK K
      (try simp only [Act.put, List.setIfInBounds_toArray, List.set_cons_zero, List.set_cons_succ])
      refine wpAnyN_of_H (S' := fun _ => True) _ _ _ _ (by kernel_rfl) ?_
      refine wpAnyH_take (i := 11) (oi := { dst := some 15, op := Go.Op.indexAddr 24 (Go.Operand.tmp 14) (Go.Operand.tmp 12), type := 0, pos := "scan.go:155", after := #[{ on := 10, ground := Go.Ground.data }, { on := 8, ground := Go.Ground.data }, { on := 0, ground := Go.Ground.phase }, { on := 1, ground := Go.Ground.phase }, { on := 2, ground := Go.Ground.phase }, { on := 3, ground := Go.Ground.phase }, { on := 4, ground := Go.Ground.phase }, { on := 5, ground := Go.Ground.phase }, { on := 6, ground := Go.Ground.phase }, { on := 7, ground := Go.Ground.phase }, { on := 8, ground := Go.Ground.phase }, { on := 9, ground := Go.Ground.phase }, { on := 10, ground := Go.Ground.phase }, { on := 15, ground := Go.Ground.gcOnly Go.Departure.appendInPlace }], guard := none }) (v := .pointer (some ⟨g, fs.length * 4, none⟩)) rfl (by kernel_rfl) (by kernel_rfl) (by kernel_rfl) (fun _ _ _ h => h) (Or.inl ⟨by kernel_rfl, ?_⟩) trivial ?_
      · (intro X hX; (try dsimp only at hX); go_simp; try omega)
      (try simp only [Act.put, List.setIfInBounds_toArray, List.set_cons_zero, List.set_cons_succ])
      refine wpAnyH_take (i := 13) (oi := { dst := some 16, op := Go.Op.nilCheck (Go.Operand.tmp 4), type := 0, pos := "scan.go:155", after := #[{ on := 0, ground := Go.Ground.data }, { on := 0, ground := Go.Ground.phase }, { on := 1, ground := Go.Ground.phase }, { on := 2, ground := Go.Ground.phase }, { on := 3, ground := Go.Ground.phase }, { on := 4, ground := Go.Ground.phase }, { on := 5, ground := Go.Ground.phase }, { on := 6, ground := Go.Ground.phase }, { on := 7, ground := Go.Ground.phase }, { on := 8, ground := Go.Ground.phase }, { on := 9, ground := Go.Ground.phase }, { on := 10, ground := Go.Ground.phase }, { on := 11, ground := Go.Ground.textOnly Go.Departure.appendInPlace }, { on := 12, ground := Go.Ground.textOnly Go.Departure.appendInPlace }], guard := none }) (v := ?_) rfl (by kernel_rfl) (by kernel_rfl) (by kernel_rfl) (fun _ _ _ h => h) (Or.inl ⟨by kernel_rfl, ?_⟩) trivial ?_
      rotate_left
      · (intro X hX; (try dsimp only at hX); go_simp; try (with_reducible rfl))
      (try simp only [Act.put, List.setIfInBounds_toArray, List.set_cons_zero, List.set_cons_succ])
      refine wpAnyH_take (i := 14) (oi := { dst := some 17, op := Go.Op.fieldAddr 67 (Go.Operand.tmp 16) 4, type := 0, pos := "scan.go:155", after := #[{ on := 13, ground := Go.Ground.data }, { on := 0, ground := Go.Ground.phase }, { on := 1, ground := Go.Ground.phase }, { on := 2, ground := Go.Ground.phase }, { on := 3, ground := Go.Ground.phase }, { on := 4, ground := Go.Ground.phase }, { on := 5, ground := Go.Ground.phase }, { on := 6, ground := Go.Ground.phase }, { on := 7, ground := Go.Ground.phase }, { on := 8, ground := Go.Ground.phase }, { on := 9, ground := Go.Ground.phase }, { on := 10, ground := Go.Ground.phase }, { on := 11, ground := Go.Ground.textOnly Go.Departure.appendInPlace }, { on := 12, ground := Go.Ground.textOnly Go.Departure.appendInPlace }], guard := none }) (v := ?_) rfl (by kernel_rfl) (by kernel_rfl) (by kernel_rfl) (fun _ _ _ h => h) (Or.inl ⟨by kernel_rfl, ?_⟩) trivial ?_
      rotate_left
      · (intro X hX; (try dsimp only at hX); go_simp; try (with_reducible rfl))
      (try simp only [Act.put, List.setIfInBounds_toArray, List.set_cons_zero, List.set_cons_succ])
      refine wpAnyH_ready (rs := [12, 15]) (by kernel_rfl) (by simp) ?_
      refine AllReadyH.cons (o := { dst := none, op := Go.Op.store 33 (Go.Operand.tmp 15) (Go.Operand.tmp 11), type := 0, pos := "scan.go:155", after := #[{ on := 11, ground := Go.Ground.data }, { on := 7, ground := Go.Ground.data }, { on := 10, ground := Go.Ground.chain }, { on := 0, ground := Go.Ground.phase }, { on := 1, ground := Go.Ground.phase }, { on := 2, ground := Go.Ground.phase }, { on := 3, ground := Go.Ground.phase }, { on := 4, ground := Go.Ground.phase }, { on := 5, ground := Go.Ground.phase }, { on := 6, ground := Go.Ground.phase }, { on := 7, ground := Go.Ground.phase }, { on := 8, ground := Go.Ground.phase }, { on := 9, ground := Go.Ground.phase }, { on := 10, ground := Go.Ground.phase }, { on := 15, ground := Go.Ground.gcOnly Go.Departure.appendInPlace }], guard := none }) rfl (fun K hK => ?_) (AllReadyH.cons (o := { dst := none, op := Go.Op.store 24 (Go.Operand.tmp 17) (Go.Operand.tmp 14), type := 0, pos := "scan.go:155", after := #[{ on := 14, ground := Go.Ground.data }, { on := 10, ground := Go.Ground.data }, { on := 10, ground := Go.Ground.chain }, { on := 12, ground := Go.Ground.textOnly Go.Departure.appendInPlace }, { on := 0, ground := Go.Ground.phase }, { on := 1, ground := Go.Ground.phase }, { on := 2, ground := Go.Ground.phase }, { on := 3, ground := Go.Ground.phase }, { on := 4, ground := Go.Ground.phase }, { on := 5, ground := Go.Ground.phase }, { on := 6, ground := Go.Ground.phase }, { on := 7, ground := Go.Ground.phase }, { on := 8, ground := Go.Ground.phase }, { on := 9, ground := Go.Ground.phase }, { on := 10, ground := Go.Ground.phase }, { on := 11, ground := Go.Ground.textOnly Go.Departure.appendInPlace }, { on := 12, ground := Go.Ground.textOnly Go.Departure.appendInPlace }], guard := none }) rfl (fun K hK => ?_) AllReadyH.nil)
      · go_simp
        refine hK.out _ _ trivial (fun hHeld => ?_)
        clear hHeld hK K
        have e3 : (((w2.setCell ⟨g, fs.length * 4, none⟩ (.int .i64 (kindC c))).setCell ⟨g, fs.length * 4 + 1, none⟩ (.string ⟨#[]⟩)).setCell ⟨g, fs.length * 4 + 2, none⟩ (.slice none 0 0)).setCell ⟨g, fs.length * 4 + 3, none⟩ (.bool wb) = put4 w2 g fs.length ⟨kindC c, S [], none, 0, 0, wb⟩ := rfl
        rw [e3]
        obtain ⟨oldc2, p1⟩ := HWF.out.1
        have p2 := HWF.out.2
        have HFI := HFA
        generalize put4 w2 g fs.length ⟨kindC c, S [], none, 0, 0, wb⟩ = W3 at *
        clear HFA HFB HVF HWF e3 q0 q1 q2 q3 f0 f1 f2 f3 o1 o2
        refine wpAnyH_ready (rs := [15]) (by kernel_rfl) (by simp) ?_
        refine AllReadyH.cons (o := { dst := none, op := Go.Op.store 24 (Go.Operand.tmp 17) (Go.Operand.tmp 14), type := 0, pos := "scan.go:155", after := #[{ on := 14, ground := Go.Ground.data }, { on := 10, ground := Go.Ground.data }, { on := 10, ground := Go.Ground.chain }, { on := 12, ground := Go.Ground.textOnly Go.Departure.appendInPlace }, { on := 0, ground := Go.Ground.phase }, { on := 1, ground := Go.Ground.phase }, { on := 2, ground := Go.Ground.phase }, { on := 3, ground := Go.Ground.phase }, { on := 4, ground := Go.Ground.phase }, { on := 5, ground := Go.Ground.phase }, { on := 6, ground := Go.Ground.phase }, { on := 7, ground := Go.Ground.phase }, { on := 8, ground := Go.Ground.phase }, { on := 9, ground := Go.Ground.phase }, { on := 10, ground := Go.Ground.phase }, { on := 11, ground := Go.Ground.textOnly Go.Departure.appendInPlace }, { on := 12, ground := Go.Ground.textOnly Go.Departure.appendInPlace }], guard := none }) rfl (fun K hK => ?_) AllReadyH.nil
        go_simp
        refine hK.out _ _ trivial (fun hHeld => ?_)
        clear hHeld hK K
        refine wpAnyH_done (by kernel_rfl) ?_ _
        obtain ⟨ob2, oc2, fs2, hsm2⟩ := HFI.out
        obtain ⟨d0, d1, d2, d3, d4⟩ := hsm2.sv
        have fz := hsm2.free 1
        have hsm3 := hsm2.setPos (s.pos + 1)
        rw [show ((s.pos + 1 : Nat) : Int) = (s.pos : Int) + 1 by omega] at hsm3
        have HS3 := Lib.hid hsm3
        clear hsm3 hsm2 HFI
        go_wp2_with fail
        go_end0
        exact ⟨rfl, ob2, oc2, fs2, by rw [← HWB.out]; exact HS3.out⟩
      · go_simp
        refine hK.out _ _ trivial (fun hHeld => ?_)
        clear hHeld hK K
        obtain ⟨p0, p1, p2, p3, r0, r1, r2, r3⟩ := HVF.out
        have HFI := HFB
        generalize w2.setCell ⟨P, 4, none⟩ (.slice (some ⟨g, 0, none⟩) (fs.length + 1) cap) = V at *
        clear HFA HFB HVF HWF q0 q1 q2 q3 f0 f1 f2 f3 o1 o2
        refine wpAnyH_ready (rs := [12]) (by kernel_rfl) (by simp) ?_
        refine AllReadyH.cons (o := { dst := none, op := Go.Op.store 33 (Go.Operand.tmp 15) (Go.Operand.tmp 11), type := 0, pos := "scan.go:155", after := #[{ on := 11, ground := Go.Ground.data }, { on := 7, ground := Go.Ground.data }, { on := 10, ground := Go.Ground.chain }, { on := 0, ground := Go.Ground.phase }, { on := 1, ground := Go.Ground.phase }, { on := 2, ground := Go.Ground.phase }, { on := 3, ground := Go.Ground.phase }, { on := 4, ground := Go.Ground.phase }, { on := 5, ground := Go.Ground.phase }, { on := 6, ground := Go.Ground.phase }, { on := 7, ground := Go.Ground.phase }, { on := 8, ground := Go.Ground.phase }, { on := 9, ground := Go.Ground.phase }, { on := 10, ground := Go.Ground.phase }, { on := 15, ground := Go.Ground.gcOnly Go.Departure.appendInPlace }], guard := none }) rfl (fun K hK => ?_) AllReadyH.nil
        go_simp
        refine hK.out _ _ trivial (fun hHeld => ?_)
        clear hHeld hK K
        have e3 : (((V.setCell ⟨g, fs.length * 4, none⟩ (.int .i64 (kindC c))).setCell ⟨g, fs.length * 4 + 1, none⟩ (.string ⟨#[]⟩)).setCell ⟨g, fs.length * 4 + 2, none⟩ (.slice none 0 0)).setCell ⟨g, fs.length * 4 + 3, none⟩ (.bool wb) = put4 V g fs.length ⟨kindC c, S [], none, 0, 0, wb⟩ := rfl
        rw [e3]
        generalize put4 V g fs.length ⟨kindC c, S [], none, 0, 0, wb⟩ = W4 at *
        clear e3
        refine wpAnyH_done (by kernel_rfl) ?_ _
        obtain ⟨ob2, oc2, fs2, hsm2⟩ := HFI.out
        obtain ⟨d0, d1, d2, d3, d4⟩ := hsm2.sv
        have fz := hsm2.free 1
        have hsm3 := hsm2.setPos (s.pos + 1)
        rw [show ((s.pos + 1 : Nat) : Int) = (s.pos : Int) + 1 by omega] at hsm3
        have HS3 := Lib.hid hsm3
        clear hsm3 hsm2 HFI
        go_wp2_with fail
        go_end0
        exact ⟨rfl, ob2, oc2, fs2, by rw [← HWB.out]; exact HS3.out⟩
    · go_simp
      refine hK.out _ _ (fun _ => hS1) ?_
      clear hK K
      (try simp only [Act.put, List.setIfInBounds_toArray, List.set_cons_zero, List.set_cons_succ])
      refine wpAnyN_one (i := 7) (o := { dst := some 11, op := Go.Op.call { callee := Go.Callee.value (Go.Operand.func 57), args := #[Go.Operand.tmp 8, Go.Operand.tmp 10], argTypes := #[87, 3] }, type := 33, pos := "scan.go:155", after := #[{ on := 4, ground := Go.Ground.data }, { on := 6, ground := Go.Ground.data }, { on := 6, ground := Go.Ground.chain }], guard := none }) (by kernel_rfl) rfl (fun K hK => ?_)
      go_simp
      refine (begin_any (kindC c) h1 hn (by omega) hs hbg).mono ?_
      rintro e w7 ⟨rfl, hsm7, hbt7⟩
      have hS7 : (fun X => X.cell? ⟨P, 4, none⟩ = some (.slice (some ⟨ob, 0, none⟩) fs.length oc)) w7 := cell_of_row _ _ 4 _ _ _ hsm7.blk
      rw [← HWB.out]
      have hT := (hbt7.blk w.heap.size (by simp) hwP).trans (heap_alloc_new w.drew (.cells #[.int .i64 0, .string ⟨#[]⟩, .slice none 0 0, .bool false] 33))
      dsimp only
      refine hK.out _ _ (fun _ => hS7) ?_
      clear hK K hS7
      (try simp only [Act.put, List.setIfInBounds_toArray, List.set_cons_zero, List.set_cons_succ])
      have hZ := hsm7
      generalize w7 = Z at *
      refine wpAnyN_one (i := 10) (o := { dst := some 14, op := Go.Op.call { callee := Go.Callee.builtin Go.Builtin.append, args := #[Go.Operand.tmp 7, Go.Operand.tmp 13], argTypes := #[24, 24] }, type := 24, pos := "scan.go:155", after := #[{ on := 3, ground := Go.Ground.data }, { on := 9, ground := Go.Ground.data }, { on := 7, ground := Go.Ground.chain }, { on := 0, ground := Go.Ground.phase }, { on := 1, ground := Go.Ground.phase }, { on := 2, ground := Go.Ground.phase }, { on := 3, ground := Go.Ground.phase }, { on := 4, ground := Go.Ground.phase }, { on := 5, ground := Go.Ground.phase }, { on := 6, ground := Go.Ground.phase }, { on := 7, ground := Go.Ground.phase }, { on := 8, ground := Go.Ground.phase }, { on := 9, ground := Go.Ground.phase }], guard := none }) (by kernel_rfl) rfl (fun K hK => ?_)
      refine step_append_lies _ rfl (.tmp 7) (.tmp 13) 24 rfl B 33 i0 (.agg #[.int .i64 0, .string ⟨#[]⟩, .slice none 0 0, .bool false]) 4 56 Tryd.underlying24 hi hz0 hz1 hz2 rfl (by decide) (.slice (some ⟨ob, 0, none⟩) fs.length oc) fs.length (wc fs) rfl hZ.st.row ⟨w.heap.size, 0, none⟩ 1 1 (wc [wc0]) rfl rfl (news_zero hT) (wc_one _) (by decide) (by unfold maxLen; omega) (by omega) hZ.base Z.heap.size rfl ?_
      intro g cap w2 hrow2 hgr hgg hglt
      obtain ⟨HF⟩ : Nonempty (PushF B P line vl s ob oc fs D W0 Z w2 g cap (kindC c) wb) := ⟨push_fin hZ hrow2 hgr hgg⟩
      obtain ⟨q0, q1, q2, q3, f0, f1, f2, f3⟩ := HF.cells
      obtain ⟨⟨oldc, o1⟩, o2, hgo⟩ := HF.own
      have HFA := Lib.hid HF.endA
      have HFB := Lib.hid HF.endB
      have HVF := Lib.hid HF.cellsV
      have HWF := Lib.hid HF.ownW
      clear HF hrow2 hgr hgg hglt hZ hT hS0
      refine hK.out _ _ (fun e => absurd (e.symm.trans (by kernel_rfl) : false = true) Bool.false_ne_true) ?_
      clear hK K
      (try simp only [Act.put, List.setIfInBounds_toArray, List.set_cons_zero, List.set_cons_succ])
      refine wpAnyN_of_H (S' := fun _ => True) _ _ _ _ (by kernel_rfl) ?_
      refine wpAnyH_take (i := 11) (oi := { dst := some 15, op := Go.Op.indexAddr 24 (Go.Operand.tmp 14) (Go.Operand.tmp 12), type := 0, pos := "scan.go:155", after := #[{ on := 10, ground := Go.Ground.data }, { on := 8, ground := Go.Ground.data }, { on := 0, ground := Go.Ground.phase }, { on := 1, ground := Go.Ground.phase }, { on := 2, ground := Go.Ground.phase }, { on := 3, ground := Go.Ground.phase }, { on := 4, ground := Go.Ground.phase }, { on := 5, ground := Go.Ground.phase }, { on := 6, ground := Go.Ground.phase }, { on := 7, ground := Go.Ground.phase }, { on := 8, ground := Go.Ground.phase }, { on := 9, ground := Go.Ground.phase }, { on := 10, ground := Go.Ground.phase }, { on := 15, ground := Go.Ground.gcOnly Go.Departure.appendInPlace }], guard := none }) (v := .pointer (some ⟨g, fs.length * 4, none⟩)) rfl (by kernel_rfl) (by kernel_rfl) (by kernel_rfl) (fun _ _ _ h => h) (Or.inl ⟨by kernel_rfl, ?_⟩) trivial ?_
      · (intro X hX; (try dsimp only at hX); go_simp; try omega)
      (try simp only [Act.put, List.setIfInBounds_toArray, List.set_cons_zero, List.set_cons_succ])
      refine wpAnyH_take (i := 13) (oi := { dst := some 16, op := Go.Op.nilCheck (Go.Operand.tmp 4), type := 0, pos := "scan.go:155", after := #[{ on := 0, ground := Go.Ground.data }, { on := 0, ground := Go.Ground.phase }, { on := 1, ground := Go.Ground.phase }, { on := 2, ground := Go.Ground.phase }, { on := 3, ground := Go.Ground.phase }, { on := 4, ground := Go.Ground.phase }, { on := 5, ground := Go.Ground.phase }, { on := 6, ground := Go.Ground.phase }, { on := 7, ground := Go.Ground.phase }, { on := 8, ground := Go.Ground.phase }, { on := 9, ground := Go.Ground.phase }, { on := 10, ground := Go.Ground.phase }, { on := 11, ground := Go.Ground.textOnly Go.Departure.appendInPlace }, { on := 12, ground := Go.Ground.textOnly Go.Departure.appendInPlace }], guard := none }) (v := ?_) rfl (by kernel_rfl) (by kernel_rfl) (by kernel_rfl) (fun _ _ _ h => h) (Or.inl ⟨by kernel_rfl, ?_⟩) trivial ?_
      rotate_left
      · (intro X hX; (try dsimp only at hX); go_simp; try (with_reducible rfl))
      (try simp only [Act.put, List.setIfInBounds_toArray, List.set_cons_zero, List.set_cons_succ])
      refine wpAnyH_take (i := 14) (oi := { dst := some 17, op := Go.Op.fieldAddr 67 (Go.Operand.tmp 16) 4, type := 0, pos := "scan.go:155", after := #[{ on := 13, ground := Go.Ground.data }, { on := 0, ground := Go.Ground.phase }, { on := 1, ground := Go.Ground.phase }, { on := 2, ground := Go.Ground.phase }, { on := 3, ground := Go.Ground.phase }, { on := 4, ground := Go.Ground.phase }, { on := 5, ground := Go.Ground.phase }, { on := 6, ground := Go.Ground.phase }, { on := 7, ground := Go.Ground.phase }, { on := 8, ground := Go.Ground.phase }, { on := 9, ground := Go.Ground.phase }, { on := 10, ground := Go.Ground.phase }, { on := 11, ground := Go.Ground.textOnly Go.Departure.appendInPlace }, { on := 12, ground := Go.Ground.textOnly Go.Departure.appendInPlace }], guard := none }) (v := ?_) rfl (by kernel_rfl) (by kernel_rfl) (by kernel_rfl) (fun _ _ _ h => h) (Or.inl ⟨by kernel_rfl, ?_⟩) trivial ?_
      rotate_left
      · (intro X hX; (try dsimp only at hX); go_simp; try (with_reducible rfl))
      (try simp only [Act.put, List.setIfInBounds_toArray, List.set_cons_zero, List.set_cons_succ])
      refine wpAnyH_ready (rs := [12, 15]) (by kernel_rfl) (by simp) ?_
      refine AllReadyH.cons (o := { dst := none, op := Go.Op.store 33 (Go.Operand.tmp 15) (Go.Operand.tmp 11), type := 0, pos := "scan.go:155", after := #[{ on := 11, ground := Go.Ground.data }, { on := 7, ground := Go.Ground.data }, { on := 10, ground := Go.Ground.chain }, { on := 0, ground := Go.Ground.phase }, { on := 1, ground := Go.Ground.phase }, { on := 2, ground := Go.Ground.phase }, { on := 3, ground := Go.Ground.phase }, { on := 4, ground := Go.Ground.phase }, { on := 5, ground := Go.Ground.phase }, { on := 6, ground := Go.Ground.phase }, { on := 7, ground := Go.Ground.phase }, { on := 8, ground := Go.Ground.phase }, { on := 9, ground := Go.Ground.phase }, { on := 10, ground := Go.Ground.phase }, { on := 15, ground := Go.Ground.gcOnly Go.Departure.appendInPlace }], guard := none }) rfl (fun K hK => ?_) (AllReadyH.cons (o := { dst := none, op := Go.Op.store 24 (Go.Operand.tmp 17) (Go.Operand.tmp 14), type := 0, pos := "scan.go:155", after := #[{ on := 14, ground := Go.Ground.data }, { on := 10, ground := Go.Ground.data }, { on := 10, ground := Go.Ground.chain }, { on := 12, ground := Go.Ground.textOnly Go.Departure.appendInPlace }, { on := 0, ground := Go.Ground.phase }, { on := 1, ground := Go.Ground.phase }, { on := 2, ground := Go.Ground.phase }, { on := 3, ground := Go.Ground.phase }, { on := 4, ground := Go.Ground.phase }, { on := 5, ground := Go.Ground.phase }, { on := 6, ground := Go.Ground.phase }, { on := 7, ground := Go.Ground.phase }, { on := 8, ground := Go.Ground.phase }, { on := 9, ground := Go.Ground.phase }, { on := 10, ground := Go.Ground.phase }, { on := 11, ground := Go.Ground.textOnly Go.Departure.appendInPlace }, { on := 12, ground := Go.Ground.textOnly Go.Departure.appendInPlace }], guard := none }) rfl (fun K hK => ?_) AllReadyH.nil)
      · go_simp
        refine hK.out _ _ trivial (fun hHeld => ?_)
        clear hHeld hK K
        have e3 : (((w2.setCell ⟨g, fs.length * 4, none⟩ (.int .i64 (kindC c))).setCell ⟨g, fs.length * 4 + 1, none⟩ (.string ⟨#[]⟩)).setCell ⟨g, fs.length * 4 + 2, none⟩ (.slice none 0 0)).setCell ⟨g, fs.length * 4 + 3, none⟩ (.bool wb) = put4 w2 g fs.length ⟨kindC c, S [], none, 0, 0, wb⟩ := rfl
        rw [e3]
        obtain ⟨oldc2, p1⟩ := HWF.out.1
        have p2 := HWF.out.2
        have HFI := HFA
        generalize put4 w2 g fs.length ⟨kindC c, S [], none, 0, 0, wb⟩ = W3 at *
        clear HFA HFB HVF HWF e3 q0 q1 q2 q3 f0 f1 f2 f3 o1 o2
        refine wpAnyH_ready (rs := [15]) (by kernel_rfl) (by simp) ?_
        refine AllReadyH.cons (o := { dst := none, op := Go.Op.store 24 (Go.Operand.tmp 17) (Go.Operand.tmp 14), type := 0, pos := "scan.go:155", after := #[{ on := 14, ground := Go.Ground.data }, { on := 10, ground := Go.Ground.data }, { on := 10, ground := Go.Ground.chain }, { on := 12, ground := Go.Ground.textOnly Go.Departure.appendInPlace }, { on := 0, ground := Go.Ground.phase }, { on := 1, ground := Go.Ground.phase }, { on := 2, ground := Go.Ground.phase }, { on := 3, ground := Go.Ground.phase }, { on := 4, ground := Go.Ground.phase }, { on := 5, ground := Go.Ground.phase }, { on := 6, ground := Go.Ground.phase }, { on := 7, ground := Go.Ground.phase }, { on := 8, ground := Go.Ground.phase }, { on := 9, ground := Go.Ground.phase }, { on := 10, ground := Go.Ground.phase }, { on := 11, ground := Go.Ground.textOnly Go.Departure.appendInPlace }, { on := 12, ground := Go.Ground.textOnly Go.Departure.appendInPlace }], guard := none }) rfl (fun K hK => ?_) AllReadyH.nil
        go_simp
        refine hK.out _ _ trivial (fun hHeld => ?_)
        clear hHeld hK K
        refine wpAnyH_done (by kernel_rfl) ?_ _
        obtain ⟨ob2, oc2, fs2, hsm2⟩ := HFI.out
        obtain ⟨d0, d1, d2, d3, d4⟩ := hsm2.sv
        have fz := hsm2.free 1
        have hsm3 := hsm2.setPos (s.pos + 1)
        rw [show ((s.pos + 1 : Nat) : Int) = (s.pos : Int) + 1 by omega] at hsm3
        have HS3 := Lib.hid hsm3
        clear hsm3 hsm2 HFI
        go_wp2_with fail
        go_end0
        exact ⟨rfl, ob2, oc2, fs2, by rw [← HWB.out]; exact HS3.out⟩
      · go_simp
        refine hK.out _ _ trivial (fun hHeld => ?_)
        clear hHeld hK K
        obtain ⟨p0, p1, p2, p3, r0, r1, r2, r3⟩ := HVF.out
        have HFI := HFB
        generalize w2.setCell ⟨P, 4, none⟩ (.slice (some ⟨g, 0, none⟩) (fs.length + 1) cap) = V at *
        clear HFA HFB HVF HWF q0 q1 q2 q3 f0 f1 f2 f3 o1 o2
        refine wpAnyH_ready (rs := [12]) (by kernel_rfl) (by simp) ?_
        refine AllReadyH.cons (o := { dst := none, op := Go.Op.store 33 (Go.Operand.tmp 15) (Go.Operand.tmp 11), type := 0, pos := "scan.go:155", after := #[{ on := 11, ground := Go.Ground.data }, { on := 7, ground := Go.Ground.data }, { on := 10, ground := Go.Ground.chain }, { on := 0, ground := Go.Ground.phase }, { on := 1, ground := Go.Ground.phase }, { on := 2, ground := Go.Ground.phase }, { on := 3, ground := Go.Ground.phase }, { on := 4, ground := Go.Ground.phase }, { on := 5, ground := Go.Ground.phase }, { on := 6, ground := Go.Ground.phase }, { on := 7, ground := Go.Ground.phase }, { on := 8, ground := Go.Ground.phase }, { on := 9, ground := Go.Ground.phase }, { on := 10, ground := Go.Ground.phase }, { on := 15, ground := Go.Ground.gcOnly Go.Departure.appendInPlace }], guard := none }) rfl (fun K hK => ?_) AllReadyH.nil
        go_simp
        refine hK.out _ _ trivial (fun hHeld => ?_)
        clear hHeld hK K
        have e3 : (((V.setCell ⟨g, fs.length * 4, none⟩ (.int .i64 (kindC c))).setCell ⟨g, fs.length * 4 + 1, none⟩ (.string ⟨#[]⟩)).setCell ⟨g, fs.length * 4 + 2, none⟩ (.slice none 0 0)).setCell ⟨g, fs.length * 4 + 3, none⟩ (.bool wb) = put4 V g fs.length ⟨kindC c, S [], none, 0, 0, wb⟩ := rfl
        rw [e3]
        generalize put4 V g fs.length ⟨kindC c, S [], none, 0, 0, wb⟩ = W4 at *
        clear e3
        refine wpAnyH_done (by kernel_rfl) ?_ _
        obtain ⟨ob2, oc2, fs2, hsm2⟩ := HFI.out
        obtain ⟨d0, d1, d2, d3, d4⟩ := hsm2.sv
        have fz := hsm2.free 1
        have hsm3 := hsm2.setPos (s.pos + 1)
        rw [show ((s.pos + 1 : Nat) : Int) = (s.pos : Int) + 1 by omega] at hsm3
        have HS3 := Lib.hid hsm3
        clear hsm3 hsm2 HFI
        go_wp2_with fail
        go_end0
        exact ⟨rfl, ob2, oc2, fs2, by rw [← HWB.out]; exact HS3.out⟩
  · go_simp
    refine hK.out _ _ (fun _ => hS1) ?_
    clear hK K
    (try simp only [Act.put, List.setIfInBounds_toArray, List.set_cons_zero, List.set_cons_succ])
    refine wpAnyN_one (i := 6) (o := { dst := some 10, op := Go.Op.call { callee := Go.Callee.value (Go.Operand.func 80), args := #[Go.Operand.tmp 9], argTypes := #[5] }, type := 3, pos := "scan.go:155", after := #[{ on := 5, ground := Go.Ground.data }], guard := none }) (by kernel_rfl) rfl (fun K hK => ?_)
    go_simp
    refine (HKD.out _).mono ?_
    rintro e w6 ⟨rfl, hw6⟩
    rw [hw6]
    clear hw6 w6
    dsimp only
    refine hK.out _ _ (fun _ => hS1) ?_
    clear hK K
    (try simp only [Act.put, List.setIfInBounds_toArray, List.set_cons_zero, List.set_cons_succ])
    refine wpAnyN_one (i := 7) (o := { dst := some 11, op := Go.Op.call { callee := Go.Callee.value (Go.Operand.func 57), args := #[Go.Operand.tmp 8, Go.Operand.tmp 10], argTypes := #[87, 3] }, type := 33, pos := "scan.go:155", after := #[{ on := 4, ground := Go.Ground.data }, { on := 6, ground := Go.Ground.data }, { on := 6, ground := Go.Ground.chain }], guard := none }) (by kernel_rfl) rfl (fun K hK => ?_)
    go_simp
    refine (begin_any (kindC c) h1 hn (by omega) hs hbg).mono ?_
    rintro e w7 ⟨rfl, hsm7, hbt7⟩
    have hS7 : (fun X => X.cell? ⟨P, 4, none⟩ = some (.slice (some ⟨ob, 0, none⟩) fs.length oc)) w7 := cell_of_row _ _ 4 _ _ _ hsm7.blk
    rw [← HWB.out]
    have hT := (hbt7.blk w.heap.size (by simp) hwP).trans (heap_alloc_new w.drew (.cells #[.int .i64 0, .string ⟨#[]⟩, .slice none 0 0, .bool false] 33))
    dsimp only
    refine hK.out _ _ (fun _ => hS7) ?_
    clear hK K hS7
    (try simp only [Act.put, List.setIfInBounds_toArray, List.set_cons_zero, List.set_cons_succ])
    have hZ := hsm7
    generalize w7 = Z at *
    refine wpAnyN_one (i := 10) (o := { dst := some 14, op := Go.Op.call { callee := Go.Callee.builtin Go.Builtin.append, args := #[Go.Operand.tmp 7, Go.Operand.tmp 13], argTypes := #[24, 24] }, type := 24, pos := "scan.go:155", after := #[{ on := 3, ground := Go.Ground.data }, { on := 9, ground := Go.Ground.data }, { on := 7, ground := Go.Ground.chain }, { on := 0, ground := Go.Ground.phase }, { on := 1, ground := Go.Ground.phase }, { on := 2, ground := Go.Ground.phase }, { on := 3, ground := Go.Ground.phase }, { on := 4, ground := Go.Ground.phase }, { on := 5, ground := Go.Ground.phase }, { on := 6, ground := Go.Ground.phase }, { on := 7, ground := Go.Ground.phase }, { on := 8, ground := Go.Ground.phase }, { on := 9, ground := Go.Ground.phase }], guard := none }) (by kernel_rfl) rfl (fun K hK => ?_)
    refine step_append_lies _ rfl (.tmp 7) (.tmp 13) 24 rfl B 33 i0 (.agg #[.int .i64 0, .string ⟨#[]⟩, .slice none 0 0, .bool false]) 4 56 Tryd.underlying24 hi hz0 hz1 hz2 rfl (by decide) (.slice (some ⟨ob, 0, none⟩) fs.length oc) fs.length (wc fs) rfl hZ.st.row ⟨w.heap.size, 0, none⟩ 1 1 (wc [wc0]) rfl rfl (news_zero hT) (wc_one _) (by decide) (by unfold maxLen; omega) (by omega) hZ.base Z.heap.size rfl ?_
    intro g cap w2 hrow2 hgr hgg hglt
    obtain ⟨HF⟩ : Nonempty (PushF B P line vl s ob oc fs D W0 Z w2 g cap (kindC c) wb) := ⟨push_fin hZ hrow2 hgr hgg⟩
    obtain ⟨q0, q1, q2, q3, f0, f1, f2, f3⟩ := HF.cells
    obtain ⟨⟨oldc, o1⟩, o2, hgo⟩ := HF.own
    have HFA := Lib.hid HF.endA
    have HFB := Lib.hid HF.endB
    have HVF := Lib.hid HF.cellsV
    have HWF := Lib.hid HF.ownW
    clear HF hrow2 hgr hgg hglt hZ hT hS0
    refine hK.out _ _ (fun e => absurd (e.symm.trans (by kernel_rfl) : false = true) Bool.false_ne_true) ?_
    clear hK K
    (try simp only [Act.put, List.setIfInBounds_toArray, List.set_cons_zero, List.set_cons_succ])
    refine wpAnyN_of_H (S' := fun _ => True) _ _ _ _ (by kernel_rfl) ?_
    refine wpAnyH_take (i := 11) (oi := { dst := some 15, op := Go.Op.indexAddr 24 (Go.Operand.tmp 14) (Go.Operand.tmp 12), type := 0, pos := "scan.go:155", after := #[{ on := 10, ground := Go.Ground.data }, { on := 8, ground := Go.Ground.data }, { on := 0, ground := Go.Ground.phase }, { on := 1, ground := Go.Ground.phase }, { on := 2, ground := Go.Ground.phase }, { on := 3, ground := Go.Ground.phase }, { on := 4, ground := Go.Ground.phase }, { on := 5, ground := Go.Ground.phase }, { on := 6, ground := Go.Ground.phase }, { on := 7, ground := Go.Ground.phase }, { on := 8, ground := Go.Ground.phase }, { on := 9, ground := Go.Ground.phase }, { on := 10, ground := Go.Ground.phase }, { on := 15, ground := Go.Ground.gcOnly Go.Departure.appendInPlace }], guard := none }) (v := .pointer (some ⟨g, fs.length * 4, none⟩)) rfl (by kernel_rfl) (by kernel_rfl) (by kernel_rfl) (fun _ _ _ h => h) (Or.inl ⟨by kernel_rfl, ?_⟩) trivial ?_
    · (intro X hX; (try dsimp only at hX); go_simp; try omega)
    (try simp only [Act.put, List.setIfInBounds_toArray, List.set_cons_zero, List.set_cons_succ])
    refine wpAnyH_take (i := 13) (oi := { dst := some 16, op := Go.Op.nilCheck (Go.Operand.tmp 4), type := 0, pos := "scan.go:155", after := #[{ on := 0, ground := Go.Ground.data }, { on := 0, ground := Go.Ground.phase }, { on := 1, ground := Go.Ground.phase }, { on := 2, ground := Go.Ground.phase }, { on := 3, ground := Go.Ground.phase }, { on := 4, ground := Go.Ground.phase }, { on := 5, ground := Go.Ground.phase }, { on := 6, ground := Go.Ground.phase }, { on := 7, ground := Go.Ground.phase }, { on := 8, ground := Go.Ground.phase }, { on := 9, ground := Go.Ground.phase }, { on := 10, ground := Go.Ground.phase }, { on := 11, ground := Go.Ground.textOnly Go.Departure.appendInPlace }, { on := 12, ground := Go.Ground.textOnly Go.Departure.appendInPlace }], guard := none }) (v := ?_) rfl (by kernel_rfl) (by kernel_rfl) (by kernel_rfl) (fun _ _ _ h => h) (Or.inl ⟨by kernel_rfl, ?_⟩) trivial ?_
    rotate_left
    · (intro X hX; (try dsimp only at hX); go_simp; try (with_reducible rfl))
    (try simp only [Act.put, List.setIfInBounds_toArray, List.set_cons_zero, List.set_cons_succ])
    refine wpAnyH_take (i := 14) (oi := { dst := some 17, op := Go.Op.fieldAddr 67 (Go.Operand.tmp 16) 4, type := 0, pos := "scan.go:155", after := #[{ on := 13, ground := Go.Ground.data }, { on := 0, ground := Go.Ground.phase }, { on := 1, ground := Go.Ground.phase }, { on := 2, ground := Go.Ground.phase }, { on := 3, ground := Go.Ground.phase }, { on := 4, ground := Go.Ground.phase }, { on := 5, ground := Go.Ground.phase }, { on := 6, ground := Go.Ground.phase }, { on := 7, ground := Go.Ground.phase }, { on := 8, ground := Go.Ground.phase }, { on := 9, ground := Go.Ground.phase }, { on := 10, ground := Go.Ground.phase }, { on := 11, ground := Go.Ground.textOnly Go.Departure.appendInPlace }, { on := 12, ground := Go.Ground.textOnly Go.Departure.appendInPlace }], guard := none }) (v := ?_) rfl (by kernel_rfl) (by kernel_rfl) (by kernel_rfl) (fun _ _ _ h => h) (Or.inl ⟨by kernel_rfl, ?_⟩) trivial ?_
    rotate_left
    · (intro X hX; (try dsimp only at hX); go_simp; try (with_reducible rfl))
    (try simp only [Act.put, List.setIfInBounds_toArray, List.set_cons_zero, List.set_cons_succ])
    refine wpAnyH_ready (rs := [12, 15]) (by kernel_rfl) (by simp) ?_
    refine AllReadyH.cons (o := { dst := none, op := Go.Op.store 33 (Go.Operand.tmp 15) (Go.Operand.tmp 11), type := 0, pos := "scan.go:155", after := #[{ on := 11, ground := Go.Ground.data }, { on := 7, ground := Go.Ground.data }, { on := 10, ground := Go.Ground.chain }, { on := 0, ground := Go.Ground.phase }, { on := 1, ground := Go.Ground.phase }, { on := 2, ground := Go.Ground.phase }, { on := 3, ground := Go.Ground.phase }, { on := 4, ground := Go.Ground.phase }, { on := 5, ground := Go.Ground.phase }, { on := 6, ground := Go.Ground.phase }, { on := 7, ground := Go.Ground.phase }, { on := 8, ground := Go.Ground.phase }, { on := 9, ground := Go.Ground.phase }, { on := 10, ground := Go.Ground.phase }, { on := 15, ground := Go.Ground.gcOnly Go.Departure.appendInPlace }], guard := none }) rfl (fun K hK => ?_) (AllReadyH.cons (o := { dst := none, op := Go.Op.store 24 (Go.Operand.tmp 17) (Go.Operand.tmp 14), type := 0, pos := "scan.go:155", after := #[{ on := 14, ground := Go.Ground.data }, { on := 10, ground := Go.Ground.data }, { on := 10, ground := Go.Ground.chain }, { on := 12, ground := Go.Ground.textOnly Go.Departure.appendInPlace }, { on := 0, ground := Go.Ground.phase }, { on := 1, ground := Go.Ground.phase }, { on := 2, ground := Go.Ground.phase }, { on := 3, ground := Go.Ground.phase }, { on := 4, ground := Go.Ground.phase }, { on := 5, ground := Go.Ground.phase }, { on := 6, ground := Go.Ground.phase }, { on := 7, ground := Go.Ground.phase }, { on := 8, ground := Go.Ground.phase }, { on := 9, ground := Go.Ground.phase }, { on := 10, ground := Go.Ground.phase }, { on := 11, ground := Go.Ground.textOnly Go.Departure.appendInPlace }, { on := 12, ground := Go.Ground.textOnly Go.Departure.appendInPlace }], guard := none }) rfl (fun K hK => ?_) AllReadyH.nil)
    · go_simp
      refine hK.out _ _ trivial (fun hHeld => ?_)
      clear hHeld hK K
      have e3 : (((w2.setCell ⟨g, fs.length * 4, none⟩ (.int .i64 (kindC c))).setCell ⟨g, fs.length * 4 + 1, none⟩ (.string ⟨#[]⟩)).setCell ⟨g, fs.length * 4 + 2, none⟩ (.slice none 0 0)).setCell ⟨g, fs.length * 4 + 3, none⟩ (.bool wb) = put4 w2 g fs.length ⟨kindC c, S [], none, 0, 0, wb⟩ := rfl
      rw [e3]
      obtain ⟨oldc2, p1⟩ := HWF.out.1
      have p2 := HWF.out.2
      have HFI := HFA
      generalize put4 w2 g fs.length ⟨kindC c, S [], none, 0, 0, wb⟩ = W3 at *
      clear HFA HFB HVF HWF e3 q0 q1 q2 q3 f0 f1 f2 f3 o1 o2
      refine wpAnyH_ready (rs := [15]) (by kernel_rfl) (by simp) ?_
      refine AllReadyH.cons (o := { dst := none, op := Go.Op.store 24 (Go.Operand.tmp 17) (Go.Operand.tmp 14), type := 0, pos := "scan.go:155", after := #[{ on := 14, ground := Go.Ground.data }, { on := 10, ground := Go.Ground.data }, { on := 10, ground := Go.Ground.chain }, { on := 12, ground := Go.Ground.textOnly Go.Departure.appendInPlace }, { on := 0, ground := Go.Ground.phase }, { on := 1, ground := Go.Ground.phase }, { on := 2, ground := Go.Ground.phase }, { on := 3, ground := Go.Ground.phase }, { on := 4, ground := Go.Ground.phase }, { on := 5, ground := Go.Ground.phase }, { on := 6, ground := Go.Ground.phase }, { on := 7, ground := Go.Ground.phase }, { on := 8, ground := Go.Ground.phase }, { on := 9, ground := Go.Ground.phase }, { on := 10, ground := Go.Ground.phase }, { on := 11, ground := Go.Ground.textOnly Go.Departure.appendInPlace }, { on := 12, ground := Go.Ground.textOnly Go.Departure.appendInPlace }], guard := none }) rfl (fun K hK => ?_) AllReadyH.nil
      go_simp
      refine hK.out _ _ trivial (fun hHeld => ?_)
      clear hHeld hK K
      refine wpAnyH_done (by kernel_rfl) ?_ _
      obtain ⟨ob2, oc2, fs2, hsm2⟩ := HFI.out
      obtain ⟨d0, d1, d2, d3, d4⟩ := hsm2.sv
      have fz := hsm2.free 1
      have hsm3 := hsm2.setPos (s.pos + 1)
      rw [show ((s.pos + 1 : Nat) : Int) = (s.pos : Int) + 1 by omega] at hsm3
      have HS3 := Lib.hid hsm3
      clear hsm3 hsm2 HFI
      go_wp2_with fail
      go_end0
      exact ⟨rfl, ob2, oc2, fs2, by rw [← HWB.out]; exact HS3.out⟩
    · go_simp
      refine hK.out _ _ trivial (fun hHeld => ?_)
      clear hHeld hK K
      obtain ⟨p0, p1, p2, p3, r0, r1, r2, r3⟩ := HVF.out
      have HFI := HFB
      generalize w2.setCell ⟨P, 4, none⟩ (.slice (some ⟨g, 0, none⟩) (fs.length + 1) cap) = V at *
      clear HFA HFB HVF HWF q0 q1 q2 q3 f0 f1 f2 f3 o1 o2
      refine wpAnyH_ready (rs := [12]) (by kernel_rfl) (by simp) ?_
      refine AllReadyH.cons (o := { dst := none, op := Go.Op.store 33 (Go.Operand.tmp 15) (Go.Operand.tmp 11), type := 0, pos := "scan.go:155", after := #[{ on := 11, ground := Go.Ground.data }, { on := 7, ground := Go.Ground.data }, { on := 10, ground := Go.Ground.chain }, { on := 0, ground := Go.Ground.phase }, { on := 1, ground := Go.Ground.phase }, { on := 2, ground := Go.Ground.phase }, { on := 3, ground := Go.Ground.phase }, { on := 4, ground := Go.Ground.phase }, { on := 5, ground := Go.Ground.phase }, { on := 6, ground := Go.Ground.phase }, { on := 7, ground := Go.Ground.phase }, { on := 8, ground := Go.Ground.phase }, { on := 9, ground := Go.Ground.phase }, { on := 10, ground := Go.Ground.phase }, { on := 15, ground := Go.Ground.gcOnly Go.Departure.appendInPlace }], guard := none }) rfl (fun K hK => ?_) AllReadyH.nil
      go_simp
      refine hK.out _ _ trivial (fun hHeld => ?_)
      clear hHeld hK K
      have e3 : (((V.setCell ⟨g, fs.length * 4, none⟩ (.int .i64 (kindC c))).setCell ⟨g, fs.length * 4 + 1, none⟩ (.string ⟨#[]⟩)).setCell ⟨g, fs.length * 4 + 2, none⟩ (.slice none 0 0)).setCell ⟨g, fs.length * 4 + 3, none⟩ (.bool wb) = put4 V g fs.length ⟨kindC c, S [], none, 0, 0, wb⟩ := rfl
      rw [e3]
      generalize put4 V g fs.length ⟨kindC c, S [], none, 0, 0, wb⟩ = W4 at *
      clear e3
      refine wpAnyH_done (by kernel_rfl) ?_ _
      obtain ⟨ob2, oc2, fs2, hsm2⟩ := HFI.out
      obtain ⟨d0, d1, d2, d3, d4⟩ := hsm2.sv
      have fz := hsm2.free 1
      have hsm3 := hsm2.setPos (s.pos + 1)
      rw [show ((s.pos + 1 : Nat) : Int) = (s.pos : Int) + 1 by omega] at hsm3
      have HS3 := Lib.hid hsm3
      clear hsm3 hsm2 HFI
      go_wp2_with fail
      go_end0
      exact ⟨rfl, ob2, oc2, fs2, by rw [← HWB.out]; exact HS3.out⟩
end Go.Proofs.YtliiapdakojomabDoor
