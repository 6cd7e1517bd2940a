/- event: kinds (v11hgen.py). -/
import Derived.Test.YtbncaiocmklgnaaGreatDoorV11g
import Derived.Test.YtbncaiocmklgnaaGreatDoorZv
namespace Go.Proofs.YtbncaiocmklgnaaGreatDoor
open Go.RowKit Go.Lib

section
variable {P : Program} {ops : Array Oper} {Q : Exit → Act → World → Prop} {md : Region.Mode} {S : World → Prop} {L : Nat}
theorem wpAnyN_two {i j : Nat} {o1 o2 : Oper} {fuel : Nat} {listed : Array Bool} {a : Act} {w : World} (hr : Region.ready md ops listed = [i, j]) (ho1 : ops[i]? = some o1) (ho2 : ops[j]? = some o2)
    (h1 : ∀ K' : Act → World → Prop, Shut (∀ a w, ((listed.setIfInBounds i true).getD L false = false → S w) → wpAnyN P md ops Q S L fuel (listed.setIfInBounds i true) a w → K' a w) → if Region.wanted o1 (yielded ops a.tmps) = true then Oper.wp P o1 a w K' Q else K' (a.put o1.dst undef) w)
    (h2 : ∀ K' : Act → World → Prop, Shut (∀ a w, ((listed.setIfInBounds j true).getD L false = false → S w) → wpAnyN P md ops Q S L fuel (listed.setIfInBounds j true) a w → K' a w) → if Region.wanted o2 (yielded ops a.tmps) = true then Oper.wp P o2 a w K' Q else K' (a.put o2.dst undef) w) : wpAnyN P md ops Q S L (fuel + 1) listed a w := by
  refine ⟨fun h0 => (by rw [hr] at h0; cases h0), fun k hk => ?_⟩
  rw [hr] at hk
  have : k = i ∨ k = j := by simpa using hk
  rcases this with rfl | rfl
  · exact wpOp_step ho1 (fun K' hK => h1 K' (fun a w hS hW => hK a w ⟨hS, hW⟩))
  · exact wpOp_step ho2 (fun K' hK => h2 K' (fun a w hS hW => hK a w ⟨hS, hW⟩))
end
/-- Blocks that are kept. -/
structure KB (w : World) (K : List (Nat × Obj)) (W : World) : Prop where
  below : Below w.heap.size w W
  kept : ∀ x, x ∈ K → W.heap[x.1]? = some x.2
theorem KB.go {w W W' : World} {K : List (Nat × Obj)} (h : KB w K W) (hb : Below W.heap.size W W') : KB w K W' := ⟨h.below.trans (hb.mono h.below.size), fun x hx => by rw [hb.block _ (lt_of_heap (h.kept x hx))]; exact h.kept x hx⟩
theorem KB.box {w W : World} {K : List (Nat × Obj)} (h : KB w K W) (o : Obj) : KB w ((W.heap.size, o) :: K) (W.alloc o) := by
  have hb : Below W.heap.size W (W.alloc o) := (Below.refl _ _).alloc (Nat.le_refl _) _
  refine ⟨(h.go hb).below, fun x hx => ?_⟩
  rcases List.mem_cons.1 hx with rfl | hx
  · exact heap_new _ _
  · exact (h.go hb).kept x hx
theorem KB.add {w W : World} {K : List (Nat × Obj)} (h : KB w K W) {b : Nat} {o : Obj} (hx : W.heap[b]? = some o) : KB w ((b, o) :: K) W := ⟨h.below, fun x hx' => by
  rcases List.mem_cons.1 hx' with rfl | hx'
  · exact hx
  · exact h.kept x hx'⟩
theorem KB.sub {w W : World} {K K' : List (Nat × Obj)} (h : KB w K W) (hs : ∀ x, x ∈ K' → x ∈ K) : KB w K' W := ⟨h.below, fun x hx => h.kept x (hs x hx)⟩
theorem KB.new {w W : World} {K : List (Nat × Obj)} (h : KB w K W) {x : Nat × Obj} (hx : x ∈ K) : x.1 < W.heap.size := lt_of_heap (h.kept x hx)
theorem KB.row {w W : World} {K : List (Nat × Obj)} {b : Nat} {old : Array Value} {t : TypeId} (h : KB w ((b, .cells old t (0, 0)) :: K) W) (hb : w.heap.size ≤ b) (hn : ∀ x, x ∈ K → x.1 ≠ b) (cs : Array Value) : KB w ((b, .cells cs t (0, 0)) :: K) (W.setRow b cs) := by
  refine ⟨below_setRow h.below hb cs, fun x hx => ?_⟩
  rcases List.mem_cons.1 hx with rfl | hx
  · exact setRow_heap _ _ _ _ _ _ (h.kept _ List.mem_cons_self)
  · rw [setRow_other _ _ _ _ (hn x hx)]
    exact h.kept x (List.mem_cons_of_mem _ hx)
theorem part_cells {X : World} {b : Nat} {v0 v1 v2 v3 : Value} (h : X.heap[b]? = some (.cells #[v0, v1, v2, v3] 64 (0, 0))) : X.cell? ⟨b, 0, none⟩ = some v0 ∧ X.cell? ⟨b, 1, none⟩ = some v1 ∧ X.cell? ⟨b, 2, none⟩ = some v2 ∧ X.cell? ⟨b, 3, none⟩ = some v3 := by
  have y0 := cell_of h 0
  have y1 := cell_of h 1
  have y2 := cell_of h 2
  have y3 := cell_of h 3
  simp only [List.getElem?_toArray, List.getElem?_cons_zero, List.getElem?_cons_succ] at y0 y1 y2 y3
  exact ⟨y0, y1, y2, y3⟩
abbrev arr48 (f : Nat → Value) : Array Value := #[f 0, f 1, f 2, f 3, f 4, f 5, f 6, f 7, f 8, f 9, f 10, f 11, f 12, f 13, f 14, f 15, f 16, f 17, f 18, f 19, f 20, f 21, f 22, f 23, f 24, f 25, f 26, f 27, f 28, f 29, f 30, f 31, f 32, f 33, f 34, f 35, f 36, f 37, f 38, f 39, f 40, f 41, f 42, f 43, f 44, f 45, f 46, f 47]
abbrev nil48 : Array Value := #[.nilFunc, .nilFunc, .nilFunc, .nilFunc, .nilFunc, .nilFunc, .nilFunc, .nilFunc, .nilFunc, .nilFunc, .nilFunc, .nilFunc, .nilFunc, .nilFunc, .nilFunc, .nilFunc, .nilFunc, .nilFunc, .nilFunc, .nilFunc, .nilFunc, .nilFunc, .nilFunc, .nilFunc, .nilFunc, .nilFunc, .nilFunc, .nilFunc, .nilFunc, .nilFunc, .nilFunc, .nilFunc, .nilFunc, .nilFunc, .nilFunc, .nilFunc, .nilFunc, .nilFunc, .nilFunc, .nilFunc, .nilFunc, .nilFunc, .nilFunc, .nilFunc, .nilFunc, .nilFunc, .nilFunc, .nilFunc]
theorem Tryz.sizeKinds : (Tryz.prog.info? 98).map (·.size) = some 48 := by kernel_rfl
theorem heap_setCell_at {w : World} {b o : Nat} {c : Array Value} {t : TypeId} {fz : Nat × Nat} (v : Value) (h : w.heap[b]? = some (.cells c t fz)) :
    (w.setCell ⟨b, o, none⟩ v).heap[b]? = some (.cells (c.setIfInBounds o v) t fz) := by
  have hl : b < w.heap.size := (Array.getElem?_eq_some_iff.1 h).1
  simp [World.setCell, Array.getElem?_modify, h]
theorem KB.cell {w W : World} {K : List (Nat × Obj)} {b : Nat} {old : Array Value} {t : TypeId} (h : KB w ((b, .cells old t (0, 0)) :: K) W) (hb : w.heap.size ≤ b) (hn : ∀ x, x ∈ K → x.1 ≠ b) (o : Nat) (v : Value) : KB w ((b, .cells (old.setIfInBounds o v) t (0, 0)) :: K) (W.setCell ⟨b, o, none⟩ v) := by
  refine ⟨h.below.setCell (p := ⟨b, o, none⟩) hb v, fun x hx => ?_⟩
  rcases List.mem_cons.1 hx with rfl | hx
  · exact heap_setCell_at v (h.kept _ List.mem_cons_self)
  · rw [Below.heap_setCell _ _ _ _ (hn x hx)]
    exact h.kept x (List.mem_cons_of_mem _ hx)
theorem KB.boxed {w W : World} {K : List (Nat × Obj)} (h : KB w K W) (old : Array Value) (t : TypeId) (cs : Array Value) : KB w ((W.heap.size, .cells cs t (0, 0)) :: K) ((W.alloc (.cells old t)).setRow W.heap.size cs) :=
  (h.box (.cells old t)).row h.below.size (fun _ hx => Nat.ne_of_lt (h.new hx)) cs
def objT : Obj → Option TypeId
  | .cells _ t _ => some t
  | _ => none
theorem KB.nes {w W : World} {K : List (Nat × Obj)} (h : KB w K W) {x y : Nat × Obj} (hx : x ∈ K) (hy : y ∈ K) (hn : objT x.2 ≠ objT y.2) : x.1 ≠ y.1 := fun e => by
  have a := h.kept x hx
  have b := h.kept y hy
  rw [e, b] at a
  exact hn (by rw [Option.some.inj a])
theorem KB.leaf {w W X : World} {K : List (Nat × Obj)} {p : Nat} {old : Array Value} {t : TypeId} (h : KB w K W) (h2 : KB W [(p, .cells old t (0, 0))] X) (hp : W.heap.size ≤ p) (cs : Array Value) : KB w ((p, .cells cs t (0, 0)) :: K) (X.setRow p cs) := by
  have h3 := (h2.row hp (fun _ hx => by cases hx) cs)
  exact (h.go h3.below).add (h3.kept _ List.mem_cons_self)
/-- What kinds answers: of the names alone it is told what they are. -/
def KindsAt (w : World) (e : Ending) (w' : World) : Prop :=
  ∃ (f : Nat → Value) (p q : Nat), e = .returned (.agg (arr48 f)) ∧ (f 40 = fnV 87 #[ptr q, ptr p] ∧ f 41 = fnV 88 #[ptr p] ∧ f 42 = fnV 90 #[ptr p] ∧ f 43 = fnV 92 #[ptr p]) ∧
    w'.heap[p]? = some (.cells #[fnV 70 #[]] 106 (0, 0)) ∧ w'.heap[q]? = some (.cells #[fnV 71 #[]] 89 (0, 0)) ∧ Below w.heap.size w w'
set_option maxHeartbeats 8000000 in
set_option maxRecDepth 20000 in
theorem kinds_any (w : World) :
    Calls Tryz.prog 59 #[] w (KindsAt w) := by
  have hm := Tryz.makeF
  have hsf := Tryz.storeF
  have HNum := Lib.hid (fun f W => numberPart_any f W)
  have HTxt := Lib.hid (fun f g W => textPart_any f g W)
  have HRow := Lib.hid (fun a n c W => row_any a n c W)
  simp only [numbV, textV, rowV] at HNum HTxt HRow
  obtain ⟨W0, hW0⟩ : ∃ W, w.alloc (.cells nil48 98) = W := ⟨_, rfl⟩
  have C0 : Hid (KB w [(w.heap.size, .cells nil48 98 (0, 0))] W0) := Lib.hid (by rw [← hW0]; exact KB.box ⟨Below.refl _ _, fun x hx => by cases hx⟩ _)
  go_enter Tryz.func59, Tryz.ntmps59
  go_upto_region 1 with fail
  (try rw [hW0])
  clear hW0
  go_upto_region 2 with (first | (go_at_call 65; refine (HNum.out _ _).mono ?_; rintro e w1 ⟨p1, rfl, _, _, hb⟩; have B1 := Lib.hid (C0.out.go hb); clear hb) | (refine wpList_store_row rfl 64 _ _ rfl w1.heap.size #[fnV 83 #[ptr p1], fnV 84 #[ptr p1], fnV 85 #[ptr p1], fnV 86 #[ptr p1]] rfl rfl 64 _ (heap_new _ _) Tryz.sizePart rfl (by simp [Value.oneCell']) ?_))
  obtain ⟨W1, hW1⟩ : ∃ W, (w1.alloc (.cells #[.nilFunc, .nilFunc, .nilFunc, .nilFunc] 64)).setRow w1.heap.size #[fnV 83 #[ptr p1], fnV 84 #[ptr p1], fnV 85 #[ptr p1], fnV 86 #[ptr p1]] = W := ⟨_, rfl⟩
  rw [hW1]
  have C1 := Lib.hid (B1.out.boxed nil4 64 #[fnV 83 #[ptr p1], fnV 84 #[ptr p1], fnV 85 #[ptr p1], fnV 86 #[ptr p1]])
  rw [hW1] at C1
  clear hW1 B1
  go_upto_region 3 with (first | (go_at_call 65; refine (HNum.out _ _).mono ?_; rintro e w2 ⟨p2, rfl, _, _, hb⟩; have B2 := Lib.hid (C1.out.go hb); clear hb) | (refine wpList_store_row rfl 64 _ _ rfl w2.heap.size #[fnV 83 #[ptr p2], fnV 84 #[ptr p2], fnV 85 #[ptr p2], fnV 86 #[ptr p2]] rfl rfl 64 _ (heap_new _ _) Tryz.sizePart rfl (by simp [Value.oneCell']) ?_))
  obtain ⟨W2, hW2⟩ : ∃ W, (w2.alloc (.cells #[.nilFunc, .nilFunc, .nilFunc, .nilFunc] 64)).setRow w2.heap.size #[fnV 83 #[ptr p2], fnV 84 #[ptr p2], fnV 85 #[ptr p2], fnV 86 #[ptr p2]] = W := ⟨_, rfl⟩
  rw [hW2]
  have C2 := Lib.hid (B2.out.boxed nil4 64 #[fnV 83 #[ptr p2], fnV 84 #[ptr p2], fnV 85 #[ptr p2], fnV 86 #[ptr p2]])
  rw [hW2] at C2
  clear hW2 B2
  go_upto_region 4 with (first | (go_at_call 65; refine (HNum.out _ _).mono ?_; rintro e w3 ⟨p3, rfl, _, _, hb⟩; have B3 := Lib.hid (C2.out.go hb); clear hb) | (refine wpList_store_row rfl 64 _ _ rfl w3.heap.size #[fnV 83 #[ptr p3], fnV 84 #[ptr p3], fnV 85 #[ptr p3], fnV 86 #[ptr p3]] rfl rfl 64 _ (heap_new _ _) Tryz.sizePart rfl (by simp [Value.oneCell']) ?_))
  obtain ⟨W3, hW3⟩ : ∃ W, (w3.alloc (.cells #[.nilFunc, .nilFunc, .nilFunc, .nilFunc] 64)).setRow w3.heap.size #[fnV 83 #[ptr p3], fnV 84 #[ptr p3], fnV 85 #[ptr p3], fnV 86 #[ptr p3]] = W := ⟨_, rfl⟩
  rw [hW3]
  have C3 := Lib.hid (B3.out.boxed nil4 64 #[fnV 83 #[ptr p3], fnV 84 #[ptr p3], fnV 85 #[ptr p3], fnV 86 #[ptr p3]])
  rw [hW3] at C3
  clear hW3 B3
  go_upto_region 5 with (first | (go_at_call 69; refine (HTxt.out _ _ _).mono ?_; rintro e w4 ⟨p4, q4, rfl, h1, h2, _, _, hb⟩; have B4 := Lib.hid (((C3.out.go hb).add h1).add h2); clear hb h1 h2) | (refine wpList_store_row rfl 64 _ _ rfl w4.heap.size #[fnV 87 #[ptr q4, ptr p4], fnV 88 #[ptr p4], fnV 90 #[ptr p4], fnV 92 #[ptr p4]] rfl rfl 64 _ (heap_new _ _) Tryz.sizePart rfl (by simp [Value.oneCell']) ?_))
  obtain ⟨W4, hW4⟩ : ∃ W, (w4.alloc (.cells #[.nilFunc, .nilFunc, .nilFunc, .nilFunc] 64)).setRow w4.heap.size #[fnV 87 #[ptr q4, ptr p4], fnV 88 #[ptr p4], fnV 90 #[ptr p4], fnV 92 #[ptr p4]] = W := ⟨_, rfl⟩
  rw [hW4]
  have C4 := Lib.hid (B4.out.boxed nil4 64 #[fnV 87 #[ptr q4, ptr p4], fnV 88 #[ptr p4], fnV 90 #[ptr p4], fnV 92 #[ptr p4]])
  rw [hW4] at C4
  clear hW4 B4
  go_upto_region 6 with (first | (go_at_call 69; refine (HTxt.out _ _ _).mono ?_; rintro e w5 ⟨p5, q5, rfl, h1, h2, _, _, hb⟩; have B5 := Lib.hid (((C4.out.go hb).add h1).add h2); clear hb h1 h2) | (refine wpList_store_row rfl 64 _ _ rfl w5.heap.size #[fnV 87 #[ptr q5, ptr p5], fnV 88 #[ptr p5], fnV 90 #[ptr p5], fnV 92 #[ptr p5]] rfl rfl 64 _ (heap_new _ _) Tryz.sizePart rfl (by simp [Value.oneCell']) ?_))
  obtain ⟨W5, hW5⟩ : ∃ W, (w5.alloc (.cells #[.nilFunc, .nilFunc, .nilFunc, .nilFunc] 64)).setRow w5.heap.size #[fnV 87 #[ptr q5, ptr p5], fnV 88 #[ptr p5], fnV 90 #[ptr p5], fnV 92 #[ptr p5]] = W := ⟨_, rfl⟩
  rw [hW5]
  have C5 := Lib.hid (B5.out.boxed nil4 64 #[fnV 87 #[ptr q5, ptr p5], fnV 88 #[ptr p5], fnV 90 #[ptr p5], fnV 92 #[ptr p5]])
  rw [hW5] at C5
  clear hW5 B5
  obtain ⟨l0, l1, l2, l3⟩ := part_cells (C5.out.kept (w3.heap.size, _) (List.mem_cons_of_mem _ (List.mem_cons_of_mem _ (List.mem_cons_of_mem _ (List.mem_cons_of_mem _ (List.mem_cons_of_mem _ (List.mem_cons_of_mem _ (List.mem_cons_self))))))))
  go_upto_region 7 with (refine wpList_store_row rfl 64 _ _ rfl W5.heap.size #[fnV 83 #[ptr p3], fnV 84 #[ptr p3], fnV 85 #[ptr p3], fnV 86 #[ptr p3]] rfl rfl 64 _ (heap_new _ _) Tryz.sizePart rfl (by simp [Value.oneCell']) ?_)
  obtain ⟨W6, hW6⟩ : ∃ W, (W5.alloc (.cells #[.nilFunc, .nilFunc, .nilFunc, .nilFunc] 64)).setRow W5.heap.size #[fnV 83 #[ptr p3], fnV 84 #[ptr p3], fnV 85 #[ptr p3], fnV 86 #[ptr p3]] = W := ⟨_, rfl⟩
  rw [hW6]
  have C6 := Lib.hid (C5.out.boxed nil4 64 #[fnV 83 #[ptr p3], fnV 84 #[ptr p3], fnV 85 #[ptr p3], fnV 86 #[ptr p3]])
  rw [hW6] at C6
  clear hW6 l0 l1 l2 l3
  have k0 := (part_cells (C6.out.kept (W5.heap.size, _) List.mem_cons_self)).1
  have kz := frozen_of (C6.out.kept (W5.heap.size, _) List.mem_cons_self) 0
  go_upto_region 8 with fail
  obtain ⟨W7, hW7⟩ : ∃ W, W6.setCell ⟨W5.heap.size, 0, none⟩ (fnV 74 #[]) = W := ⟨_, rfl⟩
  rw [hW7]
  have C7 := Lib.hid (C6.out.cell C5.out.below.size (fun _ hx => Nat.ne_of_lt (C5.out.new hx)) 0 (fnV 74 #[]))
  rw [hW7] at C7
  simp only [List.setIfInBounds_toArray, List.set_cons_zero] at C7
  clear hW7 k0 kz C6
  have HW7 := C7
  have B7 : Hid (KB W7 [] W7.drew) := Lib.hid ⟨(Below.refl _ _).drew, fun x hx => by cases hx⟩
  have HL8 := Lib.hid (fun X (hX : Below W7.heap.size W7 X) => And.intro (part_cells ((HW7.out.go hX).kept (w1.heap.size, _) (List.mem_cons_of_mem _ (List.mem_cons_of_mem _ (List.mem_cons_of_mem _ (List.mem_cons_of_mem _ (List.mem_cons_of_mem _ (List.mem_cons_of_mem _ (List.mem_cons_of_mem _ (List.mem_cons_of_mem _ (List.mem_cons_of_mem _ (List.mem_cons_self)))))))))))) (And.intro (part_cells ((HW7.out.go hX).kept (w2.heap.size, _) (List.mem_cons_of_mem _ (List.mem_cons_of_mem _ (List.mem_cons_of_mem _ (List.mem_cons_of_mem _ (List.mem_cons_of_mem _ (List.mem_cons_of_mem _ (List.mem_cons_of_mem _ (List.mem_cons_of_mem _ (List.mem_cons_self))))))))))) (part_cells ((HW7.out.go hX).kept (W5.heap.size, _) (List.mem_cons_self)))))
  go_cut [7] (fun s7 wx => ∃ (p7 q8 : Nat) (Y : World), Y = wx ∧ s7 = ptr p7 ∧ KB w ((p7, Obj.cells #[fnV 94 #[ptr q8], fnV 95 #[ptr q8], fnV 96 #[ptr q8], fnV 97 #[ptr q8]] 64 (0, 0)) :: (W5.heap.size, Obj.cells #[fnV 74 #[], fnV 84 #[ptr p3], fnV 85 #[ptr p3], fnV 86 #[ptr p3]] 64 (0, 0)) :: (w5.heap.size, Obj.cells #[fnV 87 #[ptr q5, ptr p5], fnV 88 #[ptr p5], fnV 90 #[ptr p5], fnV 92 #[ptr p5]] 64 (0, 0)) :: (q5, Obj.cells #[fnV 73 #[]] 89 (0, 0)) :: (p5, Obj.cells #[fnV 72 #[]] 106 (0, 0)) :: (w4.heap.size, Obj.cells #[fnV 87 #[ptr q4, ptr p4], fnV 88 #[ptr p4], fnV 90 #[ptr p4], fnV 92 #[ptr p4]] 64 (0, 0)) :: (q4, Obj.cells #[fnV 71 #[]] 89 (0, 0)) :: (p4, Obj.cells #[fnV 70 #[]] 106 (0, 0)) :: (w3.heap.size, Obj.cells #[fnV 83 #[ptr p3], fnV 84 #[ptr p3], fnV 85 #[ptr p3], fnV 86 #[ptr p3]] 64 (0, 0)) :: (w2.heap.size, Obj.cells #[fnV 83 #[ptr p2], fnV 84 #[ptr p2], fnV 85 #[ptr p2], fnV 86 #[ptr p2]] 64 (0, 0)) :: (w1.heap.size, Obj.cells #[fnV 83 #[ptr p1], fnV 84 #[ptr p1], fnV 85 #[ptr p1], fnV 86 #[ptr p1]] 64 (0, 0)) :: [(w.heap.size, Obj.cells nil48 98 (0, 0))]) Y)
  case first =>
    refine wp_region_N 7 (fun X => Below W7.heap.size W7 X) (by kernel_rfl) ?_
    refine wpAnyN_take (i := 0) (oi := { dst := some 15, op := Go.Op.load 64 (Go.Operand.tmp 1), type := 64, pos := "kinds.go:44", after := #[], guard := none }) (oL := { dst := none, op := Go.Op.store 64 (Go.Operand.tmp 7) (Go.Operand.tmp 20), type := 0, pos := "kinds.go:44", after := #[{ on := 6, ground := Go.Ground.data }, { on := 5, ground := Go.Ground.data }, { on := 5, ground := Go.Ground.chain }, { on := 0, ground := Go.Ground.phase }, { on := 1, ground := Go.Ground.phase }, { on := 2, ground := Go.Ground.phase }, { on := 3, ground := Go.Ground.phase }, { on := 4, ground := Go.Ground.phase }, { on := 5, ground := Go.Ground.phase }, { on := 6, ground := Go.Ground.phase }], guard := none }) (v := .agg #[fnV 83 #[ptr p1], fnV 84 #[ptr p1], fnV 85 #[ptr p1], fnV 86 #[ptr p1]]) rfl rfl (by kernel_rfl) (by kernel_rfl) (by kernel_rfl) (by kernel_rfl) (fun _ _ _ h => h) (Or.inl ⟨by kernel_rfl, ?_⟩) (Below.refl _ _).drew ?_
    · (intro X hX; obtain ⟨⟨a0, a1, a2, a3⟩, ⟨b0, b1, b2, b3⟩, ⟨c0, c1, c2, c3⟩⟩ := HL8.out X hX <;> (go_simp; try (with_reducible rfl)))
    (try simp only [Act.put, List.setIfInBounds_toArray, List.set_cons_zero, List.set_cons_succ])
    refine wpAnyN_take (i := 1) (oi := { dst := some 16, op := Go.Op.load 64 (Go.Operand.tmp 2), type := 64, pos := "kinds.go:44", after := #[], guard := none }) (oL := { dst := none, op := Go.Op.store 64 (Go.Operand.tmp 7) (Go.Operand.tmp 20), type := 0, pos := "kinds.go:44", after := #[{ on := 6, ground := Go.Ground.data }, { on := 5, ground := Go.Ground.data }, { on := 5, ground := Go.Ground.chain }, { on := 0, ground := Go.Ground.phase }, { on := 1, ground := Go.Ground.phase }, { on := 2, ground := Go.Ground.phase }, { on := 3, ground := Go.Ground.phase }, { on := 4, ground := Go.Ground.phase }, { on := 5, ground := Go.Ground.phase }, { on := 6, ground := Go.Ground.phase }], guard := none }) (v := .agg #[fnV 83 #[ptr p2], fnV 84 #[ptr p2], fnV 85 #[ptr p2], fnV 86 #[ptr p2]]) rfl rfl (by kernel_rfl) (by kernel_rfl) (by kernel_rfl) (by kernel_rfl) (fun _ _ _ h => h) (Or.inl ⟨by kernel_rfl, ?_⟩) (Below.refl _ _).drew ?_
    · (intro X hX; obtain ⟨⟨a0, a1, a2, a3⟩, ⟨b0, b1, b2, b3⟩, ⟨c0, c1, c2, c3⟩⟩ := HL8.out X hX <;> (go_simp; try (with_reducible rfl)))
    (try simp only [Act.put, List.setIfInBounds_toArray, List.set_cons_zero, List.set_cons_succ])
    refine wpAnyN_take (i := 2) (oi := { dst := some 17, op := Go.Op.load 64 (Go.Operand.tmp 6), type := 64, pos := "kinds.go:44", after := #[], guard := none }) (oL := { dst := none, op := Go.Op.store 64 (Go.Operand.tmp 7) (Go.Operand.tmp 20), type := 0, pos := "kinds.go:44", after := #[{ on := 6, ground := Go.Ground.data }, { on := 5, ground := Go.Ground.data }, { on := 5, ground := Go.Ground.chain }, { on := 0, ground := Go.Ground.phase }, { on := 1, ground := Go.Ground.phase }, { on := 2, ground := Go.Ground.phase }, { on := 3, ground := Go.Ground.phase }, { on := 4, ground := Go.Ground.phase }, { on := 5, ground := Go.Ground.phase }, { on := 6, ground := Go.Ground.phase }], guard := none }) (v := .agg #[fnV 74 #[], fnV 84 #[ptr p3], fnV 85 #[ptr p3], fnV 86 #[ptr p3]]) rfl rfl (by kernel_rfl) (by kernel_rfl) (by kernel_rfl) (by kernel_rfl) (fun _ _ _ h => h) (Or.inl ⟨by kernel_rfl, ?_⟩) (Below.refl _ _).drew ?_
    · (intro X hX; obtain ⟨⟨a0, a1, a2, a3⟩, ⟨b0, b1, b2, b3⟩, ⟨c0, c1, c2, c3⟩⟩ := HL8.out X hX <;> (go_simp; try (with_reducible rfl)))
    (try simp only [Act.put, List.setIfInBounds_toArray, List.set_cons_zero, List.set_cons_succ])
    refine wpAnyN_two (i := 3) (j := 6) (o1 := { dst := some 18, op := Go.Op.call { callee := Go.Callee.value (Go.Operand.func 76), args := #[], argTypes := #[] }, type := 64, pos := "kinds.go:44", after := #[], guard := none }) (o2 := { dst := some 7, op := Go.Op.alloc 64, type := 0, pos := "kinds.go:44", after := #[], guard := none }) (by kernel_rfl) rfl rfl (fun K hK => ?_) (fun K hK => ?_)
    · go_simp
      refine (uidsPart_any _).mono ?_
      rintro e X3 ⟨rfl, hb⟩
      have B3 := Lib.hid (B7.out.go hb)
      clear hb
      refine hK.out _ _ (fun _ => B3.out.below) ?_
      clear hK K
      (try simp only [Act.put, List.setIfInBounds_toArray, List.set_cons_zero, List.set_cons_succ])
      refine wpAnyN_two (i := 4) (j := 6) (o1 := { dst := some 19, op := Go.Op.buildSlice 113 4 #[(0, Go.Operand.tmp 15), (1, Go.Operand.tmp 16), (2, Go.Operand.tmp 17), (3, Go.Operand.tmp 18)], type := 113, pos := "kinds.go:44", after := #[{ on := 0, ground := Go.Ground.data }, { on := 1, ground := Go.Ground.data }, { on := 2, ground := Go.Ground.data }, { on := 3, ground := Go.Ground.data }], guard := none }) (o2 := { dst := some 7, op := Go.Op.alloc 64, type := 0, pos := "kinds.go:44", after := #[], guard := none }) (by kernel_rfl) rfl rfl (fun K hK => ?_) (fun K hK => ?_)
      · go_simp
        have B4 := Lib.hid (B3.out.go ((Below.refl _ _).alloc (Nat.le_refl _) (.cells #[fnV 83 #[ptr p1], fnV 84 #[ptr p1], fnV 85 #[ptr p1], fnV 86 #[ptr p1], fnV 83 #[ptr p2], fnV 84 #[ptr p2], fnV 85 #[ptr p2], fnV 86 #[ptr p2], fnV 74 #[], fnV 84 #[ptr p3], fnV 85 #[ptr p3], fnV 86 #[ptr p3], fnV 98 #[], fnV 101 #[], fnV 102 #[], fnV 104 #[]] 64)))
        refine hK.out _ _ (fun _ => B4.out.below) ?_
        clear hK K
        (try simp only [Act.put, List.setIfInBounds_toArray, List.set_cons_zero, List.set_cons_succ])
        refine wpAnyN_two (i := 5) (j := 6) (o1 := { dst := some 20, op := Go.Op.call { callee := Go.Callee.value (Go.Operand.func 75), args := #[Go.Operand.tmp 19], argTypes := #[113] }, type := 64, pos := "kinds.go:44", after := #[{ on := 4, ground := Go.Ground.data }, { on := 3, ground := Go.Ground.chain }], guard := none }) (o2 := { dst := some 7, op := Go.Op.alloc 64, type := 0, pos := "kinds.go:44", after := #[], guard := none }) (by kernel_rfl) rfl rfl (fun K hK => ?_) (fun K hK => ?_)
        · go_simp
          refine (HRow.out _ _ _ _).mono ?_
          rintro e X5 ⟨q8, rfl, _, _, hb⟩
          have B5 := Lib.hid (B4.out.go hb)
          clear hb
          refine hK.out _ _ (fun _ => B5.out.below) ?_
          clear hK K
          (try simp only [Act.put, List.setIfInBounds_toArray, List.set_cons_zero, List.set_cons_succ])
          refine wpAnyN_one (i := 6) (o := { dst := some 7, op := Go.Op.alloc 64, type := 0, pos := "kinds.go:44", after := #[], guard := none }) (by kernel_rfl) rfl (fun K hK => ?_)
          go_simp
          have B6 := Lib.hid (B5.out.box (.cells #[.nilFunc, .nilFunc, .nilFunc, .nilFunc] 64))
          refine hK.out _ _ (fun _ => B6.out.below) ?_
          clear hK K
          (try simp only [Act.put, List.setIfInBounds_toArray, List.set_cons_zero, List.set_cons_succ])
          have HB := Lib.hid B6.out
          refine wpAnyN_one (i := 7) (o := { dst := none, op := Go.Op.store 64 (Go.Operand.tmp 7) (Go.Operand.tmp 20), type := 0, pos := "kinds.go:44", after := #[{ on := 6, ground := Go.Ground.data }, { on := 5, ground := Go.Ground.data }, { on := 5, ground := Go.Ground.chain }, { on := 0, ground := Go.Ground.phase }, { on := 1, ground := Go.Ground.phase }, { on := 2, ground := Go.Ground.phase }, { on := 3, ground := Go.Ground.phase }, { on := 4, ground := Go.Ground.phase }, { on := 5, ground := Go.Ground.phase }, { on := 6, ground := Go.Ground.phase }], guard := none }) (by kernel_rfl) rfl (fun K hK => ?_)
          refine wp_store_row 64 _ _ rfl (X5.heap.size) #[fnV 94 #[ptr q8], fnV 95 #[ptr q8], fnV 96 #[ptr q8], fnV 97 #[ptr q8]] rfl rfl 64 _ (HB.out.kept _ List.mem_cons_self) Tryz.sizePart rfl (by simp [Value.oneCell']) ?_
          refine hK.out _ _ (fun e => absurd (e.symm.trans (by kernel_rfl) : false = true) Bool.false_ne_true) ?_
          clear hK K
          (try simp only [Act.put])
          refine wpAnyN_of_H (S' := fun _ => True) _ _ _ _ (by kernel_rfl) ?_
          refine wpAnyH_done (by kernel_rfl) ?_ _
          go_wp2_with fail
          go_meet
          exact ⟨_, q8, _, rfl, rfl, KB.leaf HW7.out HB.out (by first | exact B5.out.below.size | (have h := B5.out.below.size; simp at h; exact h)) _⟩
        · go_simp
          have B6 : Hid (KB W7 [(X3.heap.size + 1, Obj.cells nil4 64 (0, 0))] ((X3.alloc (.cells #[fnV 83 #[ptr p1], fnV 84 #[ptr p1], fnV 85 #[ptr p1], fnV 86 #[ptr p1], fnV 83 #[ptr p2], fnV 84 #[ptr p2], fnV 85 #[ptr p2], fnV 86 #[ptr p2], fnV 74 #[], fnV 84 #[ptr p3], fnV 85 #[ptr p3], fnV 86 #[ptr p3], fnV 98 #[], fnV 101 #[], fnV 102 #[], fnV 104 #[]] 64)).alloc (.cells #[.nilFunc, .nilFunc, .nilFunc, .nilFunc] 64))) := Lib.hid (by have h := B4.out.box (.cells #[.nilFunc, .nilFunc, .nilFunc, .nilFunc] 64); rw [show (X3.alloc (.cells #[fnV 83 #[ptr p1], fnV 84 #[ptr p1], fnV 85 #[ptr p1], fnV 86 #[ptr p1], fnV 83 #[ptr p2], fnV 84 #[ptr p2], fnV 85 #[ptr p2], fnV 86 #[ptr p2], fnV 74 #[], fnV 84 #[ptr p3], fnV 85 #[ptr p3], fnV 86 #[ptr p3], fnV 98 #[], fnV 101 #[], fnV 102 #[], fnV 104 #[]] 64)).heap.size = X3.heap.size + 1 by simp] at h; exact h)
          refine hK.out _ _ (fun _ => B6.out.below) ?_
          clear hK K
          (try simp only [Act.put, List.setIfInBounds_toArray, List.set_cons_zero, List.set_cons_succ])
          refine wpAnyN_one (i := 5) (o := { dst := some 20, op := Go.Op.call { callee := Go.Callee.value (Go.Operand.func 75), args := #[Go.Operand.tmp 19], argTypes := #[113] }, type := 64, pos := "kinds.go:44", after := #[{ on := 4, ground := Go.Ground.data }, { on := 3, ground := Go.Ground.chain }], guard := none }) (by kernel_rfl) rfl (fun K hK => ?_)
          go_simp
          refine (HRow.out _ _ _ _).mono ?_
          rintro e X5 ⟨q8, rfl, _, _, hb⟩
          have B5 := Lib.hid (B6.out.go hb)
          clear hb
          refine hK.out _ _ (fun _ => B5.out.below) ?_
          clear hK K
          (try simp only [Act.put, List.setIfInBounds_toArray, List.set_cons_zero, List.set_cons_succ])
          have HB := Lib.hid B5.out
          refine wpAnyN_one (i := 7) (o := { dst := none, op := Go.Op.store 64 (Go.Operand.tmp 7) (Go.Operand.tmp 20), type := 0, pos := "kinds.go:44", after := #[{ on := 6, ground := Go.Ground.data }, { on := 5, ground := Go.Ground.data }, { on := 5, ground := Go.Ground.chain }, { on := 0, ground := Go.Ground.phase }, { on := 1, ground := Go.Ground.phase }, { on := 2, ground := Go.Ground.phase }, { on := 3, ground := Go.Ground.phase }, { on := 4, ground := Go.Ground.phase }, { on := 5, ground := Go.Ground.phase }, { on := 6, ground := Go.Ground.phase }], guard := none }) (by kernel_rfl) rfl (fun K hK => ?_)
          refine wp_store_row 64 _ _ rfl (X3.heap.size + 1) #[fnV 94 #[ptr q8], fnV 95 #[ptr q8], fnV 96 #[ptr q8], fnV 97 #[ptr q8]] rfl rfl 64 _ (HB.out.kept _ List.mem_cons_self) Tryz.sizePart rfl (by simp [Value.oneCell']) ?_
          refine hK.out _ _ (fun e => absurd (e.symm.trans (by kernel_rfl) : false = true) Bool.false_ne_true) ?_
          clear hK K
          (try simp only [Act.put])
          refine wpAnyN_of_H (S' := fun _ => True) _ _ _ _ (by kernel_rfl) ?_
          refine wpAnyH_done (by kernel_rfl) ?_ _
          go_wp2_with fail
          go_meet
          exact ⟨_, q8, _, rfl, rfl, KB.leaf HW7.out HB.out (by first | exact B4.out.below.size | (have h := B4.out.below.size; simp at h; exact h)) _⟩
      · go_simp
        have B6 := Lib.hid (B3.out.box (.cells #[.nilFunc, .nilFunc, .nilFunc, .nilFunc] 64))
        refine hK.out _ _ (fun _ => B6.out.below) ?_
        clear hK K
        (try simp only [Act.put, List.setIfInBounds_toArray, List.set_cons_zero, List.set_cons_succ])
        refine wpAnyN_one (i := 4) (o := { dst := some 19, op := Go.Op.buildSlice 113 4 #[(0, Go.Operand.tmp 15), (1, Go.Operand.tmp 16), (2, Go.Operand.tmp 17), (3, Go.Operand.tmp 18)], type := 113, pos := "kinds.go:44", after := #[{ on := 0, ground := Go.Ground.data }, { on := 1, ground := Go.Ground.data }, { on := 2, ground := Go.Ground.data }, { on := 3, ground := Go.Ground.data }], guard := none }) (by kernel_rfl) rfl (fun K hK => ?_)
        go_simp
        have B4 := Lib.hid (B6.out.go ((Below.refl _ _).alloc (Nat.le_refl _) (.cells #[fnV 83 #[ptr p1], fnV 84 #[ptr p1], fnV 85 #[ptr p1], fnV 86 #[ptr p1], fnV 83 #[ptr p2], fnV 84 #[ptr p2], fnV 85 #[ptr p2], fnV 86 #[ptr p2], fnV 74 #[], fnV 84 #[ptr p3], fnV 85 #[ptr p3], fnV 86 #[ptr p3], fnV 98 #[], fnV 101 #[], fnV 102 #[], fnV 104 #[]] 64)))
        refine hK.out _ _ (fun _ => B4.out.below) ?_
        clear hK K
        (try simp only [Act.put, List.setIfInBounds_toArray, List.set_cons_zero, List.set_cons_succ])
        refine wpAnyN_one (i := 5) (o := { dst := some 20, op := Go.Op.call { callee := Go.Callee.value (Go.Operand.func 75), args := #[Go.Operand.tmp 19], argTypes := #[113] }, type := 64, pos := "kinds.go:44", after := #[{ on := 4, ground := Go.Ground.data }, { on := 3, ground := Go.Ground.chain }], guard := none }) (by kernel_rfl) rfl (fun K hK => ?_)
        go_simp
        refine (HRow.out _ _ _ _).mono ?_
        rintro e X5 ⟨q8, rfl, _, _, hb⟩
        have B5 := Lib.hid (B4.out.go hb)
        clear hb
        refine hK.out _ _ (fun _ => B5.out.below) ?_
        clear hK K
        (try simp only [Act.put, List.setIfInBounds_toArray, List.set_cons_zero, List.set_cons_succ])
        have HB := Lib.hid B5.out
        refine wpAnyN_one (i := 7) (o := { dst := none, op := Go.Op.store 64 (Go.Operand.tmp 7) (Go.Operand.tmp 20), type := 0, pos := "kinds.go:44", after := #[{ on := 6, ground := Go.Ground.data }, { on := 5, ground := Go.Ground.data }, { on := 5, ground := Go.Ground.chain }, { on := 0, ground := Go.Ground.phase }, { on := 1, ground := Go.Ground.phase }, { on := 2, ground := Go.Ground.phase }, { on := 3, ground := Go.Ground.phase }, { on := 4, ground := Go.Ground.phase }, { on := 5, ground := Go.Ground.phase }, { on := 6, ground := Go.Ground.phase }], guard := none }) (by kernel_rfl) rfl (fun K hK => ?_)
        refine wp_store_row 64 _ _ rfl (X3.heap.size) #[fnV 94 #[ptr q8], fnV 95 #[ptr q8], fnV 96 #[ptr q8], fnV 97 #[ptr q8]] rfl rfl 64 _ (HB.out.kept _ List.mem_cons_self) Tryz.sizePart rfl (by simp [Value.oneCell']) ?_
        refine hK.out _ _ (fun e => absurd (e.symm.trans (by kernel_rfl) : false = true) Bool.false_ne_true) ?_
        clear hK K
        (try simp only [Act.put])
        refine wpAnyN_of_H (S' := fun _ => True) _ _ _ _ (by kernel_rfl) ?_
        refine wpAnyH_done (by kernel_rfl) ?_ _
        go_wp2_with fail
        go_meet
        exact ⟨_, q8, _, rfl, rfl, KB.leaf HW7.out HB.out (by first | exact B3.out.below.size | (have h := B3.out.below.size; simp at h; exact h)) _⟩
    · go_simp
      have B6 := Lib.hid (B7.out.box (.cells #[.nilFunc, .nilFunc, .nilFunc, .nilFunc] 64))
      refine hK.out _ _ (fun _ => B6.out.below) ?_
      clear hK K
      (try simp only [Act.put, List.setIfInBounds_toArray, List.set_cons_zero, List.set_cons_succ])
      refine wpAnyN_one (i := 3) (o := { dst := some 18, op := Go.Op.call { callee := Go.Callee.value (Go.Operand.func 76), args := #[], argTypes := #[] }, type := 64, pos := "kinds.go:44", after := #[], guard := none }) (by kernel_rfl) rfl (fun K hK => ?_)
      go_simp
      refine (uidsPart_any _).mono ?_
      rintro e X3 ⟨rfl, hb⟩
      have B3 := Lib.hid (B6.out.go hb)
      clear hb
      refine hK.out _ _ (fun _ => B3.out.below) ?_
      clear hK K
      (try simp only [Act.put, List.setIfInBounds_toArray, List.set_cons_zero, List.set_cons_succ])
      refine wpAnyN_one (i := 4) (o := { dst := some 19, op := Go.Op.buildSlice 113 4 #[(0, Go.Operand.tmp 15), (1, Go.Operand.tmp 16), (2, Go.Operand.tmp 17), (3, Go.Operand.tmp 18)], type := 113, pos := "kinds.go:44", after := #[{ on := 0, ground := Go.Ground.data }, { on := 1, ground := Go.Ground.data }, { on := 2, ground := Go.Ground.data }, { on := 3, ground := Go.Ground.data }], guard := none }) (by kernel_rfl) rfl (fun K hK => ?_)
      go_simp
      have B4 := Lib.hid (B3.out.go ((Below.refl _ _).alloc (Nat.le_refl _) (.cells #[fnV 83 #[ptr p1], fnV 84 #[ptr p1], fnV 85 #[ptr p1], fnV 86 #[ptr p1], fnV 83 #[ptr p2], fnV 84 #[ptr p2], fnV 85 #[ptr p2], fnV 86 #[ptr p2], fnV 74 #[], fnV 84 #[ptr p3], fnV 85 #[ptr p3], fnV 86 #[ptr p3], fnV 98 #[], fnV 101 #[], fnV 102 #[], fnV 104 #[]] 64)))
      refine hK.out _ _ (fun _ => B4.out.below) ?_
      clear hK K
      (try simp only [Act.put, List.setIfInBounds_toArray, List.set_cons_zero, List.set_cons_succ])
      refine wpAnyN_one (i := 5) (o := { dst := some 20, op := Go.Op.call { callee := Go.Callee.value (Go.Operand.func 75), args := #[Go.Operand.tmp 19], argTypes := #[113] }, type := 64, pos := "kinds.go:44", after := #[{ on := 4, ground := Go.Ground.data }, { on := 3, ground := Go.Ground.chain }], guard := none }) (by kernel_rfl) rfl (fun K hK => ?_)
      go_simp
      refine (HRow.out _ _ _ _).mono ?_
      rintro e X5 ⟨q8, rfl, _, _, hb⟩
      have B5 := Lib.hid (B4.out.go hb)
      clear hb
      refine hK.out _ _ (fun _ => B5.out.below) ?_
      clear hK K
      (try simp only [Act.put, List.setIfInBounds_toArray, List.set_cons_zero, List.set_cons_succ])
      have HB := Lib.hid B5.out
      refine wpAnyN_one (i := 7) (o := { dst := none, op := Go.Op.store 64 (Go.Operand.tmp 7) (Go.Operand.tmp 20), type := 0, pos := "kinds.go:44", after := #[{ on := 6, ground := Go.Ground.data }, { on := 5, ground := Go.Ground.data }, { on := 5, ground := Go.Ground.chain }, { on := 0, ground := Go.Ground.phase }, { on := 1, ground := Go.Ground.phase }, { on := 2, ground := Go.Ground.phase }, { on := 3, ground := Go.Ground.phase }, { on := 4, ground := Go.Ground.phase }, { on := 5, ground := Go.Ground.phase }, { on := 6, ground := Go.Ground.phase }], guard := none }) (by kernel_rfl) rfl (fun K hK => ?_)
      refine wp_store_row 64 _ _ rfl (W7.drew.heap.size) #[fnV 94 #[ptr q8], fnV 95 #[ptr q8], fnV 96 #[ptr q8], fnV 97 #[ptr q8]] rfl rfl 64 _ (HB.out.kept _ List.mem_cons_self) Tryz.sizePart rfl (by simp [Value.oneCell']) ?_
      refine hK.out _ _ (fun e => absurd (e.symm.trans (by kernel_rfl) : false = true) Bool.false_ne_true) ?_
      clear hK K
      (try simp only [Act.put])
      refine wpAnyN_of_H (S' := fun _ => True) _ _ _ _ (by kernel_rfl) ?_
      refine wpAnyH_done (by kernel_rfl) ?_ _
      go_wp2_with fail
      go_meet
      exact ⟨_, q8, _, rfl, rfl, KB.leaf HW7.out HB.out (by first | exact B7.out.below.size | (have h := B7.out.below.size; simp at h; exact h)) _⟩
  case rest =>
  obtain ⟨p7, q8, W9, hY, rfl, hKB⟩ := hcut
  subst hY
  have HW9 := Lib.hid hKB
  clear hKB HL8 B7 HW7 C7
  have B9 : Hid (KB W9 [] W9.drew) := Lib.hid ⟨(Below.refl _ _).drew, fun x hx => by cases hx⟩
  have HL9 := Lib.hid (fun X (hX : Below W9.heap.size W9 X) => And.intro (part_cells ((HW9.out.go hX).kept (w1.heap.size, _) (List.mem_cons_of_mem _ (List.mem_cons_of_mem _ (List.mem_cons_of_mem _ (List.mem_cons_of_mem _ (List.mem_cons_of_mem _ (List.mem_cons_of_mem _ (List.mem_cons_of_mem _ (List.mem_cons_of_mem _ (List.mem_cons_of_mem _ (List.mem_cons_of_mem _ (List.mem_cons_self))))))))))))) (And.intro (part_cells ((HW9.out.go hX).kept (w3.heap.size, _) (List.mem_cons_of_mem _ (List.mem_cons_of_mem _ (List.mem_cons_of_mem _ (List.mem_cons_of_mem _ (List.mem_cons_of_mem _ (List.mem_cons_of_mem _ (List.mem_cons_of_mem _ (List.mem_cons_of_mem _ (List.mem_cons_self))))))))))) (And.intro (part_cells ((HW9.out.go hX).kept (w5.heap.size, _) (List.mem_cons_of_mem _ (List.mem_cons_of_mem _ (List.mem_cons_self))))) (And.intro (part_cells ((HW9.out.go hX).kept (p7, _) (List.mem_cons_self))) (part_cells ((HW9.out.go hX).kept (w4.heap.size, _) (List.mem_cons_of_mem _ (List.mem_cons_of_mem _ (List.mem_cons_of_mem _ (List.mem_cons_of_mem _ (List.mem_cons_of_mem _ (List.mem_cons_self))))))))))))
  go_upto_region 9 with fail
  refine wp_region_N 30 (fun X => Below W9.heap.size W9 X) (by kernel_rfl) ?_
  refine wpAnyN_take (i := 1) (oi := { dst := some 22, op := Go.Op.load 64 (Go.Operand.tmp 1), type := 64, pos := "kinds.go:45", after := #[], guard := none }) (oL := { dst := none, op := Go.Op.store 98 (Go.Operand.tmp 0) (Go.Operand.tmp 50), type := 0, pos := "kinds.go:45", after := #[{ on := 29, ground := Go.Ground.data }, { on := 24, ground := Go.Ground.chain }, { on := 0, ground := Go.Ground.phase }, { on := 1, ground := Go.Ground.phase }, { on := 2, ground := Go.Ground.phase }, { on := 3, ground := Go.Ground.phase }, { on := 4, ground := Go.Ground.phase }, { on := 5, ground := Go.Ground.phase }, { on := 6, ground := Go.Ground.phase }, { on := 7, ground := Go.Ground.phase }, { on := 8, ground := Go.Ground.phase }, { on := 9, ground := Go.Ground.phase }, { on := 10, ground := Go.Ground.phase }, { on := 11, ground := Go.Ground.phase }, { on := 12, ground := Go.Ground.phase }, { on := 13, ground := Go.Ground.phase }, { on := 14, ground := Go.Ground.phase }, { on := 15, ground := Go.Ground.phase }, { on := 16, ground := Go.Ground.phase }, { on := 17, ground := Go.Ground.phase }, { on := 18, ground := Go.Ground.phase }, { on := 19, ground := Go.Ground.phase }, { on := 20, ground := Go.Ground.phase }, { on := 21, ground := Go.Ground.phase }, { on := 22, ground := Go.Ground.phase }, { on := 23, ground := Go.Ground.phase }, { on := 24, ground := Go.Ground.phase }, { on := 25, ground := Go.Ground.phase }, { on := 26, ground := Go.Ground.phase }, { on := 27, ground := Go.Ground.phase }, { on := 28, ground := Go.Ground.phase }, { on := 29, ground := Go.Ground.phase }], guard := none }) (v := .agg #[fnV 83 #[ptr p1], fnV 84 #[ptr p1], fnV 85 #[ptr p1], fnV 86 #[ptr p1]]) rfl rfl (by kernel_rfl) (by kernel_rfl) (by kernel_rfl) (by kernel_rfl) (fun _ _ _ h => h) (Or.inl ⟨by kernel_rfl, ?_⟩) (Below.refl _ _).drew ?_
  · (intro X hX; obtain ⟨⟨a0, a1, a2, a3⟩, ⟨b0, b1, b2, b3⟩, ⟨c0, c1, c2, c3⟩, ⟨d0, d1, d2, d3⟩, ⟨e0, e1, e2, e3⟩⟩ := HL9.out X hX <;> (go_simp; try (with_reducible rfl)))
  (try simp only [Act.put, List.setIfInBounds_toArray, List.set_cons_zero, List.set_cons_succ])
  refine wpAnyN_take (i := 2) (oi := { dst := some 23, op := Go.Op.load 64 (Go.Operand.tmp 1), type := 64, pos := "kinds.go:45", after := #[], guard := none }) (oL := { dst := none, op := Go.Op.store 98 (Go.Operand.tmp 0) (Go.Operand.tmp 50), type := 0, pos := "kinds.go:45", after := #[{ on := 29, ground := Go.Ground.data }, { on := 24, ground := Go.Ground.chain }, { on := 0, ground := Go.Ground.phase }, { on := 1, ground := Go.Ground.phase }, { on := 2, ground := Go.Ground.phase }, { on := 3, ground := Go.Ground.phase }, { on := 4, ground := Go.Ground.phase }, { on := 5, ground := Go.Ground.phase }, { on := 6, ground := Go.Ground.phase }, { on := 7, ground := Go.Ground.phase }, { on := 8, ground := Go.Ground.phase }, { on := 9, ground := Go.Ground.phase }, { on := 10, ground := Go.Ground.phase }, { on := 11, ground := Go.Ground.phase }, { on := 12, ground := Go.Ground.phase }, { on := 13, ground := Go.Ground.phase }, { on := 14, ground := Go.Ground.phase }, { on := 15, ground := Go.Ground.phase }, { on := 16, ground := Go.Ground.phase }, { on := 17, ground := Go.Ground.phase }, { on := 18, ground := Go.Ground.phase }, { on := 19, ground := Go.Ground.phase }, { on := 20, ground := Go.Ground.phase }, { on := 21, ground := Go.Ground.phase }, { on := 22, ground := Go.Ground.phase }, { on := 23, ground := Go.Ground.phase }, { on := 24, ground := Go.Ground.phase }, { on := 25, ground := Go.Ground.phase }, { on := 26, ground := Go.Ground.phase }, { on := 27, ground := Go.Ground.phase }, { on := 28, ground := Go.Ground.phase }, { on := 29, ground := Go.Ground.phase }], guard := none }) (v := .agg #[fnV 83 #[ptr p1], fnV 84 #[ptr p1], fnV 85 #[ptr p1], fnV 86 #[ptr p1]]) rfl rfl (by kernel_rfl) (by kernel_rfl) (by kernel_rfl) (by kernel_rfl) (fun _ _ _ h => h) (Or.inl ⟨by kernel_rfl, ?_⟩) (Below.refl _ _).drew ?_
  · (intro X hX; obtain ⟨⟨a0, a1, a2, a3⟩, ⟨b0, b1, b2, b3⟩, ⟨c0, c1, c2, c3⟩, ⟨d0, d1, d2, d3⟩, ⟨e0, e1, e2, e3⟩⟩ := HL9.out X hX <;> (go_simp; try (with_reducible rfl)))
  (try simp only [Act.put, List.setIfInBounds_toArray, List.set_cons_zero, List.set_cons_succ])
  refine wpAnyN_take (i := 6) (oi := { dst := some 27, op := Go.Op.load 64 (Go.Operand.tmp 1), type := 64, pos := "kinds.go:45", after := #[], guard := none }) (oL := { dst := none, op := Go.Op.store 98 (Go.Operand.tmp 0) (Go.Operand.tmp 50), type := 0, pos := "kinds.go:45", after := #[{ on := 29, ground := Go.Ground.data }, { on := 24, ground := Go.Ground.chain }, { on := 0, ground := Go.Ground.phase }, { on := 1, ground := Go.Ground.phase }, { on := 2, ground := Go.Ground.phase }, { on := 3, ground := Go.Ground.phase }, { on := 4, ground := Go.Ground.phase }, { on := 5, ground := Go.Ground.phase }, { on := 6, ground := Go.Ground.phase }, { on := 7, ground := Go.Ground.phase }, { on := 8, ground := Go.Ground.phase }, { on := 9, ground := Go.Ground.phase }, { on := 10, ground := Go.Ground.phase }, { on := 11, ground := Go.Ground.phase }, { on := 12, ground := Go.Ground.phase }, { on := 13, ground := Go.Ground.phase }, { on := 14, ground := Go.Ground.phase }, { on := 15, ground := Go.Ground.phase }, { on := 16, ground := Go.Ground.phase }, { on := 17, ground := Go.Ground.phase }, { on := 18, ground := Go.Ground.phase }, { on := 19, ground := Go.Ground.phase }, { on := 20, ground := Go.Ground.phase }, { on := 21, ground := Go.Ground.phase }, { on := 22, ground := Go.Ground.phase }, { on := 23, ground := Go.Ground.phase }, { on := 24, ground := Go.Ground.phase }, { on := 25, ground := Go.Ground.phase }, { on := 26, ground := Go.Ground.phase }, { on := 27, ground := Go.Ground.phase }, { on := 28, ground := Go.Ground.phase }, { on := 29, ground := Go.Ground.phase }], guard := none }) (v := .agg #[fnV 83 #[ptr p1], fnV 84 #[ptr p1], fnV 85 #[ptr p1], fnV 86 #[ptr p1]]) rfl rfl (by kernel_rfl) (by kernel_rfl) (by kernel_rfl) (by kernel_rfl) (fun _ _ _ h => h) (Or.inl ⟨by kernel_rfl, ?_⟩) (Below.refl _ _).drew ?_
  · (intro X hX; obtain ⟨⟨a0, a1, a2, a3⟩, ⟨b0, b1, b2, b3⟩, ⟨c0, c1, c2, c3⟩, ⟨d0, d1, d2, d3⟩, ⟨e0, e1, e2, e3⟩⟩ := HL9.out X hX <;> (go_simp; try (with_reducible rfl)))
  (try simp only [Act.put, List.setIfInBounds_toArray, List.set_cons_zero, List.set_cons_succ])
  refine wpAnyN_take (i := 10) (oi := { dst := some 31, op := Go.Op.load 64 (Go.Operand.tmp 1), type := 64, pos := "kinds.go:45", after := #[], guard := none }) (oL := { dst := none, op := Go.Op.store 98 (Go.Operand.tmp 0) (Go.Operand.tmp 50), type := 0, pos := "kinds.go:45", after := #[{ on := 29, ground := Go.Ground.data }, { on := 24, ground := Go.Ground.chain }, { on := 0, ground := Go.Ground.phase }, { on := 1, ground := Go.Ground.phase }, { on := 2, ground := Go.Ground.phase }, { on := 3, ground := Go.Ground.phase }, { on := 4, ground := Go.Ground.phase }, { on := 5, ground := Go.Ground.phase }, { on := 6, ground := Go.Ground.phase }, { on := 7, ground := Go.Ground.phase }, { on := 8, ground := Go.Ground.phase }, { on := 9, ground := Go.Ground.phase }, { on := 10, ground := Go.Ground.phase }, { on := 11, ground := Go.Ground.phase }, { on := 12, ground := Go.Ground.phase }, { on := 13, ground := Go.Ground.phase }, { on := 14, ground := Go.Ground.phase }, { on := 15, ground := Go.Ground.phase }, { on := 16, ground := Go.Ground.phase }, { on := 17, ground := Go.Ground.phase }, { on := 18, ground := Go.Ground.phase }, { on := 19, ground := Go.Ground.phase }, { on := 20, ground := Go.Ground.phase }, { on := 21, ground := Go.Ground.phase }, { on := 22, ground := Go.Ground.phase }, { on := 23, ground := Go.Ground.phase }, { on := 24, ground := Go.Ground.phase }, { on := 25, ground := Go.Ground.phase }, { on := 26, ground := Go.Ground.phase }, { on := 27, ground := Go.Ground.phase }, { on := 28, ground := Go.Ground.phase }, { on := 29, ground := Go.Ground.phase }], guard := none }) (v := .agg #[fnV 83 #[ptr p1], fnV 84 #[ptr p1], fnV 85 #[ptr p1], fnV 86 #[ptr p1]]) rfl rfl (by kernel_rfl) (by kernel_rfl) (by kernel_rfl) (by kernel_rfl) (fun _ _ _ h => h) (Or.inl ⟨by kernel_rfl, ?_⟩) (Below.refl _ _).drew ?_
  · (intro X hX; obtain ⟨⟨a0, a1, a2, a3⟩, ⟨b0, b1, b2, b3⟩, ⟨c0, c1, c2, c3⟩, ⟨d0, d1, d2, d3⟩, ⟨e0, e1, e2, e3⟩⟩ := HL9.out X hX <;> (go_simp; try (with_reducible rfl)))
  (try simp only [Act.put, List.setIfInBounds_toArray, List.set_cons_zero, List.set_cons_succ])
  refine wpAnyN_take (i := 11) (oi := { dst := some 32, op := Go.Op.load 64 (Go.Operand.tmp 3), type := 64, pos := "kinds.go:45", after := #[], guard := none }) (oL := { dst := none, op := Go.Op.store 98 (Go.Operand.tmp 0) (Go.Operand.tmp 50), type := 0, pos := "kinds.go:45", after := #[{ on := 29, ground := Go.Ground.data }, { on := 24, ground := Go.Ground.chain }, { on := 0, ground := Go.Ground.phase }, { on := 1, ground := Go.Ground.phase }, { on := 2, ground := Go.Ground.phase }, { on := 3, ground := Go.Ground.phase }, { on := 4, ground := Go.Ground.phase }, { on := 5, ground := Go.Ground.phase }, { on := 6, ground := Go.Ground.phase }, { on := 7, ground := Go.Ground.phase }, { on := 8, ground := Go.Ground.phase }, { on := 9, ground := Go.Ground.phase }, { on := 10, ground := Go.Ground.phase }, { on := 11, ground := Go.Ground.phase }, { on := 12, ground := Go.Ground.phase }, { on := 13, ground := Go.Ground.phase }, { on := 14, ground := Go.Ground.phase }, { on := 15, ground := Go.Ground.phase }, { on := 16, ground := Go.Ground.phase }, { on := 17, ground := Go.Ground.phase }, { on := 18, ground := Go.Ground.phase }, { on := 19, ground := Go.Ground.phase }, { on := 20, ground := Go.Ground.phase }, { on := 21, ground := Go.Ground.phase }, { on := 22, ground := Go.Ground.phase }, { on := 23, ground := Go.Ground.phase }, { on := 24, ground := Go.Ground.phase }, { on := 25, ground := Go.Ground.phase }, { on := 26, ground := Go.Ground.phase }, { on := 27, ground := Go.Ground.phase }, { on := 28, ground := Go.Ground.phase }, { on := 29, ground := Go.Ground.phase }], guard := none }) (v := .agg #[fnV 83 #[ptr p3], fnV 84 #[ptr p3], fnV 85 #[ptr p3], fnV 86 #[ptr p3]]) rfl rfl (by kernel_rfl) (by kernel_rfl) (by kernel_rfl) (by kernel_rfl) (fun _ _ _ h => h) (Or.inl ⟨by kernel_rfl, ?_⟩) (Below.refl _ _).drew ?_
  · (intro X hX; obtain ⟨⟨a0, a1, a2, a3⟩, ⟨b0, b1, b2, b3⟩, ⟨c0, c1, c2, c3⟩, ⟨d0, d1, d2, d3⟩, ⟨e0, e1, e2, e3⟩⟩ := HL9.out X hX <;> (go_simp; try (with_reducible rfl)))
  (try simp only [Act.put, List.setIfInBounds_toArray, List.set_cons_zero, List.set_cons_succ])
  refine wpAnyN_take (i := 14) (oi := { dst := some 35, op := Go.Op.load 64 (Go.Operand.tmp 5), type := 64, pos := "kinds.go:45", after := #[], guard := none }) (oL := { dst := none, op := Go.Op.store 98 (Go.Operand.tmp 0) (Go.Operand.tmp 50), type := 0, pos := "kinds.go:45", after := #[{ on := 29, ground := Go.Ground.data }, { on := 24, ground := Go.Ground.chain }, { on := 0, ground := Go.Ground.phase }, { on := 1, ground := Go.Ground.phase }, { on := 2, ground := Go.Ground.phase }, { on := 3, ground := Go.Ground.phase }, { on := 4, ground := Go.Ground.phase }, { on := 5, ground := Go.Ground.phase }, { on := 6, ground := Go.Ground.phase }, { on := 7, ground := Go.Ground.phase }, { on := 8, ground := Go.Ground.phase }, { on := 9, ground := Go.Ground.phase }, { on := 10, ground := Go.Ground.phase }, { on := 11, ground := Go.Ground.phase }, { on := 12, ground := Go.Ground.phase }, { on := 13, ground := Go.Ground.phase }, { on := 14, ground := Go.Ground.phase }, { on := 15, ground := Go.Ground.phase }, { on := 16, ground := Go.Ground.phase }, { on := 17, ground := Go.Ground.phase }, { on := 18, ground := Go.Ground.phase }, { on := 19, ground := Go.Ground.phase }, { on := 20, ground := Go.Ground.phase }, { on := 21, ground := Go.Ground.phase }, { on := 22, ground := Go.Ground.phase }, { on := 23, ground := Go.Ground.phase }, { on := 24, ground := Go.Ground.phase }, { on := 25, ground := Go.Ground.phase }, { on := 26, ground := Go.Ground.phase }, { on := 27, ground := Go.Ground.phase }, { on := 28, ground := Go.Ground.phase }, { on := 29, ground := Go.Ground.phase }], guard := none }) (v := .agg #[fnV 87 #[ptr q5, ptr p5], fnV 88 #[ptr p5], fnV 90 #[ptr p5], fnV 92 #[ptr p5]]) rfl rfl (by kernel_rfl) (by kernel_rfl) (by kernel_rfl) (by kernel_rfl) (fun _ _ _ h => h) (Or.inl ⟨by kernel_rfl, ?_⟩) (Below.refl _ _).drew ?_
  · (intro X hX; obtain ⟨⟨a0, a1, a2, a3⟩, ⟨b0, b1, b2, b3⟩, ⟨c0, c1, c2, c3⟩, ⟨d0, d1, d2, d3⟩, ⟨e0, e1, e2, e3⟩⟩ := HL9.out X hX <;> (go_simp; try (with_reducible rfl)))
  (try simp only [Act.put, List.setIfInBounds_toArray, List.set_cons_zero, List.set_cons_succ])
  refine wpAnyN_take (i := 17) (oi := { dst := some 38, op := Go.Op.load 64 (Go.Operand.tmp 1), type := 64, pos := "kinds.go:45", after := #[], guard := none }) (oL := { dst := none, op := Go.Op.store 98 (Go.Operand.tmp 0) (Go.Operand.tmp 50), type := 0, pos := "kinds.go:45", after := #[{ on := 29, ground := Go.Ground.data }, { on := 24, ground := Go.Ground.chain }, { on := 0, ground := Go.Ground.phase }, { on := 1, ground := Go.Ground.phase }, { on := 2, ground := Go.Ground.phase }, { on := 3, ground := Go.Ground.phase }, { on := 4, ground := Go.Ground.phase }, { on := 5, ground := Go.Ground.phase }, { on := 6, ground := Go.Ground.phase }, { on := 7, ground := Go.Ground.phase }, { on := 8, ground := Go.Ground.phase }, { on := 9, ground := Go.Ground.phase }, { on := 10, ground := Go.Ground.phase }, { on := 11, ground := Go.Ground.phase }, { on := 12, ground := Go.Ground.phase }, { on := 13, ground := Go.Ground.phase }, { on := 14, ground := Go.Ground.phase }, { on := 15, ground := Go.Ground.phase }, { on := 16, ground := Go.Ground.phase }, { on := 17, ground := Go.Ground.phase }, { on := 18, ground := Go.Ground.phase }, { on := 19, ground := Go.Ground.phase }, { on := 20, ground := Go.Ground.phase }, { on := 21, ground := Go.Ground.phase }, { on := 22, ground := Go.Ground.phase }, { on := 23, ground := Go.Ground.phase }, { on := 24, ground := Go.Ground.phase }, { on := 25, ground := Go.Ground.phase }, { on := 26, ground := Go.Ground.phase }, { on := 27, ground := Go.Ground.phase }, { on := 28, ground := Go.Ground.phase }, { on := 29, ground := Go.Ground.phase }], guard := none }) (v := .agg #[fnV 83 #[ptr p1], fnV 84 #[ptr p1], fnV 85 #[ptr p1], fnV 86 #[ptr p1]]) rfl rfl (by kernel_rfl) (by kernel_rfl) (by kernel_rfl) (by kernel_rfl) (fun _ _ _ h => h) (Or.inl ⟨by kernel_rfl, ?_⟩) (Below.refl _ _).drew ?_
  · (intro X hX; obtain ⟨⟨a0, a1, a2, a3⟩, ⟨b0, b1, b2, b3⟩, ⟨c0, c1, c2, c3⟩, ⟨d0, d1, d2, d3⟩, ⟨e0, e1, e2, e3⟩⟩ := HL9.out X hX <;> (go_simp; try (with_reducible rfl)))
  (try simp only [Act.put, List.setIfInBounds_toArray, List.set_cons_zero, List.set_cons_succ])
  refine wpAnyN_take (i := 21) (oi := { dst := some 42, op := Go.Op.load 64 (Go.Operand.tmp 1), type := 64, pos := "kinds.go:45", after := #[], guard := none }) (oL := { dst := none, op := Go.Op.store 98 (Go.Operand.tmp 0) (Go.Operand.tmp 50), type := 0, pos := "kinds.go:45", after := #[{ on := 29, ground := Go.Ground.data }, { on := 24, ground := Go.Ground.chain }, { on := 0, ground := Go.Ground.phase }, { on := 1, ground := Go.Ground.phase }, { on := 2, ground := Go.Ground.phase }, { on := 3, ground := Go.Ground.phase }, { on := 4, ground := Go.Ground.phase }, { on := 5, ground := Go.Ground.phase }, { on := 6, ground := Go.Ground.phase }, { on := 7, ground := Go.Ground.phase }, { on := 8, ground := Go.Ground.phase }, { on := 9, ground := Go.Ground.phase }, { on := 10, ground := Go.Ground.phase }, { on := 11, ground := Go.Ground.phase }, { on := 12, ground := Go.Ground.phase }, { on := 13, ground := Go.Ground.phase }, { on := 14, ground := Go.Ground.phase }, { on := 15, ground := Go.Ground.phase }, { on := 16, ground := Go.Ground.phase }, { on := 17, ground := Go.Ground.phase }, { on := 18, ground := Go.Ground.phase }, { on := 19, ground := Go.Ground.phase }, { on := 20, ground := Go.Ground.phase }, { on := 21, ground := Go.Ground.phase }, { on := 22, ground := Go.Ground.phase }, { on := 23, ground := Go.Ground.phase }, { on := 24, ground := Go.Ground.phase }, { on := 25, ground := Go.Ground.phase }, { on := 26, ground := Go.Ground.phase }, { on := 27, ground := Go.Ground.phase }, { on := 28, ground := Go.Ground.phase }, { on := 29, ground := Go.Ground.phase }], guard := none }) (v := .agg #[fnV 83 #[ptr p1], fnV 84 #[ptr p1], fnV 85 #[ptr p1], fnV 86 #[ptr p1]]) rfl rfl (by kernel_rfl) (by kernel_rfl) (by kernel_rfl) (by kernel_rfl) (fun _ _ _ h => h) (Or.inl ⟨by kernel_rfl, ?_⟩) (Below.refl _ _).drew ?_
  · (intro X hX; obtain ⟨⟨a0, a1, a2, a3⟩, ⟨b0, b1, b2, b3⟩, ⟨c0, c1, c2, c3⟩, ⟨d0, d1, d2, d3⟩, ⟨e0, e1, e2, e3⟩⟩ := HL9.out X hX <;> (go_simp; try (with_reducible rfl)))
  (try simp only [Act.put, List.setIfInBounds_toArray, List.set_cons_zero, List.set_cons_succ])
  refine wpAnyN_take (i := 25) (oi := { dst := some 46, op := Go.Op.load 64 (Go.Operand.tmp 7), type := 64, pos := "kinds.go:45", after := #[], guard := none }) (oL := { dst := none, op := Go.Op.store 98 (Go.Operand.tmp 0) (Go.Operand.tmp 50), type := 0, pos := "kinds.go:45", after := #[{ on := 29, ground := Go.Ground.data }, { on := 24, ground := Go.Ground.chain }, { on := 0, ground := Go.Ground.phase }, { on := 1, ground := Go.Ground.phase }, { on := 2, ground := Go.Ground.phase }, { on := 3, ground := Go.Ground.phase }, { on := 4, ground := Go.Ground.phase }, { on := 5, ground := Go.Ground.phase }, { on := 6, ground := Go.Ground.phase }, { on := 7, ground := Go.Ground.phase }, { on := 8, ground := Go.Ground.phase }, { on := 9, ground := Go.Ground.phase }, { on := 10, ground := Go.Ground.phase }, { on := 11, ground := Go.Ground.phase }, { on := 12, ground := Go.Ground.phase }, { on := 13, ground := Go.Ground.phase }, { on := 14, ground := Go.Ground.phase }, { on := 15, ground := Go.Ground.phase }, { on := 16, ground := Go.Ground.phase }, { on := 17, ground := Go.Ground.phase }, { on := 18, ground := Go.Ground.phase }, { on := 19, ground := Go.Ground.phase }, { on := 20, ground := Go.Ground.phase }, { on := 21, ground := Go.Ground.phase }, { on := 22, ground := Go.Ground.phase }, { on := 23, ground := Go.Ground.phase }, { on := 24, ground := Go.Ground.phase }, { on := 25, ground := Go.Ground.phase }, { on := 26, ground := Go.Ground.phase }, { on := 27, ground := Go.Ground.phase }, { on := 28, ground := Go.Ground.phase }, { on := 29, ground := Go.Ground.phase }], guard := none }) (v := .agg #[fnV 94 #[ptr q8], fnV 95 #[ptr q8], fnV 96 #[ptr q8], fnV 97 #[ptr q8]]) rfl rfl (by kernel_rfl) (by kernel_rfl) (by kernel_rfl) (by kernel_rfl) (fun _ _ _ h => h) (Or.inl ⟨by kernel_rfl, ?_⟩) (Below.refl _ _).drew ?_
  · (intro X hX; obtain ⟨⟨a0, a1, a2, a3⟩, ⟨b0, b1, b2, b3⟩, ⟨c0, c1, c2, c3⟩, ⟨d0, d1, d2, d3⟩, ⟨e0, e1, e2, e3⟩⟩ := HL9.out X hX <;> (go_simp; try (with_reducible rfl)))
  (try simp only [Act.put, List.setIfInBounds_toArray, List.set_cons_zero, List.set_cons_succ])
  refine wpAnyN_take (i := 26) (oi := { dst := some 47, op := Go.Op.load 64 (Go.Operand.tmp 7), type := 64, pos := "kinds.go:45", after := #[], guard := none }) (oL := { dst := none, op := Go.Op.store 98 (Go.Operand.tmp 0) (Go.Operand.tmp 50), type := 0, pos := "kinds.go:45", after := #[{ on := 29, ground := Go.Ground.data }, { on := 24, ground := Go.Ground.chain }, { on := 0, ground := Go.Ground.phase }, { on := 1, ground := Go.Ground.phase }, { on := 2, ground := Go.Ground.phase }, { on := 3, ground := Go.Ground.phase }, { on := 4, ground := Go.Ground.phase }, { on := 5, ground := Go.Ground.phase }, { on := 6, ground := Go.Ground.phase }, { on := 7, ground := Go.Ground.phase }, { on := 8, ground := Go.Ground.phase }, { on := 9, ground := Go.Ground.phase }, { on := 10, ground := Go.Ground.phase }, { on := 11, ground := Go.Ground.phase }, { on := 12, ground := Go.Ground.phase }, { on := 13, ground := Go.Ground.phase }, { on := 14, ground := Go.Ground.phase }, { on := 15, ground := Go.Ground.phase }, { on := 16, ground := Go.Ground.phase }, { on := 17, ground := Go.Ground.phase }, { on := 18, ground := Go.Ground.phase }, { on := 19, ground := Go.Ground.phase }, { on := 20, ground := Go.Ground.phase }, { on := 21, ground := Go.Ground.phase }, { on := 22, ground := Go.Ground.phase }, { on := 23, ground := Go.Ground.phase }, { on := 24, ground := Go.Ground.phase }, { on := 25, ground := Go.Ground.phase }, { on := 26, ground := Go.Ground.phase }, { on := 27, ground := Go.Ground.phase }, { on := 28, ground := Go.Ground.phase }, { on := 29, ground := Go.Ground.phase }], guard := none }) (v := .agg #[fnV 94 #[ptr q8], fnV 95 #[ptr q8], fnV 96 #[ptr q8], fnV 97 #[ptr q8]]) rfl rfl (by kernel_rfl) (by kernel_rfl) (by kernel_rfl) (by kernel_rfl) (fun _ _ _ h => h) (Or.inl ⟨by kernel_rfl, ?_⟩) (Below.refl _ _).drew ?_
  · (intro X hX; obtain ⟨⟨a0, a1, a2, a3⟩, ⟨b0, b1, b2, b3⟩, ⟨c0, c1, c2, c3⟩, ⟨d0, d1, d2, d3⟩, ⟨e0, e1, e2, e3⟩⟩ := HL9.out X hX <;> (go_simp; try (with_reducible rfl)))
  (try simp only [Act.put, List.setIfInBounds_toArray, List.set_cons_zero, List.set_cons_succ])
  refine wpAnyN_take (i := 27) (oi := { dst := some 48, op := Go.Op.load 64 (Go.Operand.tmp 4), type := 64, pos := "kinds.go:45", after := #[], guard := none }) (oL := { dst := none, op := Go.Op.store 98 (Go.Operand.tmp 0) (Go.Operand.tmp 50), type := 0, pos := "kinds.go:45", after := #[{ on := 29, ground := Go.Ground.data }, { on := 24, ground := Go.Ground.chain }, { on := 0, ground := Go.Ground.phase }, { on := 1, ground := Go.Ground.phase }, { on := 2, ground := Go.Ground.phase }, { on := 3, ground := Go.Ground.phase }, { on := 4, ground := Go.Ground.phase }, { on := 5, ground := Go.Ground.phase }, { on := 6, ground := Go.Ground.phase }, { on := 7, ground := Go.Ground.phase }, { on := 8, ground := Go.Ground.phase }, { on := 9, ground := Go.Ground.phase }, { on := 10, ground := Go.Ground.phase }, { on := 11, ground := Go.Ground.phase }, { on := 12, ground := Go.Ground.phase }, { on := 13, ground := Go.Ground.phase }, { on := 14, ground := Go.Ground.phase }, { on := 15, ground := Go.Ground.phase }, { on := 16, ground := Go.Ground.phase }, { on := 17, ground := Go.Ground.phase }, { on := 18, ground := Go.Ground.phase }, { on := 19, ground := Go.Ground.phase }, { on := 20, ground := Go.Ground.phase }, { on := 21, ground := Go.Ground.phase }, { on := 22, ground := Go.Ground.phase }, { on := 23, ground := Go.Ground.phase }, { on := 24, ground := Go.Ground.phase }, { on := 25, ground := Go.Ground.phase }, { on := 26, ground := Go.Ground.phase }, { on := 27, ground := Go.Ground.phase }, { on := 28, ground := Go.Ground.phase }, { on := 29, ground := Go.Ground.phase }], guard := none }) (v := .agg #[fnV 87 #[ptr q4, ptr p4], fnV 88 #[ptr p4], fnV 90 #[ptr p4], fnV 92 #[ptr p4]]) rfl rfl (by kernel_rfl) (by kernel_rfl) (by kernel_rfl) (by kernel_rfl) (fun _ _ _ h => h) (Or.inl ⟨by kernel_rfl, ?_⟩) (Below.refl _ _).drew ?_
  · (intro X hX; obtain ⟨⟨a0, a1, a2, a3⟩, ⟨b0, b1, b2, b3⟩, ⟨c0, c1, c2, c3⟩, ⟨d0, d1, d2, d3⟩, ⟨e0, e1, e2, e3⟩⟩ := HL9.out X hX <;> (go_simp; try (with_reducible rfl)))
  (try simp only [Act.put, List.setIfInBounds_toArray, List.set_cons_zero, List.set_cons_succ])
  refine wpAnyN_take (i := 28) (oi := { dst := some 49, op := Go.Op.load 64 (Go.Operand.tmp 4), type := 64, pos := "kinds.go:45", after := #[], guard := none }) (oL := { dst := none, op := Go.Op.store 98 (Go.Operand.tmp 0) (Go.Operand.tmp 50), type := 0, pos := "kinds.go:45", after := #[{ on := 29, ground := Go.Ground.data }, { on := 24, ground := Go.Ground.chain }, { on := 0, ground := Go.Ground.phase }, { on := 1, ground := Go.Ground.phase }, { on := 2, ground := Go.Ground.phase }, { on := 3, ground := Go.Ground.phase }, { on := 4, ground := Go.Ground.phase }, { on := 5, ground := Go.Ground.phase }, { on := 6, ground := Go.Ground.phase }, { on := 7, ground := Go.Ground.phase }, { on := 8, ground := Go.Ground.phase }, { on := 9, ground := Go.Ground.phase }, { on := 10, ground := Go.Ground.phase }, { on := 11, ground := Go.Ground.phase }, { on := 12, ground := Go.Ground.phase }, { on := 13, ground := Go.Ground.phase }, { on := 14, ground := Go.Ground.phase }, { on := 15, ground := Go.Ground.phase }, { on := 16, ground := Go.Ground.phase }, { on := 17, ground := Go.Ground.phase }, { on := 18, ground := Go.Ground.phase }, { on := 19, ground := Go.Ground.phase }, { on := 20, ground := Go.Ground.phase }, { on := 21, ground := Go.Ground.phase }, { on := 22, ground := Go.Ground.phase }, { on := 23, ground := Go.Ground.phase }, { on := 24, ground := Go.Ground.phase }, { on := 25, ground := Go.Ground.phase }, { on := 26, ground := Go.Ground.phase }, { on := 27, ground := Go.Ground.phase }, { on := 28, ground := Go.Ground.phase }, { on := 29, ground := Go.Ground.phase }], guard := none }) (v := .agg #[fnV 87 #[ptr q4, ptr p4], fnV 88 #[ptr p4], fnV 90 #[ptr p4], fnV 92 #[ptr p4]]) rfl rfl (by kernel_rfl) (by kernel_rfl) (by kernel_rfl) (by kernel_rfl) (fun _ _ _ h => h) (Or.inl ⟨by kernel_rfl, ?_⟩) (Below.refl _ _).drew ?_
  · (intro X hX; obtain ⟨⟨a0, a1, a2, a3⟩, ⟨b0, b1, b2, b3⟩, ⟨c0, c1, c2, c3⟩, ⟨d0, d1, d2, d3⟩, ⟨e0, e1, e2, e3⟩⟩ := HL9.out X hX <;> (go_simp; try (with_reducible rfl)))
  (try simp only [Act.put, List.setIfInBounds_toArray, List.set_cons_zero, List.set_cons_succ])
  refine wpAnyN_one (i := 0) (o := { dst := some 21, op := Go.Op.call { callee := Go.Callee.value (Go.Operand.func 77), args := #[], argTypes := #[] }, type := 64, pos := "kinds.go:46", after := #[], guard := none }) (by kernel_rfl) rfl (fun K hK => ?_)
  go_simp
  refine (namesPart_any _).mono ?_
  rintro e Y1 ⟨rfl, hb⟩
  have E1 := Lib.hid (B9.out.go hb)
  clear hb
  refine hK.out _ _ (fun _ => E1.out.below) ?_
  clear hK K
  (try simp only [Act.put, List.setIfInBounds_toArray, List.set_cons_zero, List.set_cons_succ])
  refine wpAnyN_one (i := 3) (o := { dst := some 24, op := Go.Op.call { callee := Go.Callee.value (Go.Operand.func 77), args := #[], argTypes := #[] }, type := 64, pos := "kinds.go:48", after := #[{ on := 0, ground := Go.Ground.chain }], guard := none }) (by kernel_rfl) rfl (fun K hK => ?_)
  go_simp
  refine (namesPart_any _).mono ?_
  rintro e Y2 ⟨rfl, hb⟩
  have E2 := Lib.hid (E1.out.go hb)
  clear hb
  refine hK.out _ _ (fun _ => E2.out.below) ?_
  clear hK K
  (try simp only [Act.put, List.setIfInBounds_toArray, List.set_cons_zero, List.set_cons_succ])
  refine wpAnyN_one (i := 4) (o := { dst := some 25, op := Go.Op.buildSlice 113 2 #[(0, Go.Operand.tmp 23), (1, Go.Operand.tmp 24)], type := 113, pos := "kinds.go:45", after := #[{ on := 2, ground := Go.Ground.data }, { on := 3, ground := Go.Ground.data }], guard := none }) (by kernel_rfl) rfl (fun K hK => ?_)
  go_simp
  have E3 := Lib.hid (E2.out.go ((Below.refl _ _).alloc (Nat.le_refl _) (.cells #[fnV 83 #[ptr p1], fnV 84 #[ptr p1], fnV 85 #[ptr p1], fnV 86 #[ptr p1], fnV 105 #[], fnV 108 #[], fnV 109 #[], fnV 110 #[]] 64)))
  refine hK.out _ _ (fun _ => E3.out.below) ?_
  clear hK K
  (try simp only [Act.put, List.setIfInBounds_toArray, List.set_cons_zero, List.set_cons_succ])
  refine wpAnyN_one (i := 5) (o := { dst := some 26, op := Go.Op.call { callee := Go.Callee.value (Go.Operand.func 75), args := #[Go.Operand.tmp 25], argTypes := #[113] }, type := 64, pos := "kinds.go:48", after := #[{ on := 4, ground := Go.Ground.data }, { on := 3, ground := Go.Ground.chain }], guard := none }) (by kernel_rfl) rfl (fun K hK => ?_)
  go_simp
  refine (HRow.out _ _ _ _).mono ?_
  rintro e Y4 ⟨q26, rfl, _, _, hb⟩
  have E4 := Lib.hid (E3.out.go hb)
  clear hb
  refine hK.out _ _ (fun _ => E4.out.below) ?_
  clear hK K
  (try simp only [Act.put, List.setIfInBounds_toArray, List.set_cons_zero, List.set_cons_succ])
  refine wpAnyN_one (i := 7) (o := { dst := some 28, op := Go.Op.call { callee := Go.Callee.value (Go.Operand.func 77), args := #[], argTypes := #[] }, type := 64, pos := "kinds.go:49", after := #[{ on := 5, ground := Go.Ground.chain }], guard := none }) (by kernel_rfl) rfl (fun K hK => ?_)
  go_simp
  refine (namesPart_any _).mono ?_
  rintro e Y5 ⟨rfl, hb⟩
  have E5 := Lib.hid (E4.out.go hb)
  clear hb
  refine hK.out _ _ (fun _ => E5.out.below) ?_
  clear hK K
  (try simp only [Act.put, List.setIfInBounds_toArray, List.set_cons_zero, List.set_cons_succ])
  refine wpAnyN_one (i := 8) (o := { dst := some 29, op := Go.Op.buildSlice 113 2 #[(0, Go.Operand.tmp 27), (1, Go.Operand.tmp 28)], type := 113, pos := "kinds.go:45", after := #[{ on := 6, ground := Go.Ground.data }, { on := 7, ground := Go.Ground.data }], guard := none }) (by kernel_rfl) rfl (fun K hK => ?_)
  go_simp
  have E6 := Lib.hid (E5.out.go ((Below.refl _ _).alloc (Nat.le_refl _) (.cells #[fnV 83 #[ptr p1], fnV 84 #[ptr p1], fnV 85 #[ptr p1], fnV 86 #[ptr p1], fnV 105 #[], fnV 108 #[], fnV 109 #[], fnV 110 #[]] 64)))
  refine hK.out _ _ (fun _ => E6.out.below) ?_
  clear hK K
  (try simp only [Act.put, List.setIfInBounds_toArray, List.set_cons_zero, List.set_cons_succ])
  refine wpAnyN_one (i := 9) (o := { dst := some 30, op := Go.Op.call { callee := Go.Callee.value (Go.Operand.func 75), args := #[Go.Operand.tmp 29], argTypes := #[113] }, type := 64, pos := "kinds.go:49", after := #[{ on := 8, ground := Go.Ground.data }, { on := 7, ground := Go.Ground.chain }], guard := none }) (by kernel_rfl) rfl (fun K hK => ?_)
  go_simp
  refine (HRow.out _ _ _ _).mono ?_
  rintro e Y7 ⟨q30, rfl, _, _, hb⟩
  have E7 := Lib.hid (E6.out.go hb)
  clear hb
  refine hK.out _ _ (fun _ => E7.out.below) ?_
  clear hK K
  (try simp only [Act.put, List.setIfInBounds_toArray, List.set_cons_zero, List.set_cons_succ])
  refine wpAnyN_one (i := 12) (o := { dst := some 33, op := Go.Op.call { callee := Go.Callee.value (Go.Operand.func 78), args := #[], argTypes := #[] }, type := 64, pos := "kinds.go:50", after := #[{ on := 9, ground := Go.Ground.chain }], guard := none }) (by kernel_rfl) rfl (fun K hK => ?_)
  go_simp
  refine (markPart_any _).mono ?_
  rintro e Y8 ⟨rfl, hb⟩
  have E8 := Lib.hid (E7.out.go hb)
  clear hb
  refine hK.out _ _ (fun _ => E8.out.below) ?_
  clear hK K
  (try simp only [Act.put, List.setIfInBounds_toArray, List.set_cons_zero, List.set_cons_succ])
  refine wpAnyN_one (i := 13) (o := { dst := some 34, op := Go.Op.call { callee := Go.Callee.value (Go.Operand.func 79), args := #[], argTypes := #[] }, type := 64, pos := "kinds.go:50", after := #[{ on := 12, ground := Go.Ground.chain }], guard := none }) (by kernel_rfl) rfl (fun K hK => ?_)
  go_simp
  refine (datePart_any _).mono ?_
  rintro e Y9 ⟨rfl, hb⟩
  have E9 := Lib.hid (E8.out.go hb)
  clear hb
  refine hK.out _ _ (fun _ => E9.out.below) ?_
  clear hK K
  (try simp only [Act.put, List.setIfInBounds_toArray, List.set_cons_zero, List.set_cons_succ])
  refine wpAnyN_one (i := 15) (o := { dst := some 36, op := Go.Op.buildSlice 113 5 #[(0, Go.Operand.tmp 31), (1, Go.Operand.tmp 32), (2, Go.Operand.tmp 33), (3, Go.Operand.tmp 34), (4, Go.Operand.tmp 35)], type := 113, pos := "kinds.go:45", after := #[{ on := 10, ground := Go.Ground.data }, { on := 11, ground := Go.Ground.data }, { on := 12, ground := Go.Ground.data }, { on := 13, ground := Go.Ground.data }, { on := 14, ground := Go.Ground.data }], guard := none }) (by kernel_rfl) rfl (fun K hK => ?_)
  go_simp
  have E10 := Lib.hid (E9.out.go ((Below.refl _ _).alloc (Nat.le_refl _) (.cells #[fnV 83 #[ptr p1], fnV 84 #[ptr p1], fnV 85 #[ptr p1], fnV 86 #[ptr p1], fnV 83 #[ptr p3], fnV 84 #[ptr p3], fnV 85 #[ptr p3], fnV 86 #[ptr p3], fnV 111 #[], fnV 113 #[], fnV 115 #[], fnV 117 #[], fnV 118 #[], fnV 120 #[], fnV 122 #[], fnV 123 #[], fnV 87 #[ptr q5, ptr p5], fnV 88 #[ptr p5], fnV 90 #[ptr p5], fnV 92 #[ptr p5]] 64)))
  refine hK.out _ _ (fun _ => E10.out.below) ?_
  clear hK K
  (try simp only [Act.put, List.setIfInBounds_toArray, List.set_cons_zero, List.set_cons_succ])
  refine wpAnyN_one (i := 16) (o := { dst := some 37, op := Go.Op.call { callee := Go.Callee.value (Go.Operand.func 75), args := #[Go.Operand.tmp 36], argTypes := #[113] }, type := 64, pos := "kinds.go:50", after := #[{ on := 15, ground := Go.Ground.data }, { on := 13, ground := Go.Ground.chain }], guard := none }) (by kernel_rfl) rfl (fun K hK => ?_)
  go_simp
  refine (HRow.out _ _ _ _).mono ?_
  rintro e Y11 ⟨q37, rfl, _, _, hb⟩
  have E11 := Lib.hid (E10.out.go hb)
  clear hb
  refine hK.out _ _ (fun _ => E11.out.below) ?_
  clear hK K
  (try simp only [Act.put, List.setIfInBounds_toArray, List.set_cons_zero, List.set_cons_succ])
  refine wpAnyN_one (i := 18) (o := { dst := some 39, op := Go.Op.call { callee := Go.Callee.value (Go.Operand.func 80), args := #[], argTypes := #[] }, type := 64, pos := "kinds.go:51", after := #[{ on := 16, ground := Go.Ground.chain }], guard := none }) (by kernel_rfl) rfl (fun K hK => ?_)
  go_simp
  refine (marksPart_any _).mono ?_
  rintro e Y12 ⟨rfl, hb⟩
  have E12 := Lib.hid (E11.out.go hb)
  clear hb
  refine hK.out _ _ (fun _ => E12.out.below) ?_
  clear hK K
  (try simp only [Act.put, List.setIfInBounds_toArray, List.set_cons_zero, List.set_cons_succ])
  refine wpAnyN_one (i := 19) (o := { dst := some 40, op := Go.Op.buildSlice 113 2 #[(0, Go.Operand.tmp 38), (1, Go.Operand.tmp 39)], type := 113, pos := "kinds.go:45", after := #[{ on := 17, ground := Go.Ground.data }, { on := 18, ground := Go.Ground.data }], guard := none }) (by kernel_rfl) rfl (fun K hK => ?_)
  go_simp
  have E13 := Lib.hid (E12.out.go ((Below.refl _ _).alloc (Nat.le_refl _) (.cells #[fnV 83 #[ptr p1], fnV 84 #[ptr p1], fnV 85 #[ptr p1], fnV 86 #[ptr p1], fnV 124 #[], fnV 129 #[], fnV 130 #[], fnV 117 #[]] 64)))
  refine hK.out _ _ (fun _ => E13.out.below) ?_
  clear hK K
  (try simp only [Act.put, List.setIfInBounds_toArray, List.set_cons_zero, List.set_cons_succ])
  refine wpAnyN_one (i := 20) (o := { dst := some 41, op := Go.Op.call { callee := Go.Callee.value (Go.Operand.func 75), args := #[Go.Operand.tmp 40], argTypes := #[113] }, type := 64, pos := "kinds.go:51", after := #[{ on := 19, ground := Go.Ground.data }, { on := 18, ground := Go.Ground.chain }], guard := none }) (by kernel_rfl) rfl (fun K hK => ?_)
  go_simp
  refine (HRow.out _ _ _ _).mono ?_
  rintro e Y14 ⟨q41, rfl, _, _, hb⟩
  have E14 := Lib.hid (E13.out.go hb)
  clear hb
  refine hK.out _ _ (fun _ => E14.out.below) ?_
  clear hK K
  (try simp only [Act.put, List.setIfInBounds_toArray, List.set_cons_zero, List.set_cons_succ])
  refine wpAnyN_one (i := 22) (o := { dst := some 43, op := Go.Op.call { callee := Go.Callee.value (Go.Operand.func 76), args := #[], argTypes := #[] }, type := 64, pos := "kinds.go:52", after := #[{ on := 20, ground := Go.Ground.chain }], guard := none }) (by kernel_rfl) rfl (fun K hK => ?_)
  go_simp
  refine (uidsPart_any _).mono ?_
  rintro e Y15 ⟨rfl, hb⟩
  have E15 := Lib.hid (E14.out.go hb)
  clear hb
  refine hK.out _ _ (fun _ => E15.out.below) ?_
  clear hK K
  (try simp only [Act.put, List.setIfInBounds_toArray, List.set_cons_zero, List.set_cons_succ])
  refine wpAnyN_one (i := 23) (o := { dst := some 44, op := Go.Op.buildSlice 113 2 #[(0, Go.Operand.tmp 42), (1, Go.Operand.tmp 43)], type := 113, pos := "kinds.go:45", after := #[{ on := 21, ground := Go.Ground.data }, { on := 22, ground := Go.Ground.data }], guard := none }) (by kernel_rfl) rfl (fun K hK => ?_)
  go_simp
  have E16 := Lib.hid (E15.out.go ((Below.refl _ _).alloc (Nat.le_refl _) (.cells #[fnV 83 #[ptr p1], fnV 84 #[ptr p1], fnV 85 #[ptr p1], fnV 86 #[ptr p1], fnV 98 #[], fnV 101 #[], fnV 102 #[], fnV 104 #[]] 64)))
  refine hK.out _ _ (fun _ => E16.out.below) ?_
  clear hK K
  (try simp only [Act.put, List.setIfInBounds_toArray, List.set_cons_zero, List.set_cons_succ])
  refine wpAnyN_one (i := 24) (o := { dst := some 45, op := Go.Op.call { callee := Go.Callee.value (Go.Operand.func 75), args := #[Go.Operand.tmp 44], argTypes := #[113] }, type := 64, pos := "kinds.go:52", after := #[{ on := 23, ground := Go.Ground.data }, { on := 22, ground := Go.Ground.chain }], guard := none }) (by kernel_rfl) rfl (fun K hK => ?_)
  go_simp
  refine (HRow.out _ _ _ _).mono ?_
  rintro e Y17 ⟨q45, rfl, _, _, hb⟩
  have E17 := Lib.hid (E16.out.go hb)
  clear hb
  refine hK.out _ _ (fun _ => E17.out.below) ?_
  clear hK K
  (try simp only [Act.put, List.setIfInBounds_toArray, List.set_cons_zero, List.set_cons_succ])
  refine wpAnyN_take (i := 29) (oi := { dst := some 50, op := Go.Op.build 98 #[(1, Go.Operand.tmp 21), (2, Go.Operand.tmp 22), (3, Go.Operand.tmp 26), (4, Go.Operand.tmp 30), (5, Go.Operand.tmp 37), (6, Go.Operand.tmp 41), (7, Go.Operand.tmp 45), (8, Go.Operand.tmp 46), (9, Go.Operand.tmp 47), (10, Go.Operand.tmp 48), (11, Go.Operand.tmp 49)], type := 98, pos := "kinds.go:45", after := #[{ on := 0, ground := Go.Ground.data }, { on := 1, ground := Go.Ground.data }, { on := 5, ground := Go.Ground.data }, { on := 9, ground := Go.Ground.data }, { on := 16, ground := Go.Ground.data }, { on := 20, ground := Go.Ground.data }, { on := 24, ground := Go.Ground.data }, { on := 25, ground := Go.Ground.data }, { on := 26, ground := Go.Ground.data }, { on := 27, ground := Go.Ground.data }, { on := 28, ground := Go.Ground.data }], guard := none }) (oL := { dst := none, op := Go.Op.store 98 (Go.Operand.tmp 0) (Go.Operand.tmp 50), type := 0, pos := "kinds.go:45", after := #[{ on := 29, ground := Go.Ground.data }, { on := 24, ground := Go.Ground.chain }, { on := 0, ground := Go.Ground.phase }, { on := 1, ground := Go.Ground.phase }, { on := 2, ground := Go.Ground.phase }, { on := 3, ground := Go.Ground.phase }, { on := 4, ground := Go.Ground.phase }, { on := 5, ground := Go.Ground.phase }, { on := 6, ground := Go.Ground.phase }, { on := 7, ground := Go.Ground.phase }, { on := 8, ground := Go.Ground.phase }, { on := 9, ground := Go.Ground.phase }, { on := 10, ground := Go.Ground.phase }, { on := 11, ground := Go.Ground.phase }, { on := 12, ground := Go.Ground.phase }, { on := 13, ground := Go.Ground.phase }, { on := 14, ground := Go.Ground.phase }, { on := 15, ground := Go.Ground.phase }, { on := 16, ground := Go.Ground.phase }, { on := 17, ground := Go.Ground.phase }, { on := 18, ground := Go.Ground.phase }, { on := 19, ground := Go.Ground.phase }, { on := 20, ground := Go.Ground.phase }, { on := 21, ground := Go.Ground.phase }, { on := 22, ground := Go.Ground.phase }, { on := 23, ground := Go.Ground.phase }, { on := 24, ground := Go.Ground.phase }, { on := 25, ground := Go.Ground.phase }, { on := 26, ground := Go.Ground.phase }, { on := 27, ground := Go.Ground.phase }, { on := 28, ground := Go.Ground.phase }, { on := 29, ground := Go.Ground.phase }], guard := none }) (v := .agg #[.nilFunc, .nilFunc, .nilFunc, .nilFunc, fnV 105 #[], fnV 108 #[], fnV 109 #[], fnV 110 #[], fnV 83 #[ptr p1], fnV 84 #[ptr p1], fnV 85 #[ptr p1], fnV 86 #[ptr p1], fnV 94 #[ptr q26], fnV 95 #[ptr q26], fnV 96 #[ptr q26], fnV 97 #[ptr q26], fnV 94 #[ptr q30], fnV 95 #[ptr q30], fnV 96 #[ptr q30], fnV 97 #[ptr q30], fnV 94 #[ptr q37], fnV 95 #[ptr q37], fnV 96 #[ptr q37], fnV 97 #[ptr q37], fnV 94 #[ptr q41], fnV 95 #[ptr q41], fnV 96 #[ptr q41], fnV 97 #[ptr q41], fnV 94 #[ptr q45], fnV 95 #[ptr q45], fnV 96 #[ptr q45], fnV 97 #[ptr q45], fnV 94 #[ptr q8], fnV 95 #[ptr q8], fnV 96 #[ptr q8], fnV 97 #[ptr q8], fnV 94 #[ptr q8], fnV 95 #[ptr q8], fnV 96 #[ptr q8], fnV 97 #[ptr q8], fnV 87 #[ptr q4, ptr p4], fnV 88 #[ptr p4], fnV 90 #[ptr p4], fnV 92 #[ptr p4], fnV 87 #[ptr q4, ptr p4], fnV 88 #[ptr p4], fnV 90 #[ptr p4], fnV 92 #[ptr p4]]) rfl rfl (by kernel_rfl) (by kernel_rfl) (by kernel_rfl) (by kernel_rfl) (fun _ _ _ h => h) (Or.inl ⟨by kernel_rfl, ?_⟩) E17.out.below ?_
  · (intro X hX; obtain ⟨⟨a0, a1, a2, a3⟩, ⟨b0, b1, b2, b3⟩, ⟨c0, c1, c2, c3⟩, ⟨d0, d1, d2, d3⟩, ⟨e0, e1, e2, e3⟩⟩ := HL9.out X hX <;> (go_simp; try (with_reducible rfl)))
  (try simp only [Act.put, List.setIfInBounds_toArray, List.set_cons_zero, List.set_cons_succ])
  have HE := Lib.hid (HW9.out.go E17.out.below)
  refine wpAnyN_one (i := 30) (o := { dst := none, op := Go.Op.store 98 (Go.Operand.tmp 0) (Go.Operand.tmp 50), type := 0, pos := "kinds.go:45", after := #[{ on := 29, ground := Go.Ground.data }, { on := 24, ground := Go.Ground.chain }, { on := 0, ground := Go.Ground.phase }, { on := 1, ground := Go.Ground.phase }, { on := 2, ground := Go.Ground.phase }, { on := 3, ground := Go.Ground.phase }, { on := 4, ground := Go.Ground.phase }, { on := 5, ground := Go.Ground.phase }, { on := 6, ground := Go.Ground.phase }, { on := 7, ground := Go.Ground.phase }, { on := 8, ground := Go.Ground.phase }, { on := 9, ground := Go.Ground.phase }, { on := 10, ground := Go.Ground.phase }, { on := 11, ground := Go.Ground.phase }, { on := 12, ground := Go.Ground.phase }, { on := 13, ground := Go.Ground.phase }, { on := 14, ground := Go.Ground.phase }, { on := 15, ground := Go.Ground.phase }, { on := 16, ground := Go.Ground.phase }, { on := 17, ground := Go.Ground.phase }, { on := 18, ground := Go.Ground.phase }, { on := 19, ground := Go.Ground.phase }, { on := 20, ground := Go.Ground.phase }, { on := 21, ground := Go.Ground.phase }, { on := 22, ground := Go.Ground.phase }, { on := 23, ground := Go.Ground.phase }, { on := 24, ground := Go.Ground.phase }, { on := 25, ground := Go.Ground.phase }, { on := 26, ground := Go.Ground.phase }, { on := 27, ground := Go.Ground.phase }, { on := 28, ground := Go.Ground.phase }, { on := 29, ground := Go.Ground.phase }], guard := none }) (by kernel_rfl) rfl (fun K hK => ?_)
  refine wp_store_row 98 _ _ rfl w.heap.size #[.nilFunc, .nilFunc, .nilFunc, .nilFunc, fnV 105 #[], fnV 108 #[], fnV 109 #[], fnV 110 #[], fnV 83 #[ptr p1], fnV 84 #[ptr p1], fnV 85 #[ptr p1], fnV 86 #[ptr p1], fnV 94 #[ptr q26], fnV 95 #[ptr q26], fnV 96 #[ptr q26], fnV 97 #[ptr q26], fnV 94 #[ptr q30], fnV 95 #[ptr q30], fnV 96 #[ptr q30], fnV 97 #[ptr q30], fnV 94 #[ptr q37], fnV 95 #[ptr q37], fnV 96 #[ptr q37], fnV 97 #[ptr q37], fnV 94 #[ptr q41], fnV 95 #[ptr q41], fnV 96 #[ptr q41], fnV 97 #[ptr q41], fnV 94 #[ptr q45], fnV 95 #[ptr q45], fnV 96 #[ptr q45], fnV 97 #[ptr q45], fnV 94 #[ptr q8], fnV 95 #[ptr q8], fnV 96 #[ptr q8], fnV 97 #[ptr q8], fnV 94 #[ptr q8], fnV 95 #[ptr q8], fnV 96 #[ptr q8], fnV 97 #[ptr q8], fnV 87 #[ptr q4, ptr p4], fnV 88 #[ptr p4], fnV 90 #[ptr p4], fnV 92 #[ptr p4], fnV 87 #[ptr q4, ptr p4], fnV 88 #[ptr p4], fnV 90 #[ptr p4], fnV 92 #[ptr p4]] rfl rfl 98 _ (HE.out.kept (w.heap.size, _) (List.mem_cons_of_mem _ (List.mem_cons_of_mem _ (List.mem_cons_of_mem _ (List.mem_cons_of_mem _ (List.mem_cons_of_mem _ (List.mem_cons_of_mem _ (List.mem_cons_of_mem _ (List.mem_cons_of_mem _ (List.mem_cons_of_mem _ (List.mem_cons_of_mem _ (List.mem_cons_of_mem _ (List.mem_cons_self))))))))))))) Tryz.sizeKinds rfl (by simp [Value.oneCell']) ?_
  refine hK.out _ _ (fun e => absurd (e.symm.trans (by kernel_rfl) : false = true) Bool.false_ne_true) ?_
  clear hK K
  (try simp only [Act.put])
  refine wpAnyN_of_H (S' := fun _ => True) _ _ _ _ (by kernel_rfl) ?_
  refine wpAnyH_done (by kernel_rfl) ?_ _
  go_wp2_with fail
  refine bodyPost_ret (v := .agg #[.nilFunc, .nilFunc, .nilFunc, .nilFunc, fnV 105 #[], fnV 108 #[], fnV 109 #[], fnV 110 #[], fnV 83 #[ptr p1], fnV 84 #[ptr p1], fnV 85 #[ptr p1], fnV 86 #[ptr p1], fnV 94 #[ptr q26], fnV 95 #[ptr q26], fnV 96 #[ptr q26], fnV 97 #[ptr q26], fnV 94 #[ptr q30], fnV 95 #[ptr q30], fnV 96 #[ptr q30], fnV 97 #[ptr q30], fnV 94 #[ptr q37], fnV 95 #[ptr q37], fnV 96 #[ptr q37], fnV 97 #[ptr q37], fnV 94 #[ptr q41], fnV 95 #[ptr q41], fnV 96 #[ptr q41], fnV 97 #[ptr q41], fnV 94 #[ptr q45], fnV 95 #[ptr q45], fnV 96 #[ptr q45], fnV 97 #[ptr q45], fnV 94 #[ptr q8], fnV 95 #[ptr q8], fnV 96 #[ptr q8], fnV 97 #[ptr q8], fnV 94 #[ptr q8], fnV 95 #[ptr q8], fnV 96 #[ptr q8], fnV 97 #[ptr q8], fnV 87 #[ptr q4, ptr p4], fnV 88 #[ptr p4], fnV 90 #[ptr p4], fnV 92 #[ptr p4], fnV 87 #[ptr q4, ptr p4], fnV 88 #[ptr p4], fnV 90 #[ptr p4], fnV 92 #[ptr p4]]) (results_cell_row Tryz.results59 _ _ w.heap.size 98 #[.nilFunc, .nilFunc, .nilFunc, .nilFunc, fnV 105 #[], fnV 108 #[], fnV 109 #[], fnV 110 #[], fnV 83 #[ptr p1], fnV 84 #[ptr p1], fnV 85 #[ptr p1], fnV 86 #[ptr p1], fnV 94 #[ptr q26], fnV 95 #[ptr q26], fnV 96 #[ptr q26], fnV 97 #[ptr q26], fnV 94 #[ptr q30], fnV 95 #[ptr q30], fnV 96 #[ptr q30], fnV 97 #[ptr q30], fnV 94 #[ptr q37], fnV 95 #[ptr q37], fnV 96 #[ptr q37], fnV 97 #[ptr q37], fnV 94 #[ptr q41], fnV 95 #[ptr q41], fnV 96 #[ptr q41], fnV 97 #[ptr q41], fnV 94 #[ptr q45], fnV 95 #[ptr q45], fnV 96 #[ptr q45], fnV 97 #[ptr q45], fnV 94 #[ptr q8], fnV 95 #[ptr q8], fnV 96 #[ptr q8], fnV 97 #[ptr q8], fnV 94 #[ptr q8], fnV 95 #[ptr q8], fnV 96 #[ptr q8], fnV 97 #[ptr q8], fnV 87 #[ptr q4, ptr p4], fnV 88 #[ptr p4], fnV 90 #[ptr p4], fnV 92 #[ptr p4], fnV 87 #[ptr q4, ptr p4], fnV 88 #[ptr p4], fnV 90 #[ptr p4], fnV 92 #[ptr p4]] (0, 0) _ rfl (setRow_heap _ _ _ _ _ _ (HE.out.kept (w.heap.size, _) (List.mem_cons_of_mem _ (List.mem_cons_of_mem _ (List.mem_cons_of_mem _ (List.mem_cons_of_mem _ (List.mem_cons_of_mem _ (List.mem_cons_of_mem _ (List.mem_cons_of_mem _ (List.mem_cons_of_mem _ (List.mem_cons_of_mem _ (List.mem_cons_of_mem _ (List.mem_cons_of_mem _ (List.mem_cons_self)))))))))))))) Tryz.underlying98 rfl Tryz.sizeKinds) rfl ⟨fun i => (#[.nilFunc, .nilFunc, .nilFunc, .nilFunc, fnV 105 #[], fnV 108 #[], fnV 109 #[], fnV 110 #[], fnV 83 #[ptr p1], fnV 84 #[ptr p1], fnV 85 #[ptr p1], fnV 86 #[ptr p1], fnV 94 #[ptr q26], fnV 95 #[ptr q26], fnV 96 #[ptr q26], fnV 97 #[ptr q26], fnV 94 #[ptr q30], fnV 95 #[ptr q30], fnV 96 #[ptr q30], fnV 97 #[ptr q30], fnV 94 #[ptr q37], fnV 95 #[ptr q37], fnV 96 #[ptr q37], fnV 97 #[ptr q37], fnV 94 #[ptr q41], fnV 95 #[ptr q41], fnV 96 #[ptr q41], fnV 97 #[ptr q41], fnV 94 #[ptr q45], fnV 95 #[ptr q45], fnV 96 #[ptr q45], fnV 97 #[ptr q45], fnV 94 #[ptr q8], fnV 95 #[ptr q8], fnV 96 #[ptr q8], fnV 97 #[ptr q8], fnV 94 #[ptr q8], fnV 95 #[ptr q8], fnV 96 #[ptr q8], fnV 97 #[ptr q8], fnV 87 #[ptr q4, ptr p4], fnV 88 #[ptr p4], fnV 90 #[ptr p4], fnV 92 #[ptr p4], fnV 87 #[ptr q4, ptr p4], fnV 88 #[ptr p4], fnV 90 #[ptr p4], fnV 92 #[ptr p4]]).getD i .nilFunc, p4, q4, rfl, ⟨rfl, rfl, rfl, rfl⟩, ?_, ?_, ?_⟩
  · rw [setRow_other _ _ _ _ (KB.nes HE.out (x := (p4, _)) (y := (w.heap.size, _)) (List.mem_cons_of_mem _ (List.mem_cons_of_mem _ (List.mem_cons_of_mem _ (List.mem_cons_of_mem _ (List.mem_cons_of_mem _ (List.mem_cons_of_mem _ (List.mem_cons_of_mem _ (List.mem_cons_self)))))))) (List.mem_cons_of_mem _ (List.mem_cons_of_mem _ (List.mem_cons_of_mem _ (List.mem_cons_of_mem _ (List.mem_cons_of_mem _ (List.mem_cons_of_mem _ (List.mem_cons_of_mem _ (List.mem_cons_of_mem _ (List.mem_cons_of_mem _ (List.mem_cons_of_mem _ (List.mem_cons_of_mem _ (List.mem_cons_self)))))))))))) (by simp [objT]))]; exact HE.out.kept (p4, _) (List.mem_cons_of_mem _ (List.mem_cons_of_mem _ (List.mem_cons_of_mem _ (List.mem_cons_of_mem _ (List.mem_cons_of_mem _ (List.mem_cons_of_mem _ (List.mem_cons_of_mem _ (List.mem_cons_self))))))))
  · rw [setRow_other _ _ _ _ (KB.nes HE.out (x := (q4, _)) (y := (w.heap.size, _)) (List.mem_cons_of_mem _ (List.mem_cons_of_mem _ (List.mem_cons_of_mem _ (List.mem_cons_of_mem _ (List.mem_cons_of_mem _ (List.mem_cons_of_mem _ (List.mem_cons_self))))))) (List.mem_cons_of_mem _ (List.mem_cons_of_mem _ (List.mem_cons_of_mem _ (List.mem_cons_of_mem _ (List.mem_cons_of_mem _ (List.mem_cons_of_mem _ (List.mem_cons_of_mem _ (List.mem_cons_of_mem _ (List.mem_cons_of_mem _ (List.mem_cons_of_mem _ (List.mem_cons_of_mem _ (List.mem_cons_self)))))))))))) (by simp [objT]))]; exact HE.out.kept (q4, _) (List.mem_cons_of_mem _ (List.mem_cons_of_mem _ (List.mem_cons_of_mem _ (List.mem_cons_of_mem _ (List.mem_cons_of_mem _ (List.mem_cons_of_mem _ (List.mem_cons_self)))))))
  · exact below_setRow HE.out.below (Nat.le_refl _) _
end Go.Proofs.YtbncaiocmklgnaaGreatDoor
