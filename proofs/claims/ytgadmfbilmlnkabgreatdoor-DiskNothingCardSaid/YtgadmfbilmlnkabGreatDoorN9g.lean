/- postbaglaw9's called, on a disk that New did not make: the boxes; Start; nothing. -/
import Derived.Test.YtgadmfbilmlnkabGreatDoorN9d
import Derived.Test.YtgadmfbilmlnkabGreatDoorD9xi
import Derived.Test.YtgadmfbilmlnkabGreatDoorZv
namespace Go.Proofs.YtgadmfbilmlnkabGreatDoor
open Go.RowKit Go.Lib

/-- The blocks that called lays: the document's disk, the act, the result. -/
def calW (w : World) (q : ActR) : World := ((w.alloc (.cells #[.slice none 0 0, .int .i64 0, .int .i64 0, .slice none 0 0, .int .i64 0, .bool false] 31)).alloc (.cells #[.int .i64 q.kind, .int .i64 q.on, .string q.name, .string q.dest, .string q.data, .int .i64 q.n, .slice q.sa q.sn q.sc] 35)).alloc (.cells #[.slice none 0 0, .int .i64 0, .int .i64 0, .slice none 0 0, .int .i64 0, .bool false] 31)
structure CalB (w : World) (q : ActR) (W : World) : Prop where
  below : Below w.heap.size w W
  x : W.heap[w.heap.size]? = some (refO 0)
  a : W.heap[w.heap.size + 1]? = some (.cells #[.int .i64 q.kind, .int .i64 q.on, .string q.name, .string q.dest, .string q.data, .int .i64 q.n, .slice q.sa q.sn q.sc] 35 (0, 0))
  r : W.heap[w.heap.size + 1 + 1]? = some (refO 0)
theorem CalB.on {w W W' : World} {q : ActR} (h : CalB w q W) (hb : Below W.heap.size W W') : CalB w q W' :=
  ⟨h.below.trans (hb.mono h.below.size), by rw [hb.block _ (lt_of_heap h.x)]; exact h.x, by rw [hb.block _ (lt_of_heap h.a)]; exact h.a, by rw [hb.block _ (lt_of_heap h.r)]; exact h.r⟩
theorem CalB.xs {w W : World} {q : ActR} (h : CalB w q W) : W.cell? ⟨w.heap.size, 0, none⟩ = some (.slice none 0 0) ∧ W.cell? ⟨w.heap.size, 1, none⟩ = some (.int .i64 0) ∧ W.cell? ⟨w.heap.size, 2, none⟩ = some (.int .i64 0) ∧ W.cell? ⟨w.heap.size, 3, none⟩ = some (.slice none 0 0) ∧ W.cell? ⟨w.heap.size, 4, none⟩ = some (.int .i64 0) ∧ W.cell? ⟨w.heap.size, 5, none⟩ = some (.bool false) :=
  ⟨cell_of h.x 0, cell_of h.x 1, cell_of h.x 2, cell_of h.x 3, cell_of h.x 4, cell_of h.x 5⟩
theorem CalB.as {w W : World} {q : ActR} (h : CalB w q W) : W.cell? ⟨w.heap.size + 1, 0, none⟩ = some (.int .i64 q.kind) ∧ W.cell? ⟨w.heap.size + 1, 1, none⟩ = some (.int .i64 q.on) ∧ W.cell? ⟨w.heap.size + 1, 2, none⟩ = some (.string q.name) ∧ W.cell? ⟨w.heap.size + 1, 3, none⟩ = some (.string q.dest) ∧ W.cell? ⟨w.heap.size + 1, 4, none⟩ = some (.string q.data) ∧ W.cell? ⟨w.heap.size + 1, 5, none⟩ = some (.int .i64 q.n) ∧ W.cell? ⟨w.heap.size + 1, 6, none⟩ = some (.slice q.sa q.sn q.sc) :=
  ⟨cell_of h.a 0, cell_of h.a 1, cell_of h.a 2, cell_of h.a 3, cell_of h.a 4, cell_of h.a 5, cell_of h.a 6⟩
theorem calB_start (w : World) (q : ActR) : CalB w q (calW w q) := by
  refine ⟨below_box (below_box (below_box (Below.refl _ _) _) _) _, ?_, ?_, ?_⟩
  · unfold calW
    rw [heap_alloc_old _ _ (by simp; omega), heap_alloc_old _ _ (by simp)]
    exact heap_alloc_new _ _
  · unfold calW
    rw [heap_alloc_old _ _ (by simp)]
    exact heap_second _ _ _
  · unfold calW
    have := heap_alloc_new ((w.alloc (.cells #[.slice none 0 0, .int .i64 0, .int .i64 0, .slice none 0 0, .int .i64 0, .bool false] 31)).alloc (.cells #[.int .i64 q.kind, .int .i64 q.on, .string q.name, .string q.dest, .string q.data, .int .i64 q.n, .slice q.sa q.sn q.sc] 35)) (refO 0)
    simpa using this
/-- What called answers. -/
def CalR (w : World) (e : Ending) (w' : World) : Prop := e = .returned (.tuple #[refD 0, .bool true]) ∧ Below w.heap.size w w'
set_option maxHeartbeats 4000000 in
theorem called_none {p : Value} {w : World} (q : ActR) (hk : ¬ (1 ≤ q.kind ∧ q.kind ≤ 8)) :
    Calls Tryz.prog 7 #[p, refD 0, .agg q.cells] w fun e w' => CalR w e w' := by
  have h3 := calB_start w q
  obtain ⟨W3, hW3⟩ : ∃ W3, calW w q = W3 := ⟨_, rfl⟩
  rw [hW3] at h3
  unfold calW at hW3
  have HW := Lib.hid hW3
  obtain ⟨x0, x1, x2, x3, x4, x5⟩ := h3.xs
  obtain ⟨a0, a1, a2, a3, a4, a5, a6⟩ := h3.as
  have H3 := Lib.hid h3
  clear h3 hW3
  have h7 : q.kind ≠ 7 := by omega
  have h8 : q.kind ≠ 8 := by omega
  obtain ⟨kind, on, name, dest, data, n, sa, sn, sc⟩ := q
  simp only [ActR.cells] at *
  have b7 := beqI_no h7
  have b8 := beqI_no h8
  unfold refD
  by_cases h1 : kind < 1
  · clear hk h7 h8
    go_enter Tryz.func7, Tryz.ntmps7
    go_upto_region 1 with fail
    rw [HW.out]
    go_wp2_with (refine wpList_store_row rfl 31 _ _ rfl (w.heap.size + 1 + 1) ref0 rfl rfl 31 _ H3.out.r Tryz.sizeRefD rfl (by simp [Value.oneCell']) ?_)
    refine bodyPost_ret (res2 rfl _ _ (w.heap.size + 1 + 1) 31 ref0 (0, 0) _ rfl (setRow_heap _ _ _ _ _ _ H3.out.r) Tryz.underlying31 rfl Tryz.sizeRefD) rfl ?_
    exact ⟨rfl, below_setR H3.out.below (by omega) _⟩
  · have h6 : 6 < kind := by omega
    clear hk h7 h8
    go_enter Tryz.func7, Tryz.ntmps7
    go_upto_region 1 with fail
    rw [HW.out]
    go_wp2_with (refine wpList_store_row rfl 31 _ _ rfl (w.heap.size + 1 + 1) ref0 rfl rfl 31 _ H3.out.r Tryz.sizeRefD rfl (by simp [Value.oneCell']) ?_)
    refine bodyPost_ret (res2 rfl _ _ (w.heap.size + 1 + 1) 31 ref0 (0, 0) _ rfl (setRow_heap _ _ _ _ _ _ H3.out.r) Tryz.underlying31 rfl Tryz.sizeRefD) rfl ?_
    exact ⟨rfl, below_setR H3.out.below (by omega) _⟩
set_option maxHeartbeats 4000000 in
theorem called_start {p : Value} {w : World} (h : Noth p w) (q : ActR) (hk : q.kind = 8) :
    Calls Tryz.prog 7 #[p, refD 0, .agg q.cells] w fun e w' => CalR w e w' := by
  have h3 := calB_start w q
  obtain ⟨W3, hW3⟩ : ∃ W3, calW w q = W3 := ⟨_, rfl⟩
  rw [hW3] at h3
  unfold calW at hW3
  have HW := Lib.hid hW3
  obtain ⟨x0, x1, x2, x3, x4, x5⟩ := h3.xs
  obtain ⟨a0, a1, a2, a3, a4, a5, a6⟩ := h3.as
  have HS := Lib.hid (Start_0 (h.on h3.below))
  have H3 := Lib.hid h3
  have HRS := Lib.hid (fun W => rStart_0 W)
  clear h3 hW3 h
  obtain ⟨kind, on, name, dest, data, n, sa, sn, sc⟩ := q
  simp only [ActR.cells] at *
  subst hk
  unfold refD at *
  go_enter Tryz.func7, Tryz.ntmps7
  go_upto_region 1 with fail
  rw [HW.out]
  go_wp2_with (first | (go_at_call 23; refine HS.out.mono ?_; rintro e w4 ⟨rfl, hw4⟩; subst w4) | (go_at_call 24; refine (HRS.out _).mono ?_; rintro e w5 ⟨rfl, hb5⟩; have H5 := Lib.hid (H3.out.on hb5); clear hb5) | refine wpList_store_row rfl 31 _ _ rfl (w.heap.size + 1 + 1) ref0 rfl rfl 31 _ H5.out.r Tryz.sizeRefD rfl (by simp [Value.oneCell']) ?_)
  refine bodyPost_ret (res2 rfl _ _ (w.heap.size + 1 + 1) 31 ref0 (0, 0) _ rfl (setRow_heap _ _ _ _ _ _ H5.out.r) Tryz.underlying31 rfl Tryz.sizeRefD) rfl ?_
  exact ⟨rfl, below_setR H5.out.below (by omega) _⟩
end Go.Proofs.YtgadmfbilmlnkabGreatDoor

/- postbaglaw9's called, on a disk that New did not make: an operation. -/
namespace Go.Proofs.YtgadmfbilmlnkabGreatDoor
open Go.RowKit Go.Lib

theorem setRow_same {w : World} {g : Nat} {cs : Array Value} {t : TypeId} {fr : Nat × Nat} (h : w.heap[g]? = some (.cells cs t fr)) : w.setRow g cs = w := by
  have e : (w.setRow g cs).heap = w.heap := by
    apply Array.ext_getElem?
    intro i
    by_cases hi : i = g
    · subst hi
      rw [setRow_heap w i cs cs t fr h, h]
    · rw [setRow_other w g i cs hi]
  show { w with heap := (w.setRow g cs).heap } = w
  rw [e]
theorem box6 {z : Nat} {W : World} (hz : W.heap[z]? = some (refO 0)) : W.cell? ⟨z, 0, none⟩ = some (.slice none 0 0) ∧ W.cell? ⟨z, 1, none⟩ = some (.int .i64 0) ∧ W.cell? ⟨z, 2, none⟩ = some (.int .i64 0) ∧ W.cell? ⟨z, 3, none⟩ = some (.slice none 0 0) ∧ W.cell? ⟨z, 4, none⟩ = some (.int .i64 0) ∧ W.cell? ⟨z, 5, none⟩ = some (.bool false) :=
  ⟨cell_of hz 0, cell_of hz 1, cell_of hz 2, cell_of hz 3, cell_of hz 4, cell_of hz 5⟩
theorem fro6 {z : Nat} {W : World} (hz : W.heap[z]? = some (refO 0)) : W.frozen? ⟨z, 0, none⟩ = false ∧ W.frozen? ⟨z, 1, none⟩ = false ∧ W.frozen? ⟨z, 2, none⟩ = false ∧ W.frozen? ⟨z, 3, none⟩ = false ∧ W.frozen? ⟨z, 4, none⟩ = false ∧ W.frozen? ⟨z, 5, none⟩ = false :=
  ⟨frozen_of hz 0, frozen_of hz 1, frozen_of hz 2, frozen_of hz 3, frozen_of hz 4, frozen_of hz 5⟩
set_option maxRecDepth 20000 in
set_option maxHeartbeats 8000000 in
theorem called_op {A : Whys} {B : Nat} {p : Value} {w : World} (h : Noth p w) (he : Env A B w) (hg : w.cell? ⟨1, 0, none⟩ = some (rtV 39)) (q : ActR) (hk : 1 ≤ q.kind ∧ q.kind ≤ 6) (hns : q.name.size ≤ 140737488355328) (hts : q.dest.size ≤ 140737488355328) :
    Calls Tryz.prog 7 #[p, refD 0, .agg q.cells] w fun e w' => CalR w e w' := by
  have h3 := calB_start w q
  obtain ⟨W3, hW3⟩ : ∃ W3, calW w q = W3 := ⟨_, rfl⟩
  rw [hW3] at h3
  unfold calW at hW3
  have HW := Lib.hid hW3
  obtain ⟨x0, x1, x2, x3, x4, x5⟩ := h3.xs
  obtain ⟨a0, a1, a2, a3, a4, a5, a6⟩ := h3.as
  have HDoes : Hid (∀ W, Below w.heap.size w W → Calls Tryz.prog 17 #[p, .agg q.cells] W fun e w' => ∃ f, e = .returned (.tuple #[.string ⟨#[]⟩, failV f]) ∧ w'.heap[f]? = some (failObj A (wordOf q.kind) q.name 0 93) ∧ Below W.heap.size W w') := Lib.hid (fun W hb => (does_0 (h.on hb) (he.below (hb.mono he.hi)) q hk hns hts).mono (by
    rintro e w' ⟨r, rfl, f, rfl, h1, h2⟩
    exact ⟨f, rfl, h1, h2⟩))
  have HWd : Hid (∀ W, Calls Tryz.prog 19 #[.int .i64 q.kind] W fun e w' => e = .returned (.string (wordOf q.kind)) ∧ Below W.heap.size W w') := Lib.hid (fun W => words_0 q.kind hk W)
  have HTo : Hid (∀ W f, Below w.heap.size w W → W.heap[f]? = some (failObj A (wordOf q.kind) q.name 0 93) → Calls Tryz.prog 18 #[failV f, .int .i64 93, .string (wordOf q.kind), .string q.name, .int .i64 0] W fun e w' => e = .returned (.bool true) ∧ Below W.heap.size W w') := Lib.hid (fun W f hb hf => told_fail (he.below (hb.mono he.hi)) (by rw [World.cell?_of_block (hb.block _ (World.block_lt_of_cell? w _ hg))]; exact hg) _ _ 0 93 (by decide) hf)
  have H3 := Lib.hid h3
  have HRD := Lib.hid (fun k a b c n W => rDo_0 k a b c n W)
  have h1 : ¬ q.kind < 1 := by omega
  have h6 : ¬ 6 < q.kind := by omega
  clear h3 hW3 h he hg hns hts hk
  obtain ⟨kind, on, name, dest, data, n, sa, sn, sc⟩ := q
  simp only [ActR.cells] at *
  generalize wordOf kind = wd at *
  unfold refD failV at *
  go_enter Tryz.func7, Tryz.ntmps7
  go_upto_region 1 with fail
  rw [HW.out]
  go_upto_region 3 with (go_at_call 16; refine (HRD.out _ _ _ _ _ _).mono ?_; rintro e w4 ⟨rfl, hb4⟩; have H4 := Lib.hid (H3.out.on hb4); clear hb4)
  clear x0 x1 x2 x3 x4 x5 a0 a1 a2 a3 a4 a5 a6
  obtain ⟨W5, hW5⟩ : ∃ W5, w4.alloc (.cells #[.slice none 0 0, .int .i64 0, .int .i64 0, .slice none 0 0, .int .i64 0, .bool false] 31) = W5 := ⟨_, rfl⟩
  have hY5 : W5.heap[w4.heap.size]? = some (refO 0) := by rw [← hW5]; exact heap_alloc_new _ _
  have H5 := Lib.hid (H4.out.on (W' := W5) (by rw [← hW5]; exact below_box (Below.refl _ _) _))
  have HY5 := Lib.hid hY5
  obtain ⟨a0, a1, a2, a3, a4, a5, a6⟩ := H5.out.as
  simp only at a0 a1 a2 a3 a4 a5 a6
  clear hY5
  rw [hW5]
  clear hW5
  go_upto_region 4 with (go_at_call 17; refine (HDoes.out _ H5.out.below).mono ?_; rintro e w6 ⟨f, rfl, hf6, hb6⟩; have H6 := Lib.hid (And.intro hf6 hb6); clear hf6 hb6)
  clear a0 a1 a2 a3 a4 a5 a6
  have HX : Hid (∀ X, Below w6.heap.size w6 X → CalB w ⟨kind, on, name, dest, data, n, sa, sn, sc⟩ X ∧ X.heap[w4.heap.size]? = some (refO 0) ∧ X.heap[f]? = some (failObj A wd name 0 93)) := Lib.hid (fun X hX => by
    have h6 := H5.out.on H6.out.2
    have hy : w6.heap[w4.heap.size]? = some (refO 0) := by rw [H6.out.2.block _ (lt_of_heap HY5.out)]; exact HY5.out
    exact ⟨h6.on hX, by rw [hX.block _ (lt_of_heap hy)]; exact hy, by rw [hX.block _ (lt_of_heap H6.out.1)]; exact H6.out.1⟩)
  have HB6 := Lib.hid (Below.refl w6.heap.size w6)
  have HT2 : Hid (∀ W, Below w6.heap.size w6 W → Calls Tryz.prog 18 #[.iface 97 (.pointer (some ⟨f, 0, none⟩)), .int .i64 93, .string wd, .string name, .int .i64 0] W fun e w' => e = .returned (.bool true) ∧ Below w6.heap.size w6 w') := Lib.hid (fun W hW => (HTo.out W f (HX.out W hW).1.below (HX.out W hW).2.2).mono (by
    rintro e w' ⟨rfl, hb⟩
    exact ⟨rfl, hW.trans (hb.mono hW.size)⟩))
  have HW2 : Hid (∀ W, Below w6.heap.size w6 W → Calls Tryz.prog 19 #[.int .i64 kind] W fun e w' => e = .returned (.string wd) ∧ Below w6.heap.size w6 w') := Lib.hid (fun W hW => (HWd.out W).mono (by
    rintro e w' ⟨rfl, hb⟩
    exact ⟨rfl, hW.trans (hb.mono hW.size)⟩))
  clear HTo HWd HDoes HRD H3 H4
  --R called--
  refine wp_region_N 16 (fun X => Below w6.heap.size w6 X) (by kernel_rfl) ?_
  refine wpAnyN_take (i := 0) (oi := { dst := some 51, op := Go.Op.load 31 (Go.Operand.tmp 8), type := 31, pos := "law.go:122", after := #[], guard := none }) (oL := { dst := some 7, op := Go.Op.assign (Go.Operand.tmp 65), type := 4, pos := "law.go:122", after := #[{ on := 14, ground := Go.Ground.data }, { on := 15, ground := Go.Ground.chain }, { on := 0, ground := Go.Ground.phase }, { on := 1, ground := Go.Ground.phase }, { on := 2, ground := Go.Ground.phase }, { on := 3, ground := Go.Ground.phase }, { on := 4, ground := Go.Ground.phase }, { on := 5, ground := Go.Ground.phase }, { on := 6, ground := Go.Ground.phase }, { on := 7, ground := Go.Ground.phase }, { on := 8, ground := Go.Ground.phase }, { on := 9, ground := Go.Ground.phase }, { on := 10, ground := Go.Ground.phase }, { on := 11, ground := Go.Ground.phase }, { on := 12, ground := Go.Ground.phase }, { on := 13, ground := Go.Ground.phase }, { on := 14, ground := Go.Ground.phase }, { on := 15, ground := Go.Ground.phase }], guard := none }) (v := .agg #[.slice none 0 0, .int .i64 0, .int .i64 0, .slice none 0 0, .int .i64 0, .bool false]) rfl rfl (by kernel_rfl) (by kernel_rfl) (by kernel_rfl) (by kernel_rfl) (fun _ _ _ h => h) (Or.inl ⟨by kernel_rfl, ?_⟩) HB6.out.drew ?_
  · (intro X hX; obtain ⟨y0, y1, y2, y3, y4, y5⟩ := box6 (HX.out X hX).2.1; obtain ⟨a0, a1, a2, a3, a4, a5, a6⟩ := (HX.out X hX).1.as <;> (go_simp; try (with_reducible rfl)))
  (try simp only [Act.put, List.setIfInBounds_toArray, List.set_cons_zero, List.set_cons_succ])
  refine wpAnyN_take (i := 1) (oi := { dst := some 52, op := Go.Op.move (Go.Operand.tmp 12), type := 9, pos := "law.go:122", after := #[], guard := none }) (oL := { dst := some 7, op := Go.Op.assign (Go.Operand.tmp 65), type := 4, pos := "law.go:122", after := #[{ on := 14, ground := Go.Ground.data }, { on := 15, ground := Go.Ground.chain }, { on := 0, ground := Go.Ground.phase }, { on := 1, ground := Go.Ground.phase }, { on := 2, ground := Go.Ground.phase }, { on := 3, ground := Go.Ground.phase }, { on := 4, ground := Go.Ground.phase }, { on := 5, ground := Go.Ground.phase }, { on := 6, ground := Go.Ground.phase }, { on := 7, ground := Go.Ground.phase }, { on := 8, ground := Go.Ground.phase }, { on := 9, ground := Go.Ground.phase }, { on := 10, ground := Go.Ground.phase }, { on := 11, ground := Go.Ground.phase }, { on := 12, ground := Go.Ground.phase }, { on := 13, ground := Go.Ground.phase }, { on := 14, ground := Go.Ground.phase }, { on := 15, ground := Go.Ground.phase }], guard := none }) (v := .string ⟨#[]⟩) rfl rfl (by kernel_rfl) (by kernel_rfl) (by kernel_rfl) (by kernel_rfl) (fun _ _ _ h => h) (Or.inl ⟨by kernel_rfl, ?_⟩) HB6.out.drew ?_
  · (intro X hX; obtain ⟨y0, y1, y2, y3, y4, y5⟩ := box6 (HX.out X hX).2.1; obtain ⟨a0, a1, a2, a3, a4, a5, a6⟩ := (HX.out X hX).1.as <;> (go_simp; try (with_reducible rfl)))
  (try simp only [Act.put, List.setIfInBounds_toArray, List.set_cons_zero, List.set_cons_succ])
  refine wpAnyN_take (i := 2) (oi := { dst := some 53, op := Go.Op.move (Go.Operand.tmp 9), type := 9, pos := "law.go:122", after := #[], guard := none }) (oL := { dst := some 7, op := Go.Op.assign (Go.Operand.tmp 65), type := 4, pos := "law.go:122", after := #[{ on := 14, ground := Go.Ground.data }, { on := 15, ground := Go.Ground.chain }, { on := 0, ground := Go.Ground.phase }, { on := 1, ground := Go.Ground.phase }, { on := 2, ground := Go.Ground.phase }, { on := 3, ground := Go.Ground.phase }, { on := 4, ground := Go.Ground.phase }, { on := 5, ground := Go.Ground.phase }, { on := 6, ground := Go.Ground.phase }, { on := 7, ground := Go.Ground.phase }, { on := 8, ground := Go.Ground.phase }, { on := 9, ground := Go.Ground.phase }, { on := 10, ground := Go.Ground.phase }, { on := 11, ground := Go.Ground.phase }, { on := 12, ground := Go.Ground.phase }, { on := 13, ground := Go.Ground.phase }, { on := 14, ground := Go.Ground.phase }, { on := 15, ground := Go.Ground.phase }], guard := none }) (v := .string ⟨#[]⟩) rfl rfl (by kernel_rfl) (by kernel_rfl) (by kernel_rfl) (by kernel_rfl) (fun _ _ _ h => h) (Or.inl ⟨by kernel_rfl, ?_⟩) HB6.out.drew ?_
  · (intro X hX; obtain ⟨y0, y1, y2, y3, y4, y5⟩ := box6 (HX.out X hX).2.1; obtain ⟨a0, a1, a2, a3, a4, a5, a6⟩ := (HX.out X hX).1.as <;> (go_simp; try (with_reducible rfl)))
  (try simp only [Act.put, List.setIfInBounds_toArray, List.set_cons_zero, List.set_cons_succ])
  refine wpAnyN_take (i := 3) (oi := { dst := some 54, op := Go.Op.binOp Go.BinOp.eql 9 (Go.Operand.tmp 52) (Go.Operand.tmp 53) 9, type := 4, pos := "law.go:122", after := #[{ on := 1, ground := Go.Ground.data }, { on := 2, ground := Go.Ground.data }], guard := none }) (oL := { dst := some 7, op := Go.Op.assign (Go.Operand.tmp 65), type := 4, pos := "law.go:122", after := #[{ on := 14, ground := Go.Ground.data }, { on := 15, ground := Go.Ground.chain }, { on := 0, ground := Go.Ground.phase }, { on := 1, ground := Go.Ground.phase }, { on := 2, ground := Go.Ground.phase }, { on := 3, ground := Go.Ground.phase }, { on := 4, ground := Go.Ground.phase }, { on := 5, ground := Go.Ground.phase }, { on := 6, ground := Go.Ground.phase }, { on := 7, ground := Go.Ground.phase }, { on := 8, ground := Go.Ground.phase }, { on := 9, ground := Go.Ground.phase }, { on := 10, ground := Go.Ground.phase }, { on := 11, ground := Go.Ground.phase }, { on := 12, ground := Go.Ground.phase }, { on := 13, ground := Go.Ground.phase }, { on := 14, ground := Go.Ground.phase }, { on := 15, ground := Go.Ground.phase }], guard := none }) (v := .bool true) rfl rfl (by kernel_rfl) (by kernel_rfl) (by kernel_rfl) (by kernel_rfl) (fun _ _ _ h => h) (Or.inl ⟨by kernel_rfl, ?_⟩) HB6.out.drew ?_
  · (intro X hX; obtain ⟨y0, y1, y2, y3, y4, y5⟩ := box6 (HX.out X hX).2.1; obtain ⟨a0, a1, a2, a3, a4, a5, a6⟩ := (HX.out X hX).1.as <;> (go_simp; try (with_reducible rfl)))
  (try simp only [Act.put, List.setIfInBounds_toArray, List.set_cons_zero, List.set_cons_succ])
  refine wpAnyN_take (i := 4) (oi := { dst := some 55, op := Go.Op.move (Go.Operand.tmp 54), type := 4, pos := "law.go:122", after := #[{ on := 3, ground := Go.Ground.data }], guard := none }) (oL := { dst := some 7, op := Go.Op.assign (Go.Operand.tmp 65), type := 4, pos := "law.go:122", after := #[{ on := 14, ground := Go.Ground.data }, { on := 15, ground := Go.Ground.chain }, { on := 0, ground := Go.Ground.phase }, { on := 1, ground := Go.Ground.phase }, { on := 2, ground := Go.Ground.phase }, { on := 3, ground := Go.Ground.phase }, { on := 4, ground := Go.Ground.phase }, { on := 5, ground := Go.Ground.phase }, { on := 6, ground := Go.Ground.phase }, { on := 7, ground := Go.Ground.phase }, { on := 8, ground := Go.Ground.phase }, { on := 9, ground := Go.Ground.phase }, { on := 10, ground := Go.Ground.phase }, { on := 11, ground := Go.Ground.phase }, { on := 12, ground := Go.Ground.phase }, { on := 13, ground := Go.Ground.phase }, { on := 14, ground := Go.Ground.phase }, { on := 15, ground := Go.Ground.phase }], guard := none }) (v := .bool true) rfl rfl (by kernel_rfl) (by kernel_rfl) (by kernel_rfl) (by kernel_rfl) (fun _ _ _ h => h) (Or.inl ⟨by kernel_rfl, ?_⟩) HB6.out.drew ?_
  · (intro X hX; obtain ⟨y0, y1, y2, y3, y4, y5⟩ := box6 (HX.out X hX).2.1; obtain ⟨a0, a1, a2, a3, a4, a5, a6⟩ := (HX.out X hX).1.as <;> (go_simp; try (with_reducible rfl)))
  (try simp only [Act.put, List.setIfInBounds_toArray, List.set_cons_zero, List.set_cons_succ])
  refine wpAnyN_take (i := 5) (oi := { dst := some 56, op := Go.Op.move (Go.Operand.tmp 13), type := 39, pos := "law.go:122", after := #[{ on := 4, ground := Go.Ground.guard }], guard := some (4, true) }) (oL := { dst := some 7, op := Go.Op.assign (Go.Operand.tmp 65), type := 4, pos := "law.go:122", after := #[{ on := 14, ground := Go.Ground.data }, { on := 15, ground := Go.Ground.chain }, { on := 0, ground := Go.Ground.phase }, { on := 1, ground := Go.Ground.phase }, { on := 2, ground := Go.Ground.phase }, { on := 3, ground := Go.Ground.phase }, { on := 4, ground := Go.Ground.phase }, { on := 5, ground := Go.Ground.phase }, { on := 6, ground := Go.Ground.phase }, { on := 7, ground := Go.Ground.phase }, { on := 8, ground := Go.Ground.phase }, { on := 9, ground := Go.Ground.phase }, { on := 10, ground := Go.Ground.phase }, { on := 11, ground := Go.Ground.phase }, { on := 12, ground := Go.Ground.phase }, { on := 13, ground := Go.Ground.phase }, { on := 14, ground := Go.Ground.phase }, { on := 15, ground := Go.Ground.phase }], guard := none }) (v := .iface 97 (.pointer (some ⟨f, 0, none⟩))) rfl rfl (by kernel_rfl) (by kernel_rfl) (by kernel_rfl) (by kernel_rfl) (fun _ _ _ h => h) (Or.inl ⟨by kernel_rfl, ?_⟩) HB6.out.drew ?_
  · (intro X hX; obtain ⟨y0, y1, y2, y3, y4, y5⟩ := box6 (HX.out X hX).2.1; obtain ⟨a0, a1, a2, a3, a4, a5, a6⟩ := (HX.out X hX).1.as <;> (go_simp; try (with_reducible rfl)))
  (try simp only [Act.put, List.setIfInBounds_toArray, List.set_cons_zero, List.set_cons_succ])
  refine wpAnyN_take (i := 6) (oi := { dst := some 57, op := Go.Op.move (Go.Operand.tmp 10), type := 3, pos := "law.go:122", after := #[{ on := 4, ground := Go.Ground.guard }], guard := some (4, true) }) (oL := { dst := some 7, op := Go.Op.assign (Go.Operand.tmp 65), type := 4, pos := "law.go:122", after := #[{ on := 14, ground := Go.Ground.data }, { on := 15, ground := Go.Ground.chain }, { on := 0, ground := Go.Ground.phase }, { on := 1, ground := Go.Ground.phase }, { on := 2, ground := Go.Ground.phase }, { on := 3, ground := Go.Ground.phase }, { on := 4, ground := Go.Ground.phase }, { on := 5, ground := Go.Ground.phase }, { on := 6, ground := Go.Ground.phase }, { on := 7, ground := Go.Ground.phase }, { on := 8, ground := Go.Ground.phase }, { on := 9, ground := Go.Ground.phase }, { on := 10, ground := Go.Ground.phase }, { on := 11, ground := Go.Ground.phase }, { on := 12, ground := Go.Ground.phase }, { on := 13, ground := Go.Ground.phase }, { on := 14, ground := Go.Ground.phase }, { on := 15, ground := Go.Ground.phase }], guard := none }) (v := .int .i64 93) rfl rfl (by kernel_rfl) (by kernel_rfl) (by kernel_rfl) (by kernel_rfl) (fun _ _ _ h => h) (Or.inl ⟨by kernel_rfl, ?_⟩) HB6.out.drew ?_
  · (intro X hX; obtain ⟨y0, y1, y2, y3, y4, y5⟩ := box6 (HX.out X hX).2.1; obtain ⟨a0, a1, a2, a3, a4, a5, a6⟩ := (HX.out X hX).1.as <;> (go_simp; try (with_reducible rfl)))
  (try simp only [Act.put, List.setIfInBounds_toArray, List.set_cons_zero, List.set_cons_succ])
  refine wpAnyN_take (i := 7) (oi := { dst := some 58, op := Go.Op.fieldAddr 35 (Go.Operand.tmp 5) 0, type := 0, pos := "law.go:122", after := #[{ on := 4, ground := Go.Ground.guard }], guard := some (4, true) }) (oL := { dst := some 7, op := Go.Op.assign (Go.Operand.tmp 65), type := 4, pos := "law.go:122", after := #[{ on := 14, ground := Go.Ground.data }, { on := 15, ground := Go.Ground.chain }, { on := 0, ground := Go.Ground.phase }, { on := 1, ground := Go.Ground.phase }, { on := 2, ground := Go.Ground.phase }, { on := 3, ground := Go.Ground.phase }, { on := 4, ground := Go.Ground.phase }, { on := 5, ground := Go.Ground.phase }, { on := 6, ground := Go.Ground.phase }, { on := 7, ground := Go.Ground.phase }, { on := 8, ground := Go.Ground.phase }, { on := 9, ground := Go.Ground.phase }, { on := 10, ground := Go.Ground.phase }, { on := 11, ground := Go.Ground.phase }, { on := 12, ground := Go.Ground.phase }, { on := 13, ground := Go.Ground.phase }, { on := 14, ground := Go.Ground.phase }, { on := 15, ground := Go.Ground.phase }], guard := none }) (v := .pointer (some ⟨w.heap.size + 1, 0, none⟩)) rfl rfl (by kernel_rfl) (by kernel_rfl) (by kernel_rfl) (by kernel_rfl) (fun _ _ _ h => h) (Or.inl ⟨by kernel_rfl, ?_⟩) HB6.out.drew ?_
  · (intro X hX; obtain ⟨y0, y1, y2, y3, y4, y5⟩ := box6 (HX.out X hX).2.1; obtain ⟨a0, a1, a2, a3, a4, a5, a6⟩ := (HX.out X hX).1.as <;> (go_simp; try (with_reducible rfl)))
  (try simp only [Act.put, List.setIfInBounds_toArray, List.set_cons_zero, List.set_cons_succ])
  refine wpAnyN_take (i := 8) (oi := { dst := some 59, op := Go.Op.load 3 (Go.Operand.tmp 58), type := 3, pos := "law.go:122", after := #[{ on := 7, ground := Go.Ground.data }, { on := 4, ground := Go.Ground.guard }], guard := some (4, true) }) (oL := { dst := some 7, op := Go.Op.assign (Go.Operand.tmp 65), type := 4, pos := "law.go:122", after := #[{ on := 14, ground := Go.Ground.data }, { on := 15, ground := Go.Ground.chain }, { on := 0, ground := Go.Ground.phase }, { on := 1, ground := Go.Ground.phase }, { on := 2, ground := Go.Ground.phase }, { on := 3, ground := Go.Ground.phase }, { on := 4, ground := Go.Ground.phase }, { on := 5, ground := Go.Ground.phase }, { on := 6, ground := Go.Ground.phase }, { on := 7, ground := Go.Ground.phase }, { on := 8, ground := Go.Ground.phase }, { on := 9, ground := Go.Ground.phase }, { on := 10, ground := Go.Ground.phase }, { on := 11, ground := Go.Ground.phase }, { on := 12, ground := Go.Ground.phase }, { on := 13, ground := Go.Ground.phase }, { on := 14, ground := Go.Ground.phase }, { on := 15, ground := Go.Ground.phase }], guard := none }) (v := .int .i64 kind) rfl rfl (by kernel_rfl) (by kernel_rfl) (by kernel_rfl) (by kernel_rfl) (fun _ _ _ h => h) (Or.inl ⟨by kernel_rfl, ?_⟩) HB6.out.drew ?_
  · (intro X hX; obtain ⟨y0, y1, y2, y3, y4, y5⟩ := box6 (HX.out X hX).2.1; obtain ⟨a0, a1, a2, a3, a4, a5, a6⟩ := (HX.out X hX).1.as <;> (go_simp; try (with_reducible rfl)))
  (try simp only [Act.put, List.setIfInBounds_toArray, List.set_cons_zero, List.set_cons_succ])
  refine wpAnyN_take (i := 10) (oi := { dst := some 61, op := Go.Op.fieldAddr 35 (Go.Operand.tmp 5) 2, type := 0, pos := "law.go:122", after := #[{ on := 4, ground := Go.Ground.guard }], guard := some (4, true) }) (oL := { dst := some 7, op := Go.Op.assign (Go.Operand.tmp 65), type := 4, pos := "law.go:122", after := #[{ on := 14, ground := Go.Ground.data }, { on := 15, ground := Go.Ground.chain }, { on := 0, ground := Go.Ground.phase }, { on := 1, ground := Go.Ground.phase }, { on := 2, ground := Go.Ground.phase }, { on := 3, ground := Go.Ground.phase }, { on := 4, ground := Go.Ground.phase }, { on := 5, ground := Go.Ground.phase }, { on := 6, ground := Go.Ground.phase }, { on := 7, ground := Go.Ground.phase }, { on := 8, ground := Go.Ground.phase }, { on := 9, ground := Go.Ground.phase }, { on := 10, ground := Go.Ground.phase }, { on := 11, ground := Go.Ground.phase }, { on := 12, ground := Go.Ground.phase }, { on := 13, ground := Go.Ground.phase }, { on := 14, ground := Go.Ground.phase }, { on := 15, ground := Go.Ground.phase }], guard := none }) (v := .pointer (some ⟨w.heap.size + 1, 2, none⟩)) rfl rfl (by kernel_rfl) (by kernel_rfl) (by kernel_rfl) (by kernel_rfl) (fun _ _ _ h => h) (Or.inl ⟨by kernel_rfl, ?_⟩) HB6.out.drew ?_
  · (intro X hX; obtain ⟨y0, y1, y2, y3, y4, y5⟩ := box6 (HX.out X hX).2.1; obtain ⟨a0, a1, a2, a3, a4, a5, a6⟩ := (HX.out X hX).1.as <;> (go_simp; try (with_reducible rfl)))
  (try simp only [Act.put, List.setIfInBounds_toArray, List.set_cons_zero, List.set_cons_succ])
  refine wpAnyN_take (i := 11) (oi := { dst := some 62, op := Go.Op.load 9 (Go.Operand.tmp 61), type := 9, pos := "law.go:122", after := #[{ on := 10, ground := Go.Ground.data }, { on := 4, ground := Go.Ground.guard }], guard := some (4, true) }) (oL := { dst := some 7, op := Go.Op.assign (Go.Operand.tmp 65), type := 4, pos := "law.go:122", after := #[{ on := 14, ground := Go.Ground.data }, { on := 15, ground := Go.Ground.chain }, { on := 0, ground := Go.Ground.phase }, { on := 1, ground := Go.Ground.phase }, { on := 2, ground := Go.Ground.phase }, { on := 3, ground := Go.Ground.phase }, { on := 4, ground := Go.Ground.phase }, { on := 5, ground := Go.Ground.phase }, { on := 6, ground := Go.Ground.phase }, { on := 7, ground := Go.Ground.phase }, { on := 8, ground := Go.Ground.phase }, { on := 9, ground := Go.Ground.phase }, { on := 10, ground := Go.Ground.phase }, { on := 11, ground := Go.Ground.phase }, { on := 12, ground := Go.Ground.phase }, { on := 13, ground := Go.Ground.phase }, { on := 14, ground := Go.Ground.phase }, { on := 15, ground := Go.Ground.phase }], guard := none }) (v := .string name) rfl rfl (by kernel_rfl) (by kernel_rfl) (by kernel_rfl) (by kernel_rfl) (fun _ _ _ h => h) (Or.inl ⟨by kernel_rfl, ?_⟩) HB6.out.drew ?_
  · (intro X hX; obtain ⟨y0, y1, y2, y3, y4, y5⟩ := box6 (HX.out X hX).2.1; obtain ⟨a0, a1, a2, a3, a4, a5, a6⟩ := (HX.out X hX).1.as <;> (go_simp; try (with_reducible rfl)))
  (try simp only [Act.put, List.setIfInBounds_toArray, List.set_cons_zero, List.set_cons_succ])
  refine wpAnyN_take (i := 12) (oi := { dst := some 63, op := Go.Op.move (Go.Operand.tmp 11), type := 3, pos := "law.go:122", after := #[{ on := 4, ground := Go.Ground.guard }], guard := some (4, true) }) (oL := { dst := some 7, op := Go.Op.assign (Go.Operand.tmp 65), type := 4, pos := "law.go:122", after := #[{ on := 14, ground := Go.Ground.data }, { on := 15, ground := Go.Ground.chain }, { on := 0, ground := Go.Ground.phase }, { on := 1, ground := Go.Ground.phase }, { on := 2, ground := Go.Ground.phase }, { on := 3, ground := Go.Ground.phase }, { on := 4, ground := Go.Ground.phase }, { on := 5, ground := Go.Ground.phase }, { on := 6, ground := Go.Ground.phase }, { on := 7, ground := Go.Ground.phase }, { on := 8, ground := Go.Ground.phase }, { on := 9, ground := Go.Ground.phase }, { on := 10, ground := Go.Ground.phase }, { on := 11, ground := Go.Ground.phase }, { on := 12, ground := Go.Ground.phase }, { on := 13, ground := Go.Ground.phase }, { on := 14, ground := Go.Ground.phase }, { on := 15, ground := Go.Ground.phase }], guard := none }) (v := .int .i64 0) rfl rfl (by kernel_rfl) (by kernel_rfl) (by kernel_rfl) (by kernel_rfl) (fun _ _ _ h => h) (Or.inl ⟨by kernel_rfl, ?_⟩) HB6.out.drew ?_
  · (intro X hX; obtain ⟨y0, y1, y2, y3, y4, y5⟩ := box6 (HX.out X hX).2.1; obtain ⟨a0, a1, a2, a3, a4, a5, a6⟩ := (HX.out X hX).1.as <;> (go_simp; try (with_reducible rfl)))
  (try simp only [Act.put, List.setIfInBounds_toArray, List.set_cons_zero, List.set_cons_succ])
  refine wpAnyN_one (i := 9) (o := { dst := some 60, op := Go.Op.call { callee := Go.Callee.value (Go.Operand.func 19), args := #[Go.Operand.tmp 59], argTypes := #[3] }, type := 9, pos := "law.go:122", after := #[{ on := 8, ground := Go.Ground.data }, { on := 4, ground := Go.Ground.chain }, { on := 4, ground := Go.Ground.guard }], guard := some (4, true) }) (by kernel_rfl) rfl (fun K hK => ?_)
  go_simp
  refine (HW2.out _ HB6.out.drew).mono ?_
  rintro e w7 ⟨rfl, hw7⟩
  have Hw7 := Lib.hid hw7
  clear hw7
  refine hK.out _ _ (fun _ => Hw7.out) ?_
  clear hK K
  (try simp only [Act.put, List.setIfInBounds_toArray, List.set_cons_zero, List.set_cons_succ])
  refine wpAnyN_one (i := 13) (o := { dst := some 64, op := Go.Op.call { callee := Go.Callee.value (Go.Operand.func 18), args := #[Go.Operand.tmp 56, Go.Operand.tmp 57, Go.Operand.tmp 60, Go.Operand.tmp 62, Go.Operand.tmp 63], argTypes := #[39, 3, 9, 9, 3] }, type := 4, pos := "law.go:122", after := #[{ on := 5, ground := Go.Ground.data }, { on := 6, ground := Go.Ground.data }, { on := 9, ground := Go.Ground.data }, { on := 11, ground := Go.Ground.data }, { on := 12, ground := Go.Ground.data }, { on := 9, ground := Go.Ground.chain }, { on := 4, ground := Go.Ground.guard }], guard := some (4, true) }) (by kernel_rfl) rfl (fun K hK => ?_)
  go_simp
  refine (HT2.out _ Hw7.out).mono ?_
  rintro e w8 ⟨rfl, hw8⟩
  have Hw8 := Lib.hid hw8
  clear hw8
  refine hK.out _ _ (fun _ => Hw8.out) ?_
  clear hK K
  (try simp only [Act.put, List.setIfInBounds_toArray, List.set_cons_zero, List.set_cons_succ])
  refine wpAnyN_take (i := 14) (oi := { dst := some 65, op := Go.Op.pick (Go.Operand.tmp 55) (Go.Operand.tmp 64) (Go.Operand.const (Go.Value.bool false)), type := 4, pos := "law.go:122", after := #[{ on := 4, ground := Go.Ground.data }, { on := 13, ground := Go.Ground.data }, { on := 15, ground := Go.Ground.gcOnly Go.Departure.lateStores }], guard := none }) (oL := { dst := some 7, op := Go.Op.assign (Go.Operand.tmp 65), type := 4, pos := "law.go:122", after := #[{ on := 14, ground := Go.Ground.data }, { on := 15, ground := Go.Ground.chain }, { on := 0, ground := Go.Ground.phase }, { on := 1, ground := Go.Ground.phase }, { on := 2, ground := Go.Ground.phase }, { on := 3, ground := Go.Ground.phase }, { on := 4, ground := Go.Ground.phase }, { on := 5, ground := Go.Ground.phase }, { on := 6, ground := Go.Ground.phase }, { on := 7, ground := Go.Ground.phase }, { on := 8, ground := Go.Ground.phase }, { on := 9, ground := Go.Ground.phase }, { on := 10, ground := Go.Ground.phase }, { on := 11, ground := Go.Ground.phase }, { on := 12, ground := Go.Ground.phase }, { on := 13, ground := Go.Ground.phase }, { on := 14, ground := Go.Ground.phase }, { on := 15, ground := Go.Ground.phase }], guard := none }) (v := .bool true) rfl rfl (by kernel_rfl) (by kernel_rfl) (by kernel_rfl) (by kernel_rfl) (fun _ _ _ h => h) (Or.inl ⟨by kernel_rfl, ?_⟩) Hw8.out ?_
  · (intro X hX; obtain ⟨y0, y1, y2, y3, y4, y5⟩ := box6 (HX.out X hX).2.1; obtain ⟨a0, a1, a2, a3, a4, a5, a6⟩ := (HX.out X hX).1.as <;> (go_simp; try (with_reducible rfl)))
  (try simp only [Act.put, List.setIfInBounds_toArray, List.set_cons_zero, List.set_cons_succ])
  refine wpAnyN_one (i := 15) (o := { dst := none, op := Go.Op.store 31 (Go.Operand.tmp 6) (Go.Operand.tmp 51), type := 0, pos := "law.go:122", after := #[{ on := 0, ground := Go.Ground.data }, { on := 13, ground := Go.Ground.chain }, { on := 0, ground := Go.Ground.phase }, { on := 1, ground := Go.Ground.textOnly Go.Departure.lateStores }, { on := 2, ground := Go.Ground.textOnly Go.Departure.lateStores }, { on := 3, ground := Go.Ground.textOnly Go.Departure.lateStores }, { on := 4, ground := Go.Ground.textOnly Go.Departure.lateStores }, { on := 5, ground := Go.Ground.textOnly Go.Departure.lateStores }, { on := 6, ground := Go.Ground.textOnly Go.Departure.lateStores }, { on := 7, ground := Go.Ground.textOnly Go.Departure.lateStores }, { on := 8, ground := Go.Ground.textOnly Go.Departure.lateStores }, { on := 9, ground := Go.Ground.textOnly Go.Departure.lateStoresUnsure }, { on := 10, ground := Go.Ground.textOnly Go.Departure.lateStores }, { on := 11, ground := Go.Ground.textOnly Go.Departure.lateStores }, { on := 12, ground := Go.Ground.textOnly Go.Departure.lateStores }, { on := 13, ground := Go.Ground.textOnly Go.Departure.lateStoresUnsure }, { on := 14, ground := Go.Ground.textOnly Go.Departure.lateStores }], guard := none }) (by kernel_rfl) rfl (fun K hK => ?_)
  refine wp_store_row 31 _ _ rfl (w.heap.size + 1 + 1) ref0 rfl rfl 31 _ (HX.out _ Hw8.out).1.r Tryz.sizeRefD rfl (by simp [Value.oneCell']) ?_
  rw [setRow_same (HX.out _ Hw8.out).1.r]
  refine hK.out _ _ (fun _ => Hw8.out) ?_
  clear hK K
  (try simp only [Act.put])
  refine wpAnyN_one (i := 16) (o := { dst := some 7, op := Go.Op.assign (Go.Operand.tmp 65), type := 4, pos := "law.go:122", after := #[{ on := 14, ground := Go.Ground.data }, { on := 15, ground := Go.Ground.chain }, { on := 0, ground := Go.Ground.phase }, { on := 1, ground := Go.Ground.phase }, { on := 2, ground := Go.Ground.phase }, { on := 3, ground := Go.Ground.phase }, { on := 4, ground := Go.Ground.phase }, { on := 5, ground := Go.Ground.phase }, { on := 6, ground := Go.Ground.phase }, { on := 7, ground := Go.Ground.phase }, { on := 8, ground := Go.Ground.phase }, { on := 9, ground := Go.Ground.phase }, { on := 10, ground := Go.Ground.phase }, { on := 11, ground := Go.Ground.phase }, { on := 12, ground := Go.Ground.phase }, { on := 13, ground := Go.Ground.phase }, { on := 14, ground := Go.Ground.phase }, { on := 15, ground := Go.Ground.phase }], guard := none }) (by kernel_rfl) rfl (fun K hK => ?_)
  go_simp
  refine hK.out _ _ (fun e => absurd (e.symm.trans (by kernel_rfl) : false = true) Bool.false_ne_true) ?_
  clear hK K
  (try simp only [Act.put, List.setIfInBounds_toArray, List.set_cons_zero, List.set_cons_succ])
  refine wpAnyN_of_H (S' := fun _ => True) _ _ _ _ (by kernel_rfl) ?_
  refine wpAnyH_done (by kernel_rfl) ?_ _
  --E called--
  go_wp2_with fail
  refine bodyPost_ret (res2 rfl _ _ (w.heap.size + 1 + 1) 31 ref0 (0, 0) _ rfl (HX.out _ Hw8.out).1.r Tryz.underlying31 rfl Tryz.sizeRefD) rfl ?_
  exact ⟨rfl, (HX.out _ Hw8.out).1.below⟩
end Go.Proofs.YtgadmfbilmlnkabGreatDoor
