/- disk: due. -/
import Derived.Test.YtgadmfbilmlnkabGreatDoorD9l
namespace Go.Proofs.YtgadmfbilmlnkabGreatDoor
open Go.RowKit Go.Lib

theorem res2 {P : Program} {fn : Func} {p u : Tmp} {ty : TypeId} (h : fn.results = #[.cell p ty, .tmp u]) (tmps : Array Value) (w : World) (g : Nat) (t : TypeId) (cs : Array Value) (fr : Nat × Nat) (d : TypeDesc)
    (hp : tmps.getD p undef = .pointer (some ⟨g, 0, none⟩)) (hg : w.heap[g]? = some (.cells cs t fr))
    (hu : P.underlying ty = some d) (hd : (match d with | .struct _ | .array _ _ => true | _ => false) = true) (hi : (P.info? ty).map (·.size) = some cs.size) :
    (results fn tmps).run P w = .ok (.tuple #[.agg cs, tmps.getD u undef]) w := by
  rw [results_cell_tmp h, hp]
  simp [asAddr, Result.andThen, run_loadVar_row w g t ty cs fr d hg hu hd hi]
theorem Tryz.sizeStop : (Tryz.prog.info? 61).map (·.size) = some 3 := by kernel_rfl
/-- Its stops alone have turned, and cells of its own. -/
theorem DiskAt.restop {B d m clk : Nat} {sv sv' : Value} {S S' : DS} {F : List FE} {w w' : World} (h : DiskAt B d m clk sv S F w) (hq : S'.quota = S.quota) (hstep : S'.steps ≤ 1000000000)
    (hself : w'.heap[d]? = some (selfObj S' (usedF F) sv' m)) (hst : StopsAt w' sv' S'.stops) (hsv : ∀ b, svBlk sv' = some b → svBlk sv = some b ∨ w.heap.size ≤ b) (hz : w.heap.size ≤ w'.heap.size)
    (hs : ∀ b, b ∈ fpOf d m sv F → b ≠ d → svBlk sv ≠ some b → w'.heap[b]? = w.heap[b]?) : DiskAt B d m clk sv' S' F w' ∧ ∀ b, b ∈ fpOf d m sv' F → b ∈ fpOf d m sv F ∨ w.heap.size ≤ b := by
  have hap := h.apart
  unfold fpOf at hap
  rw [List.nodup_cons, List.nodup_cons, List.nodup_append] at hap
  obtain ⟨hd, hm, _, hF, hx⟩ := hap
  have hfr : ∀ b, b ∈ fpOf d m sv' F → b ∈ fpOf d m sv F ∨ w.heap.size ≤ b := by
    intro b hb
    simp only [fpOf, List.mem_cons, List.mem_append, Option.mem_toList] at hb ⊢
    rcases hb with hb | hb | hb | hb
    · exact .inl (.inl hb)
    · exact .inl (.inr (.inl hb))
    · rcases hsv b hb with e | e
      · exact .inl (.inr (.inr (.inl e)))
      · exact .inr e
    · exact .inl (.inr (.inr (.inr hb)))
  have hblk : ∀ b, b ∈ F.flatMap FE.blks → b ≠ d ∧ svBlk sv ≠ some b := fun b hb => ⟨fun e => hd (by rw [← e]; simp only [List.mem_cons, List.mem_append]; exact .inr (.inr hb)), fun e => hx b (by simp [e]) b hb rfl⟩
  refine ⟨⟨hself, ?_, h.born, h.borns, h.names, ?_, hst, ?_, ?_, Nat.le_trans h.size hz, by rw [hq]; exact h.fits, by rw [hq]; exact h.quota, hstep⟩, hfr⟩
  · rw [hs m mem_fp_map (fun e => hd (by rw [← e]; simp)) (fun e => hm (by simp [e]))]; exact h.map
  · intro f hf
    refine (h.files f hf).same (fun b hb => ?_)
    obtain ⟨x, y⟩ := hblk b (List.mem_flatMap.2 ⟨f, hf, hb⟩)
    exact hs b (mem_fp_file hf hb) x y
  · unfold fpOf
    rw [List.nodup_cons, List.nodup_cons, List.nodup_append]
    have hlt : ∀ b, b ∈ fpOf d m sv F → b < w.heap.size := fun b hb => h.lt hb
    have hdl := hlt d mem_fp_self
    have hml := hlt m mem_fp_map
    refine ⟨?_, ?_, by cases svBlk sv' <;> simp, hF, ?_⟩
    · intro e
      simp only [List.mem_cons, List.mem_append, Option.mem_toList] at e
      rcases e with e | e | e
      · exact hd (by rw [e]; simp)
      · rcases hsv d e with e' | e'
        · exact hd (by simp [e'])
        · omega
      · exact hd (by simp only [List.mem_cons, List.mem_append]; exact .inr (.inr e))
    · intro e
      simp only [List.mem_append, Option.mem_toList] at e
      rcases e with e | e
      · rcases hsv m e with e' | e'
        · exact hm (by simp [e'])
        · omega
      · exact hm (by simp only [List.mem_append]; exact .inr e)
    · intro a ha b hb
      rw [Option.mem_toList] at ha
      rintro rfl
      rcases hsv a ha with e' | e'
      · exact (hblk a hb).2 e'
      · have := hlt a (by simp only [fpOf, List.mem_cons, List.mem_append]; exact .inr (.inr (.inr hb)))
        omega
  · intro b hb
    rcases hfr b hb with e | e
    · exact h.base b e
    · exact Nat.le_trans h.size e
theorem stops_head {w : World} {sv : Value} {x y z : Int} {l : List (Int × Int × Int)} (h : StopsAt w sv ((x, y, z) :: l)) :
    ∃ g o c cur, sv = .slice (some ⟨g, o, none⟩) (l.length + 1) c ∧ l.length + 1 ≤ c ∧ w.heap[g]? = some (.cells cur 61 (0, 0)) ∧ cur[o]? = some (.int .i64 x) ∧ cur[o + 1]? = some (.int .i64 y) ∧ cur[o + 2]? = some (.int .i64 z) ∧ (cur.toList.drop (o + 3)).take (3 * l.length) = stopCells l := by
  obtain ⟨a, c, rfl, hl⟩ := h
  rcases hl with hl | ⟨g, o, cur, rfl, hc, hg, ht⟩
  · cases hl
  · have e : stopCells ((x, y, z) :: l) = [.int .i64 x, .int .i64 y, .int .i64 z] ++ stopCells l := by simp [stopCells]
    rw [e, List.length_cons] at ht
    have hx : ∀ j : Nat, ((cur.toList.drop o).take (3 * (l.length + 1)))[j]? = (([.int .i64 x, .int .i64 y, .int .i64 z] : List Value) ++ stopCells l)[j]? := fun j => by rw [ht]
    refine ⟨g, o, c, cur, rfl, hc, hg, ?_, ?_, ?_, ?_⟩
    · have := hx 0
      rw [List.getElem?_take, if_pos (by omega), List.getElem?_drop] at this
      simpa using this
    · have := hx 1
      rw [List.getElem?_take, if_pos (by omega), List.getElem?_drop] at this
      simpa using this
    · have := hx 2
      rw [List.getElem?_take, if_pos (by omega), List.getElem?_drop] at this
      simpa using this
    · apply List.ext_getElem?
      intro j
      by_cases hj : j < 3 * l.length
      · have := hx (3 + j)
        rw [List.getElem?_take, if_pos (by omega), List.getElem?_drop, List.getElem?_append_right (by simp)] at this
        rw [List.getElem?_take, if_pos hj, List.getElem?_drop, show o + 3 + j = o + (3 + j) by omega, this]
        simp
      · rw [List.getElem?_take, if_neg hj, List.getElem?_eq_none (by rw [stopCells_length]; omega)]
theorem stops_make {w : World} {g o c : Nat} {cur : Array Value} {x y z : Int} {l : List (Int × Int × Int)} (hc : l.length + 1 ≤ c) (hg : w.heap[g]? = some (.cells cur 61 (0, 0))) (h0 : cur[o]? = some (.int .i64 x)) (h1 : cur[o + 1]? = some (.int .i64 y)) (h2 : cur[o + 2]? = some (.int .i64 z))
    (ht : (cur.toList.drop (o + 3)).take (3 * l.length) = stopCells l) : StopsAt w (.slice (some ⟨g, o, none⟩) (l.length + 1) c) ((x, y, z) :: l) := by
  refine ⟨_, c, by rw [List.length_cons], .inr ⟨g, o, cur, rfl, by rw [List.length_cons]; exact hc, hg, ?_⟩⟩
  have e : stopCells ((x, y, z) :: l) = [.int .i64 x, .int .i64 y, .int .i64 z] ++ stopCells l := by simp [stopCells]
  rw [e, ← ht, List.length_cons]
  apply List.ext_getElem?
  intro j
  by_cases hj : j < 3 * (l.length + 1)
  · rw [List.getElem?_take, if_pos hj, List.getElem?_drop]
    match j, hj with
    | 0, _ => simpa using h0
    | 1, _ => simpa using h1
    | 2, _ => simpa using h2
    | j + 3, hj =>
      rw [List.getElem?_append_right (by simp)]
      simp only [List.length_cons, List.length_nil]
      rw [List.getElem?_take, if_pos (by omega), List.getElem?_drop]
      congr 1
      omega
  · rw [List.getElem?_take, if_neg hj, List.getElem?_eq_none]
    simp only [List.length_append, List.length_cons, List.length_nil, List.length_take]
    omega
set_option maxHeartbeats 2000000 in
theorem due_none {B d m clk : Nat} {sv : Value} {S : DS} {F : List FE} {w : World} (h : DiskAt B d m clk sv S F w) (hst : S.stops = []) :
    Calls Tryz.prog 66 #[.pointer (some ⟨d, 0, none⟩)] w fun e w' => e = .returned (.tuple #[.agg #[.int .i64 0, .int .i64 0, .int .i64 0], .bool false]) ∧ Below w.heap.size w w' := by
  have c4 := h.cells.c4
  obtain ⟨a, c, hsv, _⟩ := h.stops
  rw [hst] at hsv
  have hdl := lt_of_heap h.self
  subst hsv
  have k4 : ∀ o, (w.alloc o).cell? ⟨d, 4, none⟩ = some (.slice a 0 c) := fun o => by rw [World.cell?_of_block (Below.heap_alloc _ _ _ hdl)]; exact c4
  clear c4 h hst
  go_enter Tryz.func66, Tryz.ntmps66
  go_wp2
  exact bodyPost_ret (v := .tuple #[.agg #[.int .i64 0, .int .i64 0, .int .i64 0], .bool false]) (res2 Tryz.results66 _ _ w.heap.size 61 _ (0, 0) _ rfl (heap_alloc_new w _) Tryz.underlying61 rfl Tryz.sizeStop) rfl ⟨rfl, (Below.refl _ _).alloc (Nat.le_refl _) _⟩
/-- The first stop's count goes down. -/
theorem tick_world {B d m clk : Nat} {sv : Value} {S : DS} {F : List FE} {w w1 : World} (h : DiskAt B d m clk sv S F w) (x y z : Int) (l : List (Int × Int × Int)) {g o c : Nat} {cur : Array Value} (hsv : sv = .slice (some ⟨g, o, none⟩) (l.length + 1) c) (hc : l.length + 1 ≤ c)
    (hg : w.heap[g]? = some (.cells cur 61 (0, 0))) (h0 : cur[o]? = some (.int .i64 x)) (h1 : cur[o + 1]? = some (.int .i64 y)) (h2 : cur[o + 2]? = some (.int .i64 z)) (ht : (cur.toList.drop (o + 3)).take (3 * l.length) = stopCells l)
    (hb : Below w.heap.size w w1) : DiskAt B d m clk sv { S with stops := (x - 1, y, z) :: l } F (w1.setCell ⟨g, o, none⟩ (.int .i64 (x - 1))) ∧ Stays (fpOf d m sv F) w (w1.setCell ⟨g, o, none⟩ (.int .i64 (x - 1))) := by
  have hgl := lt_of_heap hg
  have hdl := lt_of_heap h.self
  have hgsv : svBlk sv = some g := by rw [hsv]; rfl
  have hgd : d ≠ g := by
    have := h.apart
    simp only [fpOf, List.nodup_cons, List.mem_cons, List.mem_append, Option.mem_toList] at this
    exact fun e => this.1 (.inr (.inl (by rw [hgsv, e])))
  have hg1 : w1.heap[g]? = some (.cells cur 61 (0, 0)) := by rw [hb.block g hgl]; exact hg
  have hol : o < cur.size := (Array.getElem?_eq_some_iff.1 h0).1
  refine ⟨(h.restop (S' := { S with stops := (x - 1, y, z) :: l }) rfl h.steps ?_ ?_ (fun b e => .inl e) ?_ ?_).1, ?_⟩
  · rw [Below.heap_setCell _ _ _ _ hgd, hb.block d hdl]; exact h.self
  · rw [hsv]
    refine stops_make (cur := cur.setIfInBounds o (.int .i64 (x - 1))) hc (heap_setCell_at _ hg1) ?_ ?_ ?_ ?_
    · rw [Array.getElem?_setIfInBounds_self_of_lt hol]
    · rw [Array.getElem?_setIfInBounds_ne (by omega)]; exact h1
    · rw [Array.getElem?_setIfInBounds_ne (by omega)]; exact h2
    · rw [Array.toList_setIfInBounds, List.drop_set_of_lt (by omega)]; exact ht
  · have := hb.size
    simp [World.setCell]; omega
  · intro b hbm h1' h2'
    rw [Below.heap_setCell _ _ _ _ (fun e => h2' (by rw [hgsv, e])), hb.block b (h.lt hbm)]
  · exact Stays.setCell (p := ⟨g, o, none⟩) (Stays.ofBelow hb) (.inl (mem_fp_sv hgsv)) _
set_option maxHeartbeats 2000000 in
theorem due_later {B d m clk : Nat} {sv : Value} {S : DS} {F : List FE} {w : World} (h : DiskAt B d m clk sv S F w) (x y z : Int) (l : List (Int × Int × Int)) (hst : S.stops = (x, y, z) :: l) (hx : 1 < x) (hx' : x ≤ 9223372036854775807) :
    Calls Tryz.prog 66 #[.pointer (some ⟨d, 0, none⟩)] w fun e w' => e = .returned (.tuple #[.agg #[.int .i64 0, .int .i64 0, .int .i64 0], .bool false]) ∧ DiskAt B d m clk sv { S with stops := (x - 1, y, z) :: l } F w' ∧ Stays (fpOf d m sv F) w w' := by
  have c4 := h.cells.c4
  have hss := h.stops
  rw [hst] at hss
  obtain ⟨g, o, c, cur, hsv, hc, hg, h0, h1, h2, ht⟩ := stops_head hss
  have hdl := lt_of_heap h.self
  have hgl := lt_of_heap hg
  have HE := Lib.hid (fun w1 (hb : Below w.heap.size w w1) => tick_world h x y z l hsv hc hg h0 h1 h2 ht hb)
  rw [hsv] at c4
  have k4 : ∀ o', (w.alloc o').cell? ⟨d, 4, none⟩ = some (.slice (some ⟨g, o, none⟩) (l.length + 1) c) := fun o' => by rw [World.cell?_of_block (Below.heap_alloc _ _ _ hdl)]; exact c4
  have k4' : ∀ o' o'', ((w.alloc o').alloc o'').cell? ⟨d, 4, none⟩ = some (.slice (some ⟨g, o, none⟩) (l.length + 1) c) := fun o' o'' => by rw [World.cell?_of_block (Below.heap_alloc _ _ _ (by simp; omega))]; exact k4 o'
  have q0 : ∀ o', (w.alloc o').cell? ⟨g, o, none⟩ = some (.int .i64 x) := fun o' => by rw [World.cell?_of_block (Below.heap_alloc _ _ _ hgl), cell_of hg]; exact h0
  have q1 : ∀ o', (w.alloc o').cell? ⟨g, o + 1, none⟩ = some (.int .i64 y) := fun o' => by rw [World.cell?_of_block (Below.heap_alloc _ _ _ hgl), cell_of hg]; exact h1
  have q2 : ∀ o', (w.alloc o').cell? ⟨g, o + 2, none⟩ = some (.int .i64 z) := fun o' => by rw [World.cell?_of_block (Below.heap_alloc _ _ _ hgl), cell_of hg]; exact h2
  have q3 : ∀ o' o'', ((w.alloc o').alloc o'').cell? ⟨g, o, none⟩ = some (.int .i64 x) := fun o' o'' => by rw [World.cell?_of_block (Below.heap_alloc _ _ _ (by simp; omega))]; exact q0 o'
  have q4 : ∀ o' o'', ((w.alloc o').alloc o'').frozen? ⟨g, o, none⟩ = false := fun o' o'' => by rw [World.frozen?_of_block (Below.heap_alloc _ _ _ (by simp; omega)), World.frozen?_of_block (Below.heap_alloc _ _ _ hgl)]; exact frozen_of hg o
  clear c4 h hst hss hg h0 h1 h2 ht hc hsv
  go_enter Tryz.func66, Tryz.ntmps66
  go_wp2
  have hr : (((w.setCell ⟨g, o, none⟩ (.int .i64 (x - 1))).alloc (.cells #[.int .i64 0, .int .i64 0, .int .i64 0] 61)).alloc (.cells #[.int .i64 x, .int .i64 y, .int .i64 z] 61)).heap[w.heap.size]? = some (.cells #[.int .i64 0, .int .i64 0, .int .i64 0] 61 (0, 0)) := by
    have hz : (w.setCell ⟨g, o, none⟩ (.int .i64 (x - 1))).heap.size = w.heap.size := by simp [World.setCell]
    rw [Below.heap_alloc _ _ _ (by simp [World.setCell]), ← hz]
    exact heap_alloc_new _ _
  obtain ⟨hD, hS⟩ := HE.out w (Below.refl _ _)
  exact bodyPost_ret (v := .tuple #[.agg #[.int .i64 0, .int .i64 0, .int .i64 0], .bool false]) (res2 Tryz.results66 _ _ w.heap.size 61 _ (0, 0) _ rfl hr Tryz.underlying61 rfl Tryz.sizeStop) rfl ⟨rfl, (hD.alloc _).alloc _, (hS.alloc _).alloc _⟩
/-- The first stop is taken off. -/
theorem off_world {B d m clk : Nat} {sv : Value} {S : DS} {F : List FE} {w : World} (h : DiskAt B d m clk sv S F w) (x y z : Int) (l : List (Int × Int × Int)) (hst : S.stops = (x, y, z) :: l) {g o c : Nat} {cur : Array Value} (hsv : sv = .slice (some ⟨g, o, none⟩) (l.length + 1) c) (hc : l.length + 1 ≤ c)
    (hg : w.heap[g]? = some (.cells cur 61 (0, 0))) (ht : (cur.toList.drop (o + 3)).take (3 * l.length) = stopCells l) (a' : Addr) (ha : a' = ⟨g, o + 3, none⟩ ∨ (l = [] ∧ a' = ⟨g, o, none⟩)) :
    DiskAt B d m clk (.slice (some a') l.length (c - 1)) { S with stops := l } F (w.setCell ⟨d, 4, none⟩ (.slice (some a') l.length (c - 1))) ∧ Stays (fpOf d m sv F) w (w.setCell ⟨d, 4, none⟩ (.slice (some a') l.length (c - 1))) ∧
    ∀ b, b ∈ fpOf d m (.slice (some a') l.length (c - 1)) F → b ∈ fpOf d m sv F := by
  have hgsv : svBlk sv = some g := by rw [hsv]; rfl
  have hgd : g ≠ d := by
    have := h.apart
    simp only [fpOf, List.nodup_cons, List.mem_cons, List.mem_append, Option.mem_toList] at this
    exact fun e => this.1 (.inr (.inl (by rw [hgsv, e])))
  have hblk : ∀ b, svBlk (.slice (some a') l.length (c - 1)) = some b → svBlk sv = some b := by
    intro b hb
    cases l with
    | nil => simp [svBlk] at hb
    | cons p l' =>
      rcases ha with rfl | ⟨e, _⟩
      · simp [svBlk] at hb
        rw [hgsv, hb]
      · cases e
  have hR := h.restop (S' := { S with stops := l }) (sv' := .slice (some a') l.length (c - 1)) (w' := w.setCell ⟨d, 4, none⟩ (.slice (some a') l.length (c - 1))) rfl h.steps ?_ ?_ (fun b e => .inl (hblk b e)) (by simp [World.setCell]) (fun b _ hb _ => Below.heap_setCell _ _ _ _ hb)
  · refine ⟨hR.1, Stays.setCell (p := ⟨d, 4, none⟩) (Stays.refl _ _) (.inl mem_fp_self) _, ?_⟩
    intro b hb
    simp only [fpOf, List.mem_cons, List.mem_append, Option.mem_toList] at hb ⊢
    rcases hb with hb | hb | hb | hb
    · exact .inl hb
    · exact .inr (.inl hb)
    · exact .inr (.inr (.inl (hblk b hb)))
    · exact .inr (.inr (.inr hb))
  · have hs := h.self
    unfold selfObj at hs
    rw [heap_setCell_at _ hs]
    rfl
  · refine ⟨_, c - 1, rfl, ?_⟩
    rcases ha with rfl | ⟨e, _⟩
    · refine .inr ⟨g, o + 3, cur, rfl, (by show l.length ≤ c - 1; omega), ?_, ht⟩
      rw [Below.heap_setCell _ _ _ _ hgd]; exact hg
    · exact .inl e
set_option maxHeartbeats 2000000 in
theorem due_now {B d m clk : Nat} {sv : Value} {S : DS} {F : List FE} {w : World} (h : DiskAt B d m clk sv S F w) (x y z : Int) (l : List (Int × Int × Int)) (hst : S.stops = (x, y, z) :: l) (hx : ¬ 1 < x) :
    Calls Tryz.prog 66 #[.pointer (some ⟨d, 0, none⟩)] w fun e w' => e = .returned (.tuple #[.agg #[.int .i64 x, .int .i64 y, .int .i64 z], .bool true]) ∧ ∃ sv', DiskAt B d m clk sv' { S with stops := l } F w' ∧ Stays (fpOf d m sv F) w w' ∧ ∀ b, b ∈ fpOf d m sv' F → b ∈ fpOf d m sv F := by
  have c4 := h.cells.c4
  have f4 := h.cells.f4
  have hss := h.stops
  rw [hst] at hss
  obtain ⟨g, o, c, cur, hsv, hc, hg, h0, h1, h2, ht⟩ := stops_head hss
  have hdl := lt_of_heap h.self
  have hgl := lt_of_heap hg
  have HE := Lib.hid (fun a' ha => off_world h x y z l hst hsv hc hg ht a' ha)
  have HL : Hid (c = 1 → l = []) := Lib.hid (fun e => List.eq_nil_of_length_eq_zero (by omega))
  rw [hsv] at c4
  have k4 : ∀ o', (w.alloc o').cell? ⟨d, 4, none⟩ = some (.slice (some ⟨g, o, none⟩) (l.length + 1) c) := fun o' => by rw [World.cell?_of_block (Below.heap_alloc _ _ _ hdl)]; exact c4
  have k4' : ∀ o' o'', ((w.alloc o').alloc o'').cell? ⟨d, 4, none⟩ = some (.slice (some ⟨g, o, none⟩) (l.length + 1) c) := fun o' o'' => by rw [World.cell?_of_block (Below.heap_alloc _ _ _ (by simp; omega))]; exact k4 o'
  have k4f : ∀ o' o'', ((w.alloc o').alloc o'').frozen? ⟨d, 4, none⟩ = false := fun o' o'' => by rw [World.frozen?_of_block (Below.heap_alloc _ _ _ (by simp; omega)), World.frozen?_of_block (Below.heap_alloc _ _ _ hdl)]; exact f4
  have q0 : ∀ o', (w.alloc o').cell? ⟨g, o, none⟩ = some (.int .i64 x) := fun o' => by rw [World.cell?_of_block (Below.heap_alloc _ _ _ hgl), cell_of hg]; exact h0
  have q1 : ∀ o', (w.alloc o').cell? ⟨g, o + 1, none⟩ = some (.int .i64 y) := fun o' => by rw [World.cell?_of_block (Below.heap_alloc _ _ _ hgl), cell_of hg]; exact h1
  have q2 : ∀ o', (w.alloc o').cell? ⟨g, o + 2, none⟩ = some (.int .i64 z) := fun o' => by rw [World.cell?_of_block (Below.heap_alloc _ _ _ hgl), cell_of hg]; exact h2
  have hcl : (1 : Int) ≤ (c : Int) := by omega
  clear c4 f4 h hst hss hg h0 h1 h2 ht hsv
  by_cases hc1 : c = 1
  · have hl := HL.out hc1
    clear HL
    subst hc1
    subst hl
    go_enter Tryz.func66, Tryz.ntmps66
    go_wp2
    have hr : (((w.setCell ⟨d, 4, none⟩ (.slice (some ⟨g, o, none⟩) 0 0)).alloc (.cells #[.int .i64 x, .int .i64 y, .int .i64 z] 61)).alloc (.cells #[.int .i64 x, .int .i64 y, .int .i64 z] 61)).heap[w.heap.size]? = some (.cells #[.int .i64 x, .int .i64 y, .int .i64 z] 61 (0, 0)) := by
      have hz : (w.setCell ⟨d, 4, none⟩ (.slice (some ⟨g, o, none⟩) 0 0)).heap.size = w.heap.size := by simp [World.setCell]
      rw [Below.heap_alloc _ _ _ (by simp [World.setCell]), ← hz]
      exact heap_alloc_new _ _
    obtain ⟨hD, hS, hM⟩ := HE.out ⟨g, o, none⟩ (.inr (by simp))
    exact bodyPost_ret (v := .tuple #[.agg #[.int .i64 x, .int .i64 y, .int .i64 z], .bool true]) (res2 Tryz.results66 _ _ w.heap.size 61 _ (0, 0) _ rfl hr Tryz.underlying61 rfl Tryz.sizeStop) rfl ⟨rfl, _, (hD.alloc _).alloc _, (hS.alloc _).alloc _, hM⟩
  · go_enter Tryz.func66, Tryz.ntmps66
    go_wp2
    have hr : (((w.setCell ⟨d, 4, none⟩ (.slice (some ⟨g, o + 3, none⟩) l.length (c - 1))).alloc (.cells #[.int .i64 x, .int .i64 y, .int .i64 z] 61)).alloc (.cells #[.int .i64 x, .int .i64 y, .int .i64 z] 61)).heap[w.heap.size]? = some (.cells #[.int .i64 x, .int .i64 y, .int .i64 z] 61 (0, 0)) := by
      have hz : (w.setCell ⟨d, 4, none⟩ (.slice (some ⟨g, o + 3, none⟩) l.length (c - 1))).heap.size = w.heap.size := by simp [World.setCell]
      rw [Below.heap_alloc _ _ _ (by simp [World.setCell]), ← hz]
      exact heap_alloc_new _ _
    obtain ⟨hD, hS, hM⟩ := HE.out ⟨g, o + 3, none⟩ (.inl rfl)
    exact bodyPost_ret (v := .tuple #[.agg #[.int .i64 x, .int .i64 y, .int .i64 z], .bool true]) (res2 Tryz.results66 _ _ w.heap.size 61 _ (0, 0) _ rfl hr Tryz.underlying61 rfl Tryz.sizeStop) rfl ⟨rfl, _, (hD.alloc _).alloc _, (hS.alloc _).alloc _, hM⟩
end Go.Proofs.YtgadmfbilmlnkabGreatDoor
