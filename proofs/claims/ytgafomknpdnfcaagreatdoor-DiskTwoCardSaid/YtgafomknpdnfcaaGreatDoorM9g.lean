/- postbaglaw9's called on both disks: Start, Plan, nothing. -/
import Derived.Test.YtgafomknpdnfcaaGreatDoorM9f
import Derived.Deep.MidRow
import Derived.Deep.QuietTactic
import Derived.BigQuiet
namespace Go.Proofs.YtgafomknpdnfcaaGreatDoor
open Go.RowKit Go.Lib

set_option maxHeartbeats 2000000 in
theorem twin_full {w : World} {a : Option Addr} {n c : Nat} {l : List (Int × Int × Int)} (h : StopsCame w a n c l) (hn : n ≤ 5864062014634) :
    Calls Tryz.prog 20 #[.slice a n c] w fun e w' => ∃ g cap, e = .returned (.slice (some ⟨g, 0, none⟩) (n + 1) cap) ∧ n + 1 ≤ cap ∧ w.heap.size ≤ g ∧ StopsIn w' g 0 (n + 1) (l ++ [(1, 77, 77)]) ∧ (∀ i, w'.frozen? ⟨g, i, none⟩ = false) ∧ Below w.heap.size w w' := by
  obtain ⟨hlen, hcame⟩ := h
  obtain ⟨i0, hi, hz0, hz1, hz2⟩ := info_parts' Tryz.infoStop
  have hone : ∀ u ∈ stopCells l, u.oneCell' = true := by
    intro u hu
    simp only [stopCells, List.mem_flatMap] at hu
    obtain ⟨s, _, hs⟩ := hu
    simp at hs
    rcases hs with rfl | rfl | rfl <;> rfl
  obtain ⟨v1, W1, hrun1, hrow1, hb1⟩ : ∃ v1 W1, (Builtin.append_ #[30, 30] 30 #[.slice none 0 0, .slice a n c]).run Tryz.prog w = .ok v1 W1 ∧ W1.ownsRow w.heap.size 62 3 v1 n (stopCells l) ∧ Below w.heap.size w W1 := by
    rcases hcame with ⟨rfl, rfl, rfl⟩ | ⟨x, rfl, hc⟩
    · have hl : l = [] := List.eq_nil_of_length_eq_zero hlen
      subst hl
      exact ⟨_, w, run_append_owned_none (P := Tryz.prog) (w := w) w.heap.size 30 30 62 i0 3 Tryz.underlying30 hi (.slice none 0 0) 0 [] (World.ownsRow_nil _ _ _ _), World.ownsRow_nil _ _ _ _, Below.refl _ _⟩
    · obtain ⟨v', W3, hrun, hrow3, hgr, _, _⟩ := run_append_own_at (P := Tryz.prog) w w.heap.size 30 30 62 i0 _ 3 24 Tryz.underlying30 hi hz0 hz1 hz2 rfl (by decide) (.slice none 0 0) 0 [] (World.ownsRow_nil _ _ _ _) x n c (stopCells l) (by rw [stopCells_length, hlen, Nat.mul_comm]) hc hone (by unfold maxLen; omega) (by omega) (Nat.le_refl _)
      rw [Nat.zero_add, List.nil_append] at hrow3
      exact ⟨v', W3, hrun, hrow3, (Below.refl _ _).grown hgr (Nat.le_refl _) (fun k hk => by cases hk)⟩
  obtain ⟨a1, c1, rfl⟩ := ownsRow_shape hrow1
  have hbs := hb1.size
  have hnew : (W1.alloc (.cells #[.int .i64 1, .int .i64 77, .int .i64 77] 62)).heap[W1.heap.size]? = some (.cells #[.int .i64 1, .int .i64 77, .int .i64 77] 62 (0, 0)) := heap_alloc_new W1 _
  obtain ⟨v2, W2, hrun2, hrow2, hgr2, _, _⟩ := run_append_own_at (P := Tryz.prog) (W1.alloc (.cells #[.int .i64 1, .int .i64 77, .int .i64 77] 62)) w.heap.size 30 30 62 i0 _ 3 24 Tryz.underlying30 hi hz0 hz1 hz2 rfl (by decide) (.slice a1 n c1) n (stopCells l) (hrow1.alloc _) ⟨W1.heap.size, 0, none⟩ 1 1 [.int .i64 1, .int .i64 77, .int .i64 77] rfl (by
      intro j u hj
      match j, hj with
      | 0, hj => simp at hj; subst hj; exact cell_of hnew 0
      | 1, hj => simp at hj; subst hj; exact cell_of hnew 1
      | 2, hj => simp at hj; subst hj; exact cell_of hnew 2
      | (j + 3), hj => simp at hj) (by
      intro u hu
      simp at hu
      rcases hu with rfl | rfl <;> rfl) (by unfold maxLen; omega) (by omega) (by simp; omega)
  have hb2 : Below w.heap.size w W2 := (hb1.alloc hbs _).grown hgr2 (by simp; omega) (fun k hk => (hrow1.lt k hk).1)
  have hfin : ∃ g cap, v2 = .slice (some ⟨g, 0, none⟩) (n + 1) cap ∧ n + 1 ≤ cap ∧ w.heap.size ≤ g ∧ StopsIn W2 g 0 (n + 1) (l ++ [(1, 77, 77)]) ∧ ∀ i, W2.frozen? ⟨g, i, none⟩ = false := by
    have e : stopCells l ++ [.int .i64 1, .int .i64 77, .int .i64 77] = stopCells (l ++ [(1, 77, 77)]) := (stopCells_snoc l (1, 77, 77)).symm
    rw [e] at hrow2
    rcases hrow2.2 with ⟨_, h0⟩ | ⟨g, cap, cur, rfl, hbase, hblk, hcap, _, _, _⟩
    · omega
    · have el : (l ++ [((1 : Int), (77 : Int), (77 : Int))]).length = n + 1 := by simp [hlen]
      have hs := stopsIn_own (l := l ++ [(1, 77, 77)]) (g := g) (c := cap) (B := w.heap.size) (w := W2) (by rw [el]; exact hrow2) (n + 1)
      exact ⟨g, cap, rfl, hcap, hbase, hs, fun i => frozen_of hblk i⟩
  obtain ⟨g, cap, rfl, hcap, hg, hst, hfr⟩ := hfin
  have H1 := Lib.hid hrun1
  have H2 := Lib.hid hrun2
  have HE := Lib.hid (And.intro hcap (And.intro hg (And.intro hst (And.intro hfr hb2))))
  clear hcame hi hz0 hz1 hz2 hone hrun1 hrow1 hb1 hbs hnew hrun2 hrow2 hgr2 hb2 hcap hg hst hfr hlen hn
  go_enter Tryz.func20, Tryz.ntmps20
  go_upto_region 3 with (at_builtin; refine append_by_run rfl _ _ _ rfl _ rfl _ _ rfl rfl _ _ H1.out ?_)
  go_wp2_with (at_builtin; refine append_by_run rfl _ _ _ rfl _ rfl _ _ rfl rfl _ _ H2.out ?_)
  go_ret
  exact ⟨g, cap, rfl, HE.out⟩
theorem Tryz.sizeStop3 : (Tryz.prog.info? 62).map (·.size) = some 3 := by kernel_rfl
theorem below_setCells {B : Nat} {a : World} (g : Nat) (hg : B ≤ g) : ∀ (vs : List Value) (o : Nat) (w : World), Below B a w → Below B a (w.setCells g o vs)
  | [], _, _, h => h
  | v :: r, o, _, h => below_setCells g hg r (o + 1) _ (h.setCell (p := ⟨g, o, none⟩) hg v)
set_option maxRecDepth 20000 in
set_option maxHeartbeats 4000000 in
theorem called_nil {A : Whys} {w0 w : World} {d : Nat} {S : DS} {P l : List PF} {K : List (Nat × Obj)} {rs : List (Int × Int × Int)} {si : Int} {fv sv : Value} (hD : Dk A w0 d S P K w) (hRf : Rf K fv sv l rs w) (hM : Meet S P l rs si) (q : ActR) (hk : ¬ (1 ≤ q.kind ∧ q.kind ≤ 8)) :
    Calls Tryz.prog 8 #[.pointer (some ⟨d, 0, none⟩), rdV fv (S.quota : Int) (S.steps : Int) sv si (!S.runs), .agg q.cells] w fun e w' => CalOut A w0 w d S K fv sv e w' := by
  obtain ⟨fa, fc, hfv, _⟩ := hRf.fs.form
  obtain ⟨sa, sc, hsv, _⟩ := id hRf.ss
  subst hfv hsv
  have h3 := calG_start w fa l.length fc (S.quota : Int) (S.steps : Int) sa rs.length sc si (!S.runs) q
  obtain ⟨W3, hW3⟩ : ∃ W3, ((w.alloc (.cells #[.slice fa l.length fc, .int .i64 (S.quota : Int), .int .i64 (S.steps : Int), .slice sa rs.length sc, .int .i64 si, .bool (!S.runs)] 32)).alloc (.cells #[.int .i64 q.kind, .int .i64 q.on, .string q.name, .string q.dest, .string q.data, .int .i64 q.n, .slice q.sa q.sn q.sc] 38)).alloc (.cells #[.slice none 0 0, .int .i64 0, .int .i64 0, .slice none 0 0, .int .i64 0, .bool false] 32) = W3 := ⟨_, rfl⟩
  rw [hW3] at h3
  have HW := Lib.hid hW3
  have H3 := Lib.hid h3
  have hFr : (∀ b, (Value.slice fa l.length fc).ownBlock = some b → b ≠ w.heap.size + 1 + 1) ∧ ∀ b, svBlk (.slice sa rs.length sc) = some b → b ≠ w.heap.size + 1 + 1 := ⟨fun b e => by
      obtain ⟨o, ho⟩ := hRf.fk b e
      have := hD.ltK _ ho
      simp only at this
      omega, fun b e => by
      obtain ⟨o, ho⟩ := hRf.sk b e
      have := hD.ltK _ ho
      simp only at this
      omega⟩
  have HFr := Lib.hid hFr
  obtain ⟨x0, x1, x2, x3, x4, x5⟩ := dskC h3.x
  obtain ⟨a0, a1, a2, a3, a4, a5, a6⟩ := actC h3.a
  have hD3 := hD.keepL h3.below ((w.heap.size, .cells #[.slice fa l.length fc, .int .i64 (S.quota : Int), .int .i64 (S.steps : Int), .slice sa rs.length sc, .int .i64 si, .bool (!S.runs)] 32 (0, 0)) :: (w.heap.size + 1, .cells #[.int .i64 q.kind, .int .i64 q.on, .string q.name, .string q.dest, .string q.data, .int .i64 q.n, .slice q.sa q.sn q.sc] 38 (0, 0)) :: (w.heap.size + 1 + 1, .cells #[.slice none 0 0, .int .i64 0, .int .i64 0, .slice none 0 0, .int .i64 0, .bool false] 32 (0, 0)) :: []) (by
    intro x hx
    simp only [List.mem_cons, List.not_mem_nil, or_false] at hx
    rcases hx with rfl | rfl | rfl
    · exact ⟨Nat.le_refl _, h3.x⟩
    · exact ⟨by omega, h3.a⟩
    · exact ⟨by omega, h3.r⟩)
  have hR3 := hRf.go hD hD3 (fun x hx => List.mem_append_right _ hx)
  have HEnd : Hid (∀ cs, CalOut A w0 w d S K (.slice fa l.length fc) (.slice sa rs.length sc) (.returned (.tuple #[.agg #[.slice fa l.length fc, .int .i64 (S.quota : Int), .int .i64 (S.steps : Int), .slice sa rs.length sc, .int .i64 si, .bool (!S.runs)], .bool true])) (W3.setRow (w.heap.size + 1 + 1) cs)) := Lib.hid (fun cs => calOut_of (S0 := S) (cs := cs) hD.ltK hD.w0.size hD3 (o := .cells #[.slice none 0 0, .int .i64 0, .int .i64 0, .slice none 0 0, .int .i64 0, .bool false] 32 (0, 0)) (by simp) (fun x hx => List.mem_append_right _ hx) (Below.refl _ _) hR3 hFr.1 hFr.2 hM (Nat.le_succ _) (fun b e => .inl e) (fun b e => .inl e))
  clear hD3 hR3 h3 hW3 hFr hD hRf hM
  have h7 : q.kind ≠ 7 := by omega
  have h8 : q.kind ≠ 8 := by omega
  obtain ⟨kind, on, name, dest, data, n, qsa, qsn, qsc⟩ := q
  simp only [ActR.cells] at *
  have b7 := beqI_no h7
  have b8 := beqI_no h8
  unfold rdV
  by_cases h1 : kind < 1
  · clear hk h7 h8
    go_enter Tryz.func8, Tryz.ntmps8
    go_upto_region 1 with fail
    rw [HW.out]
    go_wp2_with (refine wpList_store_row rfl 32 _ _ rfl (w.heap.size + 1 + 1) #[.slice fa l.length fc, .int .i64 (S.quota : Int), .int .i64 (S.steps : Int), .slice sa rs.length sc, .int .i64 si, .bool (!S.runs)] rfl rfl 32 _ H3.out.r Tryz.sizeRD rfl (by simp [Value.oneCell']) ?_)
    refine bodyPost_ret (res2 rfl _ _ (w.heap.size + 1 + 1) 32 #[.slice fa l.length fc, .int .i64 (S.quota : Int), .int .i64 (S.steps : Int), .slice sa rs.length sc, .int .i64 si, .bool (!S.runs)] (0, 0) _ rfl (setRow_heap _ _ _ _ _ _ H3.out.r) Tryz.underlying32 rfl Tryz.sizeRD) rfl ?_
    exact HEnd.out _
  · have h6 : 6 < kind := by omega
    clear hk h7 h8
    go_enter Tryz.func8, Tryz.ntmps8
    go_upto_region 1 with fail
    rw [HW.out]
    go_wp2_with (refine wpList_store_row rfl 32 _ _ rfl (w.heap.size + 1 + 1) #[.slice fa l.length fc, .int .i64 (S.quota : Int), .int .i64 (S.steps : Int), .slice sa rs.length sc, .int .i64 si, .bool (!S.runs)] rfl rfl 32 _ H3.out.r Tryz.sizeRD rfl (by simp [Value.oneCell']) ?_)
    refine bodyPost_ret (res2 rfl _ _ (w.heap.size + 1 + 1) 32 #[.slice fa l.length fc, .int .i64 (S.quota : Int), .int .i64 (S.steps : Int), .slice sa rs.length sc, .int .i64 si, .bool (!S.runs)] (0, 0) _ rfl (setRow_heap _ _ _ _ _ _ H3.out.r) Tryz.underlying32 rfl Tryz.sizeRD) rfl ?_
    exact HEnd.out _
set_option maxRecDepth 20000 in
set_option maxHeartbeats 4000000 in
theorem called_on {A : Whys} {w0 w : World} {d : Nat} {S : DS} {P l : List PF} {K : List (Nat × Obj)} {rs : List (Int × Int × Int)} {si : Int} {fv sv : Value} (hD : Dk A w0 d S P K w) (hRf : Rf K fv sv l rs w) (hM : Meet S P l rs si) (q : ActR) (hk : q.kind = 8) :
    Calls Tryz.prog 8 #[.pointer (some ⟨d, 0, none⟩), rdV fv (S.quota : Int) (S.steps : Int) sv si (!S.runs), .agg q.cells] w fun e w' => CalOut A w0 w d S K fv sv e w' := by
  obtain ⟨fa, fc, hfv, _⟩ := hRf.fs.form
  obtain ⟨sa, sc, hsv, _⟩ := id hRf.ss
  subst hfv hsv
  have h3 := calG_start w fa l.length fc (S.quota : Int) (S.steps : Int) sa rs.length sc si (!S.runs) q
  obtain ⟨W3, hW3⟩ : ∃ W3, ((w.alloc (.cells #[.slice fa l.length fc, .int .i64 (S.quota : Int), .int .i64 (S.steps : Int), .slice sa rs.length sc, .int .i64 si, .bool (!S.runs)] 32)).alloc (.cells #[.int .i64 q.kind, .int .i64 q.on, .string q.name, .string q.dest, .string q.data, .int .i64 q.n, .slice q.sa q.sn q.sc] 38)).alloc (.cells #[.slice none 0 0, .int .i64 0, .int .i64 0, .slice none 0 0, .int .i64 0, .bool false] 32) = W3 := ⟨_, rfl⟩
  rw [hW3] at h3
  have HW := Lib.hid hW3
  have H3 := Lib.hid h3
  have hFr : (∀ b, (Value.slice fa l.length fc).ownBlock = some b → b ≠ w.heap.size + 1 + 1) ∧ ∀ b, svBlk (.slice sa rs.length sc) = some b → b ≠ w.heap.size + 1 + 1 := ⟨fun b e => by
      obtain ⟨o, ho⟩ := hRf.fk b e
      have := hD.ltK _ ho
      simp only at this
      omega, fun b e => by
      obtain ⟨o, ho⟩ := hRf.sk b e
      have := hD.ltK _ ho
      simp only at this
      omega⟩
  have HFr := Lib.hid hFr
  obtain ⟨x0, x1, x2, x3, x4, x5⟩ := dskC h3.x
  obtain ⟨a0, a1, a2, a3, a4, a5, a6⟩ := actC h3.a
  have hD3 := hD.keepL h3.below ((w.heap.size, .cells #[.slice fa l.length fc, .int .i64 (S.quota : Int), .int .i64 (S.steps : Int), .slice sa rs.length sc, .int .i64 si, .bool (!S.runs)] 32 (0, 0)) :: (w.heap.size + 1, .cells #[.int .i64 q.kind, .int .i64 q.on, .string q.name, .string q.dest, .string q.data, .int .i64 q.n, .slice q.sa q.sn q.sc] 38 (0, 0)) :: (w.heap.size + 1 + 1, .cells #[.slice none 0 0, .int .i64 0, .int .i64 0, .slice none 0 0, .int .i64 0, .bool false] 32 (0, 0)) :: []) (by
    intro x hx
    simp only [List.mem_cons, List.not_mem_nil, or_false] at hx
    rcases hx with rfl | rfl | rfl
    · exact ⟨Nat.le_refl _, h3.x⟩
    · exact ⟨by omega, h3.a⟩
    · exact ⟨by omega, h3.r⟩)
  have HSt := Lib.hid (StartD hD3 hM.quota.1)
  have HRS := Lib.hid (fun W => rStart_any fa l.length fc (S.quota : Int) (S.steps : Int) sa rs.length sc si (!S.runs) W)
  have HEnd : Hid (∀ W X cs, Dk A w0 d S.on P (((w.heap.size, .cells #[.slice fa l.length fc, .int .i64 (S.quota : Int), .int .i64 (S.steps : Int), .slice sa rs.length sc, .int .i64 si, .bool (!S.runs)] 32 (0, 0)) :: (w.heap.size + 1, .cells #[.int .i64 q.kind, .int .i64 q.on, .string q.name, .string q.dest, .string q.data, .int .i64 q.n, .slice q.sa q.sn q.sc] 38 (0, 0)) :: (w.heap.size + 1 + 1, .cells #[.slice none 0 0, .int .i64 0, .int .i64 0, .slice none 0 0, .int .i64 0, .bool false] 32 (0, 0)) :: []) ++ K) W → Below W.heap.size W X → X.heap[w.heap.size + 1 + 1]? = some (.cells #[.slice none 0 0, .int .i64 0, .int .i64 0, .slice none 0 0, .int .i64 0, .bool false] 32 (0, 0)) ∧ CalOut A w0 w d S K (.slice fa l.length fc) (.slice sa rs.length sc) (.returned (.tuple #[.agg #[.slice fa l.length fc, .int .i64 (S.quota : Int), .int .i64 (S.steps : Int), .slice sa rs.length sc, .int .i64 (if (!S.runs) = true then 0 else si), .bool false], .bool true])) (X.setRow (w.heap.size + 1 + 1) cs)) := Lib.hid (fun W X cs hDW hX => by
    have hr := hDW.kept (x := (w.heap.size + 1 + 1, .cells #[.slice none 0 0, .int .i64 0, .int .i64 0, .slice none 0 0, .int .i64 0, .bool false] 32 (0, 0))) (by simp)
    refine ⟨by rw [hX.block _ (lt_of_heap hr)]; exact hr, ?_⟩
    exact calOut_of (S0 := S) (cs := cs) hD.ltK hD.w0.size hDW (o := .cells #[.slice none 0 0, .int .i64 0, .int .i64 0, .slice none 0 0, .int .i64 0, .bool false] 32 (0, 0)) (by simp) (fun x hx => List.mem_append_right _ hx) hX (hRf.go hD hDW (fun x hx => List.mem_append_right _ hx)) hFr.1 hFr.2 hM.start (Nat.le_succ _) (fun b e => .inl e) (fun b e => .inl e))
  have HBx : Hid (∀ W, Dk A w0 d S.on P (((w.heap.size, .cells #[.slice fa l.length fc, .int .i64 (S.quota : Int), .int .i64 (S.steps : Int), .slice sa rs.length sc, .int .i64 si, .bool (!S.runs)] 32 (0, 0)) :: (w.heap.size + 1, .cells #[.int .i64 q.kind, .int .i64 q.on, .string q.name, .string q.dest, .string q.data, .int .i64 q.n, .slice q.sa q.sn q.sc] 38 (0, 0)) :: (w.heap.size + 1 + 1, .cells #[.slice none 0 0, .int .i64 0, .int .i64 0, .slice none 0 0, .int .i64 0, .bool false] 32 (0, 0)) :: []) ++ K) W → W.heap[w.heap.size]? = some (.cells #[.slice fa l.length fc, .int .i64 (S.quota : Int), .int .i64 (S.steps : Int), .slice sa rs.length sc, .int .i64 si, .bool (!S.runs)] 32 (0, 0))) := Lib.hid (fun W hDW => hDW.kept (x := (w.heap.size, .cells #[.slice fa l.length fc, .int .i64 (S.quota : Int), .int .i64 (S.steps : Int), .slice sa rs.length sc, .int .i64 si, .bool (!S.runs)] 32 (0, 0))) (by simp))
  clear hD3 h3 hW3 hFr hD hRf hM
  obtain ⟨kind, on, name, dest, data, n, qsa, qsn, qsc⟩ := q
  simp only [ActR.cells] at *
  subst hk
  unfold rdV at HRS ⊢
  generalize (if (!S.runs) = true then (0 : Int) else si) = si2 at HRS HEnd
  go_enter Tryz.func8, Tryz.ntmps8
  go_upto_region 1 with fail
  rw [HW.out]
  go_wp2_with (first | (go_at_call 23; refine HSt.out.mono ?_; rintro e w4 ⟨rfl, hD4⟩; have HD4 := Lib.hid hD4; clear hD4 x0 x1 x2 x3 x4 x5; obtain ⟨x0, x1, x2, x3, x4, x5⟩ := dskC (HBx.out _ HD4.out)) | (go_at_call 24; refine (HRS.out _).mono ?_; rintro e w5 ⟨rfl, hb5⟩; have H5 := Lib.hid hb5; clear hb5) | refine wpList_store_row rfl 32 _ _ rfl (w.heap.size + 1 + 1) #[.slice fa l.length fc, .int .i64 (S.quota : Int), .int .i64 (S.steps : Int), .slice sa rs.length sc, .int .i64 si2, .bool false] rfl rfl 32 _ (HEnd.out _ _ #[] HD4.out H5.out).1 Tryz.sizeRD rfl (by simp [Value.oneCell']) ?_)
  refine bodyPost_ret (res2 rfl _ _ (w.heap.size + 1 + 1) 32 #[.slice fa l.length fc, .int .i64 (S.quota : Int), .int .i64 (S.steps : Int), .slice sa rs.length sc, .int .i64 si2, .bool false] (0, 0) _ rfl (setRow_heap _ _ _ _ _ _ (HEnd.out _ _ #[] HD4.out H5.out).1) Tryz.underlying32 rfl Tryz.sizeRD) rfl ?_
  exact (HEnd.out _ _ _ HD4.out H5.out).2
end Go.Proofs.YtgafomknpdnfcaaGreatDoor

/- postbaglaw9's called on both disks: Plan; all kinds. -/
namespace Go.Proofs.YtgafomknpdnfcaaGreatDoor
open Go.RowKit Go.Lib

theorem stays_setCells {fp : List Nat} {a : World} (g : Nat) (hg : g ∈ fp) : ∀ (vs : List Value) (o : Nat) (w : World), Stays fp a w → Stays fp a (w.setCells g o vs)
  | [], _, _, h => h
  | v :: r, o, _, h => stays_setCells g hg r (o + 1) _ (h.setCell (p := ⟨g, o, none⟩) (.inl hg) v)
/-- Where the loop over a plan stands. -/
structure OverS (W5 : World) (g k n : Nat) (ll : List (Int × Int × Int)) (X : World) : Prop where
  stays : Stays [g] W5 X
  rest : ∀ i, k ≤ i → i < n → ∀ s, ll[i]? = some s → X.cell? ⟨g, i * 3, none⟩ = some (.int .i64 s.1) ∧ X.cell? ⟨g, i * 3 + 1, none⟩ = some (.int .i64 s.2.1) ∧ X.cell? ⟨g, i * 3 + 2, none⟩ = some (.int .i64 s.2.2)
  room : ∀ j, j < n * 3 + 3 → (X.cell? ⟨g, j, none⟩).isSome = true ∧ X.frozen? ⟨g, j, none⟩ = false
theorem OverS.step {W5 X : World} {g k n : Nat} {ll : List (Int × Int × Int)} (h : OverS W5 g k n ll X) : OverS W5 g (k + 1) n ll (X.setCells g (k * 3) [.int .i64 1, .int .i64 0, .int .i64 0]) := by
  refine ⟨stays_setCells g (by simp) _ _ _ h.stays, fun i hi hn s hs => ?_, fun j hj => ?_⟩
  · obtain ⟨h0, h1, h2⟩ := h.rest i (by omega) hn s hs
    have e : ∀ j, X.cell? ⟨g, i * 3 + j, none⟩ = (X.setCells g (k * 3) [.int .i64 1, .int .i64 0, .int .i64 0]).cell? ⟨g, i * 3 + j, none⟩ := fun j => (World.cell?_setCells_out g _ (k * 3) X ⟨g, i * 3 + j, none⟩ (fun _ _ => .inr (by simp; omega))).symm
    exact ⟨(e 0).symm.trans h0, (e 1).symm.trans h1, (e 2).symm.trans h2⟩
  · have := World.there_setCells (w := X) (b' := g) (o' := 0) (n := n * 3 + 3) (fun j hj => by rw [Nat.zero_add]; exact h.room j hj) g (k * 3) [.int .i64 1, .int .i64 0, .int .i64 0] j hj
    rw [Nat.zero_add] at this
    exact this
theorem OverS.drewN {W5 X : World} {g k n : Nat} {ll : List (Int × Int × Int)} (h : OverS W5 g k n ll X) (m : Nat) : OverS W5 g k n ll (X.drewN m) := ⟨⟨h.stays.os, h.stays.tape, h.stays.output, h.stays.size, h.stays.block⟩, h.rest, h.room⟩
/-- Plan at a slice whose block is kept. -/
theorem PlanK {A : Whys} {w0 W : World} {d : Nat} {S : DS} {P : List PF} {K : List (Nat × Obj)} (h : Dk A w0 d S P K W) (hq : 1 ≤ S.quota) (l : List (Int × Int × Int)) {g : Nat} {o : Obj} (c : Nat) (hg : (g, o) ∈ K) (hl : l.length ≤ 5864062014634) (hin : StopsIn W g 0 l.length l) :
    Calls Tryz.prog 21 #[.pointer (some ⟨d, 0, none⟩), .slice (some ⟨g, 0, none⟩) l.length c] W fun e w' => e = .returned (.tuple #[]) ∧ Dk A w0 d { S with stops := planP l } P K w' := by
  obtain ⟨m, sv, clk, F, hD, rfl, hb0, he, hK⟩ := h
  refine (Plan_some hD hq l g 0 c hl (hK _ hg).2 hin).mono ?_
  rintro e w' ⟨rfl, sv', hD', hS, hM⟩
  exact ⟨rfl, m, sv', clk, F, hD', rfl, hb0.trans (hS.below hD.base hD.size), he.stays hS hD.base, keep_on hK hS hM⟩
theorem StopsCame.up {A : Whys} {w0 W : World} {d : Nat} {S : DS} {P : List PF} {K : List (Nat × Obj)} {a : Option Addr} {n c : Nat} {l : List (Int × Int × Int)} (h : StopsCame w0 a n c l) (hD : Dk A w0 d S P K W) : StopsCame W a n c l := h.on hD.w0
set_option maxRecDepth 20000 in
set_option maxHeartbeats 8000000 in
theorem called_planB {A : Whys} {w0 w : World} {d : Nat} {S : DS} {P l : List PF} {K : List (Nat × Obj)} {rs : List (Int × Int × Int)} {si : Int} {fv sv : Value} (hD : Dk A w0 d S P K w) (hRf : Rf K fv sv l rs w) (hM : Meet S P l rs si) (q : ActR) (ll : List (Int × Int × Int)) (hst : StopsCame w0 q.sa q.sn q.sc ll) (hin : ∀ s, s ∈ ll → inI s.1 ∧ inI s.2.1 ∧ inI s.2.2) (hsn : q.sn ≤ 5864062014634) (hk : q.kind = 7) :
    Calls Tryz.prog 8 #[.pointer (some ⟨d, 0, none⟩), rdV fv (S.quota : Int) (S.steps : Int) sv si (!S.runs), .agg q.cells] w fun e w' => CalOut A w0 w d S K fv sv e w' := by
  obtain ⟨fa, fc, hfv, _⟩ := hRf.fs.form
  obtain ⟨sa, sc, hsv, _⟩ := id hRf.ss
  subst hfv hsv
  have h3 := calG_start w fa l.length fc (S.quota : Int) (S.steps : Int) sa rs.length sc si (!S.runs) q
  obtain ⟨W3, hW3⟩ : ∃ W3, ((w.alloc (.cells #[.slice fa l.length fc, .int .i64 (S.quota : Int), .int .i64 (S.steps : Int), .slice sa rs.length sc, .int .i64 si, .bool (!S.runs)] 32)).alloc (.cells #[.int .i64 q.kind, .int .i64 q.on, .string q.name, .string q.dest, .string q.data, .int .i64 q.n, .slice q.sa q.sn q.sc] 38)).alloc (.cells #[.slice none 0 0, .int .i64 0, .int .i64 0, .slice none 0 0, .int .i64 0, .bool false] 32) = W3 := ⟨_, rfl⟩
  rw [hW3] at h3
  have HW := Lib.hid hW3
  have H3 := Lib.hid h3
  have hFr : (∀ b, (Value.slice fa l.length fc).ownBlock = some b → b ≠ w.heap.size + 1 + 1) ∧ ∀ b, svBlk (.slice sa rs.length sc) = some b → b ≠ w.heap.size + 1 + 1 := ⟨fun b e => by
      obtain ⟨o, ho⟩ := hRf.fk b e
      have := hD.ltK _ ho
      simp only at this
      omega, fun b e => by
      obtain ⟨o, ho⟩ := hRf.sk b e
      have := hD.ltK _ ho
      simp only at this
      omega⟩
  have HFr := Lib.hid hFr
  obtain ⟨x0, x1, x2, x3, x4, x5⟩ := dskC h3.x
  obtain ⟨a0, a1, a2, a3, a4, a5, a6⟩ := actC h3.a
  have hD3 := hD.keepL h3.below ((w.heap.size, .cells #[.slice fa l.length fc, .int .i64 (S.quota : Int), .int .i64 (S.steps : Int), .slice sa rs.length sc, .int .i64 si, .bool (!S.runs)] 32 (0, 0)) :: (w.heap.size + 1, .cells #[.int .i64 q.kind, .int .i64 q.on, .string q.name, .string q.dest, .string q.data, .int .i64 q.n, .slice q.sa q.sn q.sc] 38 (0, 0)) :: (w.heap.size + 1 + 1, .cells #[.slice none 0 0, .int .i64 0, .int .i64 0, .slice none 0 0, .int .i64 0, .bool false] 32 (0, 0)) :: []) (by
    intro x hx
    simp only [List.mem_cons, List.not_mem_nil, or_false] at hx
    rcases hx with rfl | rfl | rfl
    · exact ⟨Nat.le_refl _, h3.x⟩
    · exact ⟨by omega, h3.a⟩
    · exact ⟨by omega, h3.r⟩)
  have HT := Lib.hid (twin_full (hst.up hD3) hsn)
  have HD := Lib.hid hD
  have HRf := Lib.hid hRf
  have HM := Lib.hid hM
  have HC := Lib.hid hst
  have HI := Lib.hid hin
  have hq0 : ((S.quota : Int) == 0) = false := beq_eq_false_iff_ne.2 (by have := hM.quota.1; omega)
  have HRP := Lib.hid (fun W (hW : StopsCame W q.sa q.sn q.sc ll) => rPlan_any fa l.length fc (S.quota : Int) (S.steps : Int) sa rs.length sc si (!S.runs) q.sa q.sn q.sc ll W hq0 hW hsn)
  have hsni : (q.sn : Int) ≤ 5864062014634 := by omega
  have HSn := Lib.hid hsn
  have HLl : Hid (ll.length = q.sn) := Lib.hid hst.1
  clear h3 hW3 hFr hD hRf hM hst hin hq0 hD3 hsn
  unfold rdV at HRP ⊢
  obtain ⟨kind, on, name, dest, data, n, qsa, qsn, qsc⟩ := q
  simp only [ActR.cells] at *
  subst hk
  go_enter Tryz.func8, Tryz.ntmps8
  go_upto_region 1 with fail
  rw [HW.out]
  go_upto_region 7 with (go_at_call 20; refine HT.out.mono ?_; rintro e w4 ⟨g, cp, rfl, hcp, hg, hsi, hfr, hb4⟩; have H4 := Lib.hid (And.intro hcp (And.intro hg (And.intro hsi (And.intro hfr hb4)))); clear hcp hg hsi hfr hb4)
  clear x0 x1 x2 x3 x4 x5 a0 a1 a2 a3 a4 a5 a6 HT
  obtain ⟨hcp, hg, hsi, hfr, hb4⟩ := H4.out
  have h4 := H3.out.on hb4
  have hz3 : w.heap.size + 1 + 1 < W3.heap.size := lt_of_heap H3.out.r
  obtain ⟨t0, t1, t2⟩ := hsi qsn (by omega) (1, 77, 77) (by rw [List.getElem?_append_right (by rw [HLl.out]; omega), HLl.out]; simp)
  have hgl : g < w4.heap.size := World.block_lt_of_cell? _ _ t0
  obtain ⟨go, hgo⟩ : ∃ o, w4.heap[g]? = some o := ⟨_, Array.getElem?_eq_getElem hgl⟩
  have hD4 := HD.out.keepL h4.below ((g, go) :: (w.heap.size, .cells #[.slice fa l.length fc, .int .i64 (S.quota : Int), .int .i64 (S.steps : Int), .slice sa rs.length sc, .int .i64 si, .bool (!S.runs)] 32 (0, 0)) :: (w.heap.size + 1, .cells #[.int .i64 7, .int .i64 on, .string name, .string dest, .string data, .int .i64 n, .slice qsa qsn qsc] 38 (0, 0)) :: (w.heap.size + 1 + 1, .cells #[.slice none 0 0, .int .i64 0, .int .i64 0, .slice none 0 0, .int .i64 0, .bool false] 32 (0, 0)) :: []) (by
    intro x hx
    simp only [List.mem_cons, List.not_mem_nil, or_false] at hx
    rcases hx with rfl | rfl | rfl | rfl
    · exact ⟨by show w.heap.size ≤ g; omega, hgo⟩
    · exact ⟨Nat.le_refl _, h4.x⟩
    · exact ⟨by omega, h4.a⟩
    · exact ⟨by omega, h4.r⟩)
  have HPl := Lib.hid (PlanK hD4 HM.out.quota.1 ll (g := g) (o := go) cp (by simp) (by rw [HLl.out]; exact HSn.out) (fun i hi s hs => hsi i (by rw [HLl.out] at hi; omega) s (by rw [List.getElem?_append_left hi]; exact hs)))
  rw [HLl.out] at HPl
  have HSame : Hid (∀ W : World, W.heap[g]? = some go → OverS W g 0 qsn ll W ∧ W.cell? ⟨g, qsn * 3, none⟩ = some (.int .i64 1) ∧ W.cell? ⟨g, qsn * 3 + 1, none⟩ = some (.int .i64 77) ∧ W.cell? ⟨g, qsn * 3 + 2, none⟩ = some (.int .i64 77)) := Lib.hid (fun W hW => by
    have eb : W.heap[g]? = w4.heap[g]? := by rw [hW, hgo]
    have ec : ∀ j, W.cell? ⟨g, j, none⟩ = w4.cell? ⟨g, j, none⟩ := fun j => World.cell?_of_block eb
    rw [Nat.zero_add, Nat.mul_comm 3 qsn] at t0 t1 t2
    refine ⟨⟨Stays.refl _ _, fun i _ hi s hs => ?_, fun j hj => ⟨?_, ?_⟩⟩, by rw [ec]; exact t0, by rw [ec]; exact t1, by rw [ec]; exact t2⟩
    · have := hsi i (by omega) s (by rw [List.getElem?_append_left (by rw [HLl.out]; exact hi)]; exact hs)
      rw [Nat.zero_add, Nat.mul_comm 3 i] at this
      rw [ec, ec, ec]
      exact this
    · obtain ⟨s, hs⟩ : ∃ s, (ll ++ [((1 : Int), (77 : Int), (77 : Int))])[j / 3]? = some s := ⟨_, List.getElem?_eq_getElem (by simp [HLl.out]; omega)⟩
      obtain ⟨k0, k1, k2⟩ := hsi (j / 3) (by omega) s hs
      rw [Nat.zero_add] at k0 k1 k2
      rw [ec]
      have hr : j % 3 = 0 ∨ j % 3 = 1 ∨ j % 3 = 2 := by omega
      rcases hr with hr | hr | hr
      · rw [show 3 * (j / 3) = j by omega] at k0; rw [k0]; rfl
      · rw [show 3 * (j / 3) + 1 = j by omega] at k1; rw [k1]; rfl
      · rw [show 3 * (j / 3) + 2 = j by omega] at k2; rw [k2]; rfl
    · rw [World.frozen?_of_block eb]; exact hfr j)
  have HGx : Hid (W3.heap.size ≤ g ∧ w.heap.size + 1 + 1 < W3.heap.size ∧ w0.heap.size ≤ w.heap.size) := Lib.hid ⟨hg, hz3, HD.out.w0.size⟩
  obtain ⟨a0, a1, a2, a3, a4, a5, a6⟩ := actC h4.a
  simp only at a0 a1 a2 a3 a4 a5 a6
  have hcpi : (qsn : Int) ≤ (cp : Int) := by omega
  have hcpl : (qsn : Int) < (qsn : Int) + 1 := by omega
  have hcpl2 : (qsn : Int) ≤ (qsn : Int) + 1 := by omega
  clear hcp hg hsi hfr hb4 h4 hz3 t0 t1 t2 hgl hgo hD4 H4
  go_upto_region 9 with (go_at_call 21; refine HPl.out.mono ?_; rintro e w5 ⟨rfl, hD5⟩; have HD5 := Lib.hid hD5; clear hD5)
  clear a0 a1 a2 a3 a4 a5 a6 HPl
  have hg5 := HD5.out.kept (x := (g, go)) (by simp)
  obtain ⟨hO, g0, g1, g2⟩ := HSame.out w5 hg5
  have HO := Lib.hid hO
  have HX : Hid (∀ X, Stays [g] w5 X → Dk A w0 d { S with stops := planP ll } P (((w.heap.size, .cells #[.slice fa l.length fc, .int .i64 (S.quota : Int), .int .i64 (S.steps : Int), .slice sa rs.length sc, .int .i64 si, .bool (!S.runs)] 32 (0, 0)) :: (w.heap.size + 1, .cells #[.int .i64 7, .int .i64 on, .string name, .string dest, .string data, .int .i64 n, .slice qsa qsn qsc] 38 (0, 0)) :: (w.heap.size + 1 + 1, .cells #[.slice none 0 0, .int .i64 0, .int .i64 0, .slice none 0 0, .int .i64 0, .bool false] 32 (0, 0)) :: []) ++ K) X) := Lib.hid (fun X hX => HD5.out.over (g := g) (o := go) (by simp) (by have := HGx.out; omega) hX.size ⟨hX.os, hX.tape, hX.output⟩ (fun b hne hb => hX.block b hb (by simpa using hne)) (fun x hx => by
    obtain ⟨q1, q2, q3⟩ := HGx.out
    refine ⟨by simp only [List.cons_append, List.nil_append, List.mem_cons] at hx ⊢; exact .inr hx, ?_⟩
    rcases List.mem_append.1 hx with hx | hx
    · simp only [List.mem_cons, List.not_mem_nil, or_false] at hx
      rcases hx with rfl | rfl | rfl
      · show w.heap.size ≠ g; omega
      · show w.heap.size + 1 ≠ g; omega
      · show w.heap.size + 1 + 1 ≠ g; omega
    · have := HD.out.ltK x hx
      omega))
  clear hO hg5 HSame
  go_wp2_with fail
  clear g0 g1 g2
  go_loopw [16, 17] (fun vo vk wr => ∃ (k : Nat) (X : World), X = wr ∧ k ≤ qsn ∧ vo = .bool true ∧ vk = .int .i64 k ∧ OverS w5 g k qsn ll X) (fun _ i _ => qsn - (Go.RowKit.intOf i).toNat)
  case atStart => exact ⟨0, _, rfl, Nat.zero_le _, rfl, rfl, HO.out⟩
  case round =>
    obtain ⟨k, X, hX, hks, rfl, rfl, hOv⟩ := hrel
    subst hX
    have hki : (k : Int) ≤ 5864062014634 := by have := HSn.out; omega
    have hDX := HX.out X hOv.stays
    have hxX := hDX.kept (x := (w.heap.size, .cells #[.slice fa l.length fc, .int .i64 (S.quota : Int), .int .i64 (S.steps : Int), .slice sa rs.length sc, .int .i64 si, .bool (!S.runs)] 32 (0, 0))) (by simp)
    have haX := hDX.kept (x := (w.heap.size + 1, .cells #[.int .i64 7, .int .i64 on, .string name, .string dest, .string data, .int .i64 n, .slice qsa qsn qsc] 38 (0, 0))) (by simp)
    have hrX := hDX.kept (x := (w.heap.size + 1 + 1, .cells #[.slice none 0 0, .int .i64 0, .int .i64 0, .slice none 0 0, .int .i64 0, .bool false] 32 (0, 0))) (by simp)
    simp only at hxX haX hrX
    obtain ⟨x0, x1, x2, x3, x4, x5⟩ := dskC hxX
    obtain ⟨a0, a1, a2, a3, a4, a5, a6⟩ := actC (q := ⟨7, on, name, dest, data, n, qsa, qsn, qsc⟩) haX
    simp only at a0 a1 a2 a3 a4 a5 a6
    have HOv := Lib.hid hOv
    have HDX := Lib.hid hDX
    by_cases hlt : k < qsn
    · obtain ⟨sb, so, hsa, hcc⟩ := camecells (HC.out.up hDX) (by show 0 < qsn; omega)
      subst hsa
      obtain ⟨⟨s1, s2, s3⟩, hs⟩ : ∃ s, ll[k]? = some s := ⟨_, List.getElem?_eq_getElem (by rw [HLl.out]; exact hlt)⟩
      obtain ⟨g0, g1, g2⟩ := hOv.rest k (Nat.le_refl _) hlt _ hs
      obtain ⟨e0, e1, e2⟩ := hcc k _ hs
      simp only at g0 g1 g2 e0 e1 e2
      have hli : (k : Int) < (qsn : Int) := by omega
      have hli1 : (k : Int) < (qsn : Int) + 1 := by omega
      have hth : X.there g (k * 3) 3 := fun j hj => HOv.out.room (k * 3 + j) (by omega)
      have HTh := Lib.hid hth
      have HLt := Lib.hid hlt
      clear hOv hDX hxX haX hrX hcc hs hth hks hlt x0 x1 x2 x3 x4 x5
      go_upto_region 13 with fail
      go_quiet (fail)
      go_wp2_with (refine wpList_store_mid rfl 62 _ _ rfl g (k * 3) #[.int .i64 1, .int .i64 0, .int .i64 0] rfl rfl HTh.out Tryz.sizeStop3 (by simp [Value.oneCell']) ?_)
      go_roundw
      case rel => exact ⟨k + 1, _, rfl, HLt.out, rfl, by go_num, (HOv.out.drewN _).step⟩
      case measure => have := HLt.out; simp [Go.RowKit.intOf]; omega
    · have hli : ¬ (k : Int) < (qsn : Int) := by omega
      have HRX := Lib.hid hrX
      have HRP2 := Lib.hid (HRP.out X (HC.out.up hDX))
      have HzX : Hid (w.heap.size + 1 + 1 < X.heap.size) := Lib.hid (lt_of_heap hrX)
      clear hOv hDX hxX haX hrX hks HRP
      go_wp2_with (first | (go_at_call 22; refine HRP2.out.mono ?_; rintro e w6 ⟨v, rfl, hss, hb6, hfar, va, vn, vc, rfl⟩; have H6 := Lib.hid (And.intro hss (And.intro hb6 hfar)); have HR6 : Hid (w6.heap[w.heap.size + 1 + 1]? = some (.cells #[.slice none 0 0, .int .i64 0, .int .i64 0, .slice none 0 0, .int .i64 0, .bool false] 32 (0, 0))) := Lib.hid (by rw [hb6.block _ (lt_of_heap HRX.out)]; exact HRX.out); clear hss hb6 hfar) | refine wpList_store_row rfl 32 _ _ rfl (w.heap.size + 1 + 1) #[.slice fa l.length fc, .int .i64 (S.quota : Int), .int .i64 (S.steps : Int), .slice va vn vc, .int .i64 0, .bool (!S.runs)] rfl rfl 32 _ HR6.out Tryz.sizeRD rfl (by simp [Value.oneCell']) ?_)
      refine bodyPost_ret (res2 rfl _ _ (w.heap.size + 1 + 1) 32 #[.slice fa l.length fc, .int .i64 (S.quota : Int), .int .i64 (S.steps : Int), .slice va vn vc, .int .i64 0, .bool (!S.runs)] (0, 0) _ rfl (setRow_heap _ _ _ _ _ _ HR6.out) Tryz.underlying32 rfl Tryz.sizeRD) rfl ?_
      obtain ⟨hss, hb6, hfar⟩ := H6.out
      obtain ⟨Kv, hKv, hKb⟩ : ∃ Kv : List (Nat × Obj), (∀ x, x ∈ Kv → X.heap.size ≤ x.1 ∧ w6.heap[x.1]? = some x.2) ∧ ∀ b, svBlk (.slice va vn vc) = some b → ∃ o, (b, o) ∈ Kv := by
        cases e : svBlk (.slice va vn vc) with
        | none => exact ⟨[], (fun x hx => by cases hx), (fun b hb => by cases hb)⟩
        | some b =>
          have hl := hss.lt e
          refine ⟨[(b, w6.heap[b])], fun x hx => ?_, (fun b' hb => by cases hb; exact ⟨_, List.mem_singleton.2 rfl⟩)⟩
          rw [List.mem_singleton.1 hx]
          exact ⟨hfar b e, Array.getElem?_eq_getElem hl⟩
      have hD6 := HDX.out.keepL hb6 Kv hKv
      have hKK : ∀ x, x ∈ K → x ∈ Kv ++ (((w.heap.size, .cells #[.slice fa l.length fc, .int .i64 (S.quota : Int), .int .i64 (S.steps : Int), .slice sa rs.length sc, .int .i64 si, .bool (!S.runs)] 32 (0, 0)) :: (w.heap.size + 1, .cells #[.int .i64 7, .int .i64 on, .string name, .string dest, .string data, .int .i64 n, .slice qsa qsn qsc] 38 (0, 0)) :: (w.heap.size + 1 + 1, .cells #[.slice none 0 0, .int .i64 0, .int .i64 0, .slice none 0 0, .int .i64 0, .bool false] 32 (0, 0)) :: []) ++ K) := fun x hx => List.mem_append_right _ (List.mem_append_right _ hx)
      have hRf6 := HRf.out.go HD.out hD6 hKK
      exact calOut_of (S0 := S) (S := { S with stops := planP ll }) HD.out.ltK HD.out.w0.size hD6 (o := .cells #[.slice none 0 0, .int .i64 0, .int .i64 0, .slice none 0 0, .int .i64 0, .bool false] 32 (0, 0)) (by simp) hKK (Below.refl _ _) (rs := planP ll) (sv := .slice va vn vc) ⟨hRf6.fs, hss, hRf6.fk, fun b e => by obtain ⟨o, ho⟩ := hKb b e; exact ⟨o, List.mem_append_left _ ho⟩⟩ HFr.out.1 (fun b e => by have := hfar b e; have := HzX.out; omega) (HM.out.plan ll HI.out) (Nat.le_succ _) (fun b e => .inl e) (fun b e => .inr (by have := hfar b e; have := HzX.out; omega))
theorem called_allB {A : Whys} {w0 w : World} {d : Nat} {S : DS} {P l : List PF} {K : List (Nat × Obj)} {rs : List (Int × Int × Int)} {si : Int} {fv sv : Value} (hD : Dk A w0 d S P K w) (hRf : Rf K fv sv l rs w) (hM : Meet S P l rs si) (hn : S.steps < 100000000) (hg : w0.cell? ⟨5, 0, none⟩ = some (rtV 26)) (q : ActR) (ll : List (Int × Int × Int)) (hst : StopsCame w0 q.sa q.sn q.sc ll) (hin : ∀ s, s ∈ ll → inI s.1 ∧ inI s.2.1 ∧ inI s.2.2) (hsn : q.sn ≤ 5864062014634) (hns : q.name.size ≤ 140737488355328) (hts : q.dest.size ≤ 140737488355328) (hds : q.data.size ≤ 140737488355328) :
    Calls Tryz.prog 8 #[.pointer (some ⟨d, 0, none⟩), rdV fv (S.quota : Int) (S.steps : Int) sv si (!S.runs), .agg q.cells] w fun e w' => CalOut A w0 w d S K fv sv e w' := by
  by_cases h1 : 1 ≤ q.kind ∧ q.kind ≤ 6
  · exact called_both hD hRf hM hn hg q h1 hns hts hds
  by_cases h7 : q.kind = 7
  · exact called_planB hD hRf hM q ll hst hin hsn h7
  by_cases h8 : q.kind = 8
  · exact called_on hD hRf hM q h8
  exact called_nil hD hRf hM q (by omega)
end Go.Proofs.YtgafomknpdnfcaaGreatDoor
