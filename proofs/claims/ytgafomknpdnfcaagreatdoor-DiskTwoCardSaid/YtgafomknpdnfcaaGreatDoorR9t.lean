/- The document's disk: Plan. -/
import Derived.Test.YtgafomknpdnfcaaGreatDoorR9m
import Derived.Test.YtgafomknpdnfcaaGreatDoorD9z
import Derived.Test.YtgafomknpdnfcaaGreatDoorD9xf
namespace Go.Proofs.YtgafomknpdnfcaaGreatDoor
open Go.RowKit

/-- The document's plan as it grows. -/
structure PlanW (w : World) (fv : Value) (q st si : Int) (dn : Bool) (v : Value) (acc : List (Int × Int × Int)) (X : World) : Prop where
  below : Below w.heap.size w X
  d : X.heap[w.heap.size]? = some (.cells #[fv, .int .i64 q, .int .i64 st, v, .int .i64 si, .bool dn] 32 (0, 0))
  r : X.heap[w.heap.size + 1]? = some (.cells #[.slice none 0 0, .int .i64 0, .int .i64 0, .slice none 0 0, .int .i64 0, .bool false] 32 (0, 0))
  row : X.ownsRow (w.heap.size + 2) 62 3 v acc.length (stopCells acc)
theorem PlanW.put {w : World} {fv : Value} {q st si : Int} {dn : Bool} {v : Value} {acc : List (Int × Int × Int)} {X : World} (h : PlanW w fv q st si dn v acc X) (s : Int × Int × Int) (hacc : acc.length ≤ 5864062014634) :
    ∃ a n c W3, (Builtin.append_ #[30, 30] 30 #[v, .slice (some ⟨X.heap.size, 0, none⟩) 1 1]).run Tryz.prog (X.drew.alloc (.cells #[.int .i64 s.1, .int .i64 s.2.1, .int .i64 s.2.2] 62)) = .ok (.slice a n c) W3 ∧
      W3.cell? ⟨w.heap.size, 3, none⟩ = some v ∧ W3.frozen? ⟨w.heap.size, 3, none⟩ = false ∧ Below w.heap.size w W3 ∧ PlanW w fv q st si dn (.slice a n c) (acc ++ [s]) (W3.setCell ⟨w.heap.size, 3, none⟩ (.slice a n c)) := by
  obtain ⟨i0, hi, hz0, hz1, hz2⟩ := info_parts' Tryz.infoStop
  have hzr := lt_of_heap h.r
  have hrowY : (X.drew.alloc (.cells #[.int .i64 s.1, .int .i64 s.2.1, .int .i64 s.2.2] 62)).ownsRow (w.heap.size + 2) 62 3 v acc.length (stopCells acc) := h.row.drew.alloc _
  have hnew : (X.drew.alloc (.cells #[.int .i64 s.1, .int .i64 s.2.1, .int .i64 s.2.2] 62)).heap[X.heap.size]? = some (.cells #[.int .i64 s.1, .int .i64 s.2.1, .int .i64 s.2.2] 62 (0, 0)) := heap_alloc_new X.drew _
  obtain ⟨v', W3, hrun, hrow3, hgr, _, hat⟩ := run_append_own_at (P := Tryz.prog) (X.drew.alloc (.cells #[.int .i64 s.1, .int .i64 s.2.1, .int .i64 s.2.2] 62)) (w.heap.size + 2) 30 30 62 i0 _ 3 24 Tryz.underlying30 hi hz0 hz1 hz2 rfl (by decide) v acc.length (stopCells acc) hrowY ⟨X.heap.size, 0, none⟩ 1 1 [.int .i64 s.1, .int .i64 s.2.1, .int .i64 s.2.2] rfl (by
      intro j u hj
      match j, hj with
      | 0, hj => simp at hj; subst hj; exact cell_of hnew 0
      | 1, hj => simp at hj; subst hj; exact cell_of hnew 1
      | 2, hj => simp at hj; subst hj; exact cell_of hnew 2
      | (j + 3), hj => simp at hj) (by
      intro u hu
      simp at hu
      rcases hu with rfl | rfl | rfl <;> rfl) (by unfold maxLen; omega) (by omega) (by simp; omega)
  rw [← stopCells_snoc] at hrow3
  have hrow4 : W3.ownsRow (w.heap.size + 2) 62 3 v' (acc ++ [s]).length (stopCells (acc ++ [s])) := by rw [List.length_append]; exact hrow3
  obtain ⟨a, c, rfl⟩ := ownsRow_shape hrow3
  have hb3 : Below (w.heap.size + 2) X W3 := ((Below.refl _ X).drew.alloc (by show w.heap.size + 2 ≤ X.heap.size; omega) _).grown hgr (by simp; omega) (fun k hk => (h.row.lt k hk).1)
  have hd3 : W3.heap[w.heap.size]? = some (.cells #[fv, .int .i64 q, .int .i64 st, v, .int .i64 si, .bool dn] 32 (0, 0)) := by rw [hb3.block _ (by omega)]; exact h.d
  have hr3 := hb3.block (w.heap.size + 1) (by omega)
  rw [h.r] at hr3
  have hbw : Below w.heap.size w W3 := h.below.trans (hb3.mono (by omega))
  refine ⟨a, _, c, W3, hrun, cell_of hd3 3, frozen_of hd3 3, hbw, hbw.setCell (p := ⟨w.heap.size, 3, none⟩) (Nat.le_refl _) _, by rw [heap_setCell_at _ hd3]; rfl, by rw [Below.heap_setCell _ _ _ _ (by show w.heap.size + 1 ≠ w.heap.size; omega)]; exact hr3, ?_⟩
  exact ownsRow_same hrow4 (fun b e => Below.heap_setCell _ _ _ _ (fun x => by have := (hrow4.lt b e).1; have x : b = w.heap.size := x; omega))
theorem camecells {W : World} {a : Option Addr} {n c : Nat} {l : List (Int × Int × Int)} (h : StopsCame W a n c l) (hn : 0 < n) : ∃ b o, a = some ⟨b, o, none⟩ ∧ ∀ i s, l[i]? = some s → W.cell? ⟨b, o + i * 3, none⟩ = some (.int .i64 s.1) ∧ W.cell? ⟨b, o + i * 3 + 1, none⟩ = some (.int .i64 s.2.1) ∧ W.cell? ⟨b, o + i * 3 + 2, none⟩ = some (.int .i64 s.2.2) := by
  obtain ⟨hl, hc⟩ := h
  rcases hc with ⟨_, h0, _⟩ | ⟨⟨b, o, sp⟩, rfl, hc⟩
  · omega
  · obtain ⟨s0, hs0⟩ : ∃ s, l[0]? = some s := ⟨_, List.getElem?_eq_getElem (by omega)⟩
    have h0 := hc _ _ (stops_at l 0 s0 hs0).1
    have hsp : sp = none := by simpa [Addr.add] using World.cell?_spot h0
    subst hsp
    refine ⟨b, o, rfl, fun i s hs => ?_⟩
    obtain ⟨k0, k1, k2⟩ := stops_at l i s hs
    have q0 := hc _ _ k0
    have q1 := hc _ _ k1
    have q2 := hc _ _ k2
    rw [Addr.add_lit] at q0 q1 q2
    rw [Nat.mul_comm i 3]
    exact ⟨q0, by rw [Nat.add_assoc]; exact q1, by rw [Nat.add_assoc]; exact q2⟩
theorem svBlk_own {a : Option Addr} {n c b : Nat} (h : svBlk (.slice a n c) = some b) : (Value.slice a n c).ownBlock = some b := by
  cases a with
  | none => cases h
  | some x => cases n with
    | zero => cases h
    | succ n => exact h
set_option maxRecDepth 20000 in
set_option maxHeartbeats 4000000 in
theorem rPlan_any (fa : Option Addr) (fl fc : Nat) (q st : Int) (sa0 : Option Addr) (sl0 sc0 : Nat) (si : Int) (dn : Bool) (sa : Option Addr) (N c : Nat) (l : List (Int × Int × Int)) (w : World) (hq0 : (q == 0) = false) (hst : StopsCame w sa N c l) (hN : N ≤ 5864062014634) :
    Calls Tryz.prog 22 #[rdV (.slice fa fl fc) q st (.slice sa0 sl0 sc0) si dn, .slice sa N c] w fun e w' => ∃ v, e = .returned (rdV (.slice fa fl fc) q st v 0 dn) ∧ StopsAt w' v (planP l) ∧ Below w.heap.size w w' ∧ (∀ b, svBlk v = some b → w.heap.size ≤ b) ∧ ∃ a n c, v = .slice a n c := by
  obtain ⟨W1, hW1⟩ : ∃ W1, (w.alloc (.cells #[.slice fa fl fc, .int .i64 q, .int .i64 st, .slice sa0 sl0 sc0, .int .i64 si, .bool dn] 32)).alloc (.cells #[.slice none 0 0, .int .i64 0, .int .i64 0, .slice none 0 0, .int .i64 0, .bool false] 32) = W1 := ⟨_, rfl⟩
  have hd1 : W1.heap[w.heap.size]? = some (.cells #[.slice fa fl fc, .int .i64 q, .int .i64 st, .slice sa0 sl0 sc0, .int .i64 si, .bool dn] 32 (0, 0)) := by
    rw [← hW1, Below.heap_alloc _ _ _ (by simp)]; exact heap_alloc_new _ _
  have hr1 : W1.heap[w.heap.size + 1]? = some (.cells #[.slice none 0 0, .int .i64 0, .int .i64 0, .slice none 0 0, .int .i64 0, .bool false] 32 (0, 0)) := by rw [← hW1]; exact heapR_second _ _ _
  have hb1 : Below w.heap.size w W1 := by rw [← hW1]; exact belowR_two w _ _
  have x1 := cell_of hd1 1
  have x3 := cell_of hd1 3
  have f3 := frozen_of hd1 3
  simp only [List.getElem?_toArray, List.getElem?_cons_zero, List.getElem?_cons_succ] at x1 x3
  have HP0 : Hid (PlanW w (.slice fa fl fc) q st si dn (.slice none 0 0) [] (W1.setCell ⟨w.heap.size, 3, none⟩ (.slice none 0 0))) := Lib.hid ⟨hb1.setCell (p := ⟨w.heap.size, 3, none⟩) (Nat.le_refl _) _, by rw [heap_setCell_at _ hd1]; rfl, by rw [Below.heap_setCell _ _ _ _ (by show w.heap.size + 1 ≠ w.heap.size; omega)]; exact hr1, World.ownsRow_nil _ _ _ _⟩
  have HW := Lib.hid hW1
  have HC := Lib.hid hst
  have hNi : (N : Int) ≤ 5864062014634 := by omega
  clear hd1 hr1 hb1 hW1 hst
  unfold rdV
  go_enter Tryz.func22, Tryz.ntmps22
  go_upto_region 1 with fail
  rw [HW.out]
  go_upto_region 4 with fail
  clear x1 x3 f3
  generalize W1.setCell ⟨w.heap.size, 3, none⟩ (.slice none 0 0) = W2 at HP0 ⊢
  go_wp2_with fail
  go_loopw [5] (fun i wr => ∃ (k : Nat) (v : Value) (X : World), X = wr ∧ k ≤ N ∧ i = .int .i64 k ∧ PlanW w (.slice fa fl fc) q st si dn v (planP (l.take k)) X) (fun i _ => N - (intOf i).toNat)
  case atStart => exact ⟨0, _, _, rfl, Nat.zero_le _, rfl, HP0.out⟩
  case round =>
    obtain ⟨k, v, X, hX, hk, rfl, hP⟩ := hrel
    subst hX
    have hk2 : (k : Int) ≤ 5864062014634 := by omega
    have HPl := Lib.hid hP
    by_cases hlt : k < N
    · obtain ⟨b, o, ha, hcc⟩ := camecells HC.out (by omega)
      subst ha
      obtain ⟨s, hs⟩ : ∃ s, l[k]? = some s := ⟨_, List.getElem?_eq_getElem (by have := HC.out.1; omega)⟩
      have HSn := Lib.hid (planP_snoc l k s hs)
      obtain ⟨x, y, z⟩ := s
      obtain ⟨c0, c1, c2⟩ := hcc k _ hs
      have HCe : Hid (∀ Z, Below w.heap.size w Z → Z.cell? ⟨b, o + k * 3, none⟩ = some (.int .i64 x) ∧ Z.cell? ⟨b, o + k * 3 + 1, none⟩ = some (.int .i64 y) ∧ Z.cell? ⟨b, o + k * 3 + 2, none⟩ = some (.int .i64 z)) := Lib.hid (fun Z hZ => ⟨by rw [hZ.cell (p := ⟨b, o + k * 3, none⟩) (World.block_lt_of_cell? w _ c0)]; exact c0, by rw [hZ.cell (p := ⟨b, o + k * 3 + 1, none⟩) (World.block_lt_of_cell? w _ c1)]; exact c1, by rw [hZ.cell (p := ⟨b, o + k * 3 + 2, none⟩) (World.block_lt_of_cell? w _ c2)]; exact c2⟩)
      have hlen : (planP (l.take k)).length ≤ 5864062014634 := by
        have h1 : (planP (l.take k)).length ≤ (l.take k).length := List.length_filter_le _ _
        rw [List.length_take] at h1
        omega
      have HLen := Lib.hid hlen
      have hli : (k : Int) < (N : Int) := by omega
      have HLt := Lib.hid hlt
      clear hP hs hcc c0 c1 c2 hlen hlt hk
      obtain ⟨c0, c1, c2⟩ := HCe.out X HPl.out.below
      by_cases hx : 1 ≤ x
      · obtain ⟨a3, n3, c3, W3, hrun, w3, wf, hbw3, hP3⟩ := HPl.out.put (x, y, z) HLen.out
        obtain ⟨va, vc, hv⟩ := ownsRow_shape HPl.out.row
        obtain ⟨vn, hvn⟩ : ∃ vn, (planP (l.take k)).length = vn := ⟨_, rfl⟩
        rw [hvn] at hv
        have hd3 := HPl.out.d
        rw [hv] at hrun w3 hd3
        have HS0 : Hid (X.drew.cell? ⟨w.heap.size, 3, none⟩ = some (.slice va vn vc) ∧ Below w.heap.size w X.drew) := Lib.hid ⟨cell_of (w := X.drew) hd3 3, HPl.out.below.drew⟩
        have HS1 : Hid ((X.drew.alloc (.cells #[.int .i64 x, .int .i64 y, .int .i64 z] 62)).cell? ⟨w.heap.size, 3, none⟩ = some (.slice va vn vc) ∧ Below w.heap.size w (X.drew.alloc (.cells #[.int .i64 x, .int .i64 y, .int .i64 z] 62))) := Lib.hid ⟨by rw [World.cell?_of_block (Below.heap_alloc X.drew _ _ (lt_of_heap HPl.out.d))]; exact HS0.out.1, HS0.out.2.alloc HPl.out.below.size _⟩
        have HS3 : Hid (W3.cell? ⟨w.heap.size, 3, none⟩ = some (.slice va vn vc) ∧ Below w.heap.size w W3) := Lib.hid ⟨w3, hbw3⟩
        have HRun := Lib.hid hrun
        have HP3 := Lib.hid hP3
        clear hrun hP3 hbw3 hv hvn hd3
        go_upto_region 8 with fail
        clear c0 c1 c2
        refine wp_region_N 9 (fun X => X.cell? ⟨w.heap.size, 3, none⟩ = some (.slice va vn vc) ∧ Below w.heap.size w X) (by kernel_rfl) ?_
        refine wpAnyN_take (i := 0) (oi := { dst := some 23, op := Go.Op.fieldAddr 32 (Go.Operand.tmp 2) 3, type := 0, pos := "ref.go:145", after := #[], guard := none }) (oL := { dst := none, op := Go.Op.store 30 (Go.Operand.tmp 31) (Go.Operand.tmp 30), type := 0, pos := "ref.go:145", after := #[{ on := 8, ground := Go.Ground.data }, { on := 7, ground := Go.Ground.data }, { on := 7, ground := Go.Ground.chain }, { on := 0, ground := Go.Ground.phase }, { on := 1, ground := Go.Ground.phase }, { on := 2, ground := Go.Ground.phase }, { on := 3, ground := Go.Ground.phase }, { on := 4, ground := Go.Ground.phase }, { on := 5, ground := Go.Ground.phase }, { on := 6, ground := Go.Ground.phase }, { on := 7, ground := Go.Ground.phase }], guard := none }) (v := .pointer (some ⟨w.heap.size, 3, none⟩)) rfl rfl (by kernel_rfl) (by kernel_rfl) (by kernel_rfl) (by kernel_rfl) (fun _ _ _ h => h) (Or.inl ⟨by kernel_rfl, ?_⟩) HS0.out ?_
        · (intro X hX; obtain ⟨y3, hyb⟩ := hX; obtain ⟨c0, c1, c2⟩ := HCe.out _ hyb <;> (go_simp; (try (with_reducible rfl)); (try omega)))
        (try simp only [Act.put, List.setIfInBounds_toArray, List.set_cons_zero, List.set_cons_succ])
        refine wpAnyN_take (i := 1) (oi := { dst := some 24, op := Go.Op.load 30 (Go.Operand.tmp 23), type := 30, pos := "ref.go:145", after := #[{ on := 0, ground := Go.Ground.data }], guard := none }) (oL := { dst := none, op := Go.Op.store 30 (Go.Operand.tmp 31) (Go.Operand.tmp 30), type := 0, pos := "ref.go:145", after := #[{ on := 8, ground := Go.Ground.data }, { on := 7, ground := Go.Ground.data }, { on := 7, ground := Go.Ground.chain }, { on := 0, ground := Go.Ground.phase }, { on := 1, ground := Go.Ground.phase }, { on := 2, ground := Go.Ground.phase }, { on := 3, ground := Go.Ground.phase }, { on := 4, ground := Go.Ground.phase }, { on := 5, ground := Go.Ground.phase }, { on := 6, ground := Go.Ground.phase }, { on := 7, ground := Go.Ground.phase }], guard := none }) (v := .slice va vn vc) rfl rfl (by kernel_rfl) (by kernel_rfl) (by kernel_rfl) (by kernel_rfl) (fun _ _ _ h => h) (Or.inl ⟨by kernel_rfl, ?_⟩) HS0.out ?_
        · (intro X hX; obtain ⟨y3, hyb⟩ := hX; obtain ⟨c0, c1, c2⟩ := HCe.out _ hyb <;> (go_simp; (try (with_reducible rfl)); (try omega)))
        (try simp only [Act.put, List.setIfInBounds_toArray, List.set_cons_zero, List.set_cons_succ])
        refine wpAnyN_take (i := 2) (oi := { dst := some 25, op := Go.Op.move (Go.Operand.tmp 1), type := 30, pos := "ref.go:145", after := #[], guard := none }) (oL := { dst := none, op := Go.Op.store 30 (Go.Operand.tmp 31) (Go.Operand.tmp 30), type := 0, pos := "ref.go:145", after := #[{ on := 8, ground := Go.Ground.data }, { on := 7, ground := Go.Ground.data }, { on := 7, ground := Go.Ground.chain }, { on := 0, ground := Go.Ground.phase }, { on := 1, ground := Go.Ground.phase }, { on := 2, ground := Go.Ground.phase }, { on := 3, ground := Go.Ground.phase }, { on := 4, ground := Go.Ground.phase }, { on := 5, ground := Go.Ground.phase }, { on := 6, ground := Go.Ground.phase }, { on := 7, ground := Go.Ground.phase }], guard := none }) (v := .slice (some ⟨b, o, none⟩) N c) rfl rfl (by kernel_rfl) (by kernel_rfl) (by kernel_rfl) (by kernel_rfl) (fun _ _ _ h => h) (Or.inl ⟨by kernel_rfl, ?_⟩) HS0.out ?_
        · (intro X hX; obtain ⟨y3, hyb⟩ := hX; obtain ⟨c0, c1, c2⟩ := HCe.out _ hyb <;> (go_simp; (try (with_reducible rfl)); (try omega)))
        (try simp only [Act.put, List.setIfInBounds_toArray, List.set_cons_zero, List.set_cons_succ])
        refine wpAnyN_take (i := 3) (oi := { dst := some 26, op := Go.Op.move (Go.Operand.tmp 5), type := 3, pos := "ref.go:145", after := #[], guard := none }) (oL := { dst := none, op := Go.Op.store 30 (Go.Operand.tmp 31) (Go.Operand.tmp 30), type := 0, pos := "ref.go:145", after := #[{ on := 8, ground := Go.Ground.data }, { on := 7, ground := Go.Ground.data }, { on := 7, ground := Go.Ground.chain }, { on := 0, ground := Go.Ground.phase }, { on := 1, ground := Go.Ground.phase }, { on := 2, ground := Go.Ground.phase }, { on := 3, ground := Go.Ground.phase }, { on := 4, ground := Go.Ground.phase }, { on := 5, ground := Go.Ground.phase }, { on := 6, ground := Go.Ground.phase }, { on := 7, ground := Go.Ground.phase }], guard := none }) (v := .int .i64 (k : Int)) rfl rfl (by kernel_rfl) (by kernel_rfl) (by kernel_rfl) (by kernel_rfl) (fun _ _ _ h => h) (Or.inl ⟨by kernel_rfl, ?_⟩) HS0.out ?_
        · (intro X hX; obtain ⟨y3, hyb⟩ := hX; obtain ⟨c0, c1, c2⟩ := HCe.out _ hyb <;> (go_simp; (try (with_reducible rfl)); (try omega)))
        (try simp only [Act.put, List.setIfInBounds_toArray, List.set_cons_zero, List.set_cons_succ])
        refine wpAnyN_take (i := 4) (oi := { dst := some 27, op := Go.Op.indexAddr 30 (Go.Operand.tmp 25) (Go.Operand.tmp 26), type := 0, pos := "ref.go:145", after := #[{ on := 2, ground := Go.Ground.data }, { on := 3, ground := Go.Ground.data }], guard := none }) (oL := { dst := none, op := Go.Op.store 30 (Go.Operand.tmp 31) (Go.Operand.tmp 30), type := 0, pos := "ref.go:145", after := #[{ on := 8, ground := Go.Ground.data }, { on := 7, ground := Go.Ground.data }, { on := 7, ground := Go.Ground.chain }, { on := 0, ground := Go.Ground.phase }, { on := 1, ground := Go.Ground.phase }, { on := 2, ground := Go.Ground.phase }, { on := 3, ground := Go.Ground.phase }, { on := 4, ground := Go.Ground.phase }, { on := 5, ground := Go.Ground.phase }, { on := 6, ground := Go.Ground.phase }, { on := 7, ground := Go.Ground.phase }], guard := none }) (v := .pointer (some ⟨b, o + k * 3, none⟩)) rfl rfl (by kernel_rfl) (by kernel_rfl) (by kernel_rfl) (by kernel_rfl) (fun _ _ _ h => h) (Or.inl ⟨by kernel_rfl, ?_⟩) HS0.out ?_
        · (intro X hX; obtain ⟨y3, hyb⟩ := hX; obtain ⟨c0, c1, c2⟩ := HCe.out _ hyb <;> (go_simp; (try (with_reducible rfl)); (try omega)))
        (try simp only [Act.put, List.setIfInBounds_toArray, List.set_cons_zero, List.set_cons_succ])
        refine wpAnyN_take (i := 5) (oi := { dst := some 28, op := Go.Op.load 62 (Go.Operand.tmp 27), type := 62, pos := "ref.go:145", after := #[{ on := 4, ground := Go.Ground.data }], guard := none }) (oL := { dst := none, op := Go.Op.store 30 (Go.Operand.tmp 31) (Go.Operand.tmp 30), type := 0, pos := "ref.go:145", after := #[{ on := 8, ground := Go.Ground.data }, { on := 7, ground := Go.Ground.data }, { on := 7, ground := Go.Ground.chain }, { on := 0, ground := Go.Ground.phase }, { on := 1, ground := Go.Ground.phase }, { on := 2, ground := Go.Ground.phase }, { on := 3, ground := Go.Ground.phase }, { on := 4, ground := Go.Ground.phase }, { on := 5, ground := Go.Ground.phase }, { on := 6, ground := Go.Ground.phase }, { on := 7, ground := Go.Ground.phase }], guard := none }) (v := .agg #[.int .i64 x, .int .i64 y, .int .i64 z]) rfl rfl (by kernel_rfl) (by kernel_rfl) (by kernel_rfl) (by kernel_rfl) (fun _ _ _ h => h) (Or.inl ⟨by kernel_rfl, ?_⟩) HS0.out ?_
        · (intro X hX; obtain ⟨y3, hyb⟩ := hX; obtain ⟨c0, c1, c2⟩ := HCe.out _ hyb <;> (go_simp; (try (with_reducible rfl)); (try omega)))
        (try simp only [Act.put, List.setIfInBounds_toArray, List.set_cons_zero, List.set_cons_succ])
        refine wpAnyN_one (i := 6) (o := { dst := some 29, op := Go.Op.buildSlice 30 1 #[(0, Go.Operand.tmp 28)], type := 30, pos := "ref.go:145", after := #[{ on := 5, ground := Go.Ground.data }], guard := none }) (by kernel_rfl) rfl (fun K hK => ?_)
        go_simp
        refine hK.out _ _ (fun _ => HS1.out) ?_
        clear hK K
        (try simp only [Act.put, List.setIfInBounds_toArray, List.set_cons_zero, List.set_cons_succ])
        refine wpAnyN_one (i := 7) (o := { dst := some 30, op := Go.Op.call { callee := Go.Callee.builtin Go.Builtin.append, args := #[Go.Operand.tmp 24, Go.Operand.tmp 29], argTypes := #[30, 30] }, type := 30, pos := "ref.go:145", after := #[{ on := 1, ground := Go.Ground.data }, { on := 6, ground := Go.Ground.data }], guard := none }) (by kernel_rfl) rfl (fun K hK => ?_)
        refine step_append_run rfl _ _ _ rfl _ rfl _ _ rfl rfl _ _ HRun.out ?_
        refine hK.out _ _ (fun _ => HS3.out) ?_
        clear hK K
        (try simp only [Act.put, List.setIfInBounds_toArray, List.set_cons_zero, List.set_cons_succ])
        refine wpAnyN_take (i := 8) (oi := { dst := some 31, op := Go.Op.fieldAddr 32 (Go.Operand.tmp 2) 3, type := 0, pos := "ref.go:145", after := #[{ on := 0, ground := Go.Ground.phase }, { on := 1, ground := Go.Ground.phase }, { on := 2, ground := Go.Ground.phase }, { on := 3, ground := Go.Ground.phase }, { on := 4, ground := Go.Ground.phase }, { on := 5, ground := Go.Ground.phase }, { on := 6, ground := Go.Ground.phase }, { on := 7, ground := Go.Ground.phase }], guard := none }) (oL := { dst := none, op := Go.Op.store 30 (Go.Operand.tmp 31) (Go.Operand.tmp 30), type := 0, pos := "ref.go:145", after := #[{ on := 8, ground := Go.Ground.data }, { on := 7, ground := Go.Ground.data }, { on := 7, ground := Go.Ground.chain }, { on := 0, ground := Go.Ground.phase }, { on := 1, ground := Go.Ground.phase }, { on := 2, ground := Go.Ground.phase }, { on := 3, ground := Go.Ground.phase }, { on := 4, ground := Go.Ground.phase }, { on := 5, ground := Go.Ground.phase }, { on := 6, ground := Go.Ground.phase }, { on := 7, ground := Go.Ground.phase }], guard := none }) (v := .pointer (some ⟨w.heap.size, 3, none⟩)) rfl rfl (by kernel_rfl) (by kernel_rfl) (by kernel_rfl) (by kernel_rfl) (fun _ _ _ h => h) (Or.inl ⟨by kernel_rfl, ?_⟩) HS3.out ?_
        · (intro X hX; obtain ⟨y3, hyb⟩ := hX; obtain ⟨c0, c1, c2⟩ := HCe.out _ hyb <;> (go_simp; (try (with_reducible rfl)); (try omega)))
        (try simp only [Act.put, List.setIfInBounds_toArray, List.set_cons_zero, List.set_cons_succ])
        refine wpAnyN_one (i := 9) (o := { dst := none, op := Go.Op.store 30 (Go.Operand.tmp 31) (Go.Operand.tmp 30), type := 0, pos := "ref.go:145", after := #[{ on := 8, ground := Go.Ground.data }, { on := 7, ground := Go.Ground.data }, { on := 7, ground := Go.Ground.chain }, { on := 0, ground := Go.Ground.phase }, { on := 1, ground := Go.Ground.phase }, { on := 2, ground := Go.Ground.phase }, { on := 3, ground := Go.Ground.phase }, { on := 4, ground := Go.Ground.phase }, { on := 5, ground := Go.Ground.phase }, { on := 6, ground := Go.Ground.phase }, { on := 7, ground := Go.Ground.phase }], guard := none }) (by kernel_rfl) rfl (fun K hK => ?_)
        go_simp
        refine hK.out _ _ (fun e => absurd (e.symm.trans (by kernel_rfl) : false = true) Bool.false_ne_true) ?_
        clear hK K
        (try simp only [Act.put, List.setIfInBounds_toArray, List.set_cons_zero, List.set_cons_succ])
        refine wpAnyN_of_H (S' := fun _ => True) _ _ _ _ (by kernel_rfl) ?_
        refine wpAnyH_done (by kernel_rfl) ?_ _
        go_wp2_with fail
        go_roundw
        case rel => exact ⟨k + 1, _, _, rfl, HLt.out, by go_num, by
          rw [HSn.out, if_pos hx]; exact HP3.out⟩
        case measure => have := HLt.out; simp [intOf]; omega
      · go_wp2_with fail
        go_roundw
        case rel => exact ⟨k + 1, _, _, rfl, HLt.out, by go_num, by
          rw [HSn.out, if_neg hx, List.append_nil]; exact HPl.out⟩
        case measure => have := HLt.out; simp [intOf]; omega
    · have hli : ¬ (k : Int) < (N : Int) := by omega
      have HE : Hid (PlanW w (.slice fa fl fc) q st si dn v (planP l) X) := Lib.hid (by
        have e : l.take k = l := List.take_of_length_le (by have := HC.out.1; omega)
        have hp := hP
        rw [e] at hp
        exact hp)
      clear hP HPl hk
      obtain ⟨va, vc, hv⟩ := ownsRow_shape HE.out.row
      generalize hvn : (planP l).length = vn at hv
      subst hv
      have x0 := cell_of HE.out.d 0
      have x1 := cell_of HE.out.d 1
      have x2 := cell_of HE.out.d 2
      have x3 := cell_of HE.out.d 3
      have x4 := cell_of HE.out.d 4
      have x5 := cell_of HE.out.d 5
      have f4 := frozen_of HE.out.d 4
      simp only [List.getElem?_toArray, List.getElem?_cons_zero, List.getElem?_cons_succ] at x0 x1 x2 x3 x4 x5
      have hd5 := heap_setCell_at (o := 4) (.int .i64 0) HE.out.d
      have hr5 : (X.setCell ⟨w.heap.size, 4, none⟩ (.int .i64 0)).heap[w.heap.size + 1]? = some (.cells #[.slice none 0 0, .int .i64 0, .int .i64 0, .slice none 0 0, .int .i64 0, .bool false] 32 (0, 0)) := by rw [Below.heap_setCell _ _ _ _ (by show w.heap.size + 1 ≠ w.heap.size; omega)]; exact HE.out.r
      have hb5 : Below w.heap.size w (X.setCell ⟨w.heap.size, 4, none⟩ (.int .i64 0)) := HE.out.below.setCell (p := ⟨w.heap.size, 4, none⟩) (Nat.le_refl _) _
      have HL : Hid (∀ cs, StopsAt ((X.setCell ⟨w.heap.size, 4, none⟩ (.int .i64 0)).setRow (w.heap.size + 1) cs) (.slice va vn vc) (planP l) ∧ ∀ b, svBlk (.slice va vn vc) = some b → w.heap.size ≤ b) := Lib.hid (fun cs => by
        have hlo : ∀ b, svBlk (.slice va vn vc) = some b → w.heap.size + 2 ≤ b := fun b e => (HE.out.row.lt b (svBlk_own e)).1
        refine ⟨(stopsAt_own HE.out.row).same (fun b e => ?_), fun b e => by have := hlo b e; omega⟩
        have := hlo b e
        rw [setRow_other _ _ _ _ (by omega), Below.heap_setCell _ _ _ _ (by show b ≠ w.heap.size; omega)])
      have HR5 := Lib.hid (And.intro hr5 hb5)
      have HD5 := Lib.hid hd5
      clear hr5 hb5 hd5 HE hvn
      go_upto_region 10 with fail
      generalize X.setCell ⟨w.heap.size, 4, none⟩ (.int .i64 0) = Y at HL HR5 HD5 ⊢
      clear x0 x1 x2 x3 x4 x5 f4
      have x0 := cell_of HD5.out 0
      have x1 := cell_of HD5.out 1
      have x2 := cell_of HD5.out 2
      have x3 := cell_of HD5.out 3
      have x4 := cell_of HD5.out 4
      have x5 := cell_of HD5.out 5
      simp at x0 x1 x2 x3 x4 x5
      go_wp2_with (refine wpList_store_row rfl 32 _ _ rfl (w.heap.size + 1) #[.slice fa fl fc, .int .i64 q, .int .i64 st, .slice va vn vc, .int .i64 0, .bool dn] rfl rfl 32 _ HR5.out.1 Tryz.sizeRD rfl (by simp [Value.oneCell']) ?_)
      refine bodyPost_ret (results_cell_row rfl _ _ (w.heap.size + 1) 32 #[.slice fa fl fc, .int .i64 q, .int .i64 st, .slice va vn vc, .int .i64 0, .bool dn] (0, 0) _ rfl (setRow_heap _ _ _ _ _ _ HR5.out.1) Tryz.underlying32 rfl Tryz.sizeRD) rfl ?_
      exact ⟨_, rfl, (HL.out _).1, below_setQ HR5.out.2 (by omega) _, (HL.out #[]).2, _, _, _, rfl⟩
end Go.Proofs.YtgafomknpdnfcaaGreatDoor
