/- postbaglaw9's called, on a disk that New did not make: Plan. -/
import Derived.Test.YtgadmfbilmlnkabGreatDoorN9g
import Derived.Deep.MidRow
import Derived.Deep.QuietTactic
import Derived.BigQuiet
namespace Go.Proofs.YtgadmfbilmlnkabGreatDoor
open Go.RowKit Go.Lib

set_option maxHeartbeats 2000000 in
theorem twin_full {w : World} {a : Option Addr} {n c : Nat} {l : List (Int × Int × Int)} (h : StopsCame w a n c l) (hn : n ≤ 5864062014634) :
    Calls Tryz.prog 20 #[.slice a n c] w fun e w' => ∃ g cap, e = .returned (.slice (some ⟨g, 0, none⟩) (n + 1) cap) ∧ n + 1 ≤ cap ∧ w.heap.size ≤ g ∧ StopsIn w' g 0 (n + 1) (l ++ [(1, 77, 77)]) ∧ (∀ i, w'.frozen? ⟨g, i, none⟩ = false) ∧ Below w.heap.size w w' := by
  obtain ⟨hlen, hcame⟩ := h
  obtain ⟨i0, hi, hz0, hz1, hz2⟩ := info_parts' Tryz.infoStop
  have hone : ∀ u ∈ stopCells l, u.oneCell' = true := by
    intro u hu
    simp only [stopCells, List.mem_flatMap] at hu
    obtain ⟨s, _, hs⟩ := hu
    simp at hs
    rcases hs with rfl | rfl | rfl <;> rfl
  obtain ⟨v1, W1, hrun1, hrow1, hb1⟩ : ∃ v1 W1, (Builtin.append_ #[25, 25] 25 #[.slice none 0 0, .slice a n c]).run Tryz.prog w = .ok v1 W1 ∧ W1.ownsRow w.heap.size 61 3 v1 n (stopCells l) ∧ Below w.heap.size w W1 := by
    rcases hcame with ⟨rfl, rfl, rfl⟩ | ⟨x, rfl, hc⟩
    · have hl : l = [] := List.eq_nil_of_length_eq_zero hlen
      subst hl
      exact ⟨_, w, run_append_owned_none (P := Tryz.prog) (w := w) w.heap.size 25 25 61 i0 3 Tryz.underlying25 hi (.slice none 0 0) 0 [] (World.ownsRow_nil _ _ _ _), World.ownsRow_nil _ _ _ _, Below.refl _ _⟩
    · obtain ⟨v', W3, hrun, hrow3, hgr, _, _⟩ := run_append_own_at (P := Tryz.prog) w w.heap.size 25 25 61 i0 _ 3 24 Tryz.underlying25 hi hz0 hz1 hz2 rfl (by decide) (.slice none 0 0) 0 [] (World.ownsRow_nil _ _ _ _) x n c (stopCells l) (by rw [stopCells_length, hlen, Nat.mul_comm]) hc hone (by unfold maxLen; omega) (by omega) (Nat.le_refl _)
      rw [Nat.zero_add, List.nil_append] at hrow3
      exact ⟨v', W3, hrun, hrow3, (Below.refl _ _).grown hgr (Nat.le_refl _) (fun k hk => by cases hk)⟩
  obtain ⟨a1, c1, rfl⟩ := ownsRow_shape hrow1
  have hbs := hb1.size
  have hnew : (W1.alloc (.cells #[.int .i64 1, .int .i64 77, .int .i64 77] 61)).heap[W1.heap.size]? = some (.cells #[.int .i64 1, .int .i64 77, .int .i64 77] 61 (0, 0)) := heap_alloc_new W1 _
  obtain ⟨v2, W2, hrun2, hrow2, hgr2, _, _⟩ := run_append_own_at (P := Tryz.prog) (W1.alloc (.cells #[.int .i64 1, .int .i64 77, .int .i64 77] 61)) w.heap.size 25 25 61 i0 _ 3 24 Tryz.underlying25 hi hz0 hz1 hz2 rfl (by decide) (.slice a1 n c1) n (stopCells l) (hrow1.alloc _) ⟨W1.heap.size, 0, none⟩ 1 1 [.int .i64 1, .int .i64 77, .int .i64 77] rfl (by
      intro j u hj
      match j, hj with
      | 0, hj => simp at hj; subst hj; exact cell_of hnew 0
      | 1, hj => simp at hj; subst hj; exact cell_of hnew 1
      | 2, hj => simp at hj; subst hj; exact cell_of hnew 2
      | (j + 3), hj => simp at hj) (by
      intro u hu
      simp at hu
      rcases hu with rfl | rfl <;> rfl) (by unfold maxLen; omega) (by omega) (by simp; omega)
  have hb2 : Below w.heap.size w W2 := (hb1.alloc hbs _).grown hgr2 (by simp; omega) (fun k hk => (hrow1.lt k hk).1)
  have hfin : ∃ g cap, v2 = .slice (some ⟨g, 0, none⟩) (n + 1) cap ∧ n + 1 ≤ cap ∧ w.heap.size ≤ g ∧ StopsIn W2 g 0 (n + 1) (l ++ [(1, 77, 77)]) ∧ ∀ i, W2.frozen? ⟨g, i, none⟩ = false := by
    have e : stopCells l ++ [.int .i64 1, .int .i64 77, .int .i64 77] = stopCells (l ++ [(1, 77, 77)]) := (stopCells_snoc l (1, 77, 77)).symm
    rw [e] at hrow2
    rcases hrow2.2 with ⟨_, h0⟩ | ⟨g, cap, cur, rfl, hbase, hblk, hcap, _, _, _⟩
    · omega
    · have el : (l ++ [((1 : Int), (77 : Int), (77 : Int))]).length = n + 1 := by simp [hlen]
      have hs := stopsIn_own (l := l ++ [(1, 77, 77)]) (g := g) (c := cap) (B := w.heap.size) (w := W2) (by rw [el]; exact hrow2) (n + 1)
      exact ⟨g, cap, rfl, hcap, hbase, hs, fun i => frozen_of hblk i⟩
  obtain ⟨g, cap, rfl, hcap, hg, hst, hfr⟩ := hfin
  have H1 := Lib.hid hrun1
  have H2 := Lib.hid hrun2
  have HE := Lib.hid (And.intro hcap (And.intro hg (And.intro hst (And.intro hfr hb2))))
  clear hcame hi hz0 hz1 hz2 hone hrun1 hrow1 hb1 hbs hnew hrun2 hrow2 hgr2 hb2 hcap hg hst hfr hlen hn
  go_enter Tryz.func20, Tryz.ntmps20
  go_upto_region 3 with (at_builtin; refine append_by_run rfl _ _ _ rfl _ rfl _ _ rfl rfl _ _ H1.out ?_)
  go_wp2_with (at_builtin; refine append_by_run rfl _ _ _ rfl _ rfl _ _ rfl rfl _ _ H2.out ?_)
  go_ret
  exact ⟨g, cap, rfl, HE.out⟩
theorem Tryz.sizeStop3 : (Tryz.prog.info? 61).map (·.size) = some 3 := by kernel_rfl
/-- Where the loop over a plan stands. -/
structure Over (W3 : World) (g k n : Nat) (ll : List (Int × Int × Int)) (X : World) : Prop where
  below : Below W3.heap.size W3 X
  rest : ∀ i, k ≤ i → i < n → ∀ s, ll[i]? = some s → X.cell? ⟨g, i * 3, none⟩ = some (.int .i64 s.1) ∧ X.cell? ⟨g, i * 3 + 1, none⟩ = some (.int .i64 s.2.1) ∧ X.cell? ⟨g, i * 3 + 2, none⟩ = some (.int .i64 s.2.2)
  room : ∀ j, j < n * 3 + 3 → (X.cell? ⟨g, j, none⟩).isSome = true ∧ X.frozen? ⟨g, j, none⟩ = false
end Go.Proofs.YtgadmfbilmlnkabGreatDoor

/- postbaglaw9's called, on a disk that New did not make: Plan, the walk; all kinds. -/
namespace Go.Proofs.YtgadmfbilmlnkabGreatDoor
open Go.RowKit Go.Lib

theorem below_setCells {B : Nat} {a : World} (g : Nat) (hg : B ≤ g) : ∀ (vs : List Value) (o : Nat) (w : World), Below B a w → Below B a (w.setCells g o vs)
  | [], _, _, h => h
  | v :: r, o, _, h => below_setCells g hg r (o + 1) _ (h.setCell (p := ⟨g, o, none⟩) hg v)
theorem Over.step {W3 X : World} {g k n : Nat} {ll : List (Int × Int × Int)} (h : Over W3 g k n ll X) (hg : W3.heap.size ≤ g) : Over W3 g (k + 1) n ll (X.setCells g (k * 3) [.int .i64 1, .int .i64 0, .int .i64 0]) := by
  refine ⟨below_setCells g hg _ _ _ h.below, fun i hi hn s hs => ?_, fun j hj => ?_⟩
  · obtain ⟨h0, h1, h2⟩ := h.rest i (by omega) hn s hs
    have e : ∀ j, X.cell? ⟨g, i * 3 + j, none⟩ = (X.setCells g (k * 3) [.int .i64 1, .int .i64 0, .int .i64 0]).cell? ⟨g, i * 3 + j, none⟩ := fun j => (World.cell?_setCells_out g _ (k * 3) X ⟨g, i * 3 + j, none⟩ (fun _ _ => .inr (by simp; omega))).symm
    exact ⟨(e 0).symm.trans h0, (e 1).symm.trans h1, (e 2).symm.trans h2⟩
  · have := World.there_setCells (w := X) (b' := g) (o' := 0) (n := n * 3 + 3) (fun j hj => by rw [Nat.zero_add]; exact h.room j hj) g (k * 3) [.int .i64 1, .int .i64 0, .int .i64 0] j hj
    rw [Nat.zero_add] at this
    exact this
theorem Over.drewN {W3 X : World} {g k n : Nat} {ll : List (Int × Int × Int)} (h : Over W3 g k n ll X) (m : Nat) : Over W3 g k n ll (X.drewN m) := ⟨drewN0 h.below m, h.rest, h.room⟩
theorem came_cells {W : World} {a : Option Addr} {n c : Nat} {l : List (Int × Int × Int)} (h : StopsCame W a n c l) (hn : 0 < n) : ∃ b o, a = some ⟨b, o, none⟩ ∧ ∀ i s, l[i]? = some s → W.cell? ⟨b, o + i * 3, none⟩ = some (.int .i64 s.1) ∧ W.cell? ⟨b, o + i * 3 + 1, none⟩ = some (.int .i64 s.2.1) ∧ W.cell? ⟨b, o + i * 3 + 2, none⟩ = some (.int .i64 s.2.2) := by
  obtain ⟨hl, hc⟩ := h
  rcases hc with ⟨_, h0, _⟩ | ⟨⟨b, o, sp⟩, rfl, hc⟩
  · omega
  · obtain ⟨s0, hs0⟩ : ∃ s, l[0]? = some s := ⟨_, List.getElem?_eq_getElem (by omega)⟩
    have h0 := hc _ _ (stops_at l 0 s0 hs0).1
    have hsp : sp = none := by simpa [Addr.add] using World.cell?_spot h0
    subst hsp
    refine ⟨b, o, rfl, fun i s hs => ?_⟩
    obtain ⟨k0, k1, k2⟩ := stops_at l i s hs
    have q0 := hc _ _ k0
    have q1 := hc _ _ k1
    have q2 := hc _ _ k2
    rw [Addr.add_lit] at q0 q1 q2
    rw [Nat.mul_comm i 3]
    exact ⟨q0, by rw [Nat.add_assoc]; exact q1, by rw [Nat.add_assoc]; exact q2⟩
set_option maxRecDepth 20000 in
set_option maxHeartbeats 8000000 in
theorem called_plan {p : Value} {w : World} (h : Noth p w) (q : ActR) (ll : List (Int × Int × Int)) (hst : StopsCame w q.sa q.sn q.sc ll) (hsn : q.sn ≤ 5864062014634) (hk : q.kind = 7) :
    Calls Tryz.prog 7 #[p, refD 0, .agg q.cells] w fun e w' => CalR w e w' := by
  have h3 := calB_start w q
  obtain ⟨W3, hW3⟩ : ∃ W3, calW w q = W3 := ⟨_, rfl⟩
  rw [hW3] at h3
  unfold calW at hW3
  have HW := Lib.hid hW3
  obtain ⟨x0, x1, x2, x3, x4, x5⟩ := h3.xs
  obtain ⟨a0, a1, a2, a3, a4, a5, a6⟩ := h3.as
  have HT := Lib.hid (twin_full (hst.on h3.below) hsn)
  have HPl := Lib.hid (fun W v (hb : Below w.heap.size w W) => Plan_0 (h.on hb) v)
  have H3 := Lib.hid h3
  have HC := Lib.hid hst
  have HRP := Lib.hid (fun v W => rPlan_0 v W)
  have hsni : (q.sn : Int) ≤ 5864062014634 := by omega
  clear h3 hW3 h hst hsn
  obtain ⟨kind, on, name, dest, data, n, sa, sn, sc⟩ := q
  simp only [ActR.cells] at *
  subst hk
  unfold refD at *
  go_enter Tryz.func7, Tryz.ntmps7
  go_upto_region 1 with fail
  rw [HW.out]
  go_upto_region 7 with (go_at_call 20; refine HT.out.mono ?_; rintro e w4 ⟨g, cp, rfl, hcp, hg, hsi, hfr, hb4⟩; have H4 := Lib.hid (And.intro hcp (And.intro hg (And.intro hsi (And.intro hfr hb4)))); clear hcp hg hsi hfr hb4)
  clear x0 x1 x2 x3 x4 x5 a0 a1 a2 a3 a4 a5 a6 HT
  obtain ⟨hcp, hg, hsi, hfr, hb4⟩ := H4.out
  obtain ⟨a0, a1, a2, a3, a4, a5, a6⟩ := (H3.out.on hb4).as
  simp only at a0 a1 a2 a3 a4 a5 a6
  have hll : ll.length = sn := HC.out.1
  obtain ⟨g0, g1, g2⟩ := hsi sn (by omega) (1, 77, 77) (by rw [List.getElem?_append_right (by omega), hll]; simp)
  rw [Nat.zero_add, Nat.mul_comm 3 sn] at g0 g1 g2
  have hcpi : (sn : Int) ≤ (cp : Int) := by omega
  have hcpl : (sn : Int) < (sn : Int) + 1 := by omega
  have hB4 := Lib.hid ((H3.out.on hb4).below)
  have hO : Over W3 g 0 sn ll w4 := by
    refine ⟨hb4, fun i _ hi s hs => ?_, fun j hj => ⟨?_, hfr j⟩⟩
    · have := hsi i (by omega) s (by rw [List.getElem?_append_left (by omega)]; exact hs)
      rw [Nat.zero_add, Nat.mul_comm 3 i] at this
      exact this
    · obtain ⟨s, hs⟩ : ∃ s, (ll ++ [((1 : Int), (77 : Int), (77 : Int))])[j / 3]? = some s := ⟨_, List.getElem?_eq_getElem (by simp; omega)⟩
      obtain ⟨k0, k1, k2⟩ := hsi (j / 3) (by omega) s hs
      rw [Nat.zero_add] at k0 k1 k2
      have hr : j % 3 = 0 ∨ j % 3 = 1 ∨ j % 3 = 2 := by omega
      rcases hr with hr | hr | hr
      · rw [show 3 * (j / 3) = j by omega] at k0; rw [k0]; rfl
      · rw [show 3 * (j / 3) + 1 = j by omega] at k1; rw [k1]; rfl
      · rw [show 3 * (j / 3) + 2 = j by omega] at k2; rw [k2]; rfl
  have HO := Lib.hid hO
  have HG := Lib.hid hg
  clear hO hcp hg hsi hfr hb4 hll H4
  go_wp2_with (go_at_call 21; refine (HPl.out _ _ hB4.out).mono ?_; rintro e w5 ⟨rfl, hw5⟩; subst w5)
  clear a0 a1 a2 a3 a4 a5 a6 g0 g1 g2
  go_loopw [16, 17] (fun vo vk wr => ∃ (k : Nat) (X : World), X = wr ∧ k ≤ sn ∧ vo = .bool true ∧ vk = .int .i64 k ∧ Over W3 g k sn ll X) (fun _ i _ => sn - (Go.RowKit.intOf i).toNat)
  case atStart => exact ⟨0, _, rfl, Nat.zero_le _, rfl, rfl, HO.out⟩
  case round =>
    obtain ⟨k, X, hX, hks, rfl, rfl, hOv⟩ := hrel
    subst hX
    have hki : (k : Int) ≤ 5864062014634 := by omega
    have hCX := H3.out.on hOv.below
    obtain ⟨x0, x1, x2, x3, x4, x5⟩ := hCX.xs
    obtain ⟨a0, a1, a2, a3, a4, a5, a6⟩ := hCX.as
    simp only at a0 a1 a2 a3 a4 a5 a6
    have HOv := Lib.hid hOv
    by_cases hlt : k < sn
    · obtain ⟨sb, so, hsa, hcc⟩ := came_cells (HC.out.on hCX.below) (by show 0 < sn; omega)
      subst hsa
      obtain ⟨⟨s1, s2, s3⟩, hs⟩ : ∃ s, ll[k]? = some s := ⟨_, List.getElem?_eq_getElem (by have := HC.out.1; omega)⟩
      obtain ⟨g0, g1, g2⟩ := hOv.rest k (Nat.le_refl _) hlt _ hs
      obtain ⟨e0, e1, e2⟩ := hcc k _ hs
      simp only at g0 g1 g2 e0 e1 e2
      have hli : (k : Int) < (sn : Int) := by omega
      have hli1 : (k : Int) < (sn : Int) + 1 := by omega
      have hth : X.there g (k * 3) 3 := fun j hj => HOv.out.room (k * 3 + j) (by omega)
      have HTh := Lib.hid hth
      have HLt := Lib.hid hlt
      clear hOv hCX hcc hs hth hks hlt x0 x1 x2 x3 x4 x5
      go_upto_region 13 with fail
      go_quiet (fail)
      go_wp2_with (refine wpList_store_mid rfl 61 _ _ rfl g (k * 3) #[.int .i64 1, .int .i64 0, .int .i64 0] rfl rfl HTh.out Tryz.sizeStop3 (by simp [Value.oneCell']) ?_)
      go_roundw
      case rel => exact ⟨k + 1, _, rfl, HLt.out, rfl, by go_num, (HOv.out.drewN _).step HG.out⟩
      case measure => have := HLt.out; simp [Go.RowKit.intOf]; omega
    · have hli : ¬ (k : Int) < (sn : Int) := by omega
      have hCX' := Lib.hid hCX
      clear hOv hCX hks
      go_wp2_with (first | (go_at_call 22; refine (HRP.out _ _).mono ?_; rintro e w5 ⟨rfl, hb5⟩; have H5 := Lib.hid (hCX'.out.on hb5); clear hb5) | refine wpList_store_row rfl 31 _ _ rfl (w.heap.size + 1 + 1) ref0 rfl rfl 31 _ H5.out.r Tryz.sizeRefD rfl (by simp [Value.oneCell']) ?_)
      refine bodyPost_ret (res2 rfl _ _ (w.heap.size + 1 + 1) 31 ref0 (0, 0) _ rfl (setRow_heap _ _ _ _ _ _ H5.out.r) Tryz.underlying31 rfl Tryz.sizeRefD) rfl ?_
      exact ⟨rfl, below_setR H5.out.below (by omega) _⟩
end Go.Proofs.YtgadmfbilmlnkabGreatDoor
