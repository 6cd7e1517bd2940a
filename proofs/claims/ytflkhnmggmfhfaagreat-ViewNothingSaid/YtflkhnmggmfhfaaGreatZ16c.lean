/- A step's calls, in the house of nothing. -/
import Derived.Test.YtflkhnmggmfhfaaGreatD16q
import Derived.Test.YtflkhnmggmfhfaaGreatZ16b
namespace Go.Proofs.YtflkhnmggmfhfaaGreat
open Go.RowKit

variable {W w : World} {K : List (Nat × Obj)} {vp : Value} {Q D : Nat}
theorem event_Z (h : ZHH W K vp Q D w) (s : ST) (ho : StOK W s) (hx : StX s) (hs : StShort s) (hf : StF s) :
    Calls Tryz.prog 13 #[.pointer (some ⟨D, 0, none⟩), .agg (evA s.ev).toList.toArray] w fun r w' => ∃ e' ms', r = .returned (.agg (evA e')) ∧ ZHE W K vp Q D s.us s.ms (evP s) e' ms' w' := by
  obtain ⟨fv, fr, vd, c, h⟩ := h
  have hO := st_evOut (f := fpD D vd c.F) ho h.base.size h.lk
  refine (event_any h.desk h.ok s.ev s.us s.ms ((st_evAt ho hs).on h.base) (fun h0 b e => (hO.uids h0 b e).2) hO.marks hs.us hs.ms hf hx ⟨ho.one _ (stL_ev (by simp [evA])), ho.one _ (stL_ev (by simp [evA]))⟩).mono ?_
  rintro r w' ⟨e', ms', v', c', rfl, q1, q2, q3, q4, q5, q6, q7, q8, _, _⟩
  exact ⟨e', ms', rfl, fv, fr, v', c', h.toD q1.1 q2 q1.2, q3, q4, q5, q6, q7, q8⟩
theorem event0_Z (h : ZHH W K vp Q D w) :
    Calls Tryz.prog 13 #[.pointer (some ⟨D, 0, none⟩), .agg (evA EV0)] w fun r w' => ∃ e', r = .returned (.agg (evA e')) ∧ ZHH W K vp Q D w' := by
  obtain ⟨fv, fr, vd, c, h⟩ := h
  refine (event_any h.desk h.ok EV0 [] [] (evAt0 w) (fun q => by simp at q) ⟨fun q => by simp at q, fun m hm => (by cases hm)⟩ (by simp) (by simp) (fun m hm => (by cases hm)) (fun a k e _ _ => by injection e with _ _ e3; exact e3.symm) ⟨rfl, rfl⟩).mono ?_
  rintro r w' ⟨e', ms', v', c', rfl, q1, q2, _⟩
  exact ⟨e', rfl, fv, fr, v', c', h.toD q1.1 q2 q1.2⟩
theorem lies_Z (s : ST) (h : ZHL W K vp Q D s.us s.ms w) (ho : StOK W s) (hs : StShort s) (hf : StF s) :
    Calls Tryz.prog 14 #[.pointer (some ⟨D, 0, none⟩), .agg (evA s.ev).toList.toArray] w fun r w' => r = .returned (.bool true) ∧ ZHH W K vp Q D w' := by
  obtain ⟨fv, fr, vd, c, h, h2⟩ := h
  exact (lies_any h.desk h.ok s.ev s.us s.ms h2 ((st_evAt ho hs).on h.base) hf).mono (fun _ _ ⟨q1, q2⟩ => ⟨q1, fv, fr, vd, c, h.on q2⟩)
end Go.Proofs.YtflkhnmggmfhfaaGreat

/- step: Hear. -/
namespace Go.Proofs.YtflkhnmggmfhfaaGreat
open Go.RowKit

variable {W w : World} {K : List (Nat × Obj)} {vp : Value} {Q D : Nat}
set_option maxRecDepth 100000 in
set_option maxHeartbeats 16000000 in
theorem zstep_hear (h : ZHH W K vp Q D w) (s : ST) (ho : StOK W s) (hs : StShort s) (lk : Int) (hx : StX s) (hf : StF s) (k1 : s.kind = 1) (b1 : Bool) (q1 : (lk.tmod 2 == 0) = b1) :
    Calls Tryz.prog 6 #[vp, .pointer (some ⟨Q, 0, none⟩), .pointer (some ⟨D, 0, none⟩), .agg (stL s).toArray, .int .i64 lk] w fun e w' => e = .returned (.bool true) ∧ ZHH W K vp Q D w' := by
  obtain ⟨W1, hW1⟩ : ∃ W1, w.alloc (.cells (stL s).toArray 47) = W1 := ⟨_, rfl⟩
  have h1 : W1.heap[w.heap.size]? = some (.cells (stL s).toArray 47 (0, 0)) := by rw [← hW1]; exact heap_new _ _
  have hb1 : Below w.heap.size w W1 := by rw [← hW1]; exact (Below.refl _ _).alloc (Nat.le_refl _) _
  have h2 : ZHH W (SBx w.heap.size s :: K) vp Q D W1 := h.add hb1 (Nat.le_refl _) h1
  obtain ⟨c0, c20, c21, c22, c23, c24, cr⟩ := stL_at h1
  rw [k1] at c0
  have HCr := Lib.hid cr
  have HRH : Hid (Calls Tryz.prog 11 #[.pointer (some ⟨Q, 0, none⟩), .agg (evA s.ev).toList.toArray, .bool s.own] W1 fun r w' => r = .returned (.tuple #[]) ∧ ZHH W (SBx w.heap.size s :: K) vp Q D w') := Lib.hid (rHear_Z h2 s)
  have HEv : Hid (∀ X, ZHH W (SBx w.heap.size s :: K) vp Q D X → Calls Tryz.prog 13 #[.pointer (some ⟨D, 0, none⟩), .agg (evA s.ev).toList.toArray] X fun r w' => ∃ e' ms', r = .returned (.agg (evA e')) ∧ ZHE W (SBx w.heap.size s :: K) vp Q D s.us s.ms (evP s) e' ms' w') := Lib.hid (fun X q => event_Z q s ho hx hs hf)
  have HHe : Hid (∀ X e' ms', ZHE W (SBx w.heap.size s :: K) vp Q D s.us s.ms (evP s) e' ms' X → Calls Tryz.prog 12 #[vp, .agg (evA e'), .bool s.own] X fun r w' => r = .returned (.tuple #[]) ∧ ZHL W (SBx w.heap.size s :: K) vp Q D s.us s.ms w') := Lib.hid (fun X e' ms' q => vHear_Z q s.own)
  have HLi : Hid (∀ X, ZHL W (SBx w.heap.size s :: K) vp Q D s.us s.ms X → Calls Tryz.prog 14 #[.pointer (some ⟨D, 0, none⟩), .agg (evA s.ev).toList.toArray] X fun r w' => r = .returned (.bool true) ∧ ZHH W (SBx w.heap.size s :: K) vp Q D w') := Lib.hid (fun X q => lies_Z s q ho hs hf)
  have HE0 : Hid (∀ X, ZHH W (SBx w.heap.size s :: K) vp Q D X → Calls Tryz.prog 13 #[.pointer (some ⟨D, 0, none⟩), .agg (evA EV0)] X fun r w' => ∃ e', r = .returned (.agg (evA e')) ∧ ZHH W (SBx w.heap.size s :: K) vp Q D w') := Lib.hid (fun X q => event0_Z q)
  have HSt : Hid (∀ X, ZHH W (SBx w.heap.size s :: K) vp Q D X → Calls Tryz.prog 15 #[vp, .pointer (some ⟨Q, 0, none⟩)] X fun e w' => e = .returned (.bool true) ∧ ZHH W K vp Q D w') := Lib.hid (fun X q => (stands_Z q).mono (fun _ _ ⟨p1, p2⟩ => ⟨p1, p2.drop⟩))
  clear h h1 hb1 h2 ho hs hx hf cr k1
  unfold evA EV0 at HE0
  go_enter Tryz.func6, Tryz.ntmps6
  go_upto_region 1 with fail
  (try rw [hW1])
  clear hW1
  go_upto_region 4 with (first | (refine wpList_load_mid rfl 45 _ rfl w.heap.size 2 rfl _ _ HCr.out Tryz.underlying45 rfl (Tryz.sizeEvL s.ev) ?_) | (go_at_call 11; refine HRH.out.mono ?_; rintro r w2 ⟨rfl, hv⟩; have H2d := Lib.hid hv.drew; clear hv))
  have HC2 : Hid (w2.drew.rangeAt w.heap.size 2 (evA s.ev).toList) := Lib.hid (stL_at H2d.out.box).2.2.2.2.2.2
  clear c0 c20 c21 c22 c23 c24 HCr HRH
  refine wp_region_N 7 (fun X => X.heap[w.heap.size]? = some (.cells (stL s).toArray 47 (0, 0))) (by kernel_rfl) ?_
  refine wpAnyN_take (i := 0) (oi := { dst := some 34, op := Go.Op.move (Go.Operand.tmp 0), type := 24, pos := "law.go:264", after := #[], guard := none }) (oL := { dst := some 41, op := Go.Op.call { callee := Go.Callee.value (Go.Operand.func 12), args := #[Go.Operand.tmp 34, Go.Operand.tmp 38, Go.Operand.tmp 40], argTypes := #[24, 45, 4] }, type := 0, pos := "law.go:264", after := #[{ on := 0, ground := Go.Ground.data }, { on := 4, ground := Go.Ground.data }, { on := 6, ground := Go.Ground.data }, { on := 4, ground := Go.Ground.chain }], guard := none }) (v := vp) rfl rfl (by kernel_rfl) (by kernel_rfl) (by kernel_rfl) (by kernel_rfl) (fun _ _ _ h => h) (Or.inl ⟨by kernel_rfl, ?_⟩) H2d.out.box ?_
  · (intro X hX; obtain ⟨z0, z20, z21, z22, z23, z24, _⟩ := stL_at hX <;> (go_simp; try (with_reducible rfl)))
  (try simp only [Act.put, List.setIfInBounds_toArray, List.set_cons_zero, List.set_cons_succ])
  refine wpAnyN_take (i := 1) (oi := { dst := some 35, op := Go.Op.move (Go.Operand.tmp 2), type := 29, pos := "law.go:264", after := #[], guard := none }) (oL := { dst := some 41, op := Go.Op.call { callee := Go.Callee.value (Go.Operand.func 12), args := #[Go.Operand.tmp 34, Go.Operand.tmp 38, Go.Operand.tmp 40], argTypes := #[24, 45, 4] }, type := 0, pos := "law.go:264", after := #[{ on := 0, ground := Go.Ground.data }, { on := 4, ground := Go.Ground.data }, { on := 6, ground := Go.Ground.data }, { on := 4, ground := Go.Ground.chain }], guard := none }) (v := .pointer (some ⟨D, 0, none⟩)) rfl rfl (by kernel_rfl) (by kernel_rfl) (by kernel_rfl) (by kernel_rfl) (fun _ _ _ h => h) (Or.inl ⟨by kernel_rfl, ?_⟩) H2d.out.box ?_
  · (intro X hX; obtain ⟨z0, z20, z21, z22, z23, z24, _⟩ := stL_at hX <;> (go_simp; try (with_reducible rfl)))
  (try simp only [Act.put, List.setIfInBounds_toArray, List.set_cons_zero, List.set_cons_succ])
  refine wpAnyN_take (i := 2) (oi := { dst := some 36, op := Go.Op.fieldAddr 47 (Go.Operand.tmp 8) 2, type := 0, pos := "law.go:264", after := #[], guard := none }) (oL := { dst := some 41, op := Go.Op.call { callee := Go.Callee.value (Go.Operand.func 12), args := #[Go.Operand.tmp 34, Go.Operand.tmp 38, Go.Operand.tmp 40], argTypes := #[24, 45, 4] }, type := 0, pos := "law.go:264", after := #[{ on := 0, ground := Go.Ground.data }, { on := 4, ground := Go.Ground.data }, { on := 6, ground := Go.Ground.data }, { on := 4, ground := Go.Ground.chain }], guard := none }) (v := .pointer (some ⟨w.heap.size, 2, none⟩)) rfl rfl (by kernel_rfl) (by kernel_rfl) (by kernel_rfl) (by kernel_rfl) (fun _ _ _ h => h) (Or.inl ⟨by kernel_rfl, ?_⟩) H2d.out.box ?_
  · (intro X hX; obtain ⟨z0, z20, z21, z22, z23, z24, _⟩ := stL_at hX <;> (go_simp; try (with_reducible rfl)))
  (try simp only [Act.put, List.setIfInBounds_toArray, List.set_cons_zero, List.set_cons_succ])
  refine wpAnyN_take (i := 5) (oi := { dst := some 39, op := Go.Op.fieldAddr 47 (Go.Operand.tmp 8) 3, type := 0, pos := "law.go:264", after := #[], guard := none }) (oL := { dst := some 41, op := Go.Op.call { callee := Go.Callee.value (Go.Operand.func 12), args := #[Go.Operand.tmp 34, Go.Operand.tmp 38, Go.Operand.tmp 40], argTypes := #[24, 45, 4] }, type := 0, pos := "law.go:264", after := #[{ on := 0, ground := Go.Ground.data }, { on := 4, ground := Go.Ground.data }, { on := 6, ground := Go.Ground.data }, { on := 4, ground := Go.Ground.chain }], guard := none }) (v := .pointer (some ⟨w.heap.size, 20, none⟩)) rfl rfl (by kernel_rfl) (by kernel_rfl) (by kernel_rfl) (by kernel_rfl) (fun _ _ _ h => h) (Or.inl ⟨by kernel_rfl, ?_⟩) H2d.out.box ?_
  · (intro X hX; obtain ⟨z0, z20, z21, z22, z23, z24, _⟩ := stL_at hX <;> (go_simp; try (with_reducible rfl)))
  (try simp only [Act.put, List.setIfInBounds_toArray, List.set_cons_zero, List.set_cons_succ])
  refine wpAnyN_take (i := 6) (oi := { dst := some 40, op := Go.Op.load 4 (Go.Operand.tmp 39), type := 4, pos := "law.go:264", after := #[{ on := 5, ground := Go.Ground.data }], guard := none }) (oL := { dst := some 41, op := Go.Op.call { callee := Go.Callee.value (Go.Operand.func 12), args := #[Go.Operand.tmp 34, Go.Operand.tmp 38, Go.Operand.tmp 40], argTypes := #[24, 45, 4] }, type := 0, pos := "law.go:264", after := #[{ on := 0, ground := Go.Ground.data }, { on := 4, ground := Go.Ground.data }, { on := 6, ground := Go.Ground.data }, { on := 4, ground := Go.Ground.chain }], guard := none }) (v := .bool s.own) rfl rfl (by kernel_rfl) (by kernel_rfl) (by kernel_rfl) (by kernel_rfl) (fun _ _ _ h => h) (Or.inl ⟨by kernel_rfl, ?_⟩) H2d.out.box ?_
  · (intro X hX; obtain ⟨z0, z20, z21, z22, z23, z24, _⟩ := stL_at hX <;> (go_simp; try (with_reducible rfl)))
  (try simp only [Act.put, List.setIfInBounds_toArray, List.set_cons_zero, List.set_cons_succ])
  refine wpAnyN_one (i := 3) (o := { dst := some 37, op := Go.Op.load 45 (Go.Operand.tmp 36), type := 45, pos := "law.go:264", after := #[{ on := 2, ground := Go.Ground.data }], guard := none }) (by kernel_rfl) rfl (fun K hK => ?_)
  refine wp_load_mid 45 _ rfl w.heap.size 2 rfl _ _ HC2.out Tryz.underlying45 rfl (Tryz.sizeEvL s.ev) ?_
  refine hK.out _ _ (fun _ => H2d.out.box) ?_
  clear hK K
  (try simp only [Act.put, List.setIfInBounds_toArray, List.set_cons_zero, List.set_cons_succ])
  refine wpAnyN_one (i := 4) (o := { dst := some 38, op := Go.Op.call { callee := Go.Callee.value (Go.Operand.func 13), args := #[Go.Operand.tmp 35, Go.Operand.tmp 37], argTypes := #[29, 45] }, type := 45, pos := "law.go:264", after := #[{ on := 1, ground := Go.Ground.data }, { on := 3, ground := Go.Ground.data }], guard := none }) (by kernel_rfl) rfl (fun K hK => ?_)
  go_simp
  refine (HEv.out _ H2d.out).mono ?_
  rintro r w3 ⟨e', ms', rfl, hv⟩
  have H3 := Lib.hid hv
  clear hv
  refine hK.out _ _ (fun _ => H3.out.hl.hh.box) ?_
  clear hK K
  (try simp only [Act.put, List.setIfInBounds_toArray, List.set_cons_zero, List.set_cons_succ])
  refine wpAnyN_one (i := 7) (o := { dst := some 41, op := Go.Op.call { callee := Go.Callee.value (Go.Operand.func 12), args := #[Go.Operand.tmp 34, Go.Operand.tmp 38, Go.Operand.tmp 40], argTypes := #[24, 45, 4] }, type := 0, pos := "law.go:264", after := #[{ on := 0, ground := Go.Ground.data }, { on := 4, ground := Go.Ground.data }, { on := 6, ground := Go.Ground.data }, { on := 4, ground := Go.Ground.chain }], guard := none }) (by kernel_rfl) rfl (fun K hK => ?_)
  go_simp
  refine (HHe.out _ _ _ H3.out).mono ?_
  rintro r w4 ⟨rfl, hv⟩
  have H4 := Lib.hid hv
  clear hv
  refine hK.out _ _ (fun e => absurd (e.symm.trans (by kernel_rfl) : false = true) Bool.false_ne_true) ?_
  clear hK K
  (try simp only [Act.put, List.setIfInBounds_toArray, List.set_cons_zero, List.set_cons_succ])
  refine wpAnyN_of_H (S' := fun _ => True) _ _ _ _ (by kernel_rfl) ?_
  refine wpAnyH_done (by kernel_rfl) ?_ _
  have HC4 : Hid (w4.rangeAt w.heap.size 2 (evA s.ev).toList) := Lib.hid (stL_at H4.out.hh.box).2.2.2.2.2.2
  clear HEv HHe H3 H2d HC2
  go_upto_region 6 with (first | (refine wpList_load_mid rfl 45 _ rfl w.heap.size 2 rfl _ _ HC4.out Tryz.underlying45 rfl (Tryz.sizeEvL s.ev) ?_) | (go_at_call 14; refine (HLi.out _ H4.out).mono ?_; rintro r w5 ⟨rfl, hv⟩; have H5 := Lib.hid hv; clear hv))
  clear HC4 H4 HLi
  go_upto_region 7 with (go_at_call 13; refine (HE0.out _ H5.out).mono ?_; rintro r w6 ⟨e6, rfl, hv⟩; have H6 := Lib.hid hv; clear hv)
  clear H5 HE0
  cases b1 with
  | true =>
    go_wp2_with fail
    go_ret
    exact ⟨rfl, H6.out.drop⟩
  | false =>
    go_wp2_with (go_at_call 15; refine (HSt.out _ H6.out).mono ?_; rintro r w7 ⟨rfl, hv⟩; have H7 := Lib.hid hv; clear hv)
    go_ret
    exact ⟨rfl, H7.out⟩
end Go.Proofs.YtflkhnmggmfhfaaGreat

/- step: Take. -/
namespace Go.Proofs.YtflkhnmggmfhfaaGreat
open Go.RowKit

variable {W w : World} {K : List (Nat × Obj)} {vp : Value} {Q D : Nat}
set_option maxRecDepth 100000 in
set_option maxHeartbeats 16000000 in
theorem zstep_take (h : ZHH W K vp Q D w) (s : ST) (ho : StOK W s) (hs : StShort s) (lk : Int) (k2 : s.kind = 2) (b2 : Bool) (q1 : ((lk.tdiv 2).tmod 2 == 0) = b2) (q0 : IntKind.i64.wrap (lk.tdiv 2) = lk.tdiv 2) :
    Calls Tryz.prog 6 #[vp, .pointer (some ⟨Q, 0, none⟩), .pointer (some ⟨D, 0, none⟩), .agg (stL s).toArray, .int .i64 lk] w fun e w' => e = .returned (.bool true) ∧ ZHH W K vp Q D w' := by
  obtain ⟨W1, hW1⟩ : ∃ W1, w.alloc (.cells (stL s).toArray 47) = W1 := ⟨_, rfl⟩
  have h1 : W1.heap[w.heap.size]? = some (.cells (stL s).toArray 47 (0, 0)) := by rw [← hW1]; exact heap_new _ _
  have hb1 : Below w.heap.size w W1 := by rw [← hW1]; exact (Below.refl _ _).alloc (Nat.le_refl _) _
  have h2 : ZHH W (SBx w.heap.size s :: K) vp Q D W1 := h.add hb1 (Nat.le_refl _) h1
  obtain ⟨c0, c20, c21, c22, c23, c24, cr⟩ := stL_at h1
  rw [k2] at c0
  have hall := And.intro ho hs
  clear hall
  obtain ⟨T', hT'⟩ : ∃ T', takeT VZ s.wh s.rc = T' := ⟨_, rfl⟩
  have HR : Hid (Calls Tryz.prog 16 #[.pointer (some ⟨Q, 0, none⟩), .int .i64 s.wh, .int .i64 s.rc] W1 fun r w' => ∃ tv, r = .returned tv ∧ ZHTr W (SBx w.heap.size s :: K) vp Q D tv T' w') := Lib.hid (by rw [← hT']; exact rTake_Z h2 s.wh s.rc)
  have HV : Hid (∀ X tv, ZHTr W (SBx w.heap.size s :: K) vp Q D tv T' X → Calls Tryz.prog 8 #[vp, .int .i64 s.wh, .int .i64 s.rc] X fun r w' => ∃ tv2, r = .returned tv2 ∧ ZHTT W (SBx w.heap.size s :: K) vp Q D tv T' tv2 T' w') := Lib.hid (fun X tv q => by have := vTake_Z q s.wh s.rc; rw [hT'] at this; exact this)
  have HTo : Hid (∀ X a b, ZHTT W (SBx w.heap.size s :: K) vp Q D a T' b T' X → Calls Tryz.prog 17 #[b, a] X fun e w' => e = .returned (.bool true) ∧ ZHH W (SBx w.heap.size s :: K) vp Q D w') := Lib.hid (fun X a b q => told_Z q)
  have HSt : Hid (∀ X, ZHH W (SBx w.heap.size s :: K) vp Q D X → Calls Tryz.prog 15 #[vp, .pointer (some ⟨Q, 0, none⟩)] X fun e w' => e = .returned (.bool true) ∧ ZHH W K vp Q D w') := Lib.hid (fun X q => (stands_Z q).mono (fun _ _ ⟨p1, p2⟩ => ⟨p1, p2.drop⟩))
  have HCl : Hid (∀ X tv, ZHTr W (SBx w.heap.size s :: K) vp Q D tv T' X → X.cell? ⟨w.heap.size, 21, none⟩ = some (.int .i64 s.wh) ∧ X.cell? ⟨w.heap.size, 22, none⟩ = some (.int .i64 s.rc)) := Lib.hid (fun X tv q => by
    obtain ⟨T, fv, fr, vd, c, q⟩ := q
    have hb : X.heap[w.heap.size]? = some (.cells (stL s).toArray 47 (0, 0)) := ZHH.box ⟨fv, fr, vd, c, q.ho⟩
    exact ⟨(stL_at hb).2.2.1, (stL_at hb).2.2.2.1⟩)
  clear h h1 hb1 h2 ho hs cr k2 hT'
  go_enter Tryz.func6, Tryz.ntmps6
  go_upto_region 1 with fail
  (try rw [hW1])
  clear hW1
  go_upto_region 10 with (go_at_call 16; refine HR.out.mono ?_; rintro r w2 ⟨tv, rfl, hv⟩; have H2 := Lib.hid hv; clear hv)
  obtain ⟨d21, d22⟩ := HCl.out _ _ H2.out
  clear c0 c20 c21 c22 c23 c24 HR HCl
  go_upto_region 11 with (go_at_call 8; refine (HV.out _ _ H2.out).mono ?_; rintro r w3 ⟨tv3, rfl, hv⟩; have H3 := Lib.hid hv; clear hv)
  clear H2 HV d21 d22
  cases b2 with
  | true =>
    go_wp2_with fail
    go_ret
    exact ⟨rfl, H3.out.1.drop⟩
  | false =>
    go_wp2_with (first | (go_at_call 17; refine (HTo.out _ _ _ H3.out).mono ?_; rintro r w4 ⟨rfl, hv⟩; have H4 := Lib.hid hv; clear hv) | (go_at_call 15; refine (HSt.out _ H4.out).mono ?_; rintro r w7 ⟨rfl, hv⟩; have H7 := Lib.hid hv; clear hv))
    go_ret
    exact ⟨rfl, H7.out⟩
end Go.Proofs.YtflkhnmggmfhfaaGreat

/- step: Find. -/
namespace Go.Proofs.YtflkhnmggmfhfaaGreat
open Go.RowKit

variable {W w : World} {K : List (Nat × Obj)} {vp : Value} {Q D : Nat}
/-- What Find of the document's view leaves. -/
def ZHNf (W : World) (K : List (Nat × Obj)) (vp : Value) (Q D : Nat) (bv : Value) (l : List Int) (w : World) : Prop := ZHH W K vp Q D w ∧ Nms w bv l ∧ ∃ w0, ZHH W K vp Q D w0 ∧ Below w0.heap.size w0 w ∧ ∀ b, bv.ownBlock = some b → w0.heap.size ≤ b
theorem ZHNf.drew {bv : Value} {l : List Int} (h : ZHNf W K vp Q D bv l w) : ZHNf W K vp Q D bv l w.drew := by
  obtain ⟨h1, h2, w0, h3, h4, h5⟩ := h
  exact ⟨h1.drew, h2.on (Below.refl _ _).drew, w0, h3, h4.trans ((Below.refl _ _).drew.mono h4.size), h5⟩
set_option maxRecDepth 100000 in
set_option maxHeartbeats 16000000 in
theorem zstep_find (h : ZHH W K vp Q D w) (s : ST) (ho : StOK W s) (hs : StShort s) (lk : Int) (k3 : s.kind = 3) (b4 : Bool) (q1 : ((lk.tdiv 4).tmod 2 == 0) = b4) (q0 : IntKind.i64.wrap (lk.tdiv 4) = lk.tdiv 4) :
    Calls Tryz.prog 6 #[vp, .pointer (some ⟨Q, 0, none⟩), .pointer (some ⟨D, 0, none⟩), .agg (stL s).toArray, .int .i64 lk] w fun e w' => e = .returned (.bool true) ∧ ZHH W K vp Q D w' := by
  obtain ⟨W1, hW1⟩ : ∃ W1, w.alloc (.cells (stL s).toArray 47) = W1 := ⟨_, rfl⟩
  have h1 : W1.heap[w.heap.size]? = some (.cells (stL s).toArray 47 (0, 0)) := by rw [← hW1]; exact heap_new _ _
  have hb1 : Below w.heap.size w W1 := by rw [← hW1]; exact (Below.refl _ _).alloc (Nat.le_refl _) _
  have h2 : ZHH W (SBx w.heap.size s :: K) vp Q D W1 := h.add hb1 (Nat.le_refl _) h1
  obtain ⟨c0, c20, c21, c22, c23, c24, cr⟩ := stL_at h1
  rw [k3] at c0
  have hst := hs.st
  obtain ⟨sa, sc, esv⟩ : ∃ a c, s.sv = .slice a s.st.length c := by
    obtain ⟨a, c, e, _⟩ := ho.st.shape
    exact ⟨a, c, e⟩
  obtain ⟨sn, hsn⟩ : ∃ sn, s.st.length = sn := ⟨_, rfl⟩
  rw [hsn] at esv
  have hfl : (findL VZ s.st s.uid).length ≤ 1000000 := findL_len VZ_ok (by omega) s.st s.uid
  obtain ⟨gb, hgb⟩ : ∃ gb, findG VZ s.st s.uid = gb := ⟨_, rfl⟩
  obtain ⟨eb, heb⟩ : ∃ eb, findE VZ s.st s.uid = eb := ⟨_, rfl⟩
  obtain ⟨L, hL⟩ : ∃ L, findL VZ s.st s.uid = L := ⟨_, rfl⟩
  rw [hL] at hfl
  have HR : Hid (Calls Tryz.prog 18 #[.pointer (some ⟨Q, 0, none⟩), .slice sa sn sc, .bool s.uid] W1 fun r w' => ∃ ba bn bc, r = .returned (.tuple #[.slice ba bn bc, .bool gb, .int .i64 eb]) ∧ ZHNf W (SBx w.heap.size s :: K) vp Q D (.slice ba bn bc) L w') := Lib.hid (by
    rw [← esv, ← hgb, ← heb, ← hL]
    refine (rFind_Z h2 s.sv s.st ho.st hst s.uid).mono ?_
    rintro r w' ⟨v', rfl, ⟨q1, q2⟩, q3, q4⟩
    obtain ⟨ba, bc, e, q⟩ := q2
    subst e
    exact ⟨ba, _, bc, rfl, q1, ⟨ba, bc, rfl, q⟩, W1, h2, q4, q3⟩)
  have HPc : Hid (∀ X bv, ZHNf W (SBx w.heap.size s :: K) vp Q D bv L X → Calls Tryz.prog 20 #[.pointer (some ⟨D, 0, none⟩), .slice sa sn sc] X fun r w' => ∃ pa pn pc, r = .returned (.slice pa pn pc) ∧ ZHP W (SBx w.heap.size s :: K) vp Q D bv L (.slice pa pn pc) s.st w') := Lib.hid (fun X bv q => by
    obtain ⟨q1, q2, w0, q3, q4, q5⟩ := q
    rw [← esv]
    refine (pieces_Z q3 q4 q2 q5 s.sv s.st ho.st (rgs_low ho.st) hst).mono ?_
    rintro r w' ⟨av, rfl, q⟩
    obtain ⟨fv, fr, vd, c, n, p1, p2, p3, p4, p5⟩ := q
    obtain ⟨a, c5, e, _⟩ := p5.shape
    subst e
    exact ⟨a, _, c5, rfl, fv, fr, vd, c, n, p1, p2, p3, p4, p5⟩)
  have HFi : Hid (∀ X bv av, ZHP W (SBx w.heap.size s :: K) vp Q D bv L av s.st X → Calls Tryz.prog 19 #[vp, av, .bool s.uid] X fun r w' => ∃ aa an ac, r = .returned (.tuple #[.slice aa an ac, .bool gb, .int .i64 eb]) ∧ ZHP W (SBx w.heap.size s :: K) vp Q D bv L av s.st w' ∧ Nms w' (.slice aa an ac) L) := Lib.hid (fun X bv av q => by
    refine (vFind_Z q hst s.uid).mono ?_
    rw [hgb, heb, hL]
    rintro r w' ⟨v', rfl, q1, q2⟩
    obtain ⟨aa, ac, e, q⟩ := q2
    subst e
    exact ⟨aa, _, ac, rfl, q1, ⟨aa, ac, rfl, q⟩⟩)
  have HPd : Hid (∀ X bv av, ZHP W (SBx w.heap.size s :: K) vp Q D bv L av s.st X → Calls Tryz.prog 21 #[.pointer (some ⟨D, 0, none⟩), .slice sa sn sc] X fun r w' => r = .returned (.bool true) ∧ Below X.heap.size X w') := Lib.hid (fun X bv av q => by
    rw [← esv]
    refine (pieced_Z q s.sv ho.st).mono ?_
    rintro r w' ⟨rfl, m, rfl⟩
    exact ⟨rfl, below_drewN (Below.refl _ _) m⟩)
  have HAl : Hid (∀ X a b, ZHH W (SBx w.heap.size s :: K) vp Q D X → Nms X a L → Nms X b L → Calls Tryz.prog 22 #[a, b] X fun e w' => e = .returned (.bool true) ∧ ZHH W K vp Q D w') := Lib.hid (fun X a b q1 q2 q3 => (alike_Z q1 q2 q3 hfl).mono (fun _ _ ⟨p1, p2⟩ => ⟨p1, p2.drop⟩))
  have HNum := Lib.hid (num_any eb)
  have HCl : Hid (∀ X bv av, ZHP W (SBx w.heap.size s :: K) vp Q D bv L av s.st X → X.cell? ⟨w.heap.size, 23, none⟩ = some (.slice sa sn sc)) := Lib.hid (fun X bv av q => by
    have hb : X.heap[w.heap.size]? = some (.cells (stL s).toArray 47 (0, 0)) := q.hh.box
    rw [← esv]
    exact (stL_at hb).2.2.2.2.1)
  have HSt : Hid (s.sv = .slice sa sn sc) := Lib.hid esv
  rw [esv] at c23
  have qg : (gb == gb) = true := by simp
  have qe : (eb == eb) = true := by simp
  clear h h1 hb1 h2 ho hs cr k3 hst hfl hgb heb hL esv hsn
  go_enter Tryz.func6, Tryz.ntmps6
  go_upto_region 1 with fail
  (try rw [hW1])
  clear hW1
  go_upto_region 14 with (go_at_call 18; refine HR.out.mono ?_; rintro r w2 ⟨ba, bn, bc, rfl, hv⟩; have H2d := Lib.hid hv.drew; clear hv)
  clear c0 c20 c21 c22 c23 c24 HR
  refine wp_region_N 14 (fun X => X.heap[w.heap.size]? = some (.cells (stL s).toArray 47 (0, 0))) (by kernel_rfl) ?_
  refine wpAnyN_take (i := 0) (oi := { dst := some 101, op := Go.Op.move (Go.Operand.tmp 0), type := 24, pos := "law.go:274", after := #[], guard := none }) (oL := { dst := some 19, op := Go.Op.assign (Go.Operand.tmp 111), type := 66, pos := "law.go:274", after := #[{ on := 11, ground := Go.Ground.data }, { on := 13, ground := Go.Ground.chain }, { on := 0, ground := Go.Ground.phase }, { on := 1, ground := Go.Ground.phase }, { on := 2, ground := Go.Ground.phase }, { on := 3, ground := Go.Ground.phase }, { on := 4, ground := Go.Ground.phase }, { on := 5, ground := Go.Ground.phase }, { on := 6, ground := Go.Ground.phase }, { on := 7, ground := Go.Ground.phase }, { on := 8, ground := Go.Ground.phase }, { on := 9, ground := Go.Ground.phase }, { on := 10, ground := Go.Ground.phase }, { on := 11, ground := Go.Ground.phase }, { on := 12, ground := Go.Ground.phase }, { on := 13, ground := Go.Ground.phase }], guard := none }) (v := vp) rfl rfl (by kernel_rfl) (by kernel_rfl) (by kernel_rfl) (by kernel_rfl) (fun _ _ _ h => h) (Or.inl ⟨by kernel_rfl, ?_⟩) H2d.out.1.box ?_
  · (intro X hX; obtain ⟨z0, z20, z21, z22, z23, z24, _⟩ := stL_at hX; rw [HSt.out] at z23 <;> (go_simp; try (with_reducible rfl)))
  (try simp only [Act.put, List.setIfInBounds_toArray, List.set_cons_zero, List.set_cons_succ])
  refine wpAnyN_take (i := 1) (oi := { dst := some 102, op := Go.Op.move (Go.Operand.tmp 2), type := 29, pos := "law.go:274", after := #[], guard := none }) (oL := { dst := some 19, op := Go.Op.assign (Go.Operand.tmp 111), type := 66, pos := "law.go:274", after := #[{ on := 11, ground := Go.Ground.data }, { on := 13, ground := Go.Ground.chain }, { on := 0, ground := Go.Ground.phase }, { on := 1, ground := Go.Ground.phase }, { on := 2, ground := Go.Ground.phase }, { on := 3, ground := Go.Ground.phase }, { on := 4, ground := Go.Ground.phase }, { on := 5, ground := Go.Ground.phase }, { on := 6, ground := Go.Ground.phase }, { on := 7, ground := Go.Ground.phase }, { on := 8, ground := Go.Ground.phase }, { on := 9, ground := Go.Ground.phase }, { on := 10, ground := Go.Ground.phase }, { on := 11, ground := Go.Ground.phase }, { on := 12, ground := Go.Ground.phase }, { on := 13, ground := Go.Ground.phase }], guard := none }) (v := .pointer (some ⟨D, 0, none⟩)) rfl rfl (by kernel_rfl) (by kernel_rfl) (by kernel_rfl) (by kernel_rfl) (fun _ _ _ h => h) (Or.inl ⟨by kernel_rfl, ?_⟩) H2d.out.1.box ?_
  · (intro X hX; obtain ⟨z0, z20, z21, z22, z23, z24, _⟩ := stL_at hX; rw [HSt.out] at z23 <;> (go_simp; try (with_reducible rfl)))
  (try simp only [Act.put, List.setIfInBounds_toArray, List.set_cons_zero, List.set_cons_succ])
  refine wpAnyN_take (i := 2) (oi := { dst := some 103, op := Go.Op.fieldAddr 47 (Go.Operand.tmp 8) 6, type := 0, pos := "law.go:274", after := #[], guard := none }) (oL := { dst := some 19, op := Go.Op.assign (Go.Operand.tmp 111), type := 66, pos := "law.go:274", after := #[{ on := 11, ground := Go.Ground.data }, { on := 13, ground := Go.Ground.chain }, { on := 0, ground := Go.Ground.phase }, { on := 1, ground := Go.Ground.phase }, { on := 2, ground := Go.Ground.phase }, { on := 3, ground := Go.Ground.phase }, { on := 4, ground := Go.Ground.phase }, { on := 5, ground := Go.Ground.phase }, { on := 6, ground := Go.Ground.phase }, { on := 7, ground := Go.Ground.phase }, { on := 8, ground := Go.Ground.phase }, { on := 9, ground := Go.Ground.phase }, { on := 10, ground := Go.Ground.phase }, { on := 11, ground := Go.Ground.phase }, { on := 12, ground := Go.Ground.phase }, { on := 13, ground := Go.Ground.phase }], guard := none }) (v := .pointer (some ⟨w.heap.size, 23, none⟩)) rfl rfl (by kernel_rfl) (by kernel_rfl) (by kernel_rfl) (by kernel_rfl) (fun _ _ _ h => h) (Or.inl ⟨by kernel_rfl, ?_⟩) H2d.out.1.box ?_
  · (intro X hX; obtain ⟨z0, z20, z21, z22, z23, z24, _⟩ := stL_at hX; rw [HSt.out] at z23 <;> (go_simp; try (with_reducible rfl)))
  (try simp only [Act.put, List.setIfInBounds_toArray, List.set_cons_zero, List.set_cons_succ])
  refine wpAnyN_take (i := 3) (oi := { dst := some 104, op := Go.Op.load 33 (Go.Operand.tmp 103), type := 33, pos := "law.go:274", after := #[{ on := 2, ground := Go.Ground.data }], guard := none }) (oL := { dst := some 19, op := Go.Op.assign (Go.Operand.tmp 111), type := 66, pos := "law.go:274", after := #[{ on := 11, ground := Go.Ground.data }, { on := 13, ground := Go.Ground.chain }, { on := 0, ground := Go.Ground.phase }, { on := 1, ground := Go.Ground.phase }, { on := 2, ground := Go.Ground.phase }, { on := 3, ground := Go.Ground.phase }, { on := 4, ground := Go.Ground.phase }, { on := 5, ground := Go.Ground.phase }, { on := 6, ground := Go.Ground.phase }, { on := 7, ground := Go.Ground.phase }, { on := 8, ground := Go.Ground.phase }, { on := 9, ground := Go.Ground.phase }, { on := 10, ground := Go.Ground.phase }, { on := 11, ground := Go.Ground.phase }, { on := 12, ground := Go.Ground.phase }, { on := 13, ground := Go.Ground.phase }], guard := none }) (v := .slice sa sn sc) rfl rfl (by kernel_rfl) (by kernel_rfl) (by kernel_rfl) (by kernel_rfl) (fun _ _ _ h => h) (Or.inl ⟨by kernel_rfl, ?_⟩) H2d.out.1.box ?_
  · (intro X hX; obtain ⟨z0, z20, z21, z22, z23, z24, _⟩ := stL_at hX; rw [HSt.out] at z23 <;> (go_simp; try (with_reducible rfl)))
  (try simp only [Act.put, List.setIfInBounds_toArray, List.set_cons_zero, List.set_cons_succ])
  refine wpAnyN_take (i := 5) (oi := { dst := some 106, op := Go.Op.fieldAddr 47 (Go.Operand.tmp 8) 7, type := 0, pos := "law.go:274", after := #[], guard := none }) (oL := { dst := some 19, op := Go.Op.assign (Go.Operand.tmp 111), type := 66, pos := "law.go:274", after := #[{ on := 11, ground := Go.Ground.data }, { on := 13, ground := Go.Ground.chain }, { on := 0, ground := Go.Ground.phase }, { on := 1, ground := Go.Ground.phase }, { on := 2, ground := Go.Ground.phase }, { on := 3, ground := Go.Ground.phase }, { on := 4, ground := Go.Ground.phase }, { on := 5, ground := Go.Ground.phase }, { on := 6, ground := Go.Ground.phase }, { on := 7, ground := Go.Ground.phase }, { on := 8, ground := Go.Ground.phase }, { on := 9, ground := Go.Ground.phase }, { on := 10, ground := Go.Ground.phase }, { on := 11, ground := Go.Ground.phase }, { on := 12, ground := Go.Ground.phase }, { on := 13, ground := Go.Ground.phase }], guard := none }) (v := .pointer (some ⟨w.heap.size, 24, none⟩)) rfl rfl (by kernel_rfl) (by kernel_rfl) (by kernel_rfl) (by kernel_rfl) (fun _ _ _ h => h) (Or.inl ⟨by kernel_rfl, ?_⟩) H2d.out.1.box ?_
  · (intro X hX; obtain ⟨z0, z20, z21, z22, z23, z24, _⟩ := stL_at hX; rw [HSt.out] at z23 <;> (go_simp; try (with_reducible rfl)))
  (try simp only [Act.put, List.setIfInBounds_toArray, List.set_cons_zero, List.set_cons_succ])
  refine wpAnyN_take (i := 6) (oi := { dst := some 107, op := Go.Op.load 4 (Go.Operand.tmp 106), type := 4, pos := "law.go:274", after := #[{ on := 5, ground := Go.Ground.data }], guard := none }) (oL := { dst := some 19, op := Go.Op.assign (Go.Operand.tmp 111), type := 66, pos := "law.go:274", after := #[{ on := 11, ground := Go.Ground.data }, { on := 13, ground := Go.Ground.chain }, { on := 0, ground := Go.Ground.phase }, { on := 1, ground := Go.Ground.phase }, { on := 2, ground := Go.Ground.phase }, { on := 3, ground := Go.Ground.phase }, { on := 4, ground := Go.Ground.phase }, { on := 5, ground := Go.Ground.phase }, { on := 6, ground := Go.Ground.phase }, { on := 7, ground := Go.Ground.phase }, { on := 8, ground := Go.Ground.phase }, { on := 9, ground := Go.Ground.phase }, { on := 10, ground := Go.Ground.phase }, { on := 11, ground := Go.Ground.phase }, { on := 12, ground := Go.Ground.phase }, { on := 13, ground := Go.Ground.phase }], guard := none }) (v := .bool s.uid) rfl rfl (by kernel_rfl) (by kernel_rfl) (by kernel_rfl) (by kernel_rfl) (fun _ _ _ h => h) (Or.inl ⟨by kernel_rfl, ?_⟩) H2d.out.1.box ?_
  · (intro X hX; obtain ⟨z0, z20, z21, z22, z23, z24, _⟩ := stL_at hX; rw [HSt.out] at z23 <;> (go_simp; try (with_reducible rfl)))
  (try simp only [Act.put, List.setIfInBounds_toArray, List.set_cons_zero, List.set_cons_succ])
  refine wpAnyN_one (i := 4) (o := { dst := some 105, op := Go.Op.call { callee := Go.Callee.value (Go.Operand.func 20), args := #[Go.Operand.tmp 102, Go.Operand.tmp 104], argTypes := #[29, 33] }, type := 33, pos := "law.go:274", after := #[{ on := 1, ground := Go.Ground.data }, { on := 3, ground := Go.Ground.data }], guard := none }) (by kernel_rfl) rfl (fun K hK => ?_)
  go_simp
  refine (HPc.out _ _ H2d.out).mono ?_
  rintro r w3 ⟨pa, pn, pc, rfl, hv⟩
  have H3 := Lib.hid hv
  clear hv
  refine hK.out _ _ (fun _ => H3.out.hh.box) ?_
  clear hK K
  (try simp only [Act.put, List.setIfInBounds_toArray, List.set_cons_zero, List.set_cons_succ])
  refine wpAnyN_one (i := 7) (o := { dst := some 108, op := Go.Op.call { callee := Go.Callee.value (Go.Operand.func 19), args := #[Go.Operand.tmp 101, Go.Operand.tmp 105, Go.Operand.tmp 107], argTypes := #[24, 33, 4] }, type := 67, pos := "law.go:274", after := #[{ on := 0, ground := Go.Ground.data }, { on := 4, ground := Go.Ground.data }, { on := 6, ground := Go.Ground.data }, { on := 4, ground := Go.Ground.chain }], guard := none }) (by kernel_rfl) rfl (fun K hK => ?_)
  go_simp
  refine (HFi.out _ _ _ H3.out).mono ?_
  rintro r w4 ⟨aa, an, ac, rfl, hv⟩
  have H4 := Lib.hid hv
  clear hv
  refine hK.out _ _ (fun _ => H4.out.1.hh.box) ?_
  clear hK K
  (try simp only [Act.put, List.setIfInBounds_toArray, List.set_cons_zero, List.set_cons_succ])
  refine wpAnyN_take (i := 8) (oi := { dst := some 100, op := Go.Op.move (Go.Operand.tmp 108), type := 67, pos := "law.go:274", after := #[{ on := 7, ground := Go.Ground.data }], guard := none }) (oL := { dst := some 19, op := Go.Op.assign (Go.Operand.tmp 111), type := 66, pos := "law.go:274", after := #[{ on := 11, ground := Go.Ground.data }, { on := 13, ground := Go.Ground.chain }, { on := 0, ground := Go.Ground.phase }, { on := 1, ground := Go.Ground.phase }, { on := 2, ground := Go.Ground.phase }, { on := 3, ground := Go.Ground.phase }, { on := 4, ground := Go.Ground.phase }, { on := 5, ground := Go.Ground.phase }, { on := 6, ground := Go.Ground.phase }, { on := 7, ground := Go.Ground.phase }, { on := 8, ground := Go.Ground.phase }, { on := 9, ground := Go.Ground.phase }, { on := 10, ground := Go.Ground.phase }, { on := 11, ground := Go.Ground.phase }, { on := 12, ground := Go.Ground.phase }, { on := 13, ground := Go.Ground.phase }], guard := none }) (v := .tuple #[.slice aa an ac, .bool gb, .int .i64 eb]) rfl rfl (by kernel_rfl) (by kernel_rfl) (by kernel_rfl) (by kernel_rfl) (fun _ _ _ h => h) (Or.inl ⟨by kernel_rfl, ?_⟩) H4.out.1.hh.box ?_
  · (intro X hX; obtain ⟨z0, z20, z21, z22, z23, z24, _⟩ := stL_at hX; rw [HSt.out] at z23 <;> (go_simp; try (with_reducible rfl)))
  (try simp only [Act.put, List.setIfInBounds_toArray, List.set_cons_zero, List.set_cons_succ])
  refine wpAnyN_take (i := 9) (oi := { dst := some 109, op := Go.Op.extract (Go.Operand.tmp 100) 0, type := 26, pos := "law.go:274", after := #[{ on := 8, ground := Go.Ground.data }], guard := none }) (oL := { dst := some 19, op := Go.Op.assign (Go.Operand.tmp 111), type := 66, pos := "law.go:274", after := #[{ on := 11, ground := Go.Ground.data }, { on := 13, ground := Go.Ground.chain }, { on := 0, ground := Go.Ground.phase }, { on := 1, ground := Go.Ground.phase }, { on := 2, ground := Go.Ground.phase }, { on := 3, ground := Go.Ground.phase }, { on := 4, ground := Go.Ground.phase }, { on := 5, ground := Go.Ground.phase }, { on := 6, ground := Go.Ground.phase }, { on := 7, ground := Go.Ground.phase }, { on := 8, ground := Go.Ground.phase }, { on := 9, ground := Go.Ground.phase }, { on := 10, ground := Go.Ground.phase }, { on := 11, ground := Go.Ground.phase }, { on := 12, ground := Go.Ground.phase }, { on := 13, ground := Go.Ground.phase }], guard := none }) (v := .slice aa an ac) rfl rfl (by kernel_rfl) (by kernel_rfl) (by kernel_rfl) (by kernel_rfl) (fun _ _ _ h => h) (Or.inl ⟨by kernel_rfl, ?_⟩) H4.out.1.hh.box ?_
  · (intro X hX; obtain ⟨z0, z20, z21, z22, z23, z24, _⟩ := stL_at hX; rw [HSt.out] at z23 <;> (go_simp; try (with_reducible rfl)))
  (try simp only [Act.put, List.setIfInBounds_toArray, List.set_cons_zero, List.set_cons_succ])
  refine wpAnyN_take (i := 12) (oi := { dst := some 17, op := Go.Op.assign (Go.Operand.tmp 109), type := 26, pos := "law.go:274", after := #[{ on := 9, ground := Go.Ground.data }, { on := 7, ground := Go.Ground.chain }, { on := 0, ground := Go.Ground.phase }, { on := 1, ground := Go.Ground.phase }, { on := 2, ground := Go.Ground.phase }, { on := 3, ground := Go.Ground.phase }, { on := 4, ground := Go.Ground.phase }, { on := 5, ground := Go.Ground.phase }, { on := 6, ground := Go.Ground.phase }, { on := 7, ground := Go.Ground.phase }, { on := 8, ground := Go.Ground.phase }, { on := 9, ground := Go.Ground.phase }, { on := 10, ground := Go.Ground.textOnly Go.Departure.lateStores }, { on := 11, ground := Go.Ground.textOnly Go.Departure.lateStores }], guard := none }) (oL := { dst := some 19, op := Go.Op.assign (Go.Operand.tmp 111), type := 66, pos := "law.go:274", after := #[{ on := 11, ground := Go.Ground.data }, { on := 13, ground := Go.Ground.chain }, { on := 0, ground := Go.Ground.phase }, { on := 1, ground := Go.Ground.phase }, { on := 2, ground := Go.Ground.phase }, { on := 3, ground := Go.Ground.phase }, { on := 4, ground := Go.Ground.phase }, { on := 5, ground := Go.Ground.phase }, { on := 6, ground := Go.Ground.phase }, { on := 7, ground := Go.Ground.phase }, { on := 8, ground := Go.Ground.phase }, { on := 9, ground := Go.Ground.phase }, { on := 10, ground := Go.Ground.phase }, { on := 11, ground := Go.Ground.phase }, { on := 12, ground := Go.Ground.phase }, { on := 13, ground := Go.Ground.phase }], guard := none }) (v := .slice aa an ac) rfl rfl (by kernel_rfl) (by kernel_rfl) (by kernel_rfl) (by kernel_rfl) (fun _ _ _ h => h) (Or.inl ⟨by kernel_rfl, ?_⟩) H4.out.1.hh.box ?_
  · (intro X hX; obtain ⟨z0, z20, z21, z22, z23, z24, _⟩ := stL_at hX; rw [HSt.out] at z23 <;> (go_simp; try (with_reducible rfl)))
  (try simp only [Act.put, List.setIfInBounds_toArray, List.set_cons_zero, List.set_cons_succ])
  refine wpAnyN_take (i := 10) (oi := { dst := some 110, op := Go.Op.extract (Go.Operand.tmp 100) 1, type := 4, pos := "law.go:274", after := #[{ on := 8, ground := Go.Ground.data }, { on := 12, ground := Go.Ground.gcOnly Go.Departure.lateStores }], guard := none }) (oL := { dst := some 19, op := Go.Op.assign (Go.Operand.tmp 111), type := 66, pos := "law.go:274", after := #[{ on := 11, ground := Go.Ground.data }, { on := 13, ground := Go.Ground.chain }, { on := 0, ground := Go.Ground.phase }, { on := 1, ground := Go.Ground.phase }, { on := 2, ground := Go.Ground.phase }, { on := 3, ground := Go.Ground.phase }, { on := 4, ground := Go.Ground.phase }, { on := 5, ground := Go.Ground.phase }, { on := 6, ground := Go.Ground.phase }, { on := 7, ground := Go.Ground.phase }, { on := 8, ground := Go.Ground.phase }, { on := 9, ground := Go.Ground.phase }, { on := 10, ground := Go.Ground.phase }, { on := 11, ground := Go.Ground.phase }, { on := 12, ground := Go.Ground.phase }, { on := 13, ground := Go.Ground.phase }], guard := none }) (v := .bool gb) rfl rfl (by kernel_rfl) (by kernel_rfl) (by kernel_rfl) (by kernel_rfl) (fun _ _ _ h => h) (Or.inl ⟨by kernel_rfl, ?_⟩) H4.out.1.hh.box ?_
  · (intro X hX; obtain ⟨z0, z20, z21, z22, z23, z24, _⟩ := stL_at hX; rw [HSt.out] at z23 <;> (go_simp; try (with_reducible rfl)))
  (try simp only [Act.put, List.setIfInBounds_toArray, List.set_cons_zero, List.set_cons_succ])
  refine wpAnyN_take (i := 13) (oi := { dst := some 18, op := Go.Op.assign (Go.Operand.tmp 110), type := 4, pos := "law.go:274", after := #[{ on := 10, ground := Go.Ground.data }, { on := 12, ground := Go.Ground.chain }, { on := 0, ground := Go.Ground.phase }, { on := 1, ground := Go.Ground.phase }, { on := 2, ground := Go.Ground.phase }, { on := 3, ground := Go.Ground.phase }, { on := 4, ground := Go.Ground.phase }, { on := 5, ground := Go.Ground.phase }, { on := 6, ground := Go.Ground.phase }, { on := 7, ground := Go.Ground.phase }, { on := 8, ground := Go.Ground.phase }, { on := 9, ground := Go.Ground.phase }, { on := 10, ground := Go.Ground.phase }, { on := 11, ground := Go.Ground.textOnly Go.Departure.lateStores }, { on := 12, ground := Go.Ground.phase }], guard := none }) (oL := { dst := some 19, op := Go.Op.assign (Go.Operand.tmp 111), type := 66, pos := "law.go:274", after := #[{ on := 11, ground := Go.Ground.data }, { on := 13, ground := Go.Ground.chain }, { on := 0, ground := Go.Ground.phase }, { on := 1, ground := Go.Ground.phase }, { on := 2, ground := Go.Ground.phase }, { on := 3, ground := Go.Ground.phase }, { on := 4, ground := Go.Ground.phase }, { on := 5, ground := Go.Ground.phase }, { on := 6, ground := Go.Ground.phase }, { on := 7, ground := Go.Ground.phase }, { on := 8, ground := Go.Ground.phase }, { on := 9, ground := Go.Ground.phase }, { on := 10, ground := Go.Ground.phase }, { on := 11, ground := Go.Ground.phase }, { on := 12, ground := Go.Ground.phase }, { on := 13, ground := Go.Ground.phase }], guard := none }) (v := .bool gb) rfl rfl (by kernel_rfl) (by kernel_rfl) (by kernel_rfl) (by kernel_rfl) (fun _ _ _ h => h) (Or.inl ⟨by kernel_rfl, ?_⟩) H4.out.1.hh.box ?_
  · (intro X hX; obtain ⟨z0, z20, z21, z22, z23, z24, _⟩ := stL_at hX; rw [HSt.out] at z23 <;> (go_simp; try (with_reducible rfl)))
  (try simp only [Act.put, List.setIfInBounds_toArray, List.set_cons_zero, List.set_cons_succ])
  refine wpAnyN_take (i := 11) (oi := { dst := some 111, op := Go.Op.extract (Go.Operand.tmp 100) 2, type := 66, pos := "law.go:274", after := #[{ on := 8, ground := Go.Ground.data }, { on := 13, ground := Go.Ground.gcOnly Go.Departure.lateStores }], guard := none }) (oL := { dst := some 19, op := Go.Op.assign (Go.Operand.tmp 111), type := 66, pos := "law.go:274", after := #[{ on := 11, ground := Go.Ground.data }, { on := 13, ground := Go.Ground.chain }, { on := 0, ground := Go.Ground.phase }, { on := 1, ground := Go.Ground.phase }, { on := 2, ground := Go.Ground.phase }, { on := 3, ground := Go.Ground.phase }, { on := 4, ground := Go.Ground.phase }, { on := 5, ground := Go.Ground.phase }, { on := 6, ground := Go.Ground.phase }, { on := 7, ground := Go.Ground.phase }, { on := 8, ground := Go.Ground.phase }, { on := 9, ground := Go.Ground.phase }, { on := 10, ground := Go.Ground.phase }, { on := 11, ground := Go.Ground.phase }, { on := 12, ground := Go.Ground.phase }, { on := 13, ground := Go.Ground.phase }], guard := none }) (v := .int .i64 eb) rfl rfl (by kernel_rfl) (by kernel_rfl) (by kernel_rfl) (by kernel_rfl) (fun _ _ _ h => h) (Or.inl ⟨by kernel_rfl, ?_⟩) H4.out.1.hh.box ?_
  · (intro X hX; obtain ⟨z0, z20, z21, z22, z23, z24, _⟩ := stL_at hX; rw [HSt.out] at z23 <;> (go_simp; try (with_reducible rfl)))
  (try simp only [Act.put, List.setIfInBounds_toArray, List.set_cons_zero, List.set_cons_succ])
  refine wpAnyN_one (i := 14) (o := { dst := some 19, op := Go.Op.assign (Go.Operand.tmp 111), type := 66, pos := "law.go:274", after := #[{ on := 11, ground := Go.Ground.data }, { on := 13, ground := Go.Ground.chain }, { on := 0, ground := Go.Ground.phase }, { on := 1, ground := Go.Ground.phase }, { on := 2, ground := Go.Ground.phase }, { on := 3, ground := Go.Ground.phase }, { on := 4, ground := Go.Ground.phase }, { on := 5, ground := Go.Ground.phase }, { on := 6, ground := Go.Ground.phase }, { on := 7, ground := Go.Ground.phase }, { on := 8, ground := Go.Ground.phase }, { on := 9, ground := Go.Ground.phase }, { on := 10, ground := Go.Ground.phase }, { on := 11, ground := Go.Ground.phase }, { on := 12, ground := Go.Ground.phase }, { on := 13, ground := Go.Ground.phase }], guard := none }) (by kernel_rfl) rfl (fun K hK => ?_)
  go_simp
  refine hK.out _ _ (fun e => absurd (e.symm.trans (by kernel_rfl) : false = true) Bool.false_ne_true) ?_
  clear hK K
  (try simp only [Act.put, List.setIfInBounds_toArray, List.set_cons_zero, List.set_cons_succ])
  refine wpAnyN_of_H (S' := fun _ => True) _ _ _ _ (by kernel_rfl) ?_
  refine wpAnyH_done (by kernel_rfl) ?_ _
  have z23 := HCl.out _ _ _ H4.out.1
  clear HPc HFi H3 H2d HCl HSt
  go_upto_region 15 with fail
  cases b4 with
  | true =>
    go_wp2_with (go_at_call 21; refine (HPd.out _ _ _ H4.out.1).mono ?_; rintro r w5 ⟨rfl, hv⟩; have H5 := Lib.hid (H4.out.1.hh.on hv); clear hv)
    go_ret
    exact ⟨rfl, H5.out.drop⟩
  | false =>
    go_wp2_with (first | (go_at_call 21; refine (HPd.out _ _ _ H4.out.1).mono ?_; rintro r w5 ⟨rfl, hv⟩; have H5 := Lib.hid (And.intro (H4.out.1.hh.on hv) (And.intro (H4.out.2.on hv) (H4.out.1.num.on hv))); clear hv) | (go_at_call 22; refine (HAl.out _ _ _ H5.out.1 H5.out.2.1 H5.out.2.2).mono ?_; rintro r w6 ⟨rfl, hv⟩; have H6 := Lib.hid hv; clear hv) | (go_at_call 23; refine (HNum.out _).mono ?_; rintro r w7 ⟨rfl, hv⟩; subst w7))
    go_ret
    exact ⟨rfl, H6.out⟩
end Go.Proofs.YtflkhnmggmfhfaaGreat
