/- step: Hear. -/
import Derived.Test.YtmedpcldfpfpnaaGreatD16l
namespace Go.Proofs.YtmedpcldfpfpnaaGreat
open Go.RowKit

variable {W w : World} {K : List (Nat × Obj)} {P Q D N : Nat} {V : PV}
set_option maxRecDepth 100000 in
set_option maxHeartbeats 16000000 in
theorem step_hear (h : HH W K P Q D V V w) (hk : PVok V N) (hN : N + 301 ≤ 1000000) (s : ST) (ho : StOK W s) (hs : StShort s) (lk : Int) (hx : StX s) (hf : StF s) (k1 : s.kind = 1) (b1 : Bool) (q1 : (lk.tmod 2 == 0) = b1) :
    Calls Tryz.prog 13 #[.pointer (some ⟨P, 0, none⟩), .pointer (some ⟨Q, 0, none⟩), .pointer (some ⟨D, 0, none⟩), .agg (stL s).toArray, .int .i64 lk] w fun e w' => e = .returned (.bool true) ∧ HH W K P Q D (hearP V (evP s) s.own) (hearP V (evP s) s.own) w' := by
  obtain ⟨W1, hW1⟩ : ∃ W1, w.alloc (.cells (stL s).toArray 45) = W1 := ⟨_, rfl⟩
  have h1 : W1.heap[w.heap.size]? = some (.cells (stL s).toArray 45 (0, 0)) := by rw [← hW1]; exact heap_new _ _
  have hb1 : Below w.heap.size w W1 := by rw [← hW1]; exact (Below.refl _ _).alloc (Nat.le_refl _) _
  have h2 : HH W (SBx w.heap.size s :: K) P Q D V V W1 := h.add hb1 (Nat.le_refl _) h1
  obtain ⟨c0, c20, c21, c22, c23, c24, cr⟩ := stL_at h1
  rw [k1] at c0
  have HCr := Lib.hid cr
  obtain ⟨V', hV'⟩ : ∃ V', hearP V (evP s) s.own = V' := ⟨_, rfl⟩
  have hk' : PVok V' (N + 301) := by
    rw [← hV']
    refine (hearP_ok hk (evP s) s.own).mono ?_
    have := hs.us
    show N + (1 + s.us.length) ≤ _
    omega
  have HRH : Hid (Calls Tryz.prog 23 #[.pointer (some ⟨Q, 0, none⟩), .agg (evA s.ev).toList.toArray, .bool s.own] W1 fun r w' => r = .returned (.tuple #[]) ∧ HH W (SBx w.heap.size s :: K) P Q D V V' w') := Lib.hid (by rw [← hV']; exact rHear_H h2 hk (by omega) s ho hs hf)
  have HEv : Hid (∀ X, HH W (SBx w.heap.size s :: K) P Q D V V' X → Calls Tryz.prog 25 #[.pointer (some ⟨D, 0, none⟩), .agg (evA s.ev).toList.toArray] X fun r w' => ∃ e' ms', r = .returned (.agg (evA e')) ∧ HE W (SBx w.heap.size s :: K) P Q D V V' s.us s.ms (evP s) e' ms' w') := Lib.hid (fun X q => event_H q s ho hx hs hf)
  have HHe : Hid (∀ X e' ms', HE W (SBx w.heap.size s :: K) P Q D V V' s.us s.ms (evP s) e' ms' X → Calls Tryz.prog 24 #[.pointer (some ⟨P, 0, none⟩), .agg (evA e'), .bool s.own] X fun r w' => r = .returned (.tuple #[]) ∧ HL W (SBx w.heap.size s :: K) P Q D V' V' s.us s.ms w') := Lib.hid (fun X e' ms' q => by rw [← hV']; rw [← hV'] at q; exact vHear_H q hk (by omega) hs.us s.own)
  have HLi : Hid (∀ X, HL W (SBx w.heap.size s :: K) P Q D V' V' s.us s.ms X → Calls Tryz.prog 26 #[.pointer (some ⟨D, 0, none⟩), .agg (evA s.ev).toList.toArray] X fun r w' => r = .returned (.bool true) ∧ HH W (SBx w.heap.size s :: K) P Q D V' V' w') := Lib.hid (fun X q => lies_H s q ho hs hf)
  have HE0 : Hid (∀ X, HH W (SBx w.heap.size s :: K) P Q D V' V' X → Calls Tryz.prog 25 #[.pointer (some ⟨D, 0, none⟩), .agg (evA EV0)] X fun r w' => ∃ e', r = .returned (.agg (evA e')) ∧ HH W (SBx w.heap.size s :: K) P Q D V' V' w') := Lib.hid (fun X q => event0_H q)
  have HSt : Hid (∀ X, HH W (SBx w.heap.size s :: K) P Q D V' V' X → Calls Tryz.prog 17 #[.pointer (some ⟨P, 0, none⟩), .pointer (some ⟨Q, 0, none⟩)] X fun e w' => e = .returned (.bool true) ∧ HH W K P Q D V' V' w') := Lib.hid (fun X q => (stands_H q hk' (by omega)).mono (fun _ _ ⟨p1, p2⟩ => ⟨p1, p2.drop⟩))
  rw [hV']
  clear h h1 hb1 h2 hk hk' hN ho hs hx hf cr k1 hV'
  unfold evA EV0 at HE0
  go_enter Tryz.func13, Tryz.ntmps13
  go_upto_region 1 with fail
  (try rw [hW1])
  clear hW1
  go_upto_region 4 with (first | (refine wpList_load_mid rfl 43 _ rfl w.heap.size 2 rfl _ _ HCr.out Tryz.underlying43 rfl (Tryz.sizeEvL s.ev) ?_) | (go_at_call 23; refine HRH.out.mono ?_; rintro r w2 ⟨rfl, hv⟩; have H2d := Lib.hid hv.drew; clear hv))
  have HC2 : Hid (w2.drew.rangeAt w.heap.size 2 (evA s.ev).toList) := Lib.hid (stL_at H2d.out.box).2.2.2.2.2.2
  clear c0 c20 c21 c22 c23 c24 HCr HRH
  refine wp_region_N 7 (fun X => X.heap[w.heap.size]? = some (.cells (stL s).toArray 45 (0, 0))) (by kernel_rfl) ?_
  refine wpAnyN_take (i := 0) (oi := { dst := some 34, op := Go.Op.move (Go.Operand.tmp 0), type := 37, pos := "law.go:264", after := #[], guard := none }) (oL := { dst := some 41, op := Go.Op.call { callee := Go.Callee.value (Go.Operand.func 24), args := #[Go.Operand.tmp 34, Go.Operand.tmp 38, Go.Operand.tmp 40], argTypes := #[37, 43, 4] }, type := 0, pos := "law.go:264", after := #[{ on := 0, ground := Go.Ground.data }, { on := 4, ground := Go.Ground.data }, { on := 6, ground := Go.Ground.data }, { on := 4, ground := Go.Ground.chain }], guard := none }) (v := .pointer (some ⟨P, 0, none⟩)) rfl rfl (by kernel_rfl) (by kernel_rfl) (by kernel_rfl) (by kernel_rfl) (fun _ _ _ h => h) (Or.inl ⟨by kernel_rfl, ?_⟩) H2d.out.box ?_
  · (intro X hX; obtain ⟨z0, z20, z21, z22, z23, z24, _⟩ := stL_at hX <;> (go_simp; try (with_reducible rfl)))
  (try simp only [Act.put, List.setIfInBounds_toArray, List.set_cons_zero, List.set_cons_succ])
  refine wpAnyN_take (i := 1) (oi := { dst := some 35, op := Go.Op.move (Go.Operand.tmp 2), type := 28, pos := "law.go:264", after := #[], guard := none }) (oL := { dst := some 41, op := Go.Op.call { callee := Go.Callee.value (Go.Operand.func 24), args := #[Go.Operand.tmp 34, Go.Operand.tmp 38, Go.Operand.tmp 40], argTypes := #[37, 43, 4] }, type := 0, pos := "law.go:264", after := #[{ on := 0, ground := Go.Ground.data }, { on := 4, ground := Go.Ground.data }, { on := 6, ground := Go.Ground.data }, { on := 4, ground := Go.Ground.chain }], guard := none }) (v := .pointer (some ⟨D, 0, none⟩)) rfl rfl (by kernel_rfl) (by kernel_rfl) (by kernel_rfl) (by kernel_rfl) (fun _ _ _ h => h) (Or.inl ⟨by kernel_rfl, ?_⟩) H2d.out.box ?_
  · (intro X hX; obtain ⟨z0, z20, z21, z22, z23, z24, _⟩ := stL_at hX <;> (go_simp; try (with_reducible rfl)))
  (try simp only [Act.put, List.setIfInBounds_toArray, List.set_cons_zero, List.set_cons_succ])
  refine wpAnyN_take (i := 2) (oi := { dst := some 36, op := Go.Op.fieldAddr 45 (Go.Operand.tmp 8) 2, type := 0, pos := "law.go:264", after := #[], guard := none }) (oL := { dst := some 41, op := Go.Op.call { callee := Go.Callee.value (Go.Operand.func 24), args := #[Go.Operand.tmp 34, Go.Operand.tmp 38, Go.Operand.tmp 40], argTypes := #[37, 43, 4] }, type := 0, pos := "law.go:264", after := #[{ on := 0, ground := Go.Ground.data }, { on := 4, ground := Go.Ground.data }, { on := 6, ground := Go.Ground.data }, { on := 4, ground := Go.Ground.chain }], guard := none }) (v := .pointer (some ⟨w.heap.size, 2, none⟩)) rfl rfl (by kernel_rfl) (by kernel_rfl) (by kernel_rfl) (by kernel_rfl) (fun _ _ _ h => h) (Or.inl ⟨by kernel_rfl, ?_⟩) H2d.out.box ?_
  · (intro X hX; obtain ⟨z0, z20, z21, z22, z23, z24, _⟩ := stL_at hX <;> (go_simp; try (with_reducible rfl)))
  (try simp only [Act.put, List.setIfInBounds_toArray, List.set_cons_zero, List.set_cons_succ])
  refine wpAnyN_take (i := 5) (oi := { dst := some 39, op := Go.Op.fieldAddr 45 (Go.Operand.tmp 8) 3, type := 0, pos := "law.go:264", after := #[], guard := none }) (oL := { dst := some 41, op := Go.Op.call { callee := Go.Callee.value (Go.Operand.func 24), args := #[Go.Operand.tmp 34, Go.Operand.tmp 38, Go.Operand.tmp 40], argTypes := #[37, 43, 4] }, type := 0, pos := "law.go:264", after := #[{ on := 0, ground := Go.Ground.data }, { on := 4, ground := Go.Ground.data }, { on := 6, ground := Go.Ground.data }, { on := 4, ground := Go.Ground.chain }], guard := none }) (v := .pointer (some ⟨w.heap.size, 20, none⟩)) rfl rfl (by kernel_rfl) (by kernel_rfl) (by kernel_rfl) (by kernel_rfl) (fun _ _ _ h => h) (Or.inl ⟨by kernel_rfl, ?_⟩) H2d.out.box ?_
  · (intro X hX; obtain ⟨z0, z20, z21, z22, z23, z24, _⟩ := stL_at hX <;> (go_simp; try (with_reducible rfl)))
  (try simp only [Act.put, List.setIfInBounds_toArray, List.set_cons_zero, List.set_cons_succ])
  refine wpAnyN_take (i := 6) (oi := { dst := some 40, op := Go.Op.load 4 (Go.Operand.tmp 39), type := 4, pos := "law.go:264", after := #[{ on := 5, ground := Go.Ground.data }], guard := none }) (oL := { dst := some 41, op := Go.Op.call { callee := Go.Callee.value (Go.Operand.func 24), args := #[Go.Operand.tmp 34, Go.Operand.tmp 38, Go.Operand.tmp 40], argTypes := #[37, 43, 4] }, type := 0, pos := "law.go:264", after := #[{ on := 0, ground := Go.Ground.data }, { on := 4, ground := Go.Ground.data }, { on := 6, ground := Go.Ground.data }, { on := 4, ground := Go.Ground.chain }], guard := none }) (v := .bool s.own) rfl rfl (by kernel_rfl) (by kernel_rfl) (by kernel_rfl) (by kernel_rfl) (fun _ _ _ h => h) (Or.inl ⟨by kernel_rfl, ?_⟩) H2d.out.box ?_
  · (intro X hX; obtain ⟨z0, z20, z21, z22, z23, z24, _⟩ := stL_at hX <;> (go_simp; try (with_reducible rfl)))
  (try simp only [Act.put, List.setIfInBounds_toArray, List.set_cons_zero, List.set_cons_succ])
  refine wpAnyN_one (i := 3) (o := { dst := some 37, op := Go.Op.load 43 (Go.Operand.tmp 36), type := 43, pos := "law.go:264", after := #[{ on := 2, ground := Go.Ground.data }], guard := none }) (by kernel_rfl) rfl (fun K hK => ?_)
  refine wp_load_mid 43 _ rfl w.heap.size 2 rfl _ _ HC2.out Tryz.underlying43 rfl (Tryz.sizeEvL s.ev) ?_
  refine hK.out _ _ (fun _ => H2d.out.box) ?_
  clear hK K
  (try simp only [Act.put, List.setIfInBounds_toArray, List.set_cons_zero, List.set_cons_succ])
  refine wpAnyN_one (i := 4) (o := { dst := some 38, op := Go.Op.call { callee := Go.Callee.value (Go.Operand.func 25), args := #[Go.Operand.tmp 35, Go.Operand.tmp 37], argTypes := #[28, 43] }, type := 43, pos := "law.go:264", after := #[{ on := 1, ground := Go.Ground.data }, { on := 3, ground := Go.Ground.data }], guard := none }) (by kernel_rfl) rfl (fun K hK => ?_)
  go_simp
  refine (HEv.out _ H2d.out).mono ?_
  rintro r w3 ⟨e', ms', rfl, hv⟩
  have H3 := Lib.hid hv
  clear hv
  refine hK.out _ _ (fun _ => H3.out.hl.hh.box) ?_
  clear hK K
  (try simp only [Act.put, List.setIfInBounds_toArray, List.set_cons_zero, List.set_cons_succ])
  refine wpAnyN_one (i := 7) (o := { dst := some 41, op := Go.Op.call { callee := Go.Callee.value (Go.Operand.func 24), args := #[Go.Operand.tmp 34, Go.Operand.tmp 38, Go.Operand.tmp 40], argTypes := #[37, 43, 4] }, type := 0, pos := "law.go:264", after := #[{ on := 0, ground := Go.Ground.data }, { on := 4, ground := Go.Ground.data }, { on := 6, ground := Go.Ground.data }, { on := 4, ground := Go.Ground.chain }], guard := none }) (by kernel_rfl) rfl (fun K hK => ?_)
  go_simp
  refine (HHe.out _ _ _ H3.out).mono ?_
  rintro r w4 ⟨rfl, hv⟩
  have H4 := Lib.hid hv
  clear hv
  refine hK.out _ _ (fun e => absurd (e.symm.trans (by kernel_rfl) : false = true) Bool.false_ne_true) ?_
  clear hK K
  (try simp only [Act.put, List.setIfInBounds_toArray, List.set_cons_zero, List.set_cons_succ])
  refine wpAnyN_of_H (S' := fun _ => True) _ _ _ _ (by kernel_rfl) ?_
  refine wpAnyH_done (by kernel_rfl) ?_ _
  have HC4 : Hid (w4.rangeAt w.heap.size 2 (evA s.ev).toList) := Lib.hid (stL_at H4.out.hh.box).2.2.2.2.2.2
  clear HEv HHe H3 H2d HC2
  go_upto_region 6 with (first | (refine wpList_load_mid rfl 43 _ rfl w.heap.size 2 rfl _ _ HC4.out Tryz.underlying43 rfl (Tryz.sizeEvL s.ev) ?_) | (go_at_call 26; refine (HLi.out _ H4.out).mono ?_; rintro r w5 ⟨rfl, hv⟩; have H5 := Lib.hid hv; clear hv))
  clear HC4 H4 HLi
  go_upto_region 7 with (go_at_call 25; refine (HE0.out _ H5.out).mono ?_; rintro r w6 ⟨e6, rfl, hv⟩; have H6 := Lib.hid hv; clear hv)
  clear H5 HE0
  cases b1 with
  | true =>
    go_wp2_with fail
    go_ret
    exact ⟨rfl, H6.out.drop⟩
  | false =>
    go_wp2_with (go_at_call 17; refine (HSt.out _ H6.out).mono ?_; rintro r w7 ⟨rfl, hv⟩; have H7 := Lib.hid hv; clear hv)
    go_ret
    exact ⟨rfl, H7.out⟩
end Go.Proofs.YtmedpcldfpfpnaaGreat
