/- The document's view: Take (2c). -/
import Derived.Test.YtflkhnmggmfhfaaGreatR16q
namespace Go.Proofs.YtflkhnmggmfhfaaGreat
open Go.RowKit

section
variable {P : Nat} {nn : Bool} {val : Int} {rv cv : Value} {R : List RR} {C : List Int} {w : World}
set_option maxRecDepth 100000 in
set_option maxHeartbeats 8000000 in
theorem rTake_2c (h : RV nn P val rv cv R C w) (hsh : ShR R) (hl : R.length + C.length ≤ 1000000) (recent : Int) (hC : C ≠ []) :
    Calls Tryz.prog 16 #[.pointer (some ⟨P, 0, none⟩), .int .i64 2, .int .i64 recent] w (TkOut nn P val true R C recent (fpR P rv cv R) w) := by
  obtain ⟨ar, cr, er⟩ := ownsRow_shape h.rows
  obtain ⟨ac, cc, ec, hcx⟩ := nms_of h.com
  obtain ⟨_, _, c2, c3⟩ := h.cells
  obtain ⟨z2, z3⟩ := h.frozen
  have HV := Lib.hid h
  have HSh := Lib.hid hsh
  have hPw : P < w.heap.size := lt_of_heap h.self
  have HL : Hid (∀ k, k < R.length → ∃ (g : Nat) (x : RR) (fa : Option Addr) (fn fc : Nat), ar = some ⟨g, 0, none⟩ ∧ R[k]? = some x ∧ x.fv = .slice fa fn fc ∧ RRAt w g k x ∧ g < w.heap.size) := Lib.hid (fun k hk => by
    obtain ⟨x, hx⟩ := rget hk
    obtain ⟨g, cap, e2, hg, ra⟩ := h.row_at hx
    obtain ⟨fa, fn, fc, hf⟩ := hsh x (List.mem_of_getElem? hx)
    rw [er] at e2
    injection e2 with p1 p2 p3
    exact ⟨g, x, fa, fn, fc, p1, hx, hf, ra, hg⟩)
  have HCx := Lib.hid hcx
  rw [er] at c2
  rw [ec] at c3
  have hRl : R.length ≤ 1000000 := by omega
  clear h hsh hcx
  go_enter Tryz.func16, Tryz.ntmps16
  go_upto_region 6 with fail
  go_loopw [7, 8, 9] (fun tv qv i wr => ∃ (k : Nat) (tv' qv' : Value) (X : World), X = wr ∧ tv' = tv ∧ qv' = qv ∧ k ≤ R.length ∧ i = .int .i64 k ∧ TK w ((gTd true ((R.take k).map RR.pl)).map nilT) (sRR true (R.take k)) tv' qv' X) (fun _ _ i _ => R.length - (intOf i).toNat)
  case atStart => exact ⟨0, _, _, _, rfl, rfl, rfl, Nat.zero_le _, rfl, TK.nil w⟩
  case round =>
    obtain ⟨k, tv', qv', X, hX, htv, hqv, hk, rfl, ho⟩ := hrel
    subst hX htv hqv
    have c2x : X.cell? ⟨P, 2, none⟩ = some (.slice ar R.length cr) := by rw [ho.td.below.cell (p := ⟨P, 2, none⟩) hPw]; exact c2
    have c3x : X.cell? ⟨P, 3, none⟩ = some (.slice ac C.length cc) := by rw [ho.td.below.cell (p := ⟨P, 3, none⟩) hPw]; exact c3
    by_cases hlt : k < R.length
    ·
      have hlti : (k : Int) < (R.length : Int) := by omega
      obtain ⟨g, x, fa, fn, fc, rfl, hx, hf, ra, hg⟩ := HL.out k hlt
      have rx := ra.on ho.td.below hg
      have r0 := rx.c0
      have r1 := rx.c1
      have r2 := rx.c2
      have r3 := rx.c3
      have r4 := rx.c4
      have r5 := rx.c5
      rw [hf] at r5
      have HS1 := Lib.hid (sRR_snoc true (R.take k) x)
      have HG1 := Lib.hid (gTd_snoc true (R.take k) x)
      rw [← takeQ_snoc hx] at HS1 HG1
      have hnQ : (sRR true (R.take k)).length ≤ 1000000 := by have q1 := sRR_len true (R.take k); rw [List.length_take] at q1; omega
      have hnT : ((gTd true ((R.take k).map RR.pl)).map nilT).length ≤ 1000000 := by have q1 := gTd_len true ((R.take k).map RR.pl); rw [List.length_map, List.length_take] at q1; rw [List.length_map]; omega
      obtain ⟨aq, cq, eq⟩ := ownsRow_shape ho.rw.row
      cases hgx : x.gone with
      | true =>
        have hwn : IntKind.i64.wrap (((sRR true (R.take k)).length : Int) + 1) = ((sRR true (R.take k)).length : Int) + 1 := by simp only [IntKind.wrap, IntKind.signed, IntKind.bits]; simp; omega
        obtain ⟨a4, c4, W4, r, o4⟩ := ho.tell (nilT ⟨1, ((sRR true (R.take k)).length : Int) + 1, x.uid, 0, []⟩) none 0 0 rfl (by omega)
        have R4 := Lib.hid r
        have HO4 : Hid (TK w ((gTd true ((R.take (k + 1)).map RR.pl)).map nilT) (sRR true (R.take (k + 1))) (.slice a4 (((gTd true ((R.take k).map RR.pl)).map nilT).length + 1) c4) qv' W4) := Lib.hid (by
          rw [HG1.out, HS1.out, hgx]
          simp only [Bool.true_and, if_true, List.append_nil, List.map_append, List.map_cons, List.map_nil]
          exact o4)
        rw [hgx] at r2
        clear hx ra rx ho r o4 HS1 HG1 hf hgx
        subst eq
        generalize ((gTd true ((R.take k).map RR.pl)).map nilT).length = nT at *
        generalize (sRR true (R.take k)).length = nQ at *
        unfold nilT at R4
        generalize x.uid = xu at *
        go_wp2_with (at_builtin; refine append_by_run (u := tv') (v := .slice (some ⟨X.heap.size, 0, none⟩) 1 1) rfl _ _ _ rfl 49 rfl rfl rfl _ _ R4.out ?_)
        go_roundw
        case rel => exact ⟨k + 1, _, _, _, rfl, rfl, rfl, by omega, by go_num, HO4.out⟩
        case measure => simp [intOf]; omega
      | false =>
        obtain ⟨a4, c4, W4, r, o4⟩ := ho.keep x fa fn fc hf (by omega)
        have R4 := Lib.hid r
        have HO4 : Hid (TK w ((gTd true ((R.take (k + 1)).map RR.pl)).map nilT) (sRR true (R.take (k + 1))) tv' (.slice a4 ((sRR true (R.take k)).length + 1) c4) W4) := Lib.hid (by
          rw [HG1.out, HS1.out]
          rw [hgx]
          simp only [Bool.true_and, Bool.false_eq_true, if_false, List.append_nil]
          exact o4)
        rw [hgx] at r2 R4
        clear hx ra rx ho r o4 HS1 HG1 hf hgx
        subst eq
        generalize (sRR true (R.take k)).length = nQ at *
        generalize x.uid = xu at *
        generalize x.mod = xm at *

        generalize x.rct = xr at *
        generalize x.waits = xw at *
        go_wp2_with (at_builtin; refine append_by_run (u := .slice aq nQ cq) (v := .slice (some ⟨X.heap.size, 0, none⟩) 1 1) rfl _ _ _ rfl 37 rfl rfl rfl _ _ R4.out ?_)
        go_roundw
        case rel => exact ⟨k + 1, _, _, _, rfl, rfl, rfl, by omega, by go_num, HO4.out⟩
        case measure => simp [intOf]; omega
    · obtain rfl : k = R.length := by omega
      rw [List.take_length] at ho
      have hnQ : (sRR true R).length ≤ R.length := sRR_len true R
      have hnT : ((gTd true (R.map RR.pl)).map nilT).length ≤ 1000000 := by have q1 := gTd_len true (R.map RR.pl); rw [List.length_map] at q1; rw [List.length_map]; omega
      have HO := Lib.hid ho
      clear ho
      have hcpos : (0 : Int) < (C.length : Int) := by have := List.length_pos_iff.2 hC; omega
      go_upto_region 13 with fail
      go_loopw [8, 10] (fun qv i wr => ∃ (j : Nat) (qv2 : Value) (Z : World), Z = wr ∧ qv2 = qv ∧ j ≤ C.length ∧ i = .int .i64 j ∧ TKc w true R C recent tv' j qv2 Z) (fun _ i _ => C.length - (intOf i).toNat)
      case atStart => exact ⟨0, _, _, rfl, rfl, Nat.zero_le _, rfl, by unfold TKc; rw [List.take_zero, List.map_nil, List.append_nil]; exact HO.out⟩
      case round =>
        obtain ⟨j, qv2, Z, hZ, hqv, hj, rfl, ho⟩ := hrel
        subst hZ hqv
        unfold TKc at ho
        have c3z : Z.cell? ⟨P, 3, none⟩ = some (.slice ac C.length cc) := by rw [ho.td.below.cell (p := ⟨P, 3, none⟩) hPw]; exact c3
        by_cases hjt : j < C.length
        · have hjti : (j : Int) < (C.length : Int) := by omega
          obtain ⟨gc, oc, rfl, hgc, hcc⟩ := HCx.out (by omega)
          have k1 := hcc j hjt
          rw [← ho.td.below.cell (p := ⟨gc, oc + j, none⟩) hgc] at k1
          have hD := ho.on (Below.refl Z.heap.size Z).drew
          have hZs := ho.td.below.size
          have hnq : (sRR true R ++ (C.take j).map (rnewE recent)).length ≤ 2000000 := by rw [List.length_append, List.length_map, List.length_take]; omega
          obtain ⟨a4, c4, W4, r, o4⟩ := hD.keep (rnewE recent (C.getD j 0)) none 0 0 rfl (by omega)
          have R4 := Lib.hid r
          have HO4 : Hid (TKc w true R C recent tv' (j + 1) (.slice a4 ((sRR true R ++ (C.take j).map (rnewE recent)).length + 1) c4) W4) := Lib.hid (by
            unfold TKc
            rw [take_snocI C j hjt, List.map_append, ← List.append_assoc]
            exact o4)
          obtain ⟨aq, cq, eq⟩ := ownsRow_shape ho.rw.row
          clear ho hD r o4 hcc
          subst eq
          generalize (sRR true R ++ (C.take j).map (rnewE recent)).length = nQ at *
          generalize C.getD j 0 = u at *
          unfold rnewE at R4
          have HBd : Hid (Below Z.heap.size Z Z.drew) := Lib.hid (Below.refl _ _).drew
          have HB3 : Hid (Below Z.heap.size Z (Z.drew.alloc (.cells #[.int .i64 u, .int .i64 0, .bool false, .bool (decide (recent ≤ u)), .bool false, .slice none 0 0] 102))) := Lib.hid ((Below.refl _ _).drew.alloc (Nat.le_refl _) _)
          have HX : Hid (∀ X, Below Z.heap.size Z X → X.cell? ⟨P, 3, none⟩ = some (.slice (some ⟨gc, oc, none⟩) C.length cc) ∧ X.cell? ⟨gc, oc + j, none⟩ = some (.int .i64 u)) := Lib.hid (fun X hb => ⟨by rw [hb.cell (p := ⟨P, 3, none⟩) (Nat.lt_of_lt_of_le hPw hZs)]; exact c3z, by rw [hb.cell (p := ⟨gc, oc + j, none⟩) (Nat.lt_of_lt_of_le hgc hZs)]; exact k1⟩)
          go_upto_region 15 with fail
          refine wp_region_N 19 (fun X => Below Z.heap.size Z X) (by kernel_rfl) ?_
          refine wpAnyN_take (i := 0) (oi := { dst := some 82, op := Go.Op.move (Go.Operand.tmp 8), type := 37, pos := "view.go:170", after := #[], guard := none }) (oL := { dst := some 101, op := Go.Op.call { callee := Go.Callee.builtin Go.Builtin.append, args := #[Go.Operand.tmp 82, Go.Operand.tmp 100], argTypes := #[37, 37] }, type := 37, pos := "view.go:170", after := #[{ on := 0, ground := Go.Ground.data }, { on := 18, ground := Go.Ground.data }], guard := none }) (v := .slice aq nQ cq) rfl rfl (by kernel_rfl) (by kernel_rfl) (by kernel_rfl) (by kernel_rfl) (fun _ _ _ h => h) (Or.inl ⟨by kernel_rfl, ?_⟩) HBd.out ?_
          · (intro X hX; obtain ⟨z1, z2⟩ := HX.out X hX <;> (go_simp; try (with_reducible rfl)))
          (try simp only [Act.put, List.setIfInBounds_toArray, List.set_cons_zero, List.set_cons_succ])
          refine wpAnyN_take (i := 1) (oi := { dst := some 83, op := Go.Op.move (Go.Operand.tmp 0), type := 36, pos := "view.go:170", after := #[], guard := none }) (oL := { dst := some 101, op := Go.Op.call { callee := Go.Callee.builtin Go.Builtin.append, args := #[Go.Operand.tmp 82, Go.Operand.tmp 100], argTypes := #[37, 37] }, type := 37, pos := "view.go:170", after := #[{ on := 0, ground := Go.Ground.data }, { on := 18, ground := Go.Ground.data }], guard := none }) (v := .pointer (some ⟨P, 0, none⟩)) rfl rfl (by kernel_rfl) (by kernel_rfl) (by kernel_rfl) (by kernel_rfl) (fun _ _ _ h => h) (Or.inl ⟨by kernel_rfl, ?_⟩) HBd.out ?_
          · (intro X hX; obtain ⟨z1, z2⟩ := HX.out X hX <;> (go_simp; try (with_reducible rfl)))
          (try simp only [Act.put, List.setIfInBounds_toArray, List.set_cons_zero, List.set_cons_succ])
          refine wpAnyN_take (i := 2) (oi := { dst := some 84, op := Go.Op.nilCheck (Go.Operand.tmp 83), type := 0, pos := "view.go:170", after := #[{ on := 1, ground := Go.Ground.data }], guard := none }) (oL := { dst := some 101, op := Go.Op.call { callee := Go.Callee.builtin Go.Builtin.append, args := #[Go.Operand.tmp 82, Go.Operand.tmp 100], argTypes := #[37, 37] }, type := 37, pos := "view.go:170", after := #[{ on := 0, ground := Go.Ground.data }, { on := 18, ground := Go.Ground.data }], guard := none }) (v := .pointer (some ⟨P, 0, none⟩)) rfl rfl (by kernel_rfl) (by kernel_rfl) (by kernel_rfl) (by kernel_rfl) (fun _ _ _ h => h) (Or.inl ⟨by kernel_rfl, ?_⟩) HBd.out ?_
          · (intro X hX; obtain ⟨z1, z2⟩ := HX.out X hX <;> (go_simp; try (with_reducible rfl)))
          (try simp only [Act.put, List.setIfInBounds_toArray, List.set_cons_zero, List.set_cons_succ])
          refine wpAnyN_take (i := 3) (oi := { dst := some 85, op := Go.Op.fieldAddr 39 (Go.Operand.tmp 84) 3, type := 0, pos := "view.go:170", after := #[{ on := 2, ground := Go.Ground.data }], guard := none }) (oL := { dst := some 101, op := Go.Op.call { callee := Go.Callee.builtin Go.Builtin.append, args := #[Go.Operand.tmp 82, Go.Operand.tmp 100], argTypes := #[37, 37] }, type := 37, pos := "view.go:170", after := #[{ on := 0, ground := Go.Ground.data }, { on := 18, ground := Go.Ground.data }], guard := none }) (v := .pointer (some ⟨P, 3, none⟩)) rfl rfl (by kernel_rfl) (by kernel_rfl) (by kernel_rfl) (by kernel_rfl) (fun _ _ _ h => h) (Or.inl ⟨by kernel_rfl, ?_⟩) HBd.out ?_
          · (intro X hX; obtain ⟨z1, z2⟩ := HX.out X hX <;> (go_simp; try (with_reducible rfl)))
          (try simp only [Act.put, List.setIfInBounds_toArray, List.set_cons_zero, List.set_cons_succ])
          refine wpAnyN_take (i := 4) (oi := { dst := some 86, op := Go.Op.load 26 (Go.Operand.tmp 85), type := 26, pos := "view.go:170", after := #[{ on := 3, ground := Go.Ground.data }], guard := none }) (oL := { dst := some 101, op := Go.Op.call { callee := Go.Callee.builtin Go.Builtin.append, args := #[Go.Operand.tmp 82, Go.Operand.tmp 100], argTypes := #[37, 37] }, type := 37, pos := "view.go:170", after := #[{ on := 0, ground := Go.Ground.data }, { on := 18, ground := Go.Ground.data }], guard := none }) (v := .slice (some ⟨gc, oc, none⟩) C.length cc) rfl rfl (by kernel_rfl) (by kernel_rfl) (by kernel_rfl) (by kernel_rfl) (fun _ _ _ h => h) (Or.inl ⟨by kernel_rfl, ?_⟩) HBd.out ?_
          · (intro X hX; obtain ⟨z1, z2⟩ := HX.out X hX <;> (go_simp; try (with_reducible rfl)))
          (try simp only [Act.put, List.setIfInBounds_toArray, List.set_cons_zero, List.set_cons_succ])
          refine wpAnyN_take (i := 5) (oi := { dst := some 87, op := Go.Op.move (Go.Operand.tmp 10), type := 3, pos := "view.go:170", after := #[], guard := none }) (oL := { dst := some 101, op := Go.Op.call { callee := Go.Callee.builtin Go.Builtin.append, args := #[Go.Operand.tmp 82, Go.Operand.tmp 100], argTypes := #[37, 37] }, type := 37, pos := "view.go:170", after := #[{ on := 0, ground := Go.Ground.data }, { on := 18, ground := Go.Ground.data }], guard := none }) (v := .int .i64 (j : Int)) rfl rfl (by kernel_rfl) (by kernel_rfl) (by kernel_rfl) (by kernel_rfl) (fun _ _ _ h => h) (Or.inl ⟨by kernel_rfl, ?_⟩) HBd.out ?_
          · (intro X hX; obtain ⟨z1, z2⟩ := HX.out X hX <;> (go_simp; try (with_reducible rfl)))
          (try simp only [Act.put, List.setIfInBounds_toArray, List.set_cons_zero, List.set_cons_succ])
          refine wpAnyN_take (i := 6) (oi := { dst := some 88, op := Go.Op.indexAddr 26 (Go.Operand.tmp 86) (Go.Operand.tmp 87), type := 0, pos := "view.go:170", after := #[{ on := 4, ground := Go.Ground.data }, { on := 5, ground := Go.Ground.data }], guard := none }) (oL := { dst := some 101, op := Go.Op.call { callee := Go.Callee.builtin Go.Builtin.append, args := #[Go.Operand.tmp 82, Go.Operand.tmp 100], argTypes := #[37, 37] }, type := 37, pos := "view.go:170", after := #[{ on := 0, ground := Go.Ground.data }, { on := 18, ground := Go.Ground.data }], guard := none }) (v := .pointer (some ⟨gc, oc + j, none⟩)) rfl rfl (by kernel_rfl) (by kernel_rfl) (by kernel_rfl) (by kernel_rfl) (fun _ _ _ h => h) (Or.inl ⟨by kernel_rfl, ?_⟩) HBd.out ?_
          · (intro X hX; obtain ⟨z1, z2⟩ := HX.out X hX <;> (go_simp; try (with_reducible rfl)))
          (try simp only [Act.put, List.setIfInBounds_toArray, List.set_cons_zero, List.set_cons_succ])
          refine wpAnyN_take (i := 7) (oi := { dst := some 89, op := Go.Op.load 3 (Go.Operand.tmp 88), type := 3, pos := "view.go:170", after := #[{ on := 6, ground := Go.Ground.data }], guard := none }) (oL := { dst := some 101, op := Go.Op.call { callee := Go.Callee.builtin Go.Builtin.append, args := #[Go.Operand.tmp 82, Go.Operand.tmp 100], argTypes := #[37, 37] }, type := 37, pos := "view.go:170", after := #[{ on := 0, ground := Go.Ground.data }, { on := 18, ground := Go.Ground.data }], guard := none }) (v := .int .i64 u) rfl rfl (by kernel_rfl) (by kernel_rfl) (by kernel_rfl) (by kernel_rfl) (fun _ _ _ h => h) (Or.inl ⟨by kernel_rfl, ?_⟩) HBd.out ?_
          · (intro X hX; obtain ⟨z1, z2⟩ := HX.out X hX <;> (go_simp; try (with_reducible rfl)))
          (try simp only [Act.put, List.setIfInBounds_toArray, List.set_cons_zero, List.set_cons_succ])
          refine wpAnyN_take (i := 8) (oi := { dst := some 90, op := Go.Op.move (Go.Operand.tmp 0), type := 36, pos := "view.go:170", after := #[], guard := none }) (oL := { dst := some 101, op := Go.Op.call { callee := Go.Callee.builtin Go.Builtin.append, args := #[Go.Operand.tmp 82, Go.Operand.tmp 100], argTypes := #[37, 37] }, type := 37, pos := "view.go:170", after := #[{ on := 0, ground := Go.Ground.data }, { on := 18, ground := Go.Ground.data }], guard := none }) (v := .pointer (some ⟨P, 0, none⟩)) rfl rfl (by kernel_rfl) (by kernel_rfl) (by kernel_rfl) (by kernel_rfl) (fun _ _ _ h => h) (Or.inl ⟨by kernel_rfl, ?_⟩) HBd.out ?_
          · (intro X hX; obtain ⟨z1, z2⟩ := HX.out X hX <;> (go_simp; try (with_reducible rfl)))
          (try simp only [Act.put, List.setIfInBounds_toArray, List.set_cons_zero, List.set_cons_succ])
          refine wpAnyN_take (i := 9) (oi := { dst := some 91, op := Go.Op.nilCheck (Go.Operand.tmp 90), type := 0, pos := "view.go:170", after := #[{ on := 8, ground := Go.Ground.data }], guard := none }) (oL := { dst := some 101, op := Go.Op.call { callee := Go.Callee.builtin Go.Builtin.append, args := #[Go.Operand.tmp 82, Go.Operand.tmp 100], argTypes := #[37, 37] }, type := 37, pos := "view.go:170", after := #[{ on := 0, ground := Go.Ground.data }, { on := 18, ground := Go.Ground.data }], guard := none }) (v := .pointer (some ⟨P, 0, none⟩)) rfl rfl (by kernel_rfl) (by kernel_rfl) (by kernel_rfl) (by kernel_rfl) (fun _ _ _ h => h) (Or.inl ⟨by kernel_rfl, ?_⟩) HBd.out ?_
          · (intro X hX; obtain ⟨z1, z2⟩ := HX.out X hX <;> (go_simp; try (with_reducible rfl)))
          (try simp only [Act.put, List.setIfInBounds_toArray, List.set_cons_zero, List.set_cons_succ])
          refine wpAnyN_take (i := 10) (oi := { dst := some 92, op := Go.Op.fieldAddr 39 (Go.Operand.tmp 91) 3, type := 0, pos := "view.go:170", after := #[{ on := 9, ground := Go.Ground.data }], guard := none }) (oL := { dst := some 101, op := Go.Op.call { callee := Go.Callee.builtin Go.Builtin.append, args := #[Go.Operand.tmp 82, Go.Operand.tmp 100], argTypes := #[37, 37] }, type := 37, pos := "view.go:170", after := #[{ on := 0, ground := Go.Ground.data }, { on := 18, ground := Go.Ground.data }], guard := none }) (v := .pointer (some ⟨P, 3, none⟩)) rfl rfl (by kernel_rfl) (by kernel_rfl) (by kernel_rfl) (by kernel_rfl) (fun _ _ _ h => h) (Or.inl ⟨by kernel_rfl, ?_⟩) HBd.out ?_
          · (intro X hX; obtain ⟨z1, z2⟩ := HX.out X hX <;> (go_simp; try (with_reducible rfl)))
          (try simp only [Act.put, List.setIfInBounds_toArray, List.set_cons_zero, List.set_cons_succ])
          refine wpAnyN_take (i := 11) (oi := { dst := some 93, op := Go.Op.load 26 (Go.Operand.tmp 92), type := 26, pos := "view.go:170", after := #[{ on := 10, ground := Go.Ground.data }], guard := none }) (oL := { dst := some 101, op := Go.Op.call { callee := Go.Callee.builtin Go.Builtin.append, args := #[Go.Operand.tmp 82, Go.Operand.tmp 100], argTypes := #[37, 37] }, type := 37, pos := "view.go:170", after := #[{ on := 0, ground := Go.Ground.data }, { on := 18, ground := Go.Ground.data }], guard := none }) (v := .slice (some ⟨gc, oc, none⟩) C.length cc) rfl rfl (by kernel_rfl) (by kernel_rfl) (by kernel_rfl) (by kernel_rfl) (fun _ _ _ h => h) (Or.inl ⟨by kernel_rfl, ?_⟩) HBd.out ?_
          · (intro X hX; obtain ⟨z1, z2⟩ := HX.out X hX <;> (go_simp; try (with_reducible rfl)))
          (try simp only [Act.put, List.setIfInBounds_toArray, List.set_cons_zero, List.set_cons_succ])
          refine wpAnyN_take (i := 12) (oi := { dst := some 94, op := Go.Op.move (Go.Operand.tmp 10), type := 3, pos := "view.go:170", after := #[], guard := none }) (oL := { dst := some 101, op := Go.Op.call { callee := Go.Callee.builtin Go.Builtin.append, args := #[Go.Operand.tmp 82, Go.Operand.tmp 100], argTypes := #[37, 37] }, type := 37, pos := "view.go:170", after := #[{ on := 0, ground := Go.Ground.data }, { on := 18, ground := Go.Ground.data }], guard := none }) (v := .int .i64 (j : Int)) rfl rfl (by kernel_rfl) (by kernel_rfl) (by kernel_rfl) (by kernel_rfl) (fun _ _ _ h => h) (Or.inl ⟨by kernel_rfl, ?_⟩) HBd.out ?_
          · (intro X hX; obtain ⟨z1, z2⟩ := HX.out X hX <;> (go_simp; try (with_reducible rfl)))
          (try simp only [Act.put, List.setIfInBounds_toArray, List.set_cons_zero, List.set_cons_succ])
          refine wpAnyN_take (i := 13) (oi := { dst := some 95, op := Go.Op.indexAddr 26 (Go.Operand.tmp 93) (Go.Operand.tmp 94), type := 0, pos := "view.go:170", after := #[{ on := 11, ground := Go.Ground.data }, { on := 12, ground := Go.Ground.data }], guard := none }) (oL := { dst := some 101, op := Go.Op.call { callee := Go.Callee.builtin Go.Builtin.append, args := #[Go.Operand.tmp 82, Go.Operand.tmp 100], argTypes := #[37, 37] }, type := 37, pos := "view.go:170", after := #[{ on := 0, ground := Go.Ground.data }, { on := 18, ground := Go.Ground.data }], guard := none }) (v := .pointer (some ⟨gc, oc + j, none⟩)) rfl rfl (by kernel_rfl) (by kernel_rfl) (by kernel_rfl) (by kernel_rfl) (fun _ _ _ h => h) (Or.inl ⟨by kernel_rfl, ?_⟩) HBd.out ?_
          · (intro X hX; obtain ⟨z1, z2⟩ := HX.out X hX <;> (go_simp; try (with_reducible rfl)))
          (try simp only [Act.put, List.setIfInBounds_toArray, List.set_cons_zero, List.set_cons_succ])
          refine wpAnyN_take (i := 14) (oi := { dst := some 96, op := Go.Op.load 3 (Go.Operand.tmp 95), type := 3, pos := "view.go:170", after := #[{ on := 13, ground := Go.Ground.data }], guard := none }) (oL := { dst := some 101, op := Go.Op.call { callee := Go.Callee.builtin Go.Builtin.append, args := #[Go.Operand.tmp 82, Go.Operand.tmp 100], argTypes := #[37, 37] }, type := 37, pos := "view.go:170", after := #[{ on := 0, ground := Go.Ground.data }, { on := 18, ground := Go.Ground.data }], guard := none }) (v := .int .i64 u) rfl rfl (by kernel_rfl) (by kernel_rfl) (by kernel_rfl) (by kernel_rfl) (fun _ _ _ h => h) (Or.inl ⟨by kernel_rfl, ?_⟩) HBd.out ?_
          · (intro X hX; obtain ⟨z1, z2⟩ := HX.out X hX <;> (go_simp; try (with_reducible rfl)))
          (try simp only [Act.put, List.setIfInBounds_toArray, List.set_cons_zero, List.set_cons_succ])
          refine wpAnyN_take (i := 15) (oi := { dst := some 97, op := Go.Op.move (Go.Operand.tmp 2), type := 3, pos := "view.go:170", after := #[], guard := none }) (oL := { dst := some 101, op := Go.Op.call { callee := Go.Callee.builtin Go.Builtin.append, args := #[Go.Operand.tmp 82, Go.Operand.tmp 100], argTypes := #[37, 37] }, type := 37, pos := "view.go:170", after := #[{ on := 0, ground := Go.Ground.data }, { on := 18, ground := Go.Ground.data }], guard := none }) (v := .int .i64 recent) rfl rfl (by kernel_rfl) (by kernel_rfl) (by kernel_rfl) (by kernel_rfl) (fun _ _ _ h => h) (Or.inl ⟨by kernel_rfl, ?_⟩) HBd.out ?_
          · (intro X hX; obtain ⟨z1, z2⟩ := HX.out X hX <;> (go_simp; try (with_reducible rfl)))
          (try simp only [Act.put, List.setIfInBounds_toArray, List.set_cons_zero, List.set_cons_succ])
          refine wpAnyN_take (i := 16) (oi := { dst := some 98, op := Go.Op.binOp Go.BinOp.geq 3 (Go.Operand.tmp 96) (Go.Operand.tmp 97) 3, type := 4, pos := "view.go:170", after := #[{ on := 14, ground := Go.Ground.data }, { on := 15, ground := Go.Ground.data }], guard := none }) (oL := { dst := some 101, op := Go.Op.call { callee := Go.Callee.builtin Go.Builtin.append, args := #[Go.Operand.tmp 82, Go.Operand.tmp 100], argTypes := #[37, 37] }, type := 37, pos := "view.go:170", after := #[{ on := 0, ground := Go.Ground.data }, { on := 18, ground := Go.Ground.data }], guard := none }) (v := .bool (decide (recent ≤ u))) rfl rfl (by kernel_rfl) (by kernel_rfl) (by kernel_rfl) (by kernel_rfl) (fun _ _ _ h => h) (Or.inl ⟨by kernel_rfl, ?_⟩) HBd.out ?_
          · (intro X hX; obtain ⟨z1, z2⟩ := HX.out X hX <;> (go_simp; try (with_reducible rfl)))
          (try simp only [Act.put, List.setIfInBounds_toArray, List.set_cons_zero, List.set_cons_succ])
          refine wpAnyN_take (i := 17) (oi := { dst := some 99, op := Go.Op.build 102 #[(0, Go.Operand.tmp 89), (3, Go.Operand.tmp 98)], type := 102, pos := "view.go:170", after := #[{ on := 7, ground := Go.Ground.data }, { on := 16, ground := Go.Ground.data }], guard := none }) (oL := { dst := some 101, op := Go.Op.call { callee := Go.Callee.builtin Go.Builtin.append, args := #[Go.Operand.tmp 82, Go.Operand.tmp 100], argTypes := #[37, 37] }, type := 37, pos := "view.go:170", after := #[{ on := 0, ground := Go.Ground.data }, { on := 18, ground := Go.Ground.data }], guard := none }) (v := .agg #[.int .i64 u, .int .i64 0, .bool false, .bool (decide (recent ≤ u)), .bool false, .slice none 0 0]) rfl rfl (by kernel_rfl) (by kernel_rfl) (by kernel_rfl) (by kernel_rfl) (fun _ _ _ h => h) (Or.inl ⟨by kernel_rfl, ?_⟩) HBd.out ?_
          · (intro X hX; obtain ⟨z1, z2⟩ := HX.out X hX <;> (go_simp; try (with_reducible rfl)))
          (try simp only [Act.put, List.setIfInBounds_toArray, List.set_cons_zero, List.set_cons_succ])
          refine wpAnyN_one (i := 18) (o := { dst := some 100, op := Go.Op.buildSlice 37 1 #[(0, Go.Operand.tmp 99)], type := 37, pos := "view.go:170", after := #[{ on := 17, ground := Go.Ground.data }], guard := none }) (by kernel_rfl) rfl (fun K hK => ?_)
          go_simp
          refine hK.out _ _ (fun _ => HB3.out) ?_
          clear hK K
          (try simp only [Act.put, List.setIfInBounds_toArray, List.set_cons_zero, List.set_cons_succ])
          refine wpAnyN_one (i := 19) (o := { dst := some 101, op := Go.Op.call { callee := Go.Callee.builtin Go.Builtin.append, args := #[Go.Operand.tmp 82, Go.Operand.tmp 100], argTypes := #[37, 37] }, type := 37, pos := "view.go:170", after := #[{ on := 0, ground := Go.Ground.data }, { on := 18, ground := Go.Ground.data }], guard := none }) (by kernel_rfl) rfl (fun K hK => ?_)
          refine step_append_run (u := .slice aq nQ cq) (v := .slice (some ⟨Z.heap.size, 0, none⟩) 1 1) rfl _ _ _ rfl 37 rfl rfl rfl _ _ R4.out ?_
          refine hK.out _ _ (fun e => absurd (e.symm.trans (by kernel_rfl) : false = true) Bool.false_ne_true) ?_
          clear hK K
          (try simp only [Act.put, List.setIfInBounds_toArray, List.set_cons_zero, List.set_cons_succ])
          refine wpAnyN_of_H (S' := fun _ => True) _ _ _ _ (by kernel_rfl) ?_
          refine wpAnyH_take (i := 20) (oi := { dst := some 8, op := Go.Op.assign (Go.Operand.tmp 101), type := 37, pos := "view.go:170", after := #[{ on := 19, ground := Go.Ground.data }, { on := 19, ground := Go.Ground.chain }, { on := 0, ground := Go.Ground.phase }, { on := 1, ground := Go.Ground.phase }, { on := 2, ground := Go.Ground.phase }, { on := 3, ground := Go.Ground.phase }, { on := 4, ground := Go.Ground.phase }, { on := 5, ground := Go.Ground.phase }, { on := 6, ground := Go.Ground.phase }, { on := 7, ground := Go.Ground.phase }, { on := 8, ground := Go.Ground.phase }, { on := 9, ground := Go.Ground.phase }, { on := 10, ground := Go.Ground.phase }, { on := 11, ground := Go.Ground.phase }, { on := 12, ground := Go.Ground.phase }, { on := 13, ground := Go.Ground.phase }, { on := 14, ground := Go.Ground.phase }, { on := 15, ground := Go.Ground.phase }, { on := 16, ground := Go.Ground.phase }, { on := 17, ground := Go.Ground.phase }, { on := 18, ground := Go.Ground.phase }, { on := 19, ground := Go.Ground.phase }], guard := none }) (v := .slice a4 (nQ + 1) c4) rfl (by kernel_rfl) (by kernel_rfl) (by kernel_rfl) (fun _ _ _ h => h) (Or.inl ⟨by kernel_rfl, ?_⟩) trivial ?_
          · (intro X hX; go_simp; try (with_reducible rfl))
          (try simp only [Act.put, List.setIfInBounds_toArray, List.set_cons_zero, List.set_cons_succ])
          refine wpAnyH_done (by kernel_rfl) ?_ _
          go_wp2_with fail
          go_roundw
          case rel => first | exact ⟨j + 1, by omega, by go_num, HO4.out⟩ | exact ⟨j + 1, _, _, rfl, rfl, by omega, by go_num, HO4.out⟩
          case measure => simp [intOf]; omega
        · obtain rfl : j = C.length := by omega
          rw [List.take_length] at ho
          have HO2 := Lib.hid ho
          clear ho
          have hnq : (sRR true R ++ C.map (rnewE recent)).length ≤ 1000000 := by rw [List.length_append, List.length_map]; omega
          generalize hQA : sRR true R ++ C.map (rnewE recent) = QA at *
          have HQA := Lib.hid hQA
          clear hQA
          obtain ⟨aq2, cq2, eq2⟩ := ownsRow_shape HO2.out.rw.row
          subst eq2
          have HR3 : Hid (∀ i, i < QA.length → ∃ (g : Nat) (x : RR), aq2 = some ⟨g, 0, none⟩ ∧ QA[i]? = some x ∧ Z.cell? ⟨g, i * 6 + 3, none⟩ = some (.bool x.rct)) := Lib.hid (fun i hi => by
            obtain ⟨x, hx⟩ := rget hi
            obtain ⟨g, cap, e2, hg, ra⟩ := rowsAt HO2.out.rw.row hx
            injection e2 with p1 p2 p3
            exact ⟨g, x, p1, hx, ra.c3⟩)
          have HCnt : Hid (∀ i x, QA[i]? = some x → ((QA.take (i + 1)).filter RR.rct).length = ((QA.take i).filter RR.rct).length + (if x.rct = true then 1 else 0)) := Lib.hid (fun i x hx => by
            rw [takeQ_snoc hx, List.filter_append, List.length_append]
            congr 1
            cases hr : x.rct <;> simp [hr])
          have HCl : Hid (∀ i, ((QA.take i).filter RR.rct).length ≤ 1000000) := Lib.hid (fun i => by
            have q1 := List.length_filter_le RR.rct (QA.take i)
            rw [List.length_take] at q1
            omega)
          go_upto_region 18 with fail
          go_loopw [11, 12] (fun n i wr => ∃ j : Nat, j ≤ QA.length ∧ i = .int .i64 j ∧ n = .int .i64 (((QA.take j).filter RR.rct).length : Int) ∧ wr = Z) (fun _ i _ => QA.length - (intOf i).toNat)
          case atStart => exact ⟨0, Nat.zero_le _, rfl, rfl, rfl⟩
          case round =>
            obtain ⟨j, hj, rfl, rfl, hwz⟩ := hrel
            obtain rfl : wr = Z := hwz
            have hcl := HCl.out j
            by_cases hjt : j < QA.length
            · have hjti : (j : Int) < (QA.length : Int) := by omega
              obtain ⟨g, x, rfl, hx, k3⟩ := HR3.out j hjt
              have HCn := Lib.hid (HCnt.out j x hx)
              clear hx HCnt HR3 HCl
              generalize ((QA.take j).filter RR.rct).length = nj at *
              cases hr : x.rct with
              | true =>
                rw [hr] at k3 HCn
                simp only [if_true] at HCn
                go_wp2_with fail
                go_roundw
                case rel => exact ⟨j + 1, by omega, by go_num, by rw [HCn.out]; go_num, (by first | rfl | trivial)⟩
                case measure => simp [intOf]; omega
              | false =>
                rw [hr] at k3 HCn
                simp only [Bool.false_eq_true, if_false, Nat.add_zero] at HCn
                go_wp2_with fail
                go_roundw
                case rel => exact ⟨j + 1, by omega, by go_num, by rw [HCn.out], (by first | rfl | trivial)⟩
                case measure => simp [intOf]; omega
            · obtain rfl : j = QA.length := by omega
              rw [List.take_length] at hcl
              rw [List.take_length]
              obtain ⟨a7, c7, W7, r7, o7⟩ := HO2.out.tell2 ⟨2, (QA.length : Int), 0, 0, []⟩ ⟨3, ((QA.filter RR.rct).length : Int), 0, 0, []⟩ (by omega)
              generalize hn7 : ((gTd true (R.map RR.pl)).map nilT).length = n7 at r7 o7
              clear hn7
              have R7 := Lib.hid r7
              have HO7 := Lib.hid o7
              clear r7 o7 HCnt HR3 HCl
              have c3w : W7.cell? ⟨P, 3, none⟩ = some (.slice ac C.length cc) := by rw [HO7.out.td.below.cell (p := ⟨P, 3, none⟩) hPw]; exact c3
              have c2w : W7.cell? ⟨P, 2, none⟩ = some (.slice ar R.length cr) := by rw [HO7.out.td.below.cell (p := ⟨P, 2, none⟩) hPw]; exact c2
              go_upto_region 23 with (at_builtin; refine append_by_run (u := tv') (v := .slice (some ⟨wr.heap.size, 0, none⟩) 2 2) rfl _ _ _ rfl 49 rfl rfl rfl _ _ R7.out ?_)
              have hQ5 : ∀ r ∈ QA, r.waits = true → r ∈ R := fun r hr hw => by
                rw [← HQA.out] at hr
                rcases List.mem_append.1 hr with hr | hr
                · exact sRR_mem hr
                · obtain ⟨u, _, rfl⟩ := List.mem_map.1 hr
                  cases hw
              have hSh5 : ShR QA := fun r hr => by
                rw [← HQA.out] at hr
                rcases List.mem_append.1 hr with hr | hr
                · exact HSh.out r (sRR_mem hr)
                · obtain ⟨u, _, rfl⟩ := List.mem_map.1 hr
                  exact ⟨none, 0, 0, rfl⟩
              obtain ⟨v5, fo5⟩ := HV.out.turned HO7.out.td.below HO7.out.rw hQ5
              have hP5 : P < W7.heap.size := Nat.lt_of_lt_of_le hPw HO7.out.td.below.size
              have z3x : W7.frozen? ⟨P, 3, none⟩ = false := ((HV.out.on HO7.out.td.below).frozen).2
              have z2x : W7.frozen? ⟨P, 2, none⟩ = false := ((HV.out.on HO7.out.td.below).frozen).1
              have T5 : TdRow ((W7.setCell ⟨P, 3, none⟩ (.slice none 0 0)).setCell ⟨P, 2, none⟩ (.slice aq2 QA.length cq2)) (Value.slice a7 (n7 + 2) c7) ((gTd true (R.map RR.pl)).map nilT ++ [nilT ⟨2, (QA.length : Int), 0, 0, []⟩, nilT ⟨3, ((QA.filter RR.rct).length : Int), 0, 0, []⟩]) := ownsRow_same HO7.out.td.row (fun b e => by
                have hn := HO7.out.td.new b e
                have hne : b ≠ P := by omega
                rw [Below.heap_setCell _ _ _ _ hne, Below.heap_setCell _ _ _ _ hne])
              have tvn : ∀ b, (Value.slice a7 (n7 + 2) c7).ownBlock = some b → w.heap.size ≤ b := HO7.out.td.new
              have hflT : ∀ t ∈ ((gTd true (R.map RR.pl)).map nilT ++ [nilT ⟨2, (QA.length : Int), 0, 0, []⟩, nilT ⟨3, ((QA.filter RR.rct).length : Int), 0, 0, []⟩]), t.fv = .slice none 0 0 ∧ t.fl = [] := fun t ht => by
                rcases List.mem_append.1 ht with ht | ht
                · obtain ⟨x, _, rfl⟩ := List.mem_map.1 ht
                  exact ⟨rfl, rfl⟩
                · simp at ht
                  rcases ht with rfl | rfl <;> exact ⟨rfl, rfl⟩
              have hTl : (((gTd true (R.map RR.pl)).map nilT ++ [nilT ⟨2, (QA.length : Int), 0, 0, []⟩, nilT ⟨3, ((QA.filter RR.rct).length : Int), 0, 0, []⟩])).length ≤ 3000000 := by rw [List.length_append]; simp only [List.length_cons, List.length_nil]; omega
              have hQl : (QA).length ≤ 1000000 := hnq
              have HPl : Hid ((((gTd true (R.map RR.pl)).map nilT ++ [nilT ⟨2, (QA.length : Int), 0, 0, []⟩, nilT ⟨3, ((QA.filter RR.rct).length : Int), 0, 0, []⟩])).map TDE.pl = gTd true (R.map RR.pl) ++ newQ true R C recent) := Lib.hid (by rw [List.map_append, nilT_pl (gTd_fl true _)]; unfold newQ; rw [if_neg hC, HQA.out]; rfl)
              have HS5 : Hid (TF4 nn P val (.slice aq2 QA.length cq2) QA ((gTd true (R.map RR.pl)).map nilT ++ [nilT ⟨2, (QA.length : Int), 0, 0, []⟩, nilT ⟨3, ((QA.filter RR.rct).length : Int), 0, 0, []⟩]) (Value.slice a7 (n7 + 2) c7) ((W7.setCell ⟨P, 3, none⟩ (.slice none 0 0)).setCell ⟨P, 2, none⟩ (.slice aq2 QA.length cq2)) 0 (Value.slice a7 (n7 + 2) c7) ((W7.setCell ⟨P, 3, none⟩ (.slice none 0 0)).setCell ⟨P, 2, none⟩ (.slice aq2 QA.length cq2))) := Lib.hid ⟨v5, by show TdRow _ (Value.slice a7 (n7 + 2) c7) (_ ++ []); rw [List.append_nil]; exact T5, by
                show FlT _ (_ ++ [])
                rw [List.append_nil]
                intro t ht
                obtain ⟨e1, e2⟩ := hflT t ht
                rw [e1, e2]
                exact World.ownsRow_nil _ _ _ _, FO.refl _ _⟩
              have HFo := Lib.hid fo5
              have HQ5 := Lib.hid hQ5
              have HSh5 := Lib.hid hSh5
              have HTvn := Lib.hid tvn
              have HflT := Lib.hid hflT
              have HTl := Lib.hid hTl
              clear v5 fo5 hQ5 hSh5 T5 tvn hflT hTl
              generalize ((gTd true (R.map RR.pl)).map nilT ++ [nilT ⟨2, (QA.length : Int), 0, 0, []⟩, nilT ⟨3, ((QA.filter RR.rct).length : Int), 0, 0, []⟩]) = TT at *
              generalize hQQ : QA = QQ at *
              have HQQ := Lib.hid hQQ
              clear hQQ
              have HSt : Hid (QQ.length ≤ 1000000) := Lib.hid hQl
              go_upto_region 26 with fail
              generalize ((W7.setCell ⟨P, 3, none⟩ (.slice none 0 0)).setCell ⟨P, 2, none⟩ (.slice aq2 QQ.length cq2)) = W5 at *
              go_loopw [7, 13] (fun tv i wr => ∃ (k : Nat) (tv2 : Value) (Z : World), Z = wr ∧ tv2 = tv ∧ k ≤ QQ.length ∧ i = .int .i64 k ∧ TF4 nn P val (.slice aq2 QQ.length cq2) QQ TT (Value.slice a7 (n7 + 2) c7) W5 k tv2 Z) (fun _ i _ => QQ.length - (intOf i).toNat)
              case atStart => exact ⟨0, _, _, rfl, rfl, Nat.zero_le _, rfl, HS5.out⟩
              case round =>
                obtain ⟨k, tv2, Z, hZ, htv, hk, rfl, hT⟩ := hrel
                subst hZ htv
                obtain ⟨_, _, c2z, _⟩ := hT.view.cells
                by_cases hlt : k < QQ.length
                · have hlti : (k : Int) < (QQ.length : Int) := by omega
                  obtain ⟨x, hx⟩ := rget hlt
                  obtain ⟨fa, fn, fc, hf⟩ := HSh5.out x (List.mem_of_getElem? hx)
                  have hrw := hT.view.rows
                  obtain ⟨g, cap, eg, hg, ra⟩ := rowsAt hrw (atKR_get hx)
                  rw [atKR_length] at eg
                  injection eg with p1 p2 p3
                  subst p1
                  obtain ⟨Y, hY⟩ : ∃ Y, Z.alloc (.cells #[.int .i64 x.uid, .int .i64 x.mod, .bool x.gone, .bool x.rct, .bool x.waits, .slice fa fn fc] 102) = Y := ⟨_, rfl⟩
                  have hbY : Below Z.heap.size Z Y := by rw [← hY]; exact (Below.refl _ _).alloc (Nat.le_refl _) _
                  have hYn : Y.heap[Z.heap.size]? = some (.cells #[.int .i64 x.uid, .int .i64 x.mod, .bool x.gone, .bool x.rct, .bool x.waits, .slice fa fn fc] 102 (0, 0)) := by rw [← hY]; exact heap_new _ _
                  have r0 := ra.c0
                  have r1 := ra.c1
                  have r2 := ra.c2
                  have r3 := ra.c3
                  have r4 := ra.c4
                  have r5 := ra.c5
                  rw [hf] at r5
                  have y0 := cell_of hYn 0
                  have y1 := cell_of hYn 1
                  have y2 := cell_of hYn 2
                  have y4 := cell_of hYn 4
                  have y5 := cell_of hYn 5
                  simp only [List.getElem?_toArray, List.getElem?_cons_zero, List.getElem?_cons_succ] at y0 y1 y2 y4 y5
                  have hkw : IntKind.i64.wrap ((k : Int) + 1) = (k : Int) + 1 := by simp only [IntKind.wrap, IntKind.signed, IntKind.bits]; simp; omega
                  cases ht : rtellB x with
                  | true =>
                    have hwx : x.waits = true := by unfold rtellB at ht; simp at ht; exact ht.1
                    have hgx : x.gone = false := by unfold rtellB at ht; simp at ht; exact ht.2
                    obtain ⟨a6, c6, W6, r6, q2, qa, hpg, o6⟩ := hT.tell hx hbY ht fa fn fc hf (by have q1 := rflagE_len (QQ.take k) 0; have q2 := HTl.out; rw [List.length_take] at q1; rw [List.length_append]; omega)
                    have R6 := Lib.hid r6
                    have HO6 := Lib.hid o6
                    have b1 := qa.c1
                    have b4 := qa.c4
                    have b5 := qa.c5
                    rw [hf] at b5
                    have f1 := qa.fz (k * 6 + 1)
                    have f4 := qa.fz (k * 6 + 4)
                    have f5 := qa.fz (k * 6 + 5)
                    rw [hwx] at r4 y4 hY
                    rw [hgx] at r2 y2 hY
                    clear hx hf hrw ra hT r6 o6 qa hYn hbY ht hwx hgx p2 p3
                    generalize (TT ++ rflagE 0 (QQ.take k)).length = nT at *
                    generalize x.uid = xu at *
                    generalize x.mod = xm at *
                    generalize x.rct = xr at *
                    go_upto_region 29 with fail
                    (try rw [hY])
                    clear hY r0 r1 r2 r3 r4 r5
                    go_wp2_with (at_builtin; refine append_by_run (u := tv2) (v := .slice (some ⟨Y.heap.size, 0, none⟩) 1 1) rfl _ _ _ rfl 49 rfl rfl rfl _ _ R6.out ?_)
                    go_roundw
                    case rel => exact ⟨k + 1, _, _, rfl, rfl, by omega, by go_num, HO6.out⟩
                    case measure => simp [intOf]; omega
                  | false =>
                    have HO6 := Lib.hid (hT.skip hx hbY ht)
                    have hcs : x.waits = false ∨ (x.waits = true ∧ x.gone = true) := by
                      unfold rtellB at ht
                      cases hw : x.waits with
                      | false => exact .inl rfl
                      | true => rw [hw] at ht; simp at ht; exact .inr ⟨rfl, ht⟩
                    clear hx hf hrw ra hT hYn hbY ht p2 p3
                    rcases hcs with hwx | ⟨hwx, hgx⟩
                    · rw [hwx] at r4 y4 hY
                      clear hwx
                      generalize x.uid = xu at *
                      generalize x.mod = xm at *
                      generalize x.gone = xg at *
                      generalize x.rct = xr at *
                      go_upto_region 29 with fail
                      (try rw [hY])
                      clear hY r0 r1 r2 r3 r4 r5
                      go_wp2_with fail
                      go_roundw
                      case rel => exact ⟨k + 1, _, _, rfl, rfl, by omega, by go_num, HO6.out⟩
                      case measure => simp [intOf]; omega
                    · rw [hwx] at r4 y4 hY
                      rw [hgx] at r2 y2 hY
                      clear hwx hgx
                      generalize x.uid = xu at *
                      generalize x.mod = xm at *
                      generalize x.rct = xr at *
                      go_upto_region 29 with fail
                      (try rw [hY])
                      clear hY r0 r1 r2 r3 r4 r5
                      go_wp2_with fail
                      go_roundw
                      case rel => exact ⟨k + 1, _, _, rfl, rfl, by omega, by go_num, HO6.out⟩
                      case measure => simp [intOf]; omega
                · obtain rfl : k = QQ.length := by omega
                  have HFin : Hid (TkOut nn P val true R C recent (fpR P rv cv R) w (.returned tv2) Z) := Lib.hid (by
                    have ho4 := hT.view
                    rw [atKR_end] at ho4
                    have hto := hT.told
                    have hfl := hT.fls
                    rw [List.take_length] at hto hfl
                    have hfo := hT.fo
                    rw [atKR_end] at hfo
                    exact take_done HFo.out HTvn.out HflT.out HSh5.out HQ5.out HPl.out ho4 hto hfl hfo (HQA.out.symm))
                  clear hT
                  go_wp2_with fail
                  go_ret
                  exact HFin.out
end
end Go.Proofs.YtflkhnmggmfhfaaGreat
