/- The desk's event. -/
import Derived.Test.YtflkhnmggmfhfaaGreatD16g
import Derived.Deep.CutBlock
namespace Go.Proofs.YtflkhnmggmfhfaaGreat
open Go.RowKit

abbrev evL7 : Oper := { dst := some 52, op := Go.Op.call { callee := Go.Callee.builtin Go.Builtin.copy, args := #[Go.Operand.tmp 49, Go.Operand.tmp 51], argTypes := #[26, 26] }, type := 3, pos := "law.go:156", after := #[{ on := 3, ground := Go.Ground.data }, { on := 5, ground := Go.Ground.data }], guard := none }
abbrev evL28 : Oper := { dst := none, op := Go.Op.store 41 (Go.Operand.tmp 171) (Go.Operand.tmp 170), type := 0, pos := "law.go:174", after := #[{ on := 10, ground := Go.Ground.data }, { on := 9, ground := Go.Ground.data }, { on := 0, ground := Go.Ground.phase }, { on := 1, ground := Go.Ground.phase }, { on := 2, ground := Go.Ground.phase }, { on := 3, ground := Go.Ground.phase }, { on := 4, ground := Go.Ground.phase }, { on := 5, ground := Go.Ground.phase }, { on := 6, ground := Go.Ground.phase }, { on := 7, ground := Go.Ground.phase }, { on := 8, ground := Go.Ground.phase }, { on := 9, ground := Go.Ground.phase }], guard := none }
abbrev evL34 : Oper := { dst := none, op := Go.Op.store 58 (Go.Operand.tmp 224) (Go.Operand.tmp 223), type := 0, pos := "law.go:180", after := #[{ on := 22, ground := Go.Ground.data }, { on := 21, ground := Go.Ground.data }, { on := 0, ground := Go.Ground.phase }, { on := 1, ground := Go.Ground.phase }, { on := 2, ground := Go.Ground.phase }, { on := 3, ground := Go.Ground.phase }, { on := 4, ground := Go.Ground.phase }, { on := 5, ground := Go.Ground.phase }, { on := 6, ground := Go.Ground.phase }, { on := 7, ground := Go.Ground.phase }, { on := 8, ground := Go.Ground.phase }, { on := 9, ground := Go.Ground.phase }, { on := 10, ground := Go.Ground.phase }, { on := 11, ground := Go.Ground.phase }, { on := 12, ground := Go.Ground.phase }, { on := 13, ground := Go.Ground.phase }, { on := 14, ground := Go.Ground.phase }, { on := 15, ground := Go.Ground.phase }, { on := 16, ground := Go.Ground.phase }, { on := 17, ground := Go.Ground.phase }, { on := 18, ground := Go.Ground.phase }, { on := 19, ground := Go.Ground.phase }, { on := 20, ground := Go.Ground.phase }, { on := 21, ground := Go.Ground.phase }], guard := none }
abbrev evL35 : Oper := { dst := none, op := Go.Op.store 26 (Go.Operand.tmp 233) (Go.Operand.tmp 232), type := 0, pos := "law.go:182", after := #[{ on := 8, ground := Go.Ground.data }, { on := 7, ground := Go.Ground.data }, { on := 0, ground := Go.Ground.phase }, { on := 1, ground := Go.Ground.phase }, { on := 2, ground := Go.Ground.phase }, { on := 3, ground := Go.Ground.phase }, { on := 4, ground := Go.Ground.phase }, { on := 5, ground := Go.Ground.phase }, { on := 6, ground := Go.Ground.phase }, { on := 7, ground := Go.Ground.phase }], guard := none }
abbrev evL36 : Oper := { dst := none, op := Go.Op.store 31 (Go.Operand.tmp 242) (Go.Operand.tmp 241), type := 0, pos := "law.go:183", after := #[{ on := 8, ground := Go.Ground.data }, { on := 7, ground := Go.Ground.data }, { on := 0, ground := Go.Ground.phase }, { on := 1, ground := Go.Ground.phase }, { on := 2, ground := Go.Ground.phase }, { on := 3, ground := Go.Ground.phase }, { on := 4, ground := Go.Ground.phase }, { on := 5, ground := Go.Ground.phase }, { on := 6, ground := Go.Ground.phase }, { on := 7, ground := Go.Ground.phase }], guard := none }
set_option maxRecDepth 100000 in
set_option maxHeartbeats 16000000 in
theorem event_any {D : Nat} {v : DV} {c : DC} {w : World} (h : DK D v c w) (hdb : DB c) (e : EV) (us : List Int) (ms : List ME) (he : EvAt w e us ms) (huo : 0 < us.length → ∀ b, e.vu.ownBlock = some b → b ∉ fpD D v c.F) (hmo : MksOut (fpD D v c.F) e.vm ms) (hul : us.length ≤ 300) (hml : ms.length ≤ 300) (hfl : ∀ m ∈ ms, m.fl.length ≤ 6000) (hn0 : ∀ a k, e.vu = .slice a us.length k → us.length = 0 → a = none → k = 0) (heo : e.vn.oneCell' = true ∧ e.vb.oneCell' = true) :
    Calls Tryz.prog 13 #[.pointer (some ⟨D, 0, none⟩), .agg (evA e)] w (EvDone D c e us ms (fpD D v c.F) w) := by
  obtain ⟨W1, hW1⟩ : ∃ W1, w.alloc (.cells (evA e) 45) = W1 := ⟨_, rfl⟩
  obtain ⟨W2, hW2⟩ : ∃ W2, W1.alloc (.cells (evA EV0) 45) = W2 := ⟨_, rfl⟩
  have h1 : W1.heap[w.heap.size]? = some (.cells (evA e) 45 (0, 0)) := by rw [← hW1]; exact heap_new _ _
  have hb1 : Below w.heap.size w W1 := by rw [← hW1]; exact below_box (Below.refl _ _) (Nat.le_refl _) _
  have h2 : W2.heap[W1.heap.size]? = some (.cells (evA EV0) 45 (0, 0)) := by rw [← hW2]; exact heap_new _ _
  have hb12 : Below W1.heap.size W1 W2 := by rw [← hW2]; exact below_box (Below.refl _ _) (Nat.le_refl _) _
  have hb2 : Below w.heap.size w W2 := hb1.trans (hb12.mono hb1.size)
  have hbx : W2.heap[w.heap.size]? = some (.cells (evA e) 45 (0, 0)) := by rw [hb12.block _ (lt_of_heap h1)]; exact h1
  have hws : w.heap.size < W1.heap.size := lt_of_heap h1
  have hWs : W1.heap.size < W2.heap.size := lt_of_heap h2
  have HWz : Hid (W1.heap.size = w.heap.size + 1) := Lib.hid (by rw [← hW1]; simp)
  generalize hfp : fpD D v c.F = fp at *
  have hfw : ∀ b, b ∈ fp → b < w.heap.size := fun b hb => h.lt (by rw [hfp]; exact hb)
  have HBx : Hid (∀ (X : World) {f : List Nat}, FO fp f W2 X → X.heap[w.heap.size]? = some (.cells (evA e) 45 (0, 0)) ∧ X.heap[W1.heap.size]? = some (.cells (evA EV0) 45 (0, 0))) := Lib.hid (fun X f hf => ⟨by rw [hf.keep (by omega) (fun q => by have := hfw _ q; omega)]; exact hbx, by rw [hf.keep hWs (fun q => by have := hfw _ q; omega)]; exact h2⟩)
  have he2 := he.on hb2
  obtain ⟨au, cu, evu, _⟩ := he.uids
  obtain ⟨⟨am, cm, evm, _⟩, _⟩ := he.marks
  have HUs : Hid (∀ (X : World) {f : List Nat}, FO fp f W2 X → Nms X (.slice au us.length cu) us) := Lib.hid (fun X f hf => by
    have := he2.uids.past hf huo
    rw [evu] at this
    exact this)
  have HMs : Hid (∀ (X : World) {f : List Nat}, FO fp f W2 X → MksAt X (.slice am ms.length cm) ms) := Lib.hid (fun X f hf => by
    have := he2.marks.past hf hmo
    rw [evm] at this
    exact this)
  have hd : DS D v c fp W2 W2 := ⟨h.on hb2, by rw [hfp]; exact FO.refl _ _⟩
  have HE8 : Hid (∀ (X : World) {f : List Nat}, FO fp f W2 X → X.cell? ⟨w.heap.size, 8, none⟩ = some (.slice au us.length cu) ∧ X.cell? ⟨w.heap.size, 9, none⟩ = some (.slice am ms.length cm)) := Lib.hid (fun X f hf => by
    obtain ⟨_, _, _, _, _, q8, q9⟩ := evA_cells (HBx.out X hf).1
    rw [evu] at q8
    rw [evm] at q9
    exact ⟨q8, q9⟩)
  have HZ : Hid (us.length = 0 → au = none → cu = 0) := Lib.hid (hn0 au cu evu)
  have HLow := Lib.hid hfw
  have HNin : Hid (w.heap.size ∉ fp) := Lib.hid (fun q => by have := hfw _ q; omega)
  have HB2 := Lib.hid hb2
  have HDB := Lib.hid hdb
  have HFl := Lib.hid hfl
  have HHe := Lib.hid he
  have HEO := Lib.hid heo
  obtain ⟨e8, e9⟩ := HE8.out W2 hd.2
  obtain ⟨_, u1, _, _, _⟩ := hd.1.cells
  obtain ⟨ua, uc, eu⟩ := ownsRow_shape hd.1.uids
  have HEu := Lib.hid eu
  rw [eu] at u1
  have HD0 := Lib.hid (hd.on (Below.refl W2.heap.size W2).drew)
  have hcu := hdb.u
  have e8d : W2.drew.cell? ⟨w.heap.size, 8, none⟩ = some (.slice au us.length cu) := e8
  have u1d : W2.drew.cell? ⟨D, 1, none⟩ = some (.slice ua c.U.length uc) := u1
  obtain ⟨bx, hbxe⟩ : ∃ bx, w.heap.size = bx := ⟨_, rfl⟩
  have HBXe := Lib.hid hbxe
  have HW1 := Lib.hid hW1
  have HW2 := Lib.hid hW2
  clear heo h hdb he huo hmo hfl hn0 hW1 hW2 h1 hb1 h2 hb12 hbx hfw hd eu hfp evu evm hbxe he2
  go_enter Tryz.func13, Tryz.ntmps13
  go_upto_region 1 with fail
  (try rw [HW1.out])
  (try rw [show W1.alloc (.cells #[.int .i64 0, .int .i64 0, .int .i64 0, .int .i64 0, .int .i64 0, .string ⟨#[]⟩, .slice none 0 0, .slice none 0 0, .slice none 0 0, .slice none 0 0, .int .i64 0, .int .i64 0, .int .i64 0, .int .i64 0, .int .i64 0, .int .i64 0, .int .i64 0, .string ⟨#[]⟩] 45) = W2 from HW2.out])
  clear HW1 HW2
  go_region
  go_upto_if 21 with fail
  go_cut [30] (fun _ wx => ∃ (X : World) (v0 : DV) (g n cp : Nat) (U0 : List Int), X = wx ∧ v0.u = .slice (some ⟨g, 0, none⟩) n cp ∧ U0.length = n ∧ us.length + 3 ≤ n ∧ n ≤ 1000000 ∧ DS D v0 { c with U := U0 } fp W2 X)
  case first =>
    as_aux_lemma =>
      by_cases hc : c.U.length < us.length + 3
      · have hcz : (c.U.length : Int) < (us.length : Int) + 3 := by omega
        obtain ⟨n, hn⟩ : ∃ n, 2 * us.length + 20 = n := ⟨_, rfl⟩
        have hnz : (2 : Int) * (us.length : Int) + 20 = (n : Int) := by omega
        have hn1 : n ≤ 1000000 := by omega
        have hn3 : us.length + 3 ≤ n := by omega
        obtain ⟨W3, hmk, m4, mf, hd1⟩ := HD0.out.makeU n hn1
        rw [HEu.out] at m4
        have HD1 := Lib.hid hd1
        clear hd1 hn
        go_wp2_with fail
        go_meet
        case rel => exact ⟨_, _, _, n, _, _, rfl, rfl, by simp, hn3, hn1, HD1.out⟩
      · have hcz : ¬ (c.U.length : Int) < (us.length : Int) + 3 := by omega
        obtain ⟨g, hg⟩ : ∃ g, ua = some ⟨g, 0, none⟩ := by
          have hr := HD0.out.1.uids
          rcases hr.2 with ⟨_, h0⟩ | ⟨g, cap, cur, q, _⟩
          · omega
          · rw [HEu.out] at q
            injection q with q1
            exact ⟨g, q1⟩
        subst hg
        go_wp2_with fail
        go_meet
        case rel => exact ⟨_, v, g, c.U.length, uc, c.U, rfl, HEu.out, rfl, by omega, hcu, HD0.out⟩
  case rest =>
  obtain ⟨X1, v1, gU, nU, cU, U0, hX1, eU, hU0, hnU, hnU1, hd1⟩ := hcut
  subst hX1
  have HEU := Lib.hid eU
  have HU0 := Lib.hid hU0
  have HD1 := Lib.hid hd1
  clear eU hU0 hd1 HD0 HEu hcu e8 e9 u1 e8d u1d
  go_upto_region 4 with fail
  go_loopw [5] (fun i wr => ∃ (k : Nat) (X : World), X = wr ∧ k ≤ nU ∧ i = .int .i64 k ∧ DS D v1 { c with U := layK oneF U0 k } fp W2 X) (fun i _ => nU - (intOf i).toNat)
  case atStart => exact ⟨0, _, rfl, Nat.zero_le _, rfl, by rw [layK_zero]; exact HD1.out⟩
  case round =>
  obtain ⟨k, Y, hY, hk, rfl, hd⟩ := hrel
  subst hY
  obtain ⟨_, u1, _, _, _⟩ := hd.1.cells
  rw [HEU.out] at u1
  by_cases hlt : k < nU
  ·
    as_aux_lemma =>
      have hlti : (k : Int) < (nU : Int) := by omega
      obtain ⟨p1, pf, p3⟩ := hd.putU HEU.out (k := k) (by show k < (layK oneF U0 k).length; rw [layK_length _ _ (by rw [HU0.out]; exact hk), HU0.out]; exact hlt) 1
      have f1 := pf k
      have HP3 : Hid (DS D v1 { c with U := layK oneF U0 (k + 1) } fp W2 (Y.setCell ⟨gU, k, none⟩ (.int .i64 1))) := Lib.hid (by
        have e := layK_set oneF U0 (k := k) (by rw [HU0.out]; exact hlt)
        rw [← e]
        exact p3)
      clear hd pf p3
      generalize (({ c with U := layK oneF U0 k } : DC).U.getD k 0) = z1 at *
      go_wp2_with fail
      go_roundw
      case rel => exact ⟨k + 1, _, rfl, by omega, by go_num, HP3.out⟩
      case measure => simp [intOf]; omega
  · obtain rfl : k = nU := by omega
    obtain ⟨W3, hrun, hd3⟩ := (DS.on (v := v1) (c := { c with U := (List.range k).map oneF }) (by rw [← layK_ones HU0.out]; exact hd) (Below.refl Y.heap.size Y).drew).copyU HEU.out (HUs.out _ (hd.2.trans (FO.below (Below.refl Y.heap.size Y).drew))) HZ.out (by simp; omega)
    obtain ⟨y8, _⟩ := HE8.out Y hd.2
    obtain ⟨UU, hUU⟩ : ∃ UU, us ++ ((List.range k).map oneF).drop us.length = UU := ⟨_, rfl⟩
    have HUU := Lib.hid hUU
    have hd3' : DS D v1 { c with U := UU } fp W2 W3 := by rw [← hUU]; exact hd3
    have hUUl : UU.length = k := by rw [← hUU]; simp; omega
    obtain ⟨c1, hc1⟩ : ∃ c1 : DC, ({ c with U := UU } : DC) = c1 := ⟨_, rfl⟩
    rw [hc1] at hd3'
    have HC1 : Hid (c1.U = UU ∧ c1.M = c.M ∧ c1.S = c.S ∧ c1.F = c.F ∧ c1.K = c.K) := Lib.hid (by rw [← hc1]; exact ⟨rfl, rfl, rfl, rfl, rfl⟩)
    have HDB1 : Hid (DB c1) := Lib.hid (by rw [← hc1]; exact ⟨HDB.out.m, by show UU.length ≤ _; omega, HDB.out.k, HDB.out.f, HDB.out.s, HDB.out.l⟩)
    obtain ⟨_, _, k1, _, _⟩ := hd3'.1.cells
    obtain ⟨ka, kc, ek⟩ := ownsRow_shape hd3'.1.marks
    have HEk := Lib.hid ek
    rw [ek] at k1
    have HD3 := Lib.hid (hd3'.on (Below.refl W3.heap.size W3).drew)
    obtain ⟨_, e9⟩ := HE8.out W3 hd3'.2
    have e9d : W3.drew.cell? ⟨w.heap.size, 9, none⟩ = some (.slice am ms.length cm) := e9
    have k1d : W3.drew.cell? ⟨D, 2, none⟩ = some (.slice ka c1.K.length kc) := k1
    have hck := HDB1.out.k
    have hnU1 : k ≤ 1000000 := hnU1
    have hnU : us.length + 3 ≤ k := hnU
    clear hd hd3 hd3' hUU hc1 ek HU0 HD1
    go_upto_region 7 with fail
    have hrun2 := hrun
    refine wp_region_N 6 (fun X => X = Y.drew) (by kernel_rfl) ?_
    refine wpAnyN_take (i := 0) (oi := { dst := some 46, op := Go.Op.move (Go.Operand.tmp 0), type := 29, pos := "law.go:156", after := #[], guard := none }) (oL := evL7) (v := .pointer (some ⟨D, 0, none⟩)) rfl rfl (by kernel_rfl) (by kernel_rfl) (by kernel_rfl) (by kernel_rfl) (fun _ _ _ h => h) (Or.inl ⟨by kernel_rfl, ?_⟩) rfl ?_
    · (intro X hX; subst hX <;> (go_simp; try (with_reducible rfl)))
    (try simp only [Act.put, List.setIfInBounds_toArray, List.set_cons_zero, List.set_cons_succ])
    refine wpAnyN_take (i := 1) (oi := { dst := some 47, op := Go.Op.nilCheck (Go.Operand.tmp 46), type := 0, pos := "law.go:156", after := #[{ on := 0, ground := Go.Ground.data }], guard := none }) (oL := evL7) (v := .pointer (some ⟨D, 0, none⟩)) rfl rfl (by kernel_rfl) (by kernel_rfl) (by kernel_rfl) (by kernel_rfl) (fun _ _ _ h => h) (Or.inl ⟨by kernel_rfl, ?_⟩) rfl ?_
    · (intro X hX; subst hX <;> (go_simp; try (with_reducible rfl)))
    (try simp only [Act.put, List.setIfInBounds_toArray, List.set_cons_zero, List.set_cons_succ])
    refine wpAnyN_take (i := 2) (oi := { dst := some 48, op := Go.Op.fieldAddr 35 (Go.Operand.tmp 47) 1, type := 0, pos := "law.go:156", after := #[{ on := 1, ground := Go.Ground.data }], guard := none }) (oL := evL7) (v := .pointer (some ⟨D, 1, none⟩)) rfl rfl (by kernel_rfl) (by kernel_rfl) (by kernel_rfl) (by kernel_rfl) (fun _ _ _ h => h) (Or.inl ⟨by kernel_rfl, ?_⟩) rfl ?_
    · (intro X hX; subst hX <;> (go_simp; try (with_reducible rfl)))
    (try simp only [Act.put, List.setIfInBounds_toArray, List.set_cons_zero, List.set_cons_succ])
    refine wpAnyN_take (i := 3) (oi := { dst := some 49, op := Go.Op.load 26 (Go.Operand.tmp 48), type := 26, pos := "law.go:156", after := #[{ on := 2, ground := Go.Ground.data }], guard := none }) (oL := evL7) (v := .slice (some ⟨gU, 0, none⟩) k cU) rfl rfl (by kernel_rfl) (by kernel_rfl) (by kernel_rfl) (by kernel_rfl) (fun _ _ _ h => h) (Or.inl ⟨by kernel_rfl, ?_⟩) rfl ?_
    · (intro X hX; subst hX <;> (go_simp; try (with_reducible rfl)))
    (try simp only [Act.put, List.setIfInBounds_toArray, List.set_cons_zero, List.set_cons_succ])
    refine wpAnyN_take (i := 4) (oi := { dst := some 50, op := Go.Op.fieldAddr 45 (Go.Operand.tmp 3) 8, type := 0, pos := "law.go:156", after := #[], guard := none }) (oL := evL7) (v := .pointer (some ⟨w.heap.size, 8, none⟩)) rfl rfl (by kernel_rfl) (by kernel_rfl) (by kernel_rfl) (by kernel_rfl) (fun _ _ _ h => h) (Or.inl ⟨by kernel_rfl, ?_⟩) rfl ?_
    · (intro X hX; subst hX <;> (go_simp; try (with_reducible rfl)))
    (try simp only [Act.put, List.setIfInBounds_toArray, List.set_cons_zero, List.set_cons_succ])
    refine wpAnyN_take (i := 5) (oi := { dst := some 51, op := Go.Op.load 26 (Go.Operand.tmp 50), type := 26, pos := "law.go:156", after := #[{ on := 4, ground := Go.Ground.data }], guard := none }) (oL := evL7) (v := .slice au us.length cu) rfl rfl (by kernel_rfl) (by kernel_rfl) (by kernel_rfl) (by kernel_rfl) (fun _ _ _ h => h) (Or.inl ⟨by kernel_rfl, ?_⟩) rfl ?_
    · (intro X hX; subst hX <;> (go_simp; try (with_reducible rfl)))
    (try simp only [Act.put, List.setIfInBounds_toArray, List.set_cons_zero, List.set_cons_succ])
    refine wpAnyN_one (i := 6) (o := { dst := some 52, op := Go.Op.call { callee := Go.Callee.builtin Go.Builtin.copy, args := #[Go.Operand.tmp 49, Go.Operand.tmp 51], argTypes := #[26, 26] }, type := 3, pos := "law.go:156", after := #[{ on := 3, ground := Go.Ground.data }, { on := 5, ground := Go.Ground.data }], guard := none }) (by kernel_rfl) rfl (fun K hK => ?_)
    go_simp
    refine hK.out _ _ (fun e => absurd (e.symm.trans (by kernel_rfl) : false = true) Bool.false_ne_true) ?_
    clear hK K
    (try simp only [Act.put, List.setIfInBounds_toArray, List.set_cons_zero, List.set_cons_succ])
    refine wpAnyN_of_H (S' := fun _ => True) _ _ _ _ (by kernel_rfl) ?_
    refine wpAnyH_done (by kernel_rfl) ?_ _
    clear hrun hrun2 y8 u1
    go_upto_region 8 with fail
    go_region
    go_upto_if 62 with fail
    go_cut [71] (fun _ wx => ∃ (X : World) (v0 : DV) (g n cp : Nat) (K0 : List (Int × Value)), X = wx ∧ v0.u = .slice (some ⟨gU, 0, none⟩) k cU ∧ v0.k = .slice (some ⟨g, 0, none⟩) n cp ∧ K0.length = n ∧ ms.length + 3 ≤ n ∧ n ≤ 1000000 ∧ DS D v0 { c1 with K := K0 } fp W2 X)
    case first =>
      as_aux_lemma =>
        by_cases hc : c1.K.length < ms.length + 3
        · have hcz : (c1.K.length : Int) < (ms.length : Int) + 3 := by omega
          obtain ⟨n, hn⟩ : ∃ n, 2 * ms.length + 20 = n := ⟨_, rfl⟩
          have hnz : (2 : Int) * (ms.length : Int) + 20 = (n : Int) := by omega
          have hn1 : n ≤ 1000000 := by omega
          have hn3 : ms.length + 3 ≤ n := by omega
          obtain ⟨W5, hmk, m4, mf, hd5⟩ := HD3.out.makeK n hn1
          rw [HEk.out] at m4
          have HD5 := Lib.hid hd5
          clear hd5 hn
          go_wp2_with fail
          go_meet
          case rel => exact ⟨_, { v1 with k := .slice (some ⟨W3.drew.heap.size, 0, none⟩) n n }, _, n, _, List.replicate n (0, .slice none 0 0), rfl, HEU.out, rfl, by simp, hn3, hn1, HD5.out⟩
        · have hcz : ¬ (c1.K.length : Int) < (ms.length : Int) + 3 := by omega
          obtain ⟨g, hg⟩ : ∃ g, ka = some ⟨g, 0, none⟩ := by
            have hr := HD3.out.1.marks
            rcases hr.2 with ⟨_, h0⟩ | ⟨g, cap, cur, q, _⟩
            · omega
            · rw [HEk.out] at q
              injection q with q1
              exact ⟨g, q1⟩
          subst hg
          go_wp2_with fail
          go_meet
          case rel => exact ⟨_, v1, g, c1.K.length, kc, c1.K, rfl, HEU.out, HEk.out, rfl, by omega, hck, HD3.out⟩
    case rest =>
    obtain ⟨X2, v2, gK, nK, cK, K0, hX2, eU2, eK2, hK0, hnK, hnK1, hd2⟩ := hcut
    subst hX2
    have HEU2 := Lib.hid eU2
    have HEK2 := Lib.hid eK2
    have HK0 := Lib.hid hK0
    obtain ⟨c2, hc2⟩ : ∃ c2 : DC, ({ c1 with K := K0 } : DC) = c2 := ⟨_, rfl⟩
    rw [hc2] at hd2
    have HC2 : Hid (c2.U = UU ∧ c2.M = c.M ∧ c2.S = c.S ∧ c2.K = K0) := Lib.hid (by rw [← hc2]; exact ⟨HC1.out.1, HC1.out.2.1, HC1.out.2.2.1, rfl⟩)
    have HDB2 : Hid (DB c2) := Lib.hid (by rw [← hc2]; exact ⟨HDB1.out.m, HDB1.out.u, by show K0.length ≤ _; omega, HDB1.out.f, HDB1.out.s, HDB1.out.l⟩)
    have HD2 := Lib.hid hd2
    clear hd2 hc2 eU2 eK2 hK0 HC1 HDB1 HEk HD3 e9 e9d k1 k1d hck HEU
    obtain ⟨nU, hnUe⟩ : ∃ nU, k = nU := ⟨_, rfl⟩
    subst hnUe
    go_upto_region 10 with fail
    go_loopg [89] (ms.length + 1) (fun gg _ wr => ∃ (X : World) (v3 : DV) (F3 : List FE), X = wr ∧ v3.u = .slice (some ⟨gU, 0, none⟩) k cU ∧ v3.k = .slice (some ⟨gK, 0, none⟩) nK cK ∧ F3.length ≤ 1000000 ∧ (∀ f ∈ F3, f.l.length ≤ 1000000) ∧ ms.length - F3.length < gg ∧ DS D v3 { c2 with F := F3 } fp W2 X)
    case atStart => exact ⟨_, v2, c2.F, rfl, HEU2.out, HEK2.out, HDB2.out.f, HDB2.out.l, by omega, HD2.out⟩
    case round =>
    obtain ⟨Y, v3, F3, hY, eU3, eK3, hF3, hF3l, hgg, hd⟩ := hrel
    subst hY
    obtain ⟨_, _, _, f1, _⟩ := hd.1.cells
    obtain ⟨fa3, fc3, ef⟩ := ownsRow_shape hd.1.flags
    have HEf := Lib.hid ef
    rw [ef] at f1
    obtain ⟨_, e9⟩ := HE8.out Y hd.2
    have e9d : Y.drew.cell? ⟨w.heap.size, 9, none⟩ = some (.slice am ms.length cm) := e9
    have f1d : Y.drew.cell? ⟨D, 3, none⟩ = some (.slice fa3 F3.length fc3) := f1
    have HEU3 := Lib.hid eU3
    have HEK3 := Lib.hid eK3
    have HF3l := Lib.hid hF3l
    have HGg := Lib.hid hgg
    by_cases hlt : F3.length < ms.length
    ·
      as_aux_lemma =>
        have hlti : (F3.length : Int) < (ms.length : Int) := by omega
        have hdd := hd.on (Below.refl Y.heap.size Y).drew
        obtain ⟨a4, c4, W4, r4, s4, h4, f4⟩ := hdd.1.addF (by show F3.length + 1 ≤ _; omega)
        have HD4 : Hid (DS D { v3 with f := .slice a4 (F3.length + 1) c4 } { c2 with F := F3 ++ [⟨.slice none 0 0, []⟩] } fp W2 (W4.setCell ⟨D, 3, none⟩ (.slice a4 (F3.length + 1) c4))) := Lib.hid ⟨h4, hdd.2.trans f4⟩
        have d3 := cell_of s4 3
        have g3 := frozen_of s4 3
        have r4' := r4
        rw [HEf.out] at r4'
        have R4 := Lib.hid r4'
        have HLe : Hid (ms.length - (F3.length + 1) < ms.length - F3.length) := Lib.hid (by omega)
        have HF4 : Hid (F3.length + 1 ≤ 1000000) := Lib.hid (by omega)
        rw [HEf.out] at s4
        have d3' : W4.cell? ⟨D, 3, none⟩ = some (.slice fa3 F3.length fc3) := cell_of s4 3
        clear hd hdd h4 f4 r4 r4' s4 ef d3 eU3 eK3 hF3l
        go_upto_region 10 with fail
        go_region
        generalize hYd : Y.drew = Y2 at *
        go_wp2_with (at_builtin; refine append_by_run (u := .slice fa3 F3.length fc3) (v := .slice (some ⟨Y2.heap.size, 0, none⟩) 1 1) rfl _ _ _ rfl 32 rfl rfl rfl _ _ R4.out ?_)
        go_roundg (ms.length - F3.length)
        case measure => exact HGg.out
        case rel => exact ⟨_, { v3 with f := .slice a4 (F3.length + 1) c4 }, F3 ++ [⟨.slice none 0 0, []⟩], rfl, HEU3.out, HEK3.out, by rw [List.length_append]; exact HF4.out, fun f hf => (by
          rcases List.mem_append.1 hf with hf | hf
          · exact HF3l.out f hf
          · simp at hf; subst hf; simp), by rw [List.length_append]; exact HLe.out, HD4.out⟩
    · have hlti : ¬ (F3.length : Int) < (ms.length : Int) := by omega
      have HD4 := Lib.hid (hd.on (Below.refl Y.heap.size Y).drew)
      obtain ⟨nF, hnF⟩ : ∃ nF, F3.length = nF := ⟨_, rfl⟩
      have hmF : ms.length ≤ nF := by omega
      have hnF1 : nF ≤ 1000000 := by omega
      have HNF := Lib.hid hnF
      clear hd ef eU3 eK3 hF3l hgg
      go_upto_region 10 with fail
      go_region
      generalize hYd : Y.drew = Y2 at *
      have HYd := Lib.hid hYd
      clear hYd e9 f1
      rw [hnF] at f1d hlti
      have HEf2 : Hid (v3.f = .slice fa3 nF fc3) := Lib.hid (by rw [← hnF]; exact HEf.out)
      clear HEf hnF
      clear HGg
      have HD5 : Hid (DS D v3 { c2 with F := F3 } fp W2 Y2) := HD4
      clear HD4 HYd
      obtain ⟨c3, hc3⟩ : ∃ c3 : DC, ({ c2 with F := F3 } : DC) = c3 := ⟨_, rfl⟩
      have HC3 : Hid (c3.U = UU ∧ c3.M = c.M ∧ c3.S = c.S ∧ c3.K = K0 ∧ c3.F = F3) := Lib.hid (by rw [← hc3]; exact ⟨HC2.out.1, HC2.out.2.1, HC2.out.2.2.1, HC2.out.2.2.2, rfl⟩)
      have HDB3 : Hid (DB c3) := Lib.hid (by rw [← hc3]; exact ⟨HDB2.out.m, HDB2.out.u, HDB2.out.k, hF3, HDB2.out.s, HF3l.out⟩)
      rw [hc3] at HD5
      clear hc3 HC2 HDB2 HD2 hF3
      go_upto_region 13 with fail
      go_loopw [6] (fun i wr => ∃ (k : Nat) (X : World), X = wr ∧ k ≤ nK ∧ i = .int .i64 k ∧ DS D v3 { c3 with K := layK twoF K0 k } fp W2 X) (fun i _ => nK - (intOf i).toNat)
      case atStart => exact ⟨0, _, rfl, Nat.zero_le _, rfl, by rw [layK_zero]; have := HD5.out; rw [show c3 = { c3 with K := K0 } by rw [← HC3.out.2.2.2.1]] at this; exact this⟩
      case round =>
      obtain ⟨j, Z, hZ, hj, rfl, hd⟩ := hrel
      subst hZ
      obtain ⟨_, _, k1, _, _⟩ := hd.1.cells
      rw [HEK3.out] at k1
      by_cases hlt2 : j < nK
      ·
        as_aux_lemma =>
          have hlti2 : (j : Int) < (nK : Int) := by omega
          obtain ⟨p0, hp0⟩ : ∃ p0, (layK twoF K0 j)[j]? = some p0 := ⟨_, List.getElem?_eq_getElem (by rw [layK_length _ _ (by rw [HK0.out]; exact hj), HK0.out]; exact hlt2)⟩
          obtain ⟨p1, p2, pf, p3⟩ := hd.putK HEK3.out hp0 (2, .slice none 0 0)
          have g1 := pf (j * 2)
          have g2 := pf (j * 2 + 1)
          have HP3 : Hid (DS D v3 { c3 with K := layK twoF K0 (j + 1) } fp W2 ((Z.setCell ⟨gK, j * 2, none⟩ (.int .i64 2)).setCell ⟨gK, j * 2 + 1, none⟩ (.slice none 0 0))) := Lib.hid (by
            have e := layK_set twoF K0 (k := j) (by rw [HK0.out]; exact hlt2)
            rw [← e]
            exact p3)
          clear hd pf p3 hp0
          generalize p0.1 = z1 at *
          generalize p0.2 = z2 at *
          go_wp2_with fail
          go_roundw
          case rel => exact ⟨j + 1, _, rfl, by omega, by go_num, HP3.out⟩
          case measure => simp [intOf]; omega
      · obtain rfl : j = nK := by omega
        obtain ⟨c4, hc4⟩ : ∃ c4 : DC, ({ c3 with K := (List.range j).map twoF } : DC) = c4 := ⟨_, rfl⟩
        have HC4 : Hid (c4.U = UU ∧ c4.M = c.M ∧ c4.S = c.S ∧ c4.K = (List.range j).map twoF ∧ c4.F = F3) := Lib.hid (by rw [← hc4]; exact ⟨HC3.out.1, HC3.out.2.1, HC3.out.2.2.1, rfl, HC3.out.2.2.2.2⟩)
        have HDB4 : Hid (DB c4) := Lib.hid (by rw [← hc4]; exact ⟨HDB3.out.m, HDB3.out.u, by show ((List.range j).map twoF).length ≤ _; simp; omega, HDB3.out.f, HDB3.out.s, HDB3.out.l⟩)
        have HD6 : Hid (DS D v3 c4 fp W2 Z) := Lib.hid (by
          have e := layK_full twoF K0
          rw [HK0.out] at e
          rw [← hc4, ← e]
          exact hd)
        clear hd hc4 HC3 HDB3 HD5 HK0
        go_upto_region 17 with fail
        clear k1
        go_loopw [7] (fun i wr => ∃ (q : Nat) (X : World) (F5 : List FE), X = wr ∧ q ≤ nF ∧ i = .int .i64 q ∧ F5.length = nF ∧ (∀ f ∈ F5, f.l.length ≤ 1000000) ∧ DS D v3 { c4 with F := F5 } fp W2 X) (fun i _ => nF - (intOf i).toNat)
        case atStart => exact ⟨0, _, F3, rfl, Nat.zero_le _, rfl, HNF.out, HF3l.out, by have := HD6.out; rw [show c4 = { c4 with F := F3 } by rw [← HC4.out.2.2.2.2]] at this; exact this⟩
        case round =>
        obtain ⟨q, Z2, F5, hZ2, hq, rfl, hF5, hF5l, hd⟩ := hrel
        subst hZ2
        obtain ⟨_, _, _, f3, _⟩ := hd.1.cells
        rw [HEf2.out] at f3
        by_cases hlt3 : q < nF
        ·
          as_aux_lemma =>
            have hlti3 : (q : Int) < (nF : Int) := by omega
            obtain ⟨f, hf⟩ : ∃ f, F5[q]? = some f := ⟨_, List.getElem?_eq_getElem (by omega)⟩
            obtain ⟨fa, fcp, efv, hfg⟩ := hd.shapeF hf
            have hfl5 := hF5l f (List.mem_of_getElem? hf)
            have HF5 := Lib.hid hF5
            have HF5l := Lib.hid hF5l
            have HD7 := Lib.hid hd
            have HHf := Lib.hid hf
            have HFg := Lib.hid hfg
            have HEfv := Lib.hid efv
            obtain ⟨nl, hnl⟩ : ∃ nl, f.l.length = nl := ⟨_, rfl⟩
            have HNl := Lib.hid hnl
            rw [hnl] at hfl5
            clear hd hf hfg hF5l hnl efv hF5
            go_upto_region 20 with fail
            go_loopw [8] (fun i wr => ∃ (t : Nat) (X : World) (l5 : List ByteArray), X = wr ∧ t ≤ nl ∧ i = .int .i64 t ∧ l5.length = nl ∧ DS D v3 { c4 with F := F5.set q ⟨f.v, l5⟩ } fp W2 X) (fun i _ => nl - (intOf i).toNat)
            case atStart => exact ⟨0, _, f.l, rfl, Nat.zero_le _, rfl, HNl.out, by
              have e : F5.set q ⟨f.v, f.l⟩ = F5 := by
                apply List.ext_getElem?
                intro i
                rw [List.getElem?_set]
                split
                · rename_i e; subst e; rw [if_pos (by rw [HF5.out]; exact hlt3), HHf.out]
                · rfl
              rw [e]
              exact HD7.out⟩
            case round =>
            obtain ⟨t, Z3, l5, hZ3, ht, rfl, hl5, hd⟩ := hrel
            subst hZ3
            have hset : (F5.set q (⟨f.v, l5⟩ : FE))[q]? = some ⟨f.v, l5⟩ := by rw [List.getElem?_set_self (by rw [HF5.out]; exact hlt3)]
            obtain ⟨gF, cF, eF, fc, _, hgD, hfb⟩ := hd.atF hset
            obtain ⟨_, _, _, f4, _⟩ := hd.1.cells
            rw [HEf2.out] at f4 eF
            have efl : (({ c4 with F := F5.set q ⟨f.v, l5⟩ } : DC).F).length = nF := by show (F5.set q _).length = nF; rw [List.length_set]; exact HF5.out
            rw [efl] at eF
            injection eF with pF _ _
            subst pF
            have fc2 : Z3.cell? ⟨gF, q, none⟩ = some (.slice fa nl fcp) := by rw [← HNl.out, ← HEfv.out]; exact fc
            by_cases hlt4 : t < nl
            · have hlti4 : (t : Int) < (nl : Int) := by omega
              obtain ⟨g, hg⟩ := HFg.out (by rw [HNl.out]; omega)
              subst hg
              obtain ⟨p1, g1, p3⟩ := hd.putT hset (k := t) (g := g) (n := nl) (cp := fcp) (by rw [← HNl.out]; exact HEfv.out) (by show t < l5.length; omega) overB
              have HP3 : Hid (DS D v3 { c4 with F := F5.set q ⟨f.v, l5.set t overB⟩ } fp W2 (Z3.setCell ⟨g, t, none⟩ (.string overB))) := Lib.hid (by
                have := p3
                simp only [List.set_set] at this
                exact this)
              have hl6 : Hid ((l5.set t overB).length = nl) := Lib.hid (by rw [List.length_set]; exact hl5)
              clear hd p3 hset fc efl hl5
              generalize l5.getD t ByteArray.empty = z1 at *
              unfold overB at HP3
              go_wp2_with fail
              go_roundw
              case rel => exact ⟨t + 1, _, l5.set t overB, rfl, by omega, by go_num, hl6.out, HP3.out⟩
              case measure => simp [intOf]; omega
            · obtain rfl : t = nl := by omega
              have HD8 := Lib.hid hd
              have hl6 : Hid (l5.length ≤ 1000000) := Lib.hid (by omega)
              clear hd hset fc efl
              go_wp2_with fail
              go_roundw
              case rel => exact ⟨q + 1, _, F5.set q ⟨f.v, l5⟩, rfl, by omega, by go_num, by rw [List.length_set]; exact HF5.out, fun f2 hf2 => (by
                rcases List.mem_or_eq_of_mem_set hf2 with hm | rfl
                · exact HF5l.out f2 hm
                · exact hl6.out), HD8.out⟩
              case measure => simp [intOf]; omega
        · obtain rfl : q = nF := by omega
          have HF5 := Lib.hid hF5
          have HF5l := Lib.hid hF5l
          have HD7 := Lib.hid hd
          clear hd hF5 hF5l HD6 HF3l HNF
          go_upto_region 24 with fail
          clear f3
          go_loopw [9] (fun ii wr => ∃ (i : Nat) (X : World), X = wr ∧ i ≤ ms.length ∧ ii = .int .i64 i ∧ EvS D v3 c4 q j ms fp W2 i X) (fun ii _ => ms.length - (intOf ii).toNat)
          case atStart => exact ⟨0, _, rfl, Nat.zero_le _, rfl, F5, (List.range j).map twoF, HF5.out, by simp, HF5l.out, fun t ht => absurd ht (by omega), fun t _ ht => range_at twoF ht, by have := HD7.out; rw [show ({ c4 with F := F5 } : DC) = { c4 with F := F5, K := (List.range j).map twoF } by rw [← HC4.out.2.2.2.1]] at this; exact this⟩
          case round =>
          obtain ⟨i, Y6, hY6, hi, rfl, F6, K6, hF6, hK6, hF6l, hgood, hrest, hd⟩ := hrel
          subst hY6
          obtain ⟨_, e9⟩ := HE8.out Y6 hd.2
          have HF6 := Lib.hid hF6
          have HK6 := Lib.hid hK6
          have HF6l := Lib.hid hF6l
          have HGood := Lib.hid hgood
          have HRest := Lib.hid hrest
          clear HF5 HF5l HD7 hF6 hK6 hF6l hgood hrest
          by_cases hlt6 : i < ms.length
          ·
            have hlti6 : (i : Int) < (ms.length : Int) := by omega
            have hiq : (i : Int) < (q : Int) := by omega
            have hij : (i : Int) < (j : Int) := by omega
            obtain ⟨m, hm⟩ : ∃ m, ms[i]? = some m := ⟨_, List.getElem?_eq_getElem hlt6⟩
            have hmm : m ∈ ms := List.mem_of_getElem? hm
            have hmf := HFl.out m hmm
            obtain ⟨⟨a9, c9, e9e, hx9⟩, hfl9⟩ := HMs.out Y6 hd.2
            obtain ⟨gm, om, ea9, hgm, hcc9⟩ := hx9 (by omega)
            injection e9e with pe1 _ pe3
            subst pe1 pe3
            have hgd : ms.getD i ⟨0, none, 0, []⟩ = m := by rw [List.getD_eq_getElem?_getD, hm]; rfl
            obtain ⟨z1, z2⟩ := hcc9 i hlt6
            rw [hgd] at z1 z2
            rw [show m.fv = .slice m.fa m.fl.length m.fc from rfl] at z2
            subst ea9
            have HFlA := Lib.hid (hfl9 m hmm)
            obtain ⟨f, hf⟩ : ∃ f, F6[i]? = some f := ⟨_, List.getElem?_eq_getElem (by rw [HF6.out]; omega)⟩
            obtain ⟨gF, cF, eF, fc, ffz, hgD, hfb⟩ := hd.atF (c := { c4 with F := F6, K := K6 }) hf
            obtain ⟨_, _, _, f4, _⟩ := hd.1.cells
            rw [HEf2.out] at f4 eF
            have efl : (({ c4 with F := F6, K := K6 } : DC).F).length = q := HF6.out
            rw [efl] at eF
            injection eF with pF _ pF3
            subst pF pF3
            obtain ⟨fa, fcp, efv, hfg⟩ := hd.shapeF (c := { c4 with F := F6, K := K6 }) hf
            have HD7 := Lib.hid hd
            have HHf := Lib.hid hf
            have HM := Lib.hid hm
            have HEfv := Lib.hid efv
            obtain ⟨nl, hnl⟩ : ∃ nl, f.l.length = nl := ⟨_, rfl⟩
            have HNl := Lib.hid hnl
            rw [efv, hnl] at fc
            have hnl1 : nl ≤ 1000000 := by rw [← hnl]; exact HF6l.out f (List.mem_of_getElem? hf)
            clear hd hf hm hmm hfl9 hx9 hcc9 hgd efl hnl efv
            go_upto_if 160 with fail
            go_cut [171] (fun _ wx => ∃ X, X = wx ∧ EvC D v3 c4 q i m F6 K6 fp W2 X)
            case first =>
              as_aux_lemma =>
                by_cases hc : nl < m.fl.length + 3
                · have hcz : (nl : Int) < (m.fl.length : Int) + 3 := by omega
                  obtain ⟨n, hn⟩ : ∃ n, 2 * m.fl.length + 8 = n := ⟨_, rfl⟩
                  have hnz : (2 : Int) * (m.fl.length : Int) + 8 = (n : Int) := by omega
                  have hn1 : n ≤ 1000000 := by omega
                  have hn3 : m.fl.length + 3 ≤ n := by omega
                  have hdd := HD7.out.on (Below.refl Y6.heap.size Y6).drew
                  have hi6 : i < F6.length := by rw [HF6.out]; omega
                  obtain ⟨W6, hmk, hb6, hd6⟩ := hdd.makeT n hn1 (i := i) HEf2.out hi6
                  have f6 : W6.cell? ⟨D, 3, none⟩ = some (.slice (some ⟨gF, 0, none⟩) q fc3) := by
                    obtain ⟨_, _, _, q4, _⟩ := (hdd.1.on hb6).cells
                    rw [HEf2.out] at q4
                    exact q4
                  have fc6 : W6.cell? ⟨gF, i, none⟩ = some (.slice fa nl fcp) := by
                    obtain ⟨_, _, eF2, q5, q6, _⟩ := (hdd.on hb6).atF (c := { c4 with F := F6, K := K6 }) HHf.out
                    rw [HEf2.out] at eF2
                    injection eF2 with pp _ _
                    injection pp with pp
                    injection pp with pp _ _
                    subst pp
                    rw [q5, HEfv.out, HNl.out]
                  have fz6 : W6.frozen? ⟨gF, i, none⟩ = false := by
                    obtain ⟨_, _, eF2, q5, q6, _⟩ := (hdd.on hb6).atF (c := { c4 with F := F6, K := K6 }) HHf.out
                    rw [HEf2.out] at eF2
                    injection eF2 with pp _ _
                    injection pp with pp
                    injection pp with pp _ _
                    subst pp
                    exact q6
                  have HC : Hid (EvC D v3 c4 q i m F6 K6 fp W2 (W6.setCell ⟨gF, i, none⟩ (.slice (some ⟨Y6.drew.heap.size, 0, none⟩) n n))) := Lib.hid ⟨_, _, n, n, _, by rw [List.length_set]; exact HF6.out, List.getElem?_set_self hi6, by simp, hn3, hn1, fun f2 hf2 => (by
                    rcases List.mem_or_eq_of_mem_set hf2 with hm2 | rfl
                    · exact HF6l.out f2 hm2
                    · simp; exact hn1), fun t ht => (by rw [List.getElem?_set_ne (Ne.symm ht)]), hd6⟩
                  have hw1 : IntKind.i64.wrap (2 * (m.fl.length : Int)) = 2 * (m.fl.length : Int) := by simp only [IntKind.wrap, IntKind.signed, IntKind.bits]; simp; omega
                  have hw2 : IntKind.i64.wrap (n : Int) = (n : Int) := by simp only [IntKind.wrap, IntKind.signed, IntKind.bits]; simp; omega
                  have f4d : Y6.drew.cell? ⟨D, 3, none⟩ = some (.slice (some ⟨gF, 0, none⟩) q fc3) := f4
                  clear hdd hb6 hd6 hn
                  go_upto_region 28 with fail
                  have hmk2 := hmk
                  refine wp_region_N 11 (fun X => X = Y6.drew ∨ X = W6) (by kernel_rfl) ?_
                  refine wpAnyN_take (i := 0) (oi := { dst := some 161, op := Go.Op.move (Go.Operand.tmp 0), type := 29, pos := "law.go:174", after := #[], guard := none }) (oL := evL28) (v := .pointer (some ⟨D, 0, none⟩)) rfl rfl (by kernel_rfl) (by kernel_rfl) (by kernel_rfl) (by kernel_rfl) (fun _ _ _ h => h) (Or.inl ⟨by kernel_rfl, ?_⟩) (.inl rfl) ?_
                  · (intro X hX; rcases hX with rfl | rfl <;> (go_simp; try (with_reducible rfl)))
                  (try simp only [Act.put, List.setIfInBounds_toArray, List.set_cons_zero, List.set_cons_succ])
                  refine wpAnyN_take (i := 1) (oi := { dst := some 162, op := Go.Op.nilCheck (Go.Operand.tmp 161), type := 0, pos := "law.go:174", after := #[{ on := 0, ground := Go.Ground.data }], guard := none }) (oL := evL28) (v := .pointer (some ⟨D, 0, none⟩)) rfl rfl (by kernel_rfl) (by kernel_rfl) (by kernel_rfl) (by kernel_rfl) (fun _ _ _ h => h) (Or.inl ⟨by kernel_rfl, ?_⟩) (.inl rfl) ?_
                  · (intro X hX; rcases hX with rfl | rfl <;> (go_simp; try (with_reducible rfl)))
                  (try simp only [Act.put, List.setIfInBounds_toArray, List.set_cons_zero, List.set_cons_succ])
                  refine wpAnyN_take (i := 2) (oi := { dst := some 163, op := Go.Op.fieldAddr 35 (Go.Operand.tmp 162) 3, type := 0, pos := "law.go:174", after := #[{ on := 1, ground := Go.Ground.data }], guard := none }) (oL := evL28) (v := .pointer (some ⟨D, 3, none⟩)) rfl rfl (by kernel_rfl) (by kernel_rfl) (by kernel_rfl) (by kernel_rfl) (fun _ _ _ h => h) (Or.inl ⟨by kernel_rfl, ?_⟩) (.inl rfl) ?_
                  · (intro X hX; rcases hX with rfl | rfl <;> (go_simp; try (with_reducible rfl)))
                  (try simp only [Act.put, List.setIfInBounds_toArray, List.set_cons_zero, List.set_cons_succ])
                  refine wpAnyN_take (i := 3) (oi := { dst := some 164, op := Go.Op.load 32 (Go.Operand.tmp 163), type := 32, pos := "law.go:174", after := #[{ on := 2, ground := Go.Ground.data }], guard := none }) (oL := evL28) (v := .slice (some ⟨gF, 0, none⟩) q fc3) rfl rfl (by kernel_rfl) (by kernel_rfl) (by kernel_rfl) (by kernel_rfl) (fun _ _ _ h => h) (Or.inl ⟨by kernel_rfl, ?_⟩) (.inl rfl) ?_
                  · (intro X hX; rcases hX with rfl | rfl <;> (go_simp; try (with_reducible rfl)))
                  (try simp only [Act.put, List.setIfInBounds_toArray, List.set_cons_zero, List.set_cons_succ])
                  refine wpAnyN_take (i := 4) (oi := { dst := some 165, op := Go.Op.move (Go.Operand.tmp 9), type := 3, pos := "law.go:174", after := #[], guard := none }) (oL := evL28) (v := .int .i64 (i : Int)) rfl rfl (by kernel_rfl) (by kernel_rfl) (by kernel_rfl) (by kernel_rfl) (fun _ _ _ h => h) (Or.inl ⟨by kernel_rfl, ?_⟩) (.inl rfl) ?_
                  · (intro X hX; rcases hX with rfl | rfl <;> (go_simp; try (with_reducible rfl)))
                  (try simp only [Act.put, List.setIfInBounds_toArray, List.set_cons_zero, List.set_cons_succ])
                  refine wpAnyN_take (i := 5) (oi := { dst := some 166, op := Go.Op.move (Go.Operand.tmp 10), type := 41, pos := "law.go:174", after := #[], guard := none }) (oL := evL28) (v := .slice m.fa m.fl.length m.fc) rfl rfl (by kernel_rfl) (by kernel_rfl) (by kernel_rfl) (by kernel_rfl) (fun _ _ _ h => h) (Or.inl ⟨by kernel_rfl, ?_⟩) (.inl rfl) ?_
                  · (intro X hX; rcases hX with rfl | rfl <;> (go_simp; try (with_reducible rfl)))
                  (try simp only [Act.put, List.setIfInBounds_toArray, List.set_cons_zero, List.set_cons_succ])
                  refine wpAnyN_take (i := 6) (oi := { dst := some 167, op := Go.Op.call { callee := Go.Callee.builtin Go.Builtin.len, args := #[Go.Operand.tmp 166], argTypes := #[41] }, type := 3, pos := "law.go:174", after := #[{ on := 5, ground := Go.Ground.data }], guard := none }) (oL := evL28) (v := .int .i64 (m.fl.length : Int)) rfl rfl (by kernel_rfl) (by kernel_rfl) (by kernel_rfl) (by kernel_rfl) (fun _ _ _ h => h) (Or.inl ⟨by kernel_rfl, ?_⟩) (.inl rfl) ?_
                  · (intro X hX; rcases hX with rfl | rfl <;> (go_simp; try (with_reducible rfl)))
                  (try simp only [Act.put, List.setIfInBounds_toArray, List.set_cons_zero, List.set_cons_succ])
                  refine wpAnyN_take (i := 7) (oi := { dst := some 168, op := Go.Op.binOp Go.BinOp.mul 3 (Go.Operand.const (Go.Value.int Go.IntKind.i64 2)) (Go.Operand.tmp 167) 3, type := 3, pos := "law.go:174", after := #[{ on := 6, ground := Go.Ground.data }], guard := none }) (oL := evL28) (v := .int .i64 (2 * (m.fl.length : Int))) rfl rfl (by kernel_rfl) (by kernel_rfl) (by kernel_rfl) (by kernel_rfl) (fun _ _ _ h => h) (Or.inl ⟨by kernel_rfl, ?_⟩) (.inl rfl) ?_
                  · (intro X hX; rcases hX with rfl | rfl <;> (go_simp; try (with_reducible rfl)))
                  (try simp only [Act.put, List.setIfInBounds_toArray, List.set_cons_zero, List.set_cons_succ])
                  refine wpAnyN_take (i := 8) (oi := { dst := some 169, op := Go.Op.binOp Go.BinOp.add 3 (Go.Operand.tmp 168) (Go.Operand.const (Go.Value.int Go.IntKind.i64 8)) 3, type := 3, pos := "law.go:174", after := #[{ on := 7, ground := Go.Ground.data }], guard := none }) (oL := evL28) (v := .int .i64 (n : Int)) rfl rfl (by kernel_rfl) (by kernel_rfl) (by kernel_rfl) (by kernel_rfl) (fun _ _ _ h => h) (Or.inl ⟨by kernel_rfl, ?_⟩) (.inl rfl) ?_
                  · (intro X hX; rcases hX with rfl | rfl <;> (go_simp; try (with_reducible rfl)))
                  (try simp only [Act.put, List.setIfInBounds_toArray, List.set_cons_zero, List.set_cons_succ])
                  refine wpAnyN_one (i := 9) (o := { dst := some 170, op := Go.Op.makeSlice 41 (Go.Operand.tmp 169) (Go.Operand.tmp 169), type := 41, pos := "law.go:174", after := #[{ on := 8, ground := Go.Ground.data }, { on := 8, ground := Go.Ground.data }], guard := none }) (by kernel_rfl) rfl (fun K hK => ?_)
                  go_simp
                  refine hK.out _ _ (fun _ => (.inr rfl)) ?_
                  clear hK K
                  (try simp only [Act.put, List.setIfInBounds_toArray, List.set_cons_zero, List.set_cons_succ])
                  refine wpAnyN_take (i := 10) (oi := { dst := some 171, op := Go.Op.indexAddr 32 (Go.Operand.tmp 164) (Go.Operand.tmp 165), type := 0, pos := "law.go:174", after := #[{ on := 3, ground := Go.Ground.data }, { on := 4, ground := Go.Ground.data }, { on := 0, ground := Go.Ground.phase }, { on := 1, ground := Go.Ground.phase }, { on := 2, ground := Go.Ground.phase }, { on := 3, ground := Go.Ground.phase }, { on := 4, ground := Go.Ground.phase }, { on := 5, ground := Go.Ground.phase }, { on := 6, ground := Go.Ground.phase }, { on := 7, ground := Go.Ground.phase }, { on := 8, ground := Go.Ground.phase }, { on := 9, ground := Go.Ground.phase }], guard := none }) (oL := evL28) (v := .pointer (some ⟨gF, i, none⟩)) rfl rfl (by kernel_rfl) (by kernel_rfl) (by kernel_rfl) (by kernel_rfl) (fun _ _ _ h => h) (Or.inl ⟨by kernel_rfl, ?_⟩) (.inr rfl) ?_
                  · (intro X hX; rcases hX with rfl | rfl <;> (go_simp; try (with_reducible rfl)))
                  (try simp only [Act.put, List.setIfInBounds_toArray, List.set_cons_zero, List.set_cons_succ])
                  refine wpAnyN_one (i := 11) (o := { dst := none, op := Go.Op.store 41 (Go.Operand.tmp 171) (Go.Operand.tmp 170), type := 0, pos := "law.go:174", after := #[{ on := 10, ground := Go.Ground.data }, { on := 9, ground := Go.Ground.data }, { on := 0, ground := Go.Ground.phase }, { on := 1, ground := Go.Ground.phase }, { on := 2, ground := Go.Ground.phase }, { on := 3, ground := Go.Ground.phase }, { on := 4, ground := Go.Ground.phase }, { on := 5, ground := Go.Ground.phase }, { on := 6, ground := Go.Ground.phase }, { on := 7, ground := Go.Ground.phase }, { on := 8, ground := Go.Ground.phase }, { on := 9, ground := Go.Ground.phase }], guard := none }) (by kernel_rfl) rfl (fun K hK => ?_)
                  go_simp
                  refine hK.out _ _ (fun e => absurd (e.symm.trans (by kernel_rfl) : false = true) Bool.false_ne_true) ?_
                  clear hK K
                  (try simp only [Act.put, List.setIfInBounds_toArray, List.set_cons_zero, List.set_cons_succ])
                  refine wpAnyN_of_H (S' := fun _ => True) _ _ _ _ (by kernel_rfl) ?_
                  refine wpAnyH_done (by kernel_rfl) ?_ _
                  go_wp2_with fail
                  go_meet
                  case rel => exact ⟨_, rfl, HC.out⟩
                · have hcz : ¬ (nl : Int) < (m.fl.length : Int) + 3 := by omega
                  obtain ⟨g, hg⟩ := hfg (by rw [HNl.out]; omega)
                  subst hg
                  have HC : Hid (EvC D v3 c4 q i m F6 K6 fp W2 Y6) := Lib.hid ⟨F6, g, nl, fcp, f.l, HF6.out, by rw [HHf.out, ← HNl.out, ← HEfv.out], HNl.out, by omega, hnl1, HF6l.out, fun t _ => rfl, HD7.out⟩
                  go_wp2_with fail
                  go_meet
                  case rel => exact ⟨_, rfl, HC.out⟩
            case rest =>
            obtain ⟨X7, hX7, F7, g, n, cp, l7, hF7, hF7i, hl7, hn3, hn1, hF7l, hF7o, hd⟩ := hcut
            subst hX7
            have HF7 := Lib.hid hF7
            have HF7i := Lib.hid hF7i
            have HL7 := Lib.hid hl7
            have HF7l := Lib.hid hF7l
            have HF7o := Lib.hid hF7o
            have HD8 := Lib.hid hd
            have hi7 : i < F7.length := by rw [hF7]; omega
            have HSelf : Hid (F7.set i ⟨.slice (some ⟨g, 0, none⟩) n cp, l7⟩ = F7) := Lib.hid (by
              apply List.ext_getElem?
              intro t
              rw [List.getElem?_set]
              split
              · rename_i e; subst e; first | rw [if_pos hi7, hF7i] | rw [hF7i]
              · rfl)
            clear hF7 hF7i hl7 hF7l hF7o hd HD7 HHf HEfv HNl hnl1 e9 z1 z2 f4 fc ffz hfg hfb
            go_upto_region 30 with fail
            go_loopw [11] (fun ii wr => ∃ (t : Nat) (X : World), X = wr ∧ t ≤ n ∧ ii = .int .i64 t ∧ DS D v3 { c4 with F := F7.set i ⟨.slice (some ⟨g, 0, none⟩) n cp, layK overF l7 t⟩, K := K6 } fp W2 X) (fun ii _ => n - (intOf ii).toNat)
            case atStart => exact ⟨0, _, rfl, Nat.zero_le _, rfl, by rw [layK_zero, HSelf.out]; exact HD8.out⟩
            case round =>
            obtain ⟨t, Z3, hZ3, ht, rfl, hd⟩ := hrel
            subst hZ3
            have hset : (F7.set i (⟨.slice (some ⟨g, 0, none⟩) n cp, layK overF l7 t⟩ : FE))[i]? = some ⟨.slice (some ⟨g, 0, none⟩) n cp, layK overF l7 t⟩ := by rw [List.getElem?_set_self hi7]
            have atF : ∀ (Z : World) (l : List ByteArray), DS D v3 { c4 with F := F7.set i ⟨.slice (some ⟨g, 0, none⟩) n cp, l⟩, K := K6 } fp W2 Z → Z.cell? ⟨gF, i, none⟩ = some (.slice (some ⟨g, 0, none⟩) n cp) ∧ Z.cell? ⟨D, 3, none⟩ = some (.slice (some ⟨gF, 0, none⟩) q fc3) := fun Z l hz => by
              obtain ⟨_, _, eF2, q5, _, _⟩ := hz.atF (i := i) (f := ⟨.slice (some ⟨g, 0, none⟩) n cp, l⟩) (by show (F7.set i _)[i]? = _; rw [List.getElem?_set_self hi7])
              rw [HEf2.out] at eF2
              injection eF2 with pp _ _
              injection pp with pp
              injection pp with pp _ _
              subst pp
              obtain ⟨_, _, _, q4, _⟩ := hz.1.cells
              rw [HEf2.out] at q4
              exact ⟨q5, q4⟩
            obtain ⟨fcZ, f4Z⟩ := atF Z3 _ hd
            have HAtF := Lib.hid atF
            by_cases hlt7 : t < n
            ·
              as_aux_lemma =>
                have hlti7 : (t : Int) < (n : Int) := by omega
                have hll : (layK overF l7 t).length = n := by rw [layK_length _ _ (by rw [HL7.out]; exact ht), HL7.out]
                obtain ⟨p1, g1, p3⟩ := hd.putT (c := { c4 with F := F7.set i ⟨.slice (some ⟨g, 0, none⟩) n cp, layK overF l7 t⟩, K := K6 }) hset (k := t) (g := g) (n := n) (cp := cp) rfl (by show t < (layK overF l7 t).length; omega) overB
                have HP3 : Hid (DS D v3 { c4 with F := F7.set i ⟨.slice (some ⟨g, 0, none⟩) n cp, layK overF l7 (t + 1)⟩, K := K6 } fp W2 (Z3.setCell ⟨g, t, none⟩ (.string ⟨#[111, 118, 101, 114]⟩))) := Lib.hid (by
                  have e := layK_set overF l7 (k := t) (by rw [HL7.out]; exact hlt7)
                  have := p3
                  simp only [List.set_set] at this
                  rw [← e]
                  exact this)
                clear hd p3 hset atF hll
                generalize (layK overF l7 t).getD t ByteArray.empty = zz at *
                go_wp2_with fail
                go_roundw
                case rel => exact ⟨t + 1, _, rfl, by omega, by go_num, HP3.out⟩
                case measure => simp [intOf]; omega
            · obtain rfl : t = n := by omega
              as_aux_lemma =>
                obtain ⟨W8, hrun, hd8⟩ := hd.copyT (c := { c4 with F := F7.set i ⟨.slice (some ⟨g, 0, none⟩) t cp, layK overF l7 t⟩, K := K6 }) hset rfl m ((HMs.out Z3 hd.2).fls m (List.mem_of_getElem? HM.out)) (by show m.fl.length ≤ (layK overF l7 t).length; rw [layK_length _ _ (by rw [HL7.out]; exact Nat.le_refl _), HL7.out]; omega)
                rw [show m.fv = .slice m.fa m.fl.length m.fc from rfl] at hrun
                have hd9 : DS D v3 { c4 with F := F7.set i ⟨.slice (some ⟨g, 0, none⟩) t cp, m.fl ++ List.replicate (t - m.fl.length) overB⟩, K := K6 } fp W2 W8 := by
                  have := hd8
                  simp only [List.set_set] at this
                  rw [over_full HL7.out] at this
                  exact this
                obtain ⟨p0, hp0⟩ : ∃ p0, K6[i]? = some p0 := ⟨_, List.getElem?_eq_getElem (by rw [HK6.out]; omega)⟩
                have hdd := hd9.on (Below.refl W8.heap.size W8).drew
                obtain ⟨p1, p2, pf, p3⟩ := hd9.putK HEK3.out (c := { c4 with F := F7.set i ⟨.slice (some ⟨g, 0, none⟩) t cp, m.fl ++ List.replicate (t - m.fl.length) overB⟩, K := K6 }) hp0 (m.uid, .slice (some ⟨g, 0, none⟩) m.fl.length cp)
                have g1 := pf (i * 2)
                have g2 := pf (i * 2 + 1)
                have p1d : W8.drew.cell? ⟨gK, i * 2, none⟩ = some (.int .i64 p0.1) := p1
                have p2d : W8.drew.cell? ⟨gK, i * 2 + 1, none⟩ = some p0.2 := p2
                have g1d : W8.drew.frozen? ⟨gK, i * 2, none⟩ = false := g1
                have g2d : W8.drew.frozen? ⟨gK, i * 2 + 1, none⟩ = false := g2
                have hall := And.intro p1d (And.intro p2d (And.intro g1d g2d))
                clear hall
                obtain ⟨fc8, f48⟩ := HAtF.out _ _ hdd
                obtain ⟨_, _, k8, _, _⟩ := hdd.1.cells
                rw [HEK3.out] at k8
                obtain ⟨_, e98⟩ := HE8.out W8.drew hdd.2
                have hlc : (m.fl.length : Int) ≤ (cp : Int) := by
                  have hr := hd9.1.fls ⟨.slice (some ⟨g, 0, none⟩) t cp, m.fl ++ List.replicate (t - m.fl.length) overB⟩ (List.mem_of_getElem? (List.getElem?_set_self hi7))
                  rcases hr.2 with ⟨qq, _⟩ | ⟨g', cap', cur, qq, _, _, q1, _⟩
                  · cases qq
                  · injection qq with _ _ q3
                    subst q3
                    have hh : (m.fl ++ List.replicate (t - m.fl.length) overB).length = t := by simp; omega
                    have q1' : t ≤ cp := by rw [← hh]; exact q1
                    omega
                have hlt8 : (m.fl.length : Int) ≤ (t : Int) := by omega
                have hM8 : W8.drew.cell? ⟨gm, om + i * 2, none⟩ = some (.int .i64 m.uid) := by
                  obtain ⟨⟨a9, c9, e9e, hx9⟩, _⟩ := HMs.out W8.drew hdd.2
                  obtain ⟨gm2, om2, ea9, _, hcc9⟩ := hx9 (by omega)
                  injection e9e with pe1 _ _
                  rw [ea9] at pe1
                  injection pe1 with pe1
                  injection pe1 with pe1 pe2 _
                  subst pe1 pe2
                  have := (hcc9 i hlt6).1
                  rw [show ms.getD i ⟨0, none, 0, []⟩ = m by rw [List.getD_eq_getElem?_getD, HM.out]; rfl] at this
                  exact this
                have HP3 : Hid (EvS D v3 c4 q j ms fp W2 (i + 1) ((W8.setCell ⟨gK, i * 2, none⟩ (.int .i64 m.uid)).setCell ⟨gK, i * 2 + 1, none⟩ (.slice (some ⟨g, 0, none⟩) m.fl.length cp)).drew) := Lib.hid (by
                  refine ⟨_, _, by rw [List.length_set]; exact HF7.out, by rw [List.length_set]; exact HK6.out, fun f2 hf2 => ?_, fun t2 ht2 => ?_, fun t2 h1 h2 => ?_, p3.on (Below.refl _ _).drew⟩
                  · rcases List.mem_or_eq_of_mem_set hf2 with hm2 | rfl
                    · exact HF7l.out f2 hm2
                    · show (m.fl ++ List.replicate (t - m.fl.length) overB).length ≤ _
                      simp; omega
                  · by_cases e : t2 = i
                    · subst e
                      refine ⟨m, g, cp, t - m.fl.length, HM.out, ?_, by omega, ?_⟩
                      · rw [List.getElem?_set_self hi7, show m.fl.length + (t - m.fl.length) = t by omega]
                      · rw [List.getElem?_set_self (by rw [HK6.out]; omega)]
                    · exact (HGood.out t2 (by omega)).keep (by rw [List.getElem?_set_ne (Ne.symm e)]; exact HF7o.out t2 e) (by rw [List.getElem?_set_ne (Ne.symm e)])
                  · rw [List.getElem?_set_ne (by omega)]
                    exact HRest.out t2 (by omega) h2)
                clear hd hd8 hd9 hdd pf p3 hset hp0 atF
                generalize p0.1 = zz1 at *
                generalize p0.2 = zz2 at *
                go_upto_region 33 with fail
                have hrun2 := hrun
                go_upto_region 34 with fail
                clear hrun hrun2 fcZ f4Z
                refine wp_region_N 23 (fun X => X = W8.drew) (by kernel_rfl) ?_
                refine wpAnyN_take (i := 0) (oi := { dst := some 202, op := Go.Op.move (Go.Operand.tmp 0), type := 29, pos := "law.go:180", after := #[], guard := none }) (oL := evL34) (v := .pointer (some ⟨D, 0, none⟩)) rfl rfl (by kernel_rfl) (by kernel_rfl) (by kernel_rfl) (by kernel_rfl) (fun _ _ _ h => h) (Or.inl ⟨by kernel_rfl, ?_⟩) rfl ?_
                · (intro X hX; subst hX <;> (go_simp; try (with_reducible rfl)))
                (try simp only [Act.put, List.setIfInBounds_toArray, List.set_cons_zero, List.set_cons_succ])
                refine wpAnyN_take (i := 1) (oi := { dst := some 203, op := Go.Op.nilCheck (Go.Operand.tmp 202), type := 0, pos := "law.go:180", after := #[{ on := 0, ground := Go.Ground.data }], guard := none }) (oL := evL34) (v := .pointer (some ⟨D, 0, none⟩)) rfl rfl (by kernel_rfl) (by kernel_rfl) (by kernel_rfl) (by kernel_rfl) (fun _ _ _ h => h) (Or.inl ⟨by kernel_rfl, ?_⟩) rfl ?_
                · (intro X hX; subst hX <;> (go_simp; try (with_reducible rfl)))
                (try simp only [Act.put, List.setIfInBounds_toArray, List.set_cons_zero, List.set_cons_succ])
                refine wpAnyN_take (i := 2) (oi := { dst := some 204, op := Go.Op.fieldAddr 35 (Go.Operand.tmp 203) 2, type := 0, pos := "law.go:180", after := #[{ on := 1, ground := Go.Ground.data }], guard := none }) (oL := evL34) (v := .pointer (some ⟨D, 2, none⟩)) rfl rfl (by kernel_rfl) (by kernel_rfl) (by kernel_rfl) (by kernel_rfl) (fun _ _ _ h => h) (Or.inl ⟨by kernel_rfl, ?_⟩) rfl ?_
                · (intro X hX; subst hX <;> (go_simp; try (with_reducible rfl)))
                (try simp only [Act.put, List.setIfInBounds_toArray, List.set_cons_zero, List.set_cons_succ])
                refine wpAnyN_take (i := 3) (oi := { dst := some 205, op := Go.Op.load 31 (Go.Operand.tmp 204), type := 31, pos := "law.go:180", after := #[{ on := 2, ground := Go.Ground.data }], guard := none }) (oL := evL34) (v := .slice (some ⟨gK, 0, none⟩) j cK) rfl rfl (by kernel_rfl) (by kernel_rfl) (by kernel_rfl) (by kernel_rfl) (fun _ _ _ h => h) (Or.inl ⟨by kernel_rfl, ?_⟩) rfl ?_
                · (intro X hX; subst hX <;> (go_simp; try (with_reducible rfl)))
                (try simp only [Act.put, List.setIfInBounds_toArray, List.set_cons_zero, List.set_cons_succ])
                refine wpAnyN_take (i := 4) (oi := { dst := some 206, op := Go.Op.move (Go.Operand.tmp 9), type := 3, pos := "law.go:180", after := #[], guard := none }) (oL := evL34) (v := .int .i64 (i : Int)) rfl rfl (by kernel_rfl) (by kernel_rfl) (by kernel_rfl) (by kernel_rfl) (fun _ _ _ h => h) (Or.inl ⟨by kernel_rfl, ?_⟩) rfl ?_
                · (intro X hX; subst hX <;> (go_simp; try (with_reducible rfl)))
                (try simp only [Act.put, List.setIfInBounds_toArray, List.set_cons_zero, List.set_cons_succ])
                refine wpAnyN_take (i := 5) (oi := { dst := some 207, op := Go.Op.fieldAddr 45 (Go.Operand.tmp 3) 9, type := 0, pos := "law.go:180", after := #[], guard := none }) (oL := evL34) (v := .pointer (some ⟨w.heap.size, 9, none⟩)) rfl rfl (by kernel_rfl) (by kernel_rfl) (by kernel_rfl) (by kernel_rfl) (fun _ _ _ h => h) (Or.inl ⟨by kernel_rfl, ?_⟩) rfl ?_
                · (intro X hX; subst hX <;> (go_simp; try (with_reducible rfl)))
                (try simp only [Act.put, List.setIfInBounds_toArray, List.set_cons_zero, List.set_cons_succ])
                refine wpAnyN_take (i := 6) (oi := { dst := some 208, op := Go.Op.load 31 (Go.Operand.tmp 207), type := 31, pos := "law.go:180", after := #[{ on := 5, ground := Go.Ground.data }], guard := none }) (oL := evL34) (v := .slice (some ⟨gm, om, none⟩) ms.length cm) rfl rfl (by kernel_rfl) (by kernel_rfl) (by kernel_rfl) (by kernel_rfl) (fun _ _ _ h => h) (Or.inl ⟨by kernel_rfl, ?_⟩) rfl ?_
                · (intro X hX; subst hX <;> (go_simp; try (with_reducible rfl)))
                (try simp only [Act.put, List.setIfInBounds_toArray, List.set_cons_zero, List.set_cons_succ])
                refine wpAnyN_take (i := 7) (oi := { dst := some 209, op := Go.Op.move (Go.Operand.tmp 9), type := 3, pos := "law.go:180", after := #[], guard := none }) (oL := evL34) (v := .int .i64 (i : Int)) rfl rfl (by kernel_rfl) (by kernel_rfl) (by kernel_rfl) (by kernel_rfl) (fun _ _ _ h => h) (Or.inl ⟨by kernel_rfl, ?_⟩) rfl ?_
                · (intro X hX; subst hX <;> (go_simp; try (with_reducible rfl)))
                (try simp only [Act.put, List.setIfInBounds_toArray, List.set_cons_zero, List.set_cons_succ])
                refine wpAnyN_take (i := 8) (oi := { dst := some 210, op := Go.Op.indexAddr 31 (Go.Operand.tmp 208) (Go.Operand.tmp 209), type := 0, pos := "law.go:180", after := #[{ on := 6, ground := Go.Ground.data }, { on := 7, ground := Go.Ground.data }], guard := none }) (oL := evL34) (v := .pointer (some ⟨gm, om + i * 2, none⟩)) rfl rfl (by kernel_rfl) (by kernel_rfl) (by kernel_rfl) (by kernel_rfl) (fun _ _ _ h => h) (Or.inl ⟨by kernel_rfl, ?_⟩) rfl ?_
                · (intro X hX; subst hX <;> (go_simp; try (with_reducible rfl)))
                (try simp only [Act.put, List.setIfInBounds_toArray, List.set_cons_zero, List.set_cons_succ])
                refine wpAnyN_take (i := 9) (oi := { dst := some 211, op := Go.Op.fieldAddr 58 (Go.Operand.tmp 210) 0, type := 0, pos := "law.go:180", after := #[{ on := 8, ground := Go.Ground.data }], guard := none }) (oL := evL34) (v := .pointer (some ⟨gm, om + i * 2, none⟩)) rfl rfl (by kernel_rfl) (by kernel_rfl) (by kernel_rfl) (by kernel_rfl) (fun _ _ _ h => h) (Or.inl ⟨by kernel_rfl, ?_⟩) rfl ?_
                · (intro X hX; subst hX <;> (go_simp; try (with_reducible rfl)))
                (try simp only [Act.put, List.setIfInBounds_toArray, List.set_cons_zero, List.set_cons_succ])
                refine wpAnyN_take (i := 10) (oi := { dst := some 212, op := Go.Op.load 3 (Go.Operand.tmp 211), type := 3, pos := "law.go:180", after := #[{ on := 9, ground := Go.Ground.data }], guard := none }) (oL := evL34) (v := .int .i64 m.uid) rfl rfl (by kernel_rfl) (by kernel_rfl) (by kernel_rfl) (by kernel_rfl) (fun _ _ _ h => h) (Or.inl ⟨by kernel_rfl, ?_⟩) rfl ?_
                · (intro X hX; subst hX <;> (go_simp; try (with_reducible rfl)))
                (try simp only [Act.put, List.setIfInBounds_toArray, List.set_cons_zero, List.set_cons_succ])
                refine wpAnyN_take (i := 11) (oi := { dst := some 213, op := Go.Op.move (Go.Operand.tmp 0), type := 29, pos := "law.go:180", after := #[], guard := none }) (oL := evL34) (v := .pointer (some ⟨D, 0, none⟩)) rfl rfl (by kernel_rfl) (by kernel_rfl) (by kernel_rfl) (by kernel_rfl) (fun _ _ _ h => h) (Or.inl ⟨by kernel_rfl, ?_⟩) rfl ?_
                · (intro X hX; subst hX <;> (go_simp; try (with_reducible rfl)))
                (try simp only [Act.put, List.setIfInBounds_toArray, List.set_cons_zero, List.set_cons_succ])
                refine wpAnyN_take (i := 12) (oi := { dst := some 214, op := Go.Op.nilCheck (Go.Operand.tmp 213), type := 0, pos := "law.go:180", after := #[{ on := 11, ground := Go.Ground.data }], guard := none }) (oL := evL34) (v := .pointer (some ⟨D, 0, none⟩)) rfl rfl (by kernel_rfl) (by kernel_rfl) (by kernel_rfl) (by kernel_rfl) (fun _ _ _ h => h) (Or.inl ⟨by kernel_rfl, ?_⟩) rfl ?_
                · (intro X hX; subst hX <;> (go_simp; try (with_reducible rfl)))
                (try simp only [Act.put, List.setIfInBounds_toArray, List.set_cons_zero, List.set_cons_succ])
                refine wpAnyN_take (i := 13) (oi := { dst := some 215, op := Go.Op.fieldAddr 35 (Go.Operand.tmp 214) 3, type := 0, pos := "law.go:180", after := #[{ on := 12, ground := Go.Ground.data }], guard := none }) (oL := evL34) (v := .pointer (some ⟨D, 3, none⟩)) rfl rfl (by kernel_rfl) (by kernel_rfl) (by kernel_rfl) (by kernel_rfl) (fun _ _ _ h => h) (Or.inl ⟨by kernel_rfl, ?_⟩) rfl ?_
                · (intro X hX; subst hX <;> (go_simp; try (with_reducible rfl)))
                (try simp only [Act.put, List.setIfInBounds_toArray, List.set_cons_zero, List.set_cons_succ])
                refine wpAnyN_take (i := 14) (oi := { dst := some 216, op := Go.Op.load 32 (Go.Operand.tmp 215), type := 32, pos := "law.go:180", after := #[{ on := 13, ground := Go.Ground.data }], guard := none }) (oL := evL34) (v := .slice (some ⟨gF, 0, none⟩) q fc3) rfl rfl (by kernel_rfl) (by kernel_rfl) (by kernel_rfl) (by kernel_rfl) (fun _ _ _ h => h) (Or.inl ⟨by kernel_rfl, ?_⟩) rfl ?_
                · (intro X hX; subst hX <;> (go_simp; try (with_reducible rfl)))
                (try simp only [Act.put, List.setIfInBounds_toArray, List.set_cons_zero, List.set_cons_succ])
                refine wpAnyN_take (i := 15) (oi := { dst := some 217, op := Go.Op.move (Go.Operand.tmp 9), type := 3, pos := "law.go:180", after := #[], guard := none }) (oL := evL34) (v := .int .i64 (i : Int)) rfl rfl (by kernel_rfl) (by kernel_rfl) (by kernel_rfl) (by kernel_rfl) (fun _ _ _ h => h) (Or.inl ⟨by kernel_rfl, ?_⟩) rfl ?_
                · (intro X hX; subst hX <;> (go_simp; try (with_reducible rfl)))
                (try simp only [Act.put, List.setIfInBounds_toArray, List.set_cons_zero, List.set_cons_succ])
                refine wpAnyN_take (i := 16) (oi := { dst := some 218, op := Go.Op.indexAddr 32 (Go.Operand.tmp 216) (Go.Operand.tmp 217), type := 0, pos := "law.go:180", after := #[{ on := 14, ground := Go.Ground.data }, { on := 15, ground := Go.Ground.data }], guard := none }) (oL := evL34) (v := .pointer (some ⟨gF, i, none⟩)) rfl rfl (by kernel_rfl) (by kernel_rfl) (by kernel_rfl) (by kernel_rfl) (fun _ _ _ h => h) (Or.inl ⟨by kernel_rfl, ?_⟩) rfl ?_
                · (intro X hX; subst hX <;> (go_simp; try (with_reducible rfl)))
                (try simp only [Act.put, List.setIfInBounds_toArray, List.set_cons_zero, List.set_cons_succ])
                refine wpAnyN_take (i := 17) (oi := { dst := some 219, op := Go.Op.load 41 (Go.Operand.tmp 218), type := 41, pos := "law.go:180", after := #[{ on := 16, ground := Go.Ground.data }], guard := none }) (oL := evL34) (v := .slice (some ⟨g, 0, none⟩) t cp) rfl rfl (by kernel_rfl) (by kernel_rfl) (by kernel_rfl) (by kernel_rfl) (fun _ _ _ h => h) (Or.inl ⟨by kernel_rfl, ?_⟩) rfl ?_
                · (intro X hX; subst hX <;> (go_simp; try (with_reducible rfl)))
                (try simp only [Act.put, List.setIfInBounds_toArray, List.set_cons_zero, List.set_cons_succ])
                refine wpAnyN_take (i := 18) (oi := { dst := some 220, op := Go.Op.move (Go.Operand.tmp 10), type := 41, pos := "law.go:180", after := #[], guard := none }) (oL := evL34) (v := .slice m.fa m.fl.length m.fc) rfl rfl (by kernel_rfl) (by kernel_rfl) (by kernel_rfl) (by kernel_rfl) (fun _ _ _ h => h) (Or.inl ⟨by kernel_rfl, ?_⟩) rfl ?_
                · (intro X hX; subst hX <;> (go_simp; try (with_reducible rfl)))
                (try simp only [Act.put, List.setIfInBounds_toArray, List.set_cons_zero, List.set_cons_succ])
                refine wpAnyN_take (i := 19) (oi := { dst := some 221, op := Go.Op.call { callee := Go.Callee.builtin Go.Builtin.len, args := #[Go.Operand.tmp 220], argTypes := #[41] }, type := 3, pos := "law.go:180", after := #[{ on := 18, ground := Go.Ground.data }], guard := none }) (oL := evL34) (v := .int .i64 (m.fl.length : Int)) rfl rfl (by kernel_rfl) (by kernel_rfl) (by kernel_rfl) (by kernel_rfl) (fun _ _ _ h => h) (Or.inl ⟨by kernel_rfl, ?_⟩) rfl ?_
                · (intro X hX; subst hX <;> (go_simp; try (with_reducible rfl)))
                (try simp only [Act.put, List.setIfInBounds_toArray, List.set_cons_zero, List.set_cons_succ])
                refine wpAnyN_take (i := 20) (oi := { dst := some 222, op := Go.Op.slice 41 (Go.Operand.tmp 219) none (some (Go.Operand.tmp 221)) none, type := 41, pos := "law.go:180", after := #[{ on := 17, ground := Go.Ground.data }, { on := 19, ground := Go.Ground.data }], guard := none }) (oL := evL34) (v := .slice (some ⟨g, 0, none⟩) m.fl.length cp) rfl rfl (by kernel_rfl) (by kernel_rfl) (by kernel_rfl) (by kernel_rfl) (fun _ _ _ h => h) (Or.inl ⟨by kernel_rfl, ?_⟩) rfl ?_
                · (intro X hX; subst hX <;> (go_simp; try (with_reducible rfl)))
                (try simp only [Act.put, List.setIfInBounds_toArray, List.set_cons_zero, List.set_cons_succ])
                refine wpAnyN_take (i := 21) (oi := { dst := some 223, op := Go.Op.build 58 #[(0, Go.Operand.tmp 212), (1, Go.Operand.tmp 222)], type := 58, pos := "law.go:180", after := #[{ on := 10, ground := Go.Ground.data }, { on := 20, ground := Go.Ground.data }], guard := none }) (oL := evL34) (v := .agg #[.int .i64 m.uid, .slice (some ⟨g, 0, none⟩) m.fl.length cp]) rfl rfl (by kernel_rfl) (by kernel_rfl) (by kernel_rfl) (by kernel_rfl) (fun _ _ _ h => h) (Or.inl ⟨by kernel_rfl, ?_⟩) rfl ?_
                · (intro X hX; subst hX <;> (go_simp; try (with_reducible rfl)))
                (try simp only [Act.put, List.setIfInBounds_toArray, List.set_cons_zero, List.set_cons_succ])
                refine wpAnyN_take (i := 22) (oi := { dst := some 224, op := Go.Op.indexAddr 31 (Go.Operand.tmp 205) (Go.Operand.tmp 206), type := 0, pos := "law.go:180", after := #[{ on := 3, ground := Go.Ground.data }, { on := 4, ground := Go.Ground.data }, { on := 0, ground := Go.Ground.phase }, { on := 1, ground := Go.Ground.phase }, { on := 2, ground := Go.Ground.phase }, { on := 3, ground := Go.Ground.phase }, { on := 4, ground := Go.Ground.phase }, { on := 5, ground := Go.Ground.phase }, { on := 6, ground := Go.Ground.phase }, { on := 7, ground := Go.Ground.phase }, { on := 8, ground := Go.Ground.phase }, { on := 9, ground := Go.Ground.phase }, { on := 10, ground := Go.Ground.phase }, { on := 11, ground := Go.Ground.phase }, { on := 12, ground := Go.Ground.phase }, { on := 13, ground := Go.Ground.phase }, { on := 14, ground := Go.Ground.phase }, { on := 15, ground := Go.Ground.phase }, { on := 16, ground := Go.Ground.phase }, { on := 17, ground := Go.Ground.phase }, { on := 18, ground := Go.Ground.phase }, { on := 19, ground := Go.Ground.phase }, { on := 20, ground := Go.Ground.phase }, { on := 21, ground := Go.Ground.phase }], guard := none }) (oL := evL34) (v := .pointer (some ⟨gK, i * 2, none⟩)) rfl rfl (by kernel_rfl) (by kernel_rfl) (by kernel_rfl) (by kernel_rfl) (fun _ _ _ h => h) (Or.inl ⟨by kernel_rfl, ?_⟩) rfl ?_
                · (intro X hX; subst hX <;> (go_simp; try (with_reducible rfl)))
                (try simp only [Act.put, List.setIfInBounds_toArray, List.set_cons_zero, List.set_cons_succ])
                refine wpAnyN_one (i := 23) (o := { dst := none, op := Go.Op.store 58 (Go.Operand.tmp 224) (Go.Operand.tmp 223), type := 0, pos := "law.go:180", after := #[{ on := 22, ground := Go.Ground.data }, { on := 21, ground := Go.Ground.data }, { on := 0, ground := Go.Ground.phase }, { on := 1, ground := Go.Ground.phase }, { on := 2, ground := Go.Ground.phase }, { on := 3, ground := Go.Ground.phase }, { on := 4, ground := Go.Ground.phase }, { on := 5, ground := Go.Ground.phase }, { on := 6, ground := Go.Ground.phase }, { on := 7, ground := Go.Ground.phase }, { on := 8, ground := Go.Ground.phase }, { on := 9, ground := Go.Ground.phase }, { on := 10, ground := Go.Ground.phase }, { on := 11, ground := Go.Ground.phase }, { on := 12, ground := Go.Ground.phase }, { on := 13, ground := Go.Ground.phase }, { on := 14, ground := Go.Ground.phase }, { on := 15, ground := Go.Ground.phase }, { on := 16, ground := Go.Ground.phase }, { on := 17, ground := Go.Ground.phase }, { on := 18, ground := Go.Ground.phase }, { on := 19, ground := Go.Ground.phase }, { on := 20, ground := Go.Ground.phase }, { on := 21, ground := Go.Ground.phase }], guard := none }) (by kernel_rfl) rfl (fun K hK => ?_)
                go_simp
                refine hK.out _ _ (fun e => absurd (e.symm.trans (by kernel_rfl) : false = true) Bool.false_ne_true) ?_
                clear hK K
                (try simp only [Act.put, List.setIfInBounds_toArray, List.set_cons_zero, List.set_cons_succ])
                refine wpAnyN_of_H (S' := fun _ => True) _ _ _ _ (by kernel_rfl) ?_
                refine wpAnyH_done (by kernel_rfl) ?_ _
                go_wp2_with fail
                go_roundw
                case rel => first | exact ⟨i + 1, _, rfl, by omega, by go_num, HP3.out⟩ | exact ⟨i + 1, by omega, by go_num, HP3.out⟩
                case measure => simp [intOf]; omega
          · obtain rfl : i = ms.length := by omega
            as_aux_lemma =>
              obtain ⟨_, u8, k8, _, _⟩ := hd.1.cells
              rw [HEU3.out] at u8
              rw [HEK3.out] at k8
              obtain ⟨y8, y9⟩ := HE8.out Y6 hd.2
              obtain ⟨Y8, Y9, Y10, e', hbx⟩ := event_box (W1 := w.heap.size + 1) gU us.length cU gK ms.length cK hd HB2.out (Nat.lt_succ_self _) (by rw [← HWz.out]; exact hWs) (by rw [← HWz.out]; exact HBx.out Y6 hd.2) HLow.out HNin.out HEO.out
              have HFin : Hid (EvDone D c e us ms fp w (.returned (.agg (evA e'))) Y10) := Lib.hid (event_end hbx.dk hbx.st hbx.fo HC4.out HDB4.out HF6.out hnF1 HK6.out HF6l.out HGood.out HRest.out HUU.out HEU3.out HEK3.out HHe.out hbx.ev hnU hnK)
              have HOne := Lib.hid hbx.one
              have u8d : Y6.drew.cell? ⟨D, 1, none⟩ = some (.slice (some ⟨gU, 0, none⟩) k cU) := u8
              have y8d : Y6.drew.cell? ⟨w.heap.size, 8, none⟩ = some (.slice au us.length cu) := y8
              have z8d := hbx.z8
              have k8d : Y8.drew.cell? ⟨D, 2, none⟩ = some (.slice (some ⟨gK, 0, none⟩) j cK) := (hbx.d8 2).trans k8
              have y9d : Y8.drew.cell? ⟨w.heap.size, 9, none⟩ = some (.slice am ms.length cm) := hbx.e9.trans y9
              have z9d := hbx.z9
              have hlU : (us.length : Int) ≤ (k : Int) := by omega
              have hlK : (ms.length : Int) ≤ (j : Int) := by omega
              have hcU : (us.length : Int) ≤ (cU : Int) := by
                have hr := hd.1.uids
                rw [HEU3.out] at hr
                have := row_cap hr
                have e1 : ({ c4 with F := F6, K := K6 } : DC).U.length = k := by show c4.U.length = k; rw [HC4.out.1]; exact hUUl
                omega
              have hcK : (ms.length : Int) ≤ (cK : Int) := by
                have hr := hd.1.marks
                rw [HEK3.out] at hr
                have := row_cap hr
                have e1 : ({ c4 with F := F6, K := K6 } : DC).K.length = j := HK6.out
                omega
              obtain ⟨A, hA⟩ : ∃ A, evA e' = A := ⟨_, rfl⟩
              obtain ⟨O, hO⟩ : ∃ O, evA EV0 = O := ⟨_, rfl⟩
              have HSz : Hid (O.size = A.size) := Lib.hid (by rw [← hA, ← hO]; rfl)
              have HIn : Hid ((Tryz.prog.info? 45).map (·.size) = some A.size) := Lib.hid (by rw [← hA]; exact Tryz.sizeEvB e')
              have B9 : Hid (Y9.heap[w.heap.size]? = some (.cells A 45 (0, 0))) := Lib.hid (by rw [← hA]; exact hbx.b9)
              have R9 : Hid (Y9.heap[w.heap.size + 1]? = some (.cells O 45 (0, 0))) := Lib.hid (by rw [← hO]; exact hbx.r9)
              have R10 : Hid (Y10.heap[w.heap.size + 1]? = some (.cells A 45 (0, 0))) := Lib.hid (by rw [← hA]; exact hbx.r10)
              have HY8 := Lib.hid hbx.y8
              have HY9 := Lib.hid hbx.y9
              have HY10 : Hid (Y9.setRow (w.heap.size + 1) A = Y10) := Lib.hid (by rw [← hA]; exact hbx.y10)
              rw [hA] at HFin HOne
              clear hd hbx e9 hA hO
              go_upto_region 35 with fail
              refine wp_region_N 9 (fun X => X = Y6.drew) (by kernel_rfl) ?_
              refine wpAnyN_take (i := 0) (oi := { dst := some 225, op := Go.Op.move (Go.Operand.tmp 0), type := 29, pos := "law.go:182", after := #[], guard := none }) (oL := evL35) (v := .pointer (some ⟨D, 0, none⟩)) rfl rfl (by kernel_rfl) (by kernel_rfl) (by kernel_rfl) (by kernel_rfl) (fun _ _ _ h => h) (Or.inl ⟨by kernel_rfl, ?_⟩) rfl ?_
              · (intro X hX; subst hX <;> (go_simp; try (with_reducible rfl)))
              (try simp only [Act.put, List.setIfInBounds_toArray, List.set_cons_zero, List.set_cons_succ])
              refine wpAnyN_take (i := 1) (oi := { dst := some 226, op := Go.Op.nilCheck (Go.Operand.tmp 225), type := 0, pos := "law.go:182", after := #[{ on := 0, ground := Go.Ground.data }], guard := none }) (oL := evL35) (v := .pointer (some ⟨D, 0, none⟩)) rfl rfl (by kernel_rfl) (by kernel_rfl) (by kernel_rfl) (by kernel_rfl) (fun _ _ _ h => h) (Or.inl ⟨by kernel_rfl, ?_⟩) rfl ?_
              · (intro X hX; subst hX <;> (go_simp; try (with_reducible rfl)))
              (try simp only [Act.put, List.setIfInBounds_toArray, List.set_cons_zero, List.set_cons_succ])
              refine wpAnyN_take (i := 2) (oi := { dst := some 227, op := Go.Op.fieldAddr 35 (Go.Operand.tmp 226) 1, type := 0, pos := "law.go:182", after := #[{ on := 1, ground := Go.Ground.data }], guard := none }) (oL := evL35) (v := .pointer (some ⟨D, 1, none⟩)) rfl rfl (by kernel_rfl) (by kernel_rfl) (by kernel_rfl) (by kernel_rfl) (fun _ _ _ h => h) (Or.inl ⟨by kernel_rfl, ?_⟩) rfl ?_
              · (intro X hX; subst hX <;> (go_simp; try (with_reducible rfl)))
              (try simp only [Act.put, List.setIfInBounds_toArray, List.set_cons_zero, List.set_cons_succ])
              refine wpAnyN_take (i := 3) (oi := { dst := some 228, op := Go.Op.load 26 (Go.Operand.tmp 227), type := 26, pos := "law.go:182", after := #[{ on := 2, ground := Go.Ground.data }], guard := none }) (oL := evL35) (v := .slice (some ⟨gU, 0, none⟩) k cU) rfl rfl (by kernel_rfl) (by kernel_rfl) (by kernel_rfl) (by kernel_rfl) (fun _ _ _ h => h) (Or.inl ⟨by kernel_rfl, ?_⟩) rfl ?_
              · (intro X hX; subst hX <;> (go_simp; try (with_reducible rfl)))
              (try simp only [Act.put, List.setIfInBounds_toArray, List.set_cons_zero, List.set_cons_succ])
              refine wpAnyN_take (i := 4) (oi := { dst := some 229, op := Go.Op.fieldAddr 45 (Go.Operand.tmp 3) 8, type := 0, pos := "law.go:182", after := #[], guard := none }) (oL := evL35) (v := .pointer (some ⟨w.heap.size, 8, none⟩)) rfl rfl (by kernel_rfl) (by kernel_rfl) (by kernel_rfl) (by kernel_rfl) (fun _ _ _ h => h) (Or.inl ⟨by kernel_rfl, ?_⟩) rfl ?_
              · (intro X hX; subst hX <;> (go_simp; try (with_reducible rfl)))
              (try simp only [Act.put, List.setIfInBounds_toArray, List.set_cons_zero, List.set_cons_succ])
              refine wpAnyN_take (i := 5) (oi := { dst := some 230, op := Go.Op.load 26 (Go.Operand.tmp 229), type := 26, pos := "law.go:182", after := #[{ on := 4, ground := Go.Ground.data }], guard := none }) (oL := evL35) (v := .slice au us.length cu) rfl rfl (by kernel_rfl) (by kernel_rfl) (by kernel_rfl) (by kernel_rfl) (fun _ _ _ h => h) (Or.inl ⟨by kernel_rfl, ?_⟩) rfl ?_
              · (intro X hX; subst hX <;> (go_simp; try (with_reducible rfl)))
              (try simp only [Act.put, List.setIfInBounds_toArray, List.set_cons_zero, List.set_cons_succ])
              refine wpAnyN_take (i := 6) (oi := { dst := some 231, op := Go.Op.call { callee := Go.Callee.builtin Go.Builtin.len, args := #[Go.Operand.tmp 230], argTypes := #[26] }, type := 3, pos := "law.go:182", after := #[{ on := 5, ground := Go.Ground.data }], guard := none }) (oL := evL35) (v := .int .i64 (us.length : Int)) rfl rfl (by kernel_rfl) (by kernel_rfl) (by kernel_rfl) (by kernel_rfl) (fun _ _ _ h => h) (Or.inl ⟨by kernel_rfl, ?_⟩) rfl ?_
              · (intro X hX; subst hX <;> (go_simp; try (with_reducible rfl)))
              (try simp only [Act.put, List.setIfInBounds_toArray, List.set_cons_zero, List.set_cons_succ])
              refine wpAnyN_take (i := 7) (oi := { dst := some 232, op := Go.Op.slice 26 (Go.Operand.tmp 228) none (some (Go.Operand.tmp 231)) none, type := 26, pos := "law.go:182", after := #[{ on := 3, ground := Go.Ground.data }, { on := 6, ground := Go.Ground.data }], guard := none }) (oL := evL35) (v := .slice (some ⟨gU, 0, none⟩) us.length cU) rfl rfl (by kernel_rfl) (by kernel_rfl) (by kernel_rfl) (by kernel_rfl) (fun _ _ _ h => h) (Or.inl ⟨by kernel_rfl, ?_⟩) rfl ?_
              · (intro X hX; subst hX <;> (go_simp; try (with_reducible rfl)))
              (try simp only [Act.put, List.setIfInBounds_toArray, List.set_cons_zero, List.set_cons_succ])
              refine wpAnyN_take (i := 8) (oi := { dst := some 233, op := Go.Op.fieldAddr 45 (Go.Operand.tmp 3) 8, type := 0, pos := "law.go:182", after := #[{ on := 0, ground := Go.Ground.phase }, { on := 1, ground := Go.Ground.phase }, { on := 2, ground := Go.Ground.phase }, { on := 3, ground := Go.Ground.phase }, { on := 4, ground := Go.Ground.phase }, { on := 5, ground := Go.Ground.phase }, { on := 6, ground := Go.Ground.phase }, { on := 7, ground := Go.Ground.phase }], guard := none }) (oL := evL35) (v := .pointer (some ⟨w.heap.size, 8, none⟩)) rfl rfl (by kernel_rfl) (by kernel_rfl) (by kernel_rfl) (by kernel_rfl) (fun _ _ _ h => h) (Or.inl ⟨by kernel_rfl, ?_⟩) rfl ?_
              · (intro X hX; subst hX <;> (go_simp; try (with_reducible rfl)))
              (try simp only [Act.put, List.setIfInBounds_toArray, List.set_cons_zero, List.set_cons_succ])
              refine wpAnyN_one (i := 9) (o := { dst := none, op := Go.Op.store 26 (Go.Operand.tmp 233) (Go.Operand.tmp 232), type := 0, pos := "law.go:182", after := #[{ on := 8, ground := Go.Ground.data }, { on := 7, ground := Go.Ground.data }, { on := 0, ground := Go.Ground.phase }, { on := 1, ground := Go.Ground.phase }, { on := 2, ground := Go.Ground.phase }, { on := 3, ground := Go.Ground.phase }, { on := 4, ground := Go.Ground.phase }, { on := 5, ground := Go.Ground.phase }, { on := 6, ground := Go.Ground.phase }, { on := 7, ground := Go.Ground.phase }], guard := none }) (by kernel_rfl) rfl (fun K hK => ?_)
              go_simp
              refine hK.out _ _ (fun e => absurd (e.symm.trans (by kernel_rfl) : false = true) Bool.false_ne_true) ?_
              clear hK K
              (try simp only [Act.put, List.setIfInBounds_toArray, List.set_cons_zero, List.set_cons_succ])
              refine wpAnyN_of_H (S' := fun _ => True) _ _ _ _ (by kernel_rfl) ?_
              refine wpAnyH_done (by kernel_rfl) ?_ _
              (try rw [HY8.out])
              clear u8d y8d z8d u8 y8
              go_upto_region 36 with fail
              refine wp_region_N 9 (fun X => X = Y8.drew) (by kernel_rfl) ?_
              refine wpAnyN_take (i := 0) (oi := { dst := some 234, op := Go.Op.move (Go.Operand.tmp 0), type := 29, pos := "law.go:183", after := #[], guard := none }) (oL := evL36) (v := .pointer (some ⟨D, 0, none⟩)) rfl rfl (by kernel_rfl) (by kernel_rfl) (by kernel_rfl) (by kernel_rfl) (fun _ _ _ h => h) (Or.inl ⟨by kernel_rfl, ?_⟩) rfl ?_
              · (intro X hX; subst hX <;> (go_simp; try (with_reducible rfl)))
              (try simp only [Act.put, List.setIfInBounds_toArray, List.set_cons_zero, List.set_cons_succ])
              refine wpAnyN_take (i := 1) (oi := { dst := some 235, op := Go.Op.nilCheck (Go.Operand.tmp 234), type := 0, pos := "law.go:183", after := #[{ on := 0, ground := Go.Ground.data }], guard := none }) (oL := evL36) (v := .pointer (some ⟨D, 0, none⟩)) rfl rfl (by kernel_rfl) (by kernel_rfl) (by kernel_rfl) (by kernel_rfl) (fun _ _ _ h => h) (Or.inl ⟨by kernel_rfl, ?_⟩) rfl ?_
              · (intro X hX; subst hX <;> (go_simp; try (with_reducible rfl)))
              (try simp only [Act.put, List.setIfInBounds_toArray, List.set_cons_zero, List.set_cons_succ])
              refine wpAnyN_take (i := 2) (oi := { dst := some 236, op := Go.Op.fieldAddr 35 (Go.Operand.tmp 235) 2, type := 0, pos := "law.go:183", after := #[{ on := 1, ground := Go.Ground.data }], guard := none }) (oL := evL36) (v := .pointer (some ⟨D, 2, none⟩)) rfl rfl (by kernel_rfl) (by kernel_rfl) (by kernel_rfl) (by kernel_rfl) (fun _ _ _ h => h) (Or.inl ⟨by kernel_rfl, ?_⟩) rfl ?_
              · (intro X hX; subst hX <;> (go_simp; try (with_reducible rfl)))
              (try simp only [Act.put, List.setIfInBounds_toArray, List.set_cons_zero, List.set_cons_succ])
              refine wpAnyN_take (i := 3) (oi := { dst := some 237, op := Go.Op.load 31 (Go.Operand.tmp 236), type := 31, pos := "law.go:183", after := #[{ on := 2, ground := Go.Ground.data }], guard := none }) (oL := evL36) (v := .slice (some ⟨gK, 0, none⟩) j cK) rfl rfl (by kernel_rfl) (by kernel_rfl) (by kernel_rfl) (by kernel_rfl) (fun _ _ _ h => h) (Or.inl ⟨by kernel_rfl, ?_⟩) rfl ?_
              · (intro X hX; subst hX <;> (go_simp; try (with_reducible rfl)))
              (try simp only [Act.put, List.setIfInBounds_toArray, List.set_cons_zero, List.set_cons_succ])
              refine wpAnyN_take (i := 4) (oi := { dst := some 238, op := Go.Op.fieldAddr 45 (Go.Operand.tmp 3) 9, type := 0, pos := "law.go:183", after := #[], guard := none }) (oL := evL36) (v := .pointer (some ⟨w.heap.size, 9, none⟩)) rfl rfl (by kernel_rfl) (by kernel_rfl) (by kernel_rfl) (by kernel_rfl) (fun _ _ _ h => h) (Or.inl ⟨by kernel_rfl, ?_⟩) rfl ?_
              · (intro X hX; subst hX <;> (go_simp; try (with_reducible rfl)))
              (try simp only [Act.put, List.setIfInBounds_toArray, List.set_cons_zero, List.set_cons_succ])
              refine wpAnyN_take (i := 5) (oi := { dst := some 239, op := Go.Op.load 31 (Go.Operand.tmp 238), type := 31, pos := "law.go:183", after := #[{ on := 4, ground := Go.Ground.data }], guard := none }) (oL := evL36) (v := .slice am ms.length cm) rfl rfl (by kernel_rfl) (by kernel_rfl) (by kernel_rfl) (by kernel_rfl) (fun _ _ _ h => h) (Or.inl ⟨by kernel_rfl, ?_⟩) rfl ?_
              · (intro X hX; subst hX <;> (go_simp; try (with_reducible rfl)))
              (try simp only [Act.put, List.setIfInBounds_toArray, List.set_cons_zero, List.set_cons_succ])
              refine wpAnyN_take (i := 6) (oi := { dst := some 240, op := Go.Op.call { callee := Go.Callee.builtin Go.Builtin.len, args := #[Go.Operand.tmp 239], argTypes := #[31] }, type := 3, pos := "law.go:183", after := #[{ on := 5, ground := Go.Ground.data }], guard := none }) (oL := evL36) (v := .int .i64 (ms.length : Int)) rfl rfl (by kernel_rfl) (by kernel_rfl) (by kernel_rfl) (by kernel_rfl) (fun _ _ _ h => h) (Or.inl ⟨by kernel_rfl, ?_⟩) rfl ?_
              · (intro X hX; subst hX <;> (go_simp; try (with_reducible rfl)))
              (try simp only [Act.put, List.setIfInBounds_toArray, List.set_cons_zero, List.set_cons_succ])
              refine wpAnyN_take (i := 7) (oi := { dst := some 241, op := Go.Op.slice 31 (Go.Operand.tmp 237) none (some (Go.Operand.tmp 240)) none, type := 31, pos := "law.go:183", after := #[{ on := 3, ground := Go.Ground.data }, { on := 6, ground := Go.Ground.data }], guard := none }) (oL := evL36) (v := .slice (some ⟨gK, 0, none⟩) ms.length cK) rfl rfl (by kernel_rfl) (by kernel_rfl) (by kernel_rfl) (by kernel_rfl) (fun _ _ _ h => h) (Or.inl ⟨by kernel_rfl, ?_⟩) rfl ?_
              · (intro X hX; subst hX <;> (go_simp; try (with_reducible rfl)))
              (try simp only [Act.put, List.setIfInBounds_toArray, List.set_cons_zero, List.set_cons_succ])
              refine wpAnyN_take (i := 8) (oi := { dst := some 242, op := Go.Op.fieldAddr 45 (Go.Operand.tmp 3) 9, type := 0, pos := "law.go:183", after := #[{ on := 0, ground := Go.Ground.phase }, { on := 1, ground := Go.Ground.phase }, { on := 2, ground := Go.Ground.phase }, { on := 3, ground := Go.Ground.phase }, { on := 4, ground := Go.Ground.phase }, { on := 5, ground := Go.Ground.phase }, { on := 6, ground := Go.Ground.phase }, { on := 7, ground := Go.Ground.phase }], guard := none }) (oL := evL36) (v := .pointer (some ⟨w.heap.size, 9, none⟩)) rfl rfl (by kernel_rfl) (by kernel_rfl) (by kernel_rfl) (by kernel_rfl) (fun _ _ _ h => h) (Or.inl ⟨by kernel_rfl, ?_⟩) rfl ?_
              · (intro X hX; subst hX <;> (go_simp; try (with_reducible rfl)))
              (try simp only [Act.put, List.setIfInBounds_toArray, List.set_cons_zero, List.set_cons_succ])
              refine wpAnyN_one (i := 9) (o := { dst := none, op := Go.Op.store 31 (Go.Operand.tmp 242) (Go.Operand.tmp 241), type := 0, pos := "law.go:183", after := #[{ on := 8, ground := Go.Ground.data }, { on := 7, ground := Go.Ground.data }, { on := 0, ground := Go.Ground.phase }, { on := 1, ground := Go.Ground.phase }, { on := 2, ground := Go.Ground.phase }, { on := 3, ground := Go.Ground.phase }, { on := 4, ground := Go.Ground.phase }, { on := 5, ground := Go.Ground.phase }, { on := 6, ground := Go.Ground.phase }, { on := 7, ground := Go.Ground.phase }], guard := none }) (by kernel_rfl) rfl (fun K hK => ?_)
              go_simp
              refine hK.out _ _ (fun e => absurd (e.symm.trans (by kernel_rfl) : false = true) Bool.false_ne_true) ?_
              clear hK K
              (try simp only [Act.put, List.setIfInBounds_toArray, List.set_cons_zero, List.set_cons_succ])
              refine wpAnyN_of_H (S' := fun _ => True) _ _ _ _ (by kernel_rfl) ?_
              refine wpAnyH_done (by kernel_rfl) ?_ _
              (try rw [HY9.out])
              clear k8d y9d z9d k8 y9
              go_upto_region 37 with fail
              go_step
              refine wpList_load_row rfl 45 _ rfl w.heap.size rfl 45 _ (0, 0) _ B9.out Tryz.underlying45 rfl HIn.out ?_
              refine wpList_store_row rfl 45 _ _ rfl (w.heap.size + 1) A rfl rfl 45 O R9.out HIn.out HSz.out HOne.out ?_
              rw [HY10.out]
              (try simp only [Act.put, List.setIfInBounds_toArray, List.set_cons_zero, List.set_cons_succ])
              go_step
              go_step
              go_step
              go_step
              refine bodyPost_ret (v := .agg A) (results_cell_row Tryz.results13 _ _ (w.heap.size + 1) 45 A (0, 0) _ rfl R10.out Tryz.underlying45 rfl HIn.out) rfl HFin.out
end Go.Proofs.YtflkhnmggmfhfaaGreat
