/- The desk's mail. -/
import Derived.Test.YtflkhnmggmfhfaaGreatD16a
namespace Go.Proofs.YtflkhnmggmfhfaaGreat
open Go.RowKit

def setL : List Value → Nat → List Value → List Value
  | xs, _, [] => xs
  | xs, o, v :: vs => setL (xs.set o v) (o + 1) vs
theorem setL_mid : ∀ (vs a b c : List Value), vs.length = b.length → setL (a ++ (b ++ c)) a.length vs = a ++ (vs ++ c)
  | [], a, b, c, h => by
    have : b = [] := List.eq_nil_of_length_eq_zero (by simpa using h.symm)
    subst this
    rfl
  | v :: vs, a, [], c, h => by simp at h
  | v :: vs, a, y :: b, c, h => by
    show setL ((a ++ (y :: (b ++ c))).set a.length v) (a.length + 1) vs = _
    have e : (a ++ (y :: (b ++ c))).set a.length v = (a ++ [v]) ++ (b ++ c) := by
      rw [List.set_append_right _ _ (Nat.le_refl _), Nat.sub_self, List.append_assoc]
      rfl
    rw [e]
    have := setL_mid vs (a ++ [v]) b c (by simpa using h)
    rw [List.length_append, List.length_singleton] at this
    rw [this, List.append_assoc]
    rfl
theorem row_setCells {e : TypeId} {sz g n cap : Nat} : ∀ (vs : List Value) (o : Nat) (xs : List Value) (w : World), w.ownsRow 0 e sz (.slice (some ⟨g, 0, none⟩) n cap) n xs → (w.setCells g o vs).ownsRow 0 e sz (.slice (some ⟨g, 0, none⟩) n cap) n (setL xs o vs) ∧ Stays [g] w (w.setCells g o vs)
  | [], o, xs, w, h => ⟨h, Stays.refl _ _⟩
  | v :: vs, o, xs, w, h => by
    have h1 := (h.stored o v).1
    obtain ⟨q1, q2⟩ := row_setCells vs (o + 1) (xs.set o v) (w.setCell ⟨g, o, none⟩ v) h1
    exact ⟨q1, (Stays.setCell (p := ⟨g, o, none⟩) (Stays.refl [g] w) (.inl (by simp)) v).trans q2 (fun b hb => .inl hb)⟩
theorem mlC_len : ∀ (M : List MLE), (mlC M).length = M.length * 13
  | [] => rfl
  | m :: M => by
    show ((mlA m).toList ++ mlC M).length = _
    rw [List.length_append, mlC_len M, List.length_cons]
    show 13 + _ = _
    omega
theorem mlC_set (M : List MLE) (k : Nat) (m : MLE) (hk : k < M.length) : setL (mlC M) (k * 13) (mlA m).toList = mlC (M.set k m) := by
  have e1 := enc_set (fun m => (mlA m).toList) ML0 M k hk
  have e2 := enc_set (fun m => (mlA m).toList) ML0 (M.set k m) k (by simpa using hk)
  have e3 : (M.set k m).take k = M.take k := by rw [List.take_set_of_le (Nat.le_refl _)]
  have e4 : (M.set k m).drop (k + 1) = M.drop (k + 1) := by rw [List.drop_set_of_lt (by omega)]
  have e5 : (M.set k m).getD k ML0 = m := by rw [List.getD_eq_getElem?_getD, List.getElem?_set_self hk]; rfl
  rw [e3, e4, e5] at e2
  show setL (M.flatMap _) _ _ = (M.set k m).flatMap _
  rw [e1, e2]
  have hl : ((M.take k).flatMap (fun m => (mlA m).toList)).length = k * 13 := by
    have := mlC_len (M.take k)
    rw [List.length_take, Nat.min_eq_left (by omega)] at this
    exact this
  rw [← hl]
  exact setL_mid _ _ _ _ rfl
theorem Tryz.sizeMl (m : MLE) : (Tryz.prog.info? 88).map (·.size) = some (mlA m).toList.length := by kernel_rfl
theorem Tryz.sizeMlA (m : MLE) : (Tryz.prog.info? 88).map (·.size) = some (mlA m).size := by kernel_rfl
theorem mlA_one (m : MLE) : (mlA m).all (·.oneCell') = true := by simp [mlA, Value.oneCell']
def fillM (i : Nat) : MLE := { ML0 with s := -1, u := 400000 + (i : Int) }
def layM (ml : List MLE) (n j : Nat) : List MLE := (List.range n).map (fun i => if i < j then ml.getD i ML0 else fillM i)
theorem layM_zero (ml : List MLE) (n : Nat) : layM ml n 0 = (List.range n).map fillM := by simp [layM]
theorem layM_length (ml : List MLE) (n j : Nat) : (layM ml n j).length = n := by simp [layM]
theorem layM_at (ml : List MLE) {n j i : Nat} (hi : i < n) (_ : j ≤ n) : (layM ml n j).getD i ML0 = if i < j then ml.getD i ML0 else fillM i := by
  unfold layM
  rw [List.getD_eq_getElem?_getD, range_at _ hi]
  rfl
theorem layM_set (ml : List MLE) {n k : Nat} (hk : k < n) : (layM ml n k).set k (ml.getD k ML0) = layM ml n (k + 1) := by
  apply List.ext_getElem?
  intro i
  unfold layM
  rw [List.getElem?_set]
  by_cases hi : i < n
  · rw [range_at _ hi, range_at _ hi]
    by_cases e : k = i
    · subst e
      rw [if_pos rfl, if_pos (by simpa using hk), if_pos (by omega)]
    · rw [if_neg e]
      by_cases h1 : i < k
      · rw [if_pos h1, if_pos (by omega)]
      · rw [if_neg h1, if_neg (by omega)]
  · rw [List.getElem?_eq_none (by simp; omega), List.getElem?_eq_none (by simp; omega)]
    simp
    intro e
    subst e
    omega
section
variable {D : Nat} {v : DV} {c : DC} {fp : List Nat} {w X : World}
theorem DS.putM (h : DS D v c fp w X) {g n cp k : Nat} (es : v.m = .slice (some ⟨g, 0, none⟩) n cp) (hk : k < c.M.length) (m : MLE) :
    X.there g (k * 13) (mlA m).size ∧ DS D v { c with M := c.M.set k m } fp w (X.setCells g (k * 13) (mlA m).toList) := by
  have hr := h.1.mails
  obtain ⟨a, c2, e⟩ := ownsRow_shape hr
  have hn : n = c.M.length := by rw [es] at e; injection e
  rw [es, hn] at hr
  obtain ⟨s1, s2⟩ := row_setCells (mlA m).toList (k * 13) (mlC c.M) X hr
  rw [mlC_set c.M k m hk] at s1
  obtain ⟨q1, q2⟩ := h.1.inM (g := g) (by rw [es]; rfl) s2 (c.M.set k m) (by rw [List.length_set, es, hn]; exact s1)
  refine ⟨fun j hj => ⟨?_, hr.frozenAt _⟩, q1, h.2.trans q2⟩
  have hj13 : j < 13 := by simpa [mlA] using hj
  rw [hr.cellAt _ (by omega), List.getElem?_eq_getElem (by rw [mlC_len]; omega)]
  rfl
end
/-- What mail answers and leaves. -/
def MlOut (D : Nat) (c : DC) (ml : List MLE) (fp : List Nat) (w : World) (e : Ending) (w' : World) : Prop :=
  ∃ (g cp n : Nat) (v' : DV), e = .returned (.slice (some ⟨g, 0, none⟩) ml.length cp) ∧ DS D v' { c with M := layM ml n ml.length } fp w w' ∧ ml.length ≤ n ∧ n ≤ 1000000 ∧ MailsAt w' (.slice (some ⟨g, 0, none⟩) ml.length cp) ml ∧ v'.m = .slice (some ⟨g, 0, none⟩) n cp
set_option maxRecDepth 100000 in
set_option maxHeartbeats 4000000 in
theorem mail_any {D : Nat} {v : DV} {c : DC} {w : World} (h : DK D v c w) (lv : Value) (ml : List MLE) (hr : MailsAt w lv ml) (ho : 0 < ml.length → ∀ b, lv.ownBlock = some b → b ∉ fpD D v c.F) (hl : ml.length ≤ 300) (hS : c.M.length ≤ 1000000) :
    Calls Tryz.prog 39 #[.pointer (some ⟨D, 0, none⟩), lv] w (MlOut D c ml (fpD D v c.F) w) := by
  obtain ⟨ma, mc, rfl, hcs⟩ := hr
  have HMl : Hid (∀ j, j < ml.length → ∃ g2 o2, ma = some ⟨g2, o2, none⟩ ∧ ∀ (X : World) {f : List Nat}, FO (fpD D v c.F) f w X → X.rangeAt g2 (o2 + j * 13) (mlA (ml.getD j ML0)).toList) := Lib.hid (fun j hj => by
    obtain ⟨g2, o2, e, hg, hcc⟩ := hcs (by omega)
    refine ⟨g2, o2, e, fun X f hf i u hu => ?_⟩
    rw [World.cell?_of_block (a := ⟨g2, o2 + j * 13 + i, none⟩) (hf.keep hg (ho (by omega) g2 (by rw [e]; rfl)))]
    exact hcc j hj i u (by rw [← Array.getElem?_toList]; exact hu))
  obtain ⟨c0w, _⟩ := h.cells
  obtain ⟨sa, sc, es⟩ := ownsRow_shape h.mails
  have f0 := h.frozen 0
  rw [es] at c0w
  generalize hfp : fpD D v c.F = fp at *
  have hd : DS D v c fp w w := ⟨h, by rw [hfp]; exact FO.refl _ _⟩
  by_cases hc : c.M.length < ml.length + 3
  · have hcz : (c.M.length : Int) < (ml.length : Int) + 3 := by omega
    obtain ⟨n, hn⟩ : ∃ n, 2 * ml.length + 20 = n := ⟨_, rfl⟩
    have hnz : (2 : Int) * (ml.length : Int) + 20 = (n : Int) := by omega
    have hln : ml.length ≤ n := by omega
    have hn1 : n ≤ 1000000 := by omega
    obtain ⟨W1, hmk, m4, mf, hd1⟩ := hd.makeM n hn1
    rw [es] at m4
    obtain ⟨g, hg⟩ : ∃ g, w.heap.size = g := ⟨_, rfl⟩
    obtain ⟨cp, hcp⟩ : ∃ cp, n = cp := ⟨_, rfl⟩
    obtain ⟨v0, hv0⟩ : ∃ v0 : DV, ({ v with m := .slice (some ⟨w.heap.size, 0, none⟩) n n } : DV) = v0 := ⟨_, rfl⟩
    obtain ⟨c0, hc0⟩ : ∃ c0 : DC, ({ c with M := List.replicate n ML0 } : DC) = c0 := ⟨_, rfl⟩
    rw [hv0, hc0] at hd1
    have HES : Hid (v0.m = .slice (some ⟨g, 0, none⟩) n cp) := Lib.hid (by rw [← hv0, ← hg, ← hcp])
    have HN : Hid (c0.M.length = n) := Lib.hid (by rw [← hc0]; simp)
    have HC0 : Hid (∀ S, ({ c0 with M := S } : DC) = { c with M := S }) := Lib.hid (fun S => by rw [← hc0])
    have HD0 := Lib.hid hd1
    clear h hd hd1 hn es ho hS hv0 hc0 hg hcp hcs
    go_enter Tryz.func39, Tryz.ntmps39
    go_upto_region 4 with fail
    clear hmk m4 mf c0w f0
    generalize W1.setCell ⟨D, 0, none⟩ (.slice (some ⟨w.heap.size, 0, none⟩) n n) = W4 at *
    go_loopw [5] (fun i wr => ∃ (k : Nat) (X : World), X = wr ∧ k ≤ n ∧ i = .int .i64 k ∧ DS D v0 { c0 with M := layK fillM c0.M k } fp w X) (fun i _ => n - (intOf i).toNat)
    case atStart => exact ⟨0, _, rfl, Nat.zero_le _, rfl, by rw [layK_zero]; exact HD0.out⟩
    case round =>
      obtain ⟨k, X, hX, hk, rfl, hd⟩ := hrel
      subst hX
      obtain ⟨c0x, _⟩ := hd.1.cells
      rw [HES.out] at c0x
      by_cases hlt : k < n
      · have hlti : (k : Int) < (n : Int) := by omega
        obtain ⟨th, p3⟩ := hd.putM HES.out (k := k) (by show k < (layK fillM c0.M k).length; rw [layK_length _ _ (by rw [HN.out]; exact hk), HN.out]; exact hlt) (fillM k)
        have HP3 : Hid (DS D v0 { c0 with M := layK fillM c0.M (k + 1) } fp w (X.setCells g (k * 13) (mlA (fillM k)).toList)) := Lib.hid (by
          have e := layK_set fillM c0.M (k := k) (by rw [HN.out]; exact hlt)
          rw [← e]
          exact p3)
        have HTh := Lib.hid th
        have hkw : IntKind.i64.wrap (400000 + (k : Int)) = 400000 + (k : Int) := by simp only [IntKind.wrap, IntKind.signed, IntKind.bits]; simp; omega
        obtain ⟨Y, hY⟩ : ∃ Y, X.setCells g (k * 13) (mlA (fillM k)).toList = Y := ⟨_, rfl⟩
        rw [hY] at HP3
        have HYe := Lib.hid hY
        clear hd th p3 hY
        go_upto_region 6 with fail
        go_upto_region 5 with (refine wpList_store_mid rfl 88 _ _ rfl g (k * 13) (mlA (fillM k)) rfl rfl HTh.out (Tryz.sizeMlA (fillM k)) (mlA_one (fillM k)) ?_; rw [HYe.out])
        go_wp2_with fail
        go_roundw
        case rel => exact ⟨k + 1, _, rfl, by omega, by go_num, HP3.out⟩
        case measure => simp [intOf]; omega
      · obtain rfl : k = n := by omega
        have hd2 : DS D v0 { c0 with M := layM ml k 0 } fp w X := by
          have e := layK_full fillM c0.M
          rw [HN.out] at e
          rw [layM_zero, ← e]
          exact hd
        have HD2 := Lib.hid hd2
        clear hd hd2
        go_upto_region 8 with fail
        go_loopw [6] (fun i wr => ∃ (j : Nat) (Y : World), Y = wr ∧ j ≤ ml.length ∧ i = .int .i64 j ∧ DS D v0 { c0 with M := layM ml k j } fp w Y) (fun i _ => ml.length - (intOf i).toNat)
        case atStart => exact ⟨0, _, rfl, Nat.zero_le _, rfl, HD2.out⟩
        case round =>
          obtain ⟨j, Y, hY, hj, rfl, hd⟩ := hrel
          subst hY
          obtain ⟨c0y, _⟩ := hd.1.cells
          rw [HES.out] at c0y
          by_cases hjt : j < ml.length
          · have hjti : (j : Int) < (ml.length : Int) := by omega
            obtain ⟨g2, o2, hq, hCr⟩ := HMl.out j hjt
            obtain ⟨th, p3⟩ := (hd.on (Below.refl Y.heap.size Y).drew).putM HES.out (k := j) (by show j < (layM ml k j).length; rw [layM_length]; omega) (ml.getD j ML0)
            have HP3 : Hid (DS D v0 { c0 with M := layM ml k (j + 1) } fp w (Y.drew.setCells g (j * 13) (mlA (ml.getD j ML0)).toList)) := Lib.hid (by
              rw [← layM_set ml (n := k) (k := j) (by omega)]
              exact p3)
            have HTh := Lib.hid th
            have HCr : Hid (Y.drew.rangeAt g2 (o2 + j * 13) (mlA (ml.getD j ML0)).toList) := Lib.hid (hCr Y.drew ((hd.2.trans (FO.below (Below.refl Y.heap.size Y).drew))))
            obtain ⟨m, hm⟩ : ∃ m, ml.getD j ML0 = m := ⟨_, rfl⟩
            rw [hm] at HP3 HTh HCr
            subst hq
            have hjk : (j : Int) < (k : Int) := by omega
            clear hd th p3 hCr hm
            go_upto_region 10 with fail
            refine wp_region_N 10 (fun X => X = Y.drew) (by kernel_rfl) ?_
            refine wpAnyN_take (i := 0) (oi := { dst := some 48, op := Go.Op.move (Go.Operand.tmp 0), type := 29, pos := "law.go:129", after := #[], guard := none }) (oL := { dst := none, op := Go.Op.store 88 (Go.Operand.tmp 57) (Go.Operand.tmp 56), type := 0, pos := "law.go:129", after := #[{ on := 9, ground := Go.Ground.data }, { on := 8, ground := Go.Ground.data }, { on := 0, ground := Go.Ground.phase }, { on := 1, ground := Go.Ground.phase }, { on := 2, ground := Go.Ground.phase }, { on := 3, ground := Go.Ground.phase }, { on := 4, ground := Go.Ground.phase }, { on := 5, ground := Go.Ground.phase }, { on := 6, ground := Go.Ground.phase }, { on := 7, ground := Go.Ground.phase }, { on := 8, ground := Go.Ground.phase }], guard := none }) (v := .pointer (some ⟨D, 0, none⟩)) rfl rfl (by kernel_rfl) (by kernel_rfl) (by kernel_rfl) (by kernel_rfl) (fun _ _ _ h => h) (Or.inl ⟨by kernel_rfl, ?_⟩) rfl ?_
            · (intro X hX; subst hX <;> (go_simp; try (with_reducible rfl)))
            (try simp only [Act.put, List.setIfInBounds_toArray, List.set_cons_zero, List.set_cons_succ])
            refine wpAnyN_take (i := 1) (oi := { dst := some 49, op := Go.Op.nilCheck (Go.Operand.tmp 48), type := 0, pos := "law.go:129", after := #[{ on := 0, ground := Go.Ground.data }], guard := none }) (oL := { dst := none, op := Go.Op.store 88 (Go.Operand.tmp 57) (Go.Operand.tmp 56), type := 0, pos := "law.go:129", after := #[{ on := 9, ground := Go.Ground.data }, { on := 8, ground := Go.Ground.data }, { on := 0, ground := Go.Ground.phase }, { on := 1, ground := Go.Ground.phase }, { on := 2, ground := Go.Ground.phase }, { on := 3, ground := Go.Ground.phase }, { on := 4, ground := Go.Ground.phase }, { on := 5, ground := Go.Ground.phase }, { on := 6, ground := Go.Ground.phase }, { on := 7, ground := Go.Ground.phase }, { on := 8, ground := Go.Ground.phase }], guard := none }) (v := .pointer (some ⟨D, 0, none⟩)) rfl rfl (by kernel_rfl) (by kernel_rfl) (by kernel_rfl) (by kernel_rfl) (fun _ _ _ h => h) (Or.inl ⟨by kernel_rfl, ?_⟩) rfl ?_
            · (intro X hX; subst hX <;> (go_simp; try (with_reducible rfl)))
            (try simp only [Act.put, List.setIfInBounds_toArray, List.set_cons_zero, List.set_cons_succ])
            refine wpAnyN_take (i := 2) (oi := { dst := some 50, op := Go.Op.fieldAddr 35 (Go.Operand.tmp 49) 0, type := 0, pos := "law.go:129", after := #[{ on := 1, ground := Go.Ground.data }], guard := none }) (oL := { dst := none, op := Go.Op.store 88 (Go.Operand.tmp 57) (Go.Operand.tmp 56), type := 0, pos := "law.go:129", after := #[{ on := 9, ground := Go.Ground.data }, { on := 8, ground := Go.Ground.data }, { on := 0, ground := Go.Ground.phase }, { on := 1, ground := Go.Ground.phase }, { on := 2, ground := Go.Ground.phase }, { on := 3, ground := Go.Ground.phase }, { on := 4, ground := Go.Ground.phase }, { on := 5, ground := Go.Ground.phase }, { on := 6, ground := Go.Ground.phase }, { on := 7, ground := Go.Ground.phase }, { on := 8, ground := Go.Ground.phase }], guard := none }) (v := .pointer (some ⟨D, 0, none⟩)) rfl rfl (by kernel_rfl) (by kernel_rfl) (by kernel_rfl) (by kernel_rfl) (fun _ _ _ h => h) (Or.inl ⟨by kernel_rfl, ?_⟩) rfl ?_
            · (intro X hX; subst hX <;> (go_simp; try (with_reducible rfl)))
            (try simp only [Act.put, List.setIfInBounds_toArray, List.set_cons_zero, List.set_cons_succ])
            refine wpAnyN_take (i := 3) (oi := { dst := some 51, op := Go.Op.load 30 (Go.Operand.tmp 50), type := 30, pos := "law.go:129", after := #[{ on := 2, ground := Go.Ground.data }], guard := none }) (oL := { dst := none, op := Go.Op.store 88 (Go.Operand.tmp 57) (Go.Operand.tmp 56), type := 0, pos := "law.go:129", after := #[{ on := 9, ground := Go.Ground.data }, { on := 8, ground := Go.Ground.data }, { on := 0, ground := Go.Ground.phase }, { on := 1, ground := Go.Ground.phase }, { on := 2, ground := Go.Ground.phase }, { on := 3, ground := Go.Ground.phase }, { on := 4, ground := Go.Ground.phase }, { on := 5, ground := Go.Ground.phase }, { on := 6, ground := Go.Ground.phase }, { on := 7, ground := Go.Ground.phase }, { on := 8, ground := Go.Ground.phase }], guard := none }) (v := .slice (some ⟨g, 0, none⟩) k cp) rfl rfl (by kernel_rfl) (by kernel_rfl) (by kernel_rfl) (by kernel_rfl) (fun _ _ _ h => h) (Or.inl ⟨by kernel_rfl, ?_⟩) rfl ?_
            · (intro X hX; subst hX <;> (go_simp; try (with_reducible rfl)))
            (try simp only [Act.put, List.setIfInBounds_toArray, List.set_cons_zero, List.set_cons_succ])
            refine wpAnyN_take (i := 4) (oi := { dst := some 52, op := Go.Op.move (Go.Operand.tmp 6), type := 3, pos := "law.go:129", after := #[], guard := none }) (oL := { dst := none, op := Go.Op.store 88 (Go.Operand.tmp 57) (Go.Operand.tmp 56), type := 0, pos := "law.go:129", after := #[{ on := 9, ground := Go.Ground.data }, { on := 8, ground := Go.Ground.data }, { on := 0, ground := Go.Ground.phase }, { on := 1, ground := Go.Ground.phase }, { on := 2, ground := Go.Ground.phase }, { on := 3, ground := Go.Ground.phase }, { on := 4, ground := Go.Ground.phase }, { on := 5, ground := Go.Ground.phase }, { on := 6, ground := Go.Ground.phase }, { on := 7, ground := Go.Ground.phase }, { on := 8, ground := Go.Ground.phase }], guard := none }) (v := .int .i64 (j : Int)) rfl rfl (by kernel_rfl) (by kernel_rfl) (by kernel_rfl) (by kernel_rfl) (fun _ _ _ h => h) (Or.inl ⟨by kernel_rfl, ?_⟩) rfl ?_
            · (intro X hX; subst hX <;> (go_simp; try (with_reducible rfl)))
            (try simp only [Act.put, List.setIfInBounds_toArray, List.set_cons_zero, List.set_cons_succ])
            refine wpAnyN_take (i := 5) (oi := { dst := some 53, op := Go.Op.move (Go.Operand.tmp 1), type := 30, pos := "law.go:129", after := #[], guard := none }) (oL := { dst := none, op := Go.Op.store 88 (Go.Operand.tmp 57) (Go.Operand.tmp 56), type := 0, pos := "law.go:129", after := #[{ on := 9, ground := Go.Ground.data }, { on := 8, ground := Go.Ground.data }, { on := 0, ground := Go.Ground.phase }, { on := 1, ground := Go.Ground.phase }, { on := 2, ground := Go.Ground.phase }, { on := 3, ground := Go.Ground.phase }, { on := 4, ground := Go.Ground.phase }, { on := 5, ground := Go.Ground.phase }, { on := 6, ground := Go.Ground.phase }, { on := 7, ground := Go.Ground.phase }, { on := 8, ground := Go.Ground.phase }], guard := none }) (v := .slice (some ⟨g2, o2, none⟩) ml.length mc) rfl rfl (by kernel_rfl) (by kernel_rfl) (by kernel_rfl) (by kernel_rfl) (fun _ _ _ h => h) (Or.inl ⟨by kernel_rfl, ?_⟩) rfl ?_
            · (intro X hX; subst hX <;> (go_simp; try (with_reducible rfl)))
            (try simp only [Act.put, List.setIfInBounds_toArray, List.set_cons_zero, List.set_cons_succ])
            refine wpAnyN_take (i := 6) (oi := { dst := some 54, op := Go.Op.move (Go.Operand.tmp 6), type := 3, pos := "law.go:129", after := #[], guard := none }) (oL := { dst := none, op := Go.Op.store 88 (Go.Operand.tmp 57) (Go.Operand.tmp 56), type := 0, pos := "law.go:129", after := #[{ on := 9, ground := Go.Ground.data }, { on := 8, ground := Go.Ground.data }, { on := 0, ground := Go.Ground.phase }, { on := 1, ground := Go.Ground.phase }, { on := 2, ground := Go.Ground.phase }, { on := 3, ground := Go.Ground.phase }, { on := 4, ground := Go.Ground.phase }, { on := 5, ground := Go.Ground.phase }, { on := 6, ground := Go.Ground.phase }, { on := 7, ground := Go.Ground.phase }, { on := 8, ground := Go.Ground.phase }], guard := none }) (v := .int .i64 (j : Int)) rfl rfl (by kernel_rfl) (by kernel_rfl) (by kernel_rfl) (by kernel_rfl) (fun _ _ _ h => h) (Or.inl ⟨by kernel_rfl, ?_⟩) rfl ?_
            · (intro X hX; subst hX <;> (go_simp; try (with_reducible rfl)))
            (try simp only [Act.put, List.setIfInBounds_toArray, List.set_cons_zero, List.set_cons_succ])
            refine wpAnyN_take (i := 7) (oi := { dst := some 55, op := Go.Op.indexAddr 30 (Go.Operand.tmp 53) (Go.Operand.tmp 54), type := 0, pos := "law.go:129", after := #[{ on := 5, ground := Go.Ground.data }, { on := 6, ground := Go.Ground.data }], guard := none }) (oL := { dst := none, op := Go.Op.store 88 (Go.Operand.tmp 57) (Go.Operand.tmp 56), type := 0, pos := "law.go:129", after := #[{ on := 9, ground := Go.Ground.data }, { on := 8, ground := Go.Ground.data }, { on := 0, ground := Go.Ground.phase }, { on := 1, ground := Go.Ground.phase }, { on := 2, ground := Go.Ground.phase }, { on := 3, ground := Go.Ground.phase }, { on := 4, ground := Go.Ground.phase }, { on := 5, ground := Go.Ground.phase }, { on := 6, ground := Go.Ground.phase }, { on := 7, ground := Go.Ground.phase }, { on := 8, ground := Go.Ground.phase }], guard := none }) (v := .pointer (some ⟨g2, o2 + j * 13, none⟩)) rfl rfl (by kernel_rfl) (by kernel_rfl) (by kernel_rfl) (by kernel_rfl) (fun _ _ _ h => h) (Or.inl ⟨by kernel_rfl, ?_⟩) rfl ?_
            · (intro X hX; subst hX <;> (go_simp; try (with_reducible rfl)))
            (try simp only [Act.put, List.setIfInBounds_toArray, List.set_cons_zero, List.set_cons_succ])
            refine wpAnyN_one (i := 8) (o := { dst := some 56, op := Go.Op.load 88 (Go.Operand.tmp 55), type := 88, pos := "law.go:129", after := #[{ on := 7, ground := Go.Ground.data }], guard := none }) (by kernel_rfl) rfl (fun K hK => ?_)
            refine wp_load_mid 88 _ rfl g2 (o2 + j * 13) rfl _ _ HCr.out Tryz.underlying88 rfl (Tryz.sizeMl m) ?_
            refine hK.out _ _ (fun _ => rfl) ?_
            clear hK K
            (try simp only [Act.put, List.setIfInBounds_toArray, List.set_cons_zero, List.set_cons_succ])
            refine wpAnyN_take (i := 9) (oi := { dst := some 57, op := Go.Op.indexAddr 30 (Go.Operand.tmp 51) (Go.Operand.tmp 52), type := 0, pos := "law.go:129", after := #[{ on := 3, ground := Go.Ground.data }, { on := 4, ground := Go.Ground.data }, { on := 0, ground := Go.Ground.phase }, { on := 1, ground := Go.Ground.phase }, { on := 2, ground := Go.Ground.phase }, { on := 3, ground := Go.Ground.phase }, { on := 4, ground := Go.Ground.phase }, { on := 5, ground := Go.Ground.phase }, { on := 6, ground := Go.Ground.phase }, { on := 7, ground := Go.Ground.phase }, { on := 8, ground := Go.Ground.phase }], guard := none }) (oL := { dst := none, op := Go.Op.store 88 (Go.Operand.tmp 57) (Go.Operand.tmp 56), type := 0, pos := "law.go:129", after := #[{ on := 9, ground := Go.Ground.data }, { on := 8, ground := Go.Ground.data }, { on := 0, ground := Go.Ground.phase }, { on := 1, ground := Go.Ground.phase }, { on := 2, ground := Go.Ground.phase }, { on := 3, ground := Go.Ground.phase }, { on := 4, ground := Go.Ground.phase }, { on := 5, ground := Go.Ground.phase }, { on := 6, ground := Go.Ground.phase }, { on := 7, ground := Go.Ground.phase }, { on := 8, ground := Go.Ground.phase }], guard := none }) (v := .pointer (some ⟨g, j * 13, none⟩)) rfl rfl (by kernel_rfl) (by kernel_rfl) (by kernel_rfl) (by kernel_rfl) (fun _ _ _ h => h) (Or.inl ⟨by kernel_rfl, ?_⟩) rfl ?_
            · (intro X hX; subst hX <;> (go_simp; try (with_reducible rfl)))
            (try simp only [Act.put, List.setIfInBounds_toArray, List.set_cons_zero, List.set_cons_succ])
            refine wpAnyN_one (i := 10) (o := { dst := none, op := Go.Op.store 88 (Go.Operand.tmp 57) (Go.Operand.tmp 56), type := 0, pos := "law.go:129", after := #[{ on := 9, ground := Go.Ground.data }, { on := 8, ground := Go.Ground.data }, { on := 0, ground := Go.Ground.phase }, { on := 1, ground := Go.Ground.phase }, { on := 2, ground := Go.Ground.phase }, { on := 3, ground := Go.Ground.phase }, { on := 4, ground := Go.Ground.phase }, { on := 5, ground := Go.Ground.phase }, { on := 6, ground := Go.Ground.phase }, { on := 7, ground := Go.Ground.phase }, { on := 8, ground := Go.Ground.phase }], guard := none }) (by kernel_rfl) rfl (fun K hK => ?_)
            refine wp_store_mid 88 _ _ rfl g (j * 13) (mlA m) rfl rfl HTh.out (Tryz.sizeMlA m) (mlA_one m) ?_
            refine hK.out _ _ (fun e => absurd (e.symm.trans (by kernel_rfl) : false = true) Bool.false_ne_true) ?_
            clear hK K
            (try simp only [Act.put])
            refine wpAnyN_of_H (S' := fun _ => True) _ _ _ _ (by kernel_rfl) ?_
            refine wpAnyH_done (by kernel_rfl) ?_ _
            go_wp2_with fail
            go_roundw
            case rel => first | exact ⟨j + 1, _, rfl, by omega, by go_num, HP3.out⟩ | exact ⟨j + 1, by omega, by go_num, HP3.out⟩
            case measure => simp [intOf]; omega
          · obtain rfl : j = ml.length := by omega
            have HFin : Hid (MlOut D c ml fp w (.returned (.slice (some ⟨g, 0, none⟩) ml.length cp)) Y) := Lib.hid (by
              refine ⟨g, cp, k, _, rfl, by rw [← HC0.out]; exact hd, by omega, by omega, ?_, HES.out⟩
              have hrow := hd.1.mails
              rw [HES.out] at hrow
              have hlen : (layM ml k ml.length).length = k := layM_length ml k ml.length
              refine ⟨_, cp, rfl, fun h0 => ⟨g, 0, rfl, (hrow.lt g rfl).2, fun i hi j u hju => ?_⟩⟩
              have hj13 : j < 13 := by have := (Array.getElem?_eq_some_iff.1 hju).1; simpa [mlA] using this
              have hc := mlC_at (layM ml k ml.length) i j (by omega) hj13
              rw [layM_at ml (by omega) (by omega), if_pos hi] at hc
              rw [Nat.zero_add]
              have hrow2 : Y.ownsRow 0 88 13 (.slice (some ⟨g, 0, none⟩) k cp) k (mlC (layM ml k ml.length)) := by rw [← hlen]; rw [hlen]; have := hrow; rw [show (({ c0 with M := layM ml k ml.length } : DC).M).length = k from hlen] at this; exact this
              rw [hrow2.cellAt (i * 13 + j) (by omega), hc]
              exact hju)
            have hlk : (ml.length : Int) ≤ (k : Int) := by omega
            have hlc : (ml.length : Int) ≤ (cp : Int) := by
              have hset := hd.1.mails
              rw [HES.out] at hset
              rcases hset.2 with ⟨q, _⟩ | ⟨g', cap', cur, q, _, _, q1, _⟩
              · cases q
              · injection q with _ _ q3
                subst q3
                have : (layM ml k ml.length).length = k := layM_length ml k ml.length
                have q1' : k ≤ cp := by rw [← this]; exact q1
                omega
            clear hd
            go_wp2_with fail
            go_ret
            exact HFin.out
  · have hcz : ¬ (c.M.length : Int) < (ml.length : Int) + 3 := by omega
    obtain ⟨n, hn⟩ : ∃ n, c.M.length = n := ⟨_, rfl⟩
    have hln : ml.length ≤ n := by omega
    have hn1 : n ≤ 1000000 := by omega
    obtain ⟨g, cp, es2⟩ : ∃ g cp, v.m = .slice (some ⟨g, 0, none⟩) c.M.length cp := by
      rcases h.mails.2 with ⟨_, h0⟩ | ⟨g, cap, cur, e, _⟩
      · omega
      · exact ⟨g, cap, e⟩
    obtain ⟨v0, hv0⟩ : ∃ v0 : DV, v = v0 := ⟨_, rfl⟩
    obtain ⟨c0, hc0⟩ : ∃ c0 : DC, c = c0 := ⟨_, rfl⟩
    rw [hn] at es2
    have HES : Hid (v0.m = .slice (some ⟨g, 0, none⟩) n cp) := Lib.hid (by rw [← hv0]; exact es2)
    have HN : Hid (c0.M.length = n) := Lib.hid (by rw [← hc0]; exact hn)
    have HC0 : Hid (∀ S, ({ c0 with M := S } : DC) = { c with M := S }) := Lib.hid (fun S => by rw [← hc0])
    have HD0 : Hid (DS D v0 c0 fp w w) := Lib.hid (by rw [← hv0, ← hc0]; exact hd)
    rw [hn] at c0w hcz
    clear h hd hn es es2 ho hS hv0 hc0 hcs
    go_enter Tryz.func39, Tryz.ntmps39
    go_upto_region 4 with fail
    clear c0w f0
    go_loopw [5] (fun i wr => ∃ (k : Nat) (X : World), X = wr ∧ k ≤ n ∧ i = .int .i64 k ∧ DS D v0 { c0 with M := layK fillM c0.M k } fp w X) (fun i _ => n - (intOf i).toNat)
    case atStart => exact ⟨0, _, rfl, Nat.zero_le _, rfl, by rw [layK_zero]; exact HD0.out⟩
    case round =>
      obtain ⟨k, X, hX, hk, rfl, hd⟩ := hrel
      subst hX
      obtain ⟨c0x, _⟩ := hd.1.cells
      rw [HES.out] at c0x
      by_cases hlt : k < n
      · have hlti : (k : Int) < (n : Int) := by omega
        obtain ⟨th, p3⟩ := hd.putM HES.out (k := k) (by show k < (layK fillM c0.M k).length; rw [layK_length _ _ (by rw [HN.out]; exact hk), HN.out]; exact hlt) (fillM k)
        have HP3 : Hid (DS D v0 { c0 with M := layK fillM c0.M (k + 1) } fp w (X.setCells g (k * 13) (mlA (fillM k)).toList)) := Lib.hid (by
          have e := layK_set fillM c0.M (k := k) (by rw [HN.out]; exact hlt)
          rw [← e]
          exact p3)
        have HTh := Lib.hid th
        have hkw : IntKind.i64.wrap (400000 + (k : Int)) = 400000 + (k : Int) := by simp only [IntKind.wrap, IntKind.signed, IntKind.bits]; simp; omega
        obtain ⟨Y, hY⟩ : ∃ Y, X.setCells g (k * 13) (mlA (fillM k)).toList = Y := ⟨_, rfl⟩
        rw [hY] at HP3
        have HYe := Lib.hid hY
        clear hd th p3 hY
        go_upto_region 6 with fail
        go_upto_region 5 with (refine wpList_store_mid rfl 88 _ _ rfl g (k * 13) (mlA (fillM k)) rfl rfl HTh.out (Tryz.sizeMlA (fillM k)) (mlA_one (fillM k)) ?_; rw [HYe.out])
        go_wp2_with fail
        go_roundw
        case rel => exact ⟨k + 1, _, rfl, by omega, by go_num, HP3.out⟩
        case measure => simp [intOf]; omega
      · obtain rfl : k = n := by omega
        have hd2 : DS D v0 { c0 with M := layM ml k 0 } fp w X := by
          have e := layK_full fillM c0.M
          rw [HN.out] at e
          rw [layM_zero, ← e]
          exact hd
        have HD2 := Lib.hid hd2
        clear hd hd2
        go_upto_region 8 with fail
        go_loopw [6] (fun i wr => ∃ (j : Nat) (Y : World), Y = wr ∧ j ≤ ml.length ∧ i = .int .i64 j ∧ DS D v0 { c0 with M := layM ml k j } fp w Y) (fun i _ => ml.length - (intOf i).toNat)
        case atStart => exact ⟨0, _, rfl, Nat.zero_le _, rfl, HD2.out⟩
        case round =>
          obtain ⟨j, Y, hY, hj, rfl, hd⟩ := hrel
          subst hY
          obtain ⟨c0y, _⟩ := hd.1.cells
          rw [HES.out] at c0y
          by_cases hjt : j < ml.length
          · have hjti : (j : Int) < (ml.length : Int) := by omega
            obtain ⟨g2, o2, hq, hCr⟩ := HMl.out j hjt
            obtain ⟨th, p3⟩ := (hd.on (Below.refl Y.heap.size Y).drew).putM HES.out (k := j) (by show j < (layM ml k j).length; rw [layM_length]; omega) (ml.getD j ML0)
            have HP3 : Hid (DS D v0 { c0 with M := layM ml k (j + 1) } fp w (Y.drew.setCells g (j * 13) (mlA (ml.getD j ML0)).toList)) := Lib.hid (by
              rw [← layM_set ml (n := k) (k := j) (by omega)]
              exact p3)
            have HTh := Lib.hid th
            have HCr : Hid (Y.drew.rangeAt g2 (o2 + j * 13) (mlA (ml.getD j ML0)).toList) := Lib.hid (hCr Y.drew ((hd.2.trans (FO.below (Below.refl Y.heap.size Y).drew))))
            obtain ⟨m, hm⟩ : ∃ m, ml.getD j ML0 = m := ⟨_, rfl⟩
            rw [hm] at HP3 HTh HCr
            subst hq
            have hjk : (j : Int) < (k : Int) := by omega
            clear hd th p3 hCr hm
            go_upto_region 10 with fail
            refine wp_region_N 10 (fun X => X = Y.drew) (by kernel_rfl) ?_
            refine wpAnyN_take (i := 0) (oi := { dst := some 48, op := Go.Op.move (Go.Operand.tmp 0), type := 29, pos := "law.go:129", after := #[], guard := none }) (oL := { dst := none, op := Go.Op.store 88 (Go.Operand.tmp 57) (Go.Operand.tmp 56), type := 0, pos := "law.go:129", after := #[{ on := 9, ground := Go.Ground.data }, { on := 8, ground := Go.Ground.data }, { on := 0, ground := Go.Ground.phase }, { on := 1, ground := Go.Ground.phase }, { on := 2, ground := Go.Ground.phase }, { on := 3, ground := Go.Ground.phase }, { on := 4, ground := Go.Ground.phase }, { on := 5, ground := Go.Ground.phase }, { on := 6, ground := Go.Ground.phase }, { on := 7, ground := Go.Ground.phase }, { on := 8, ground := Go.Ground.phase }], guard := none }) (v := .pointer (some ⟨D, 0, none⟩)) rfl rfl (by kernel_rfl) (by kernel_rfl) (by kernel_rfl) (by kernel_rfl) (fun _ _ _ h => h) (Or.inl ⟨by kernel_rfl, ?_⟩) rfl ?_
            · (intro X hX; subst hX <;> (go_simp; try (with_reducible rfl)))
            (try simp only [Act.put, List.setIfInBounds_toArray, List.set_cons_zero, List.set_cons_succ])
            refine wpAnyN_take (i := 1) (oi := { dst := some 49, op := Go.Op.nilCheck (Go.Operand.tmp 48), type := 0, pos := "law.go:129", after := #[{ on := 0, ground := Go.Ground.data }], guard := none }) (oL := { dst := none, op := Go.Op.store 88 (Go.Operand.tmp 57) (Go.Operand.tmp 56), type := 0, pos := "law.go:129", after := #[{ on := 9, ground := Go.Ground.data }, { on := 8, ground := Go.Ground.data }, { on := 0, ground := Go.Ground.phase }, { on := 1, ground := Go.Ground.phase }, { on := 2, ground := Go.Ground.phase }, { on := 3, ground := Go.Ground.phase }, { on := 4, ground := Go.Ground.phase }, { on := 5, ground := Go.Ground.phase }, { on := 6, ground := Go.Ground.phase }, { on := 7, ground := Go.Ground.phase }, { on := 8, ground := Go.Ground.phase }], guard := none }) (v := .pointer (some ⟨D, 0, none⟩)) rfl rfl (by kernel_rfl) (by kernel_rfl) (by kernel_rfl) (by kernel_rfl) (fun _ _ _ h => h) (Or.inl ⟨by kernel_rfl, ?_⟩) rfl ?_
            · (intro X hX; subst hX <;> (go_simp; try (with_reducible rfl)))
            (try simp only [Act.put, List.setIfInBounds_toArray, List.set_cons_zero, List.set_cons_succ])
            refine wpAnyN_take (i := 2) (oi := { dst := some 50, op := Go.Op.fieldAddr 35 (Go.Operand.tmp 49) 0, type := 0, pos := "law.go:129", after := #[{ on := 1, ground := Go.Ground.data }], guard := none }) (oL := { dst := none, op := Go.Op.store 88 (Go.Operand.tmp 57) (Go.Operand.tmp 56), type := 0, pos := "law.go:129", after := #[{ on := 9, ground := Go.Ground.data }, { on := 8, ground := Go.Ground.data }, { on := 0, ground := Go.Ground.phase }, { on := 1, ground := Go.Ground.phase }, { on := 2, ground := Go.Ground.phase }, { on := 3, ground := Go.Ground.phase }, { on := 4, ground := Go.Ground.phase }, { on := 5, ground := Go.Ground.phase }, { on := 6, ground := Go.Ground.phase }, { on := 7, ground := Go.Ground.phase }, { on := 8, ground := Go.Ground.phase }], guard := none }) (v := .pointer (some ⟨D, 0, none⟩)) rfl rfl (by kernel_rfl) (by kernel_rfl) (by kernel_rfl) (by kernel_rfl) (fun _ _ _ h => h) (Or.inl ⟨by kernel_rfl, ?_⟩) rfl ?_
            · (intro X hX; subst hX <;> (go_simp; try (with_reducible rfl)))
            (try simp only [Act.put, List.setIfInBounds_toArray, List.set_cons_zero, List.set_cons_succ])
            refine wpAnyN_take (i := 3) (oi := { dst := some 51, op := Go.Op.load 30 (Go.Operand.tmp 50), type := 30, pos := "law.go:129", after := #[{ on := 2, ground := Go.Ground.data }], guard := none }) (oL := { dst := none, op := Go.Op.store 88 (Go.Operand.tmp 57) (Go.Operand.tmp 56), type := 0, pos := "law.go:129", after := #[{ on := 9, ground := Go.Ground.data }, { on := 8, ground := Go.Ground.data }, { on := 0, ground := Go.Ground.phase }, { on := 1, ground := Go.Ground.phase }, { on := 2, ground := Go.Ground.phase }, { on := 3, ground := Go.Ground.phase }, { on := 4, ground := Go.Ground.phase }, { on := 5, ground := Go.Ground.phase }, { on := 6, ground := Go.Ground.phase }, { on := 7, ground := Go.Ground.phase }, { on := 8, ground := Go.Ground.phase }], guard := none }) (v := .slice (some ⟨g, 0, none⟩) k cp) rfl rfl (by kernel_rfl) (by kernel_rfl) (by kernel_rfl) (by kernel_rfl) (fun _ _ _ h => h) (Or.inl ⟨by kernel_rfl, ?_⟩) rfl ?_
            · (intro X hX; subst hX <;> (go_simp; try (with_reducible rfl)))
            (try simp only [Act.put, List.setIfInBounds_toArray, List.set_cons_zero, List.set_cons_succ])
            refine wpAnyN_take (i := 4) (oi := { dst := some 52, op := Go.Op.move (Go.Operand.tmp 6), type := 3, pos := "law.go:129", after := #[], guard := none }) (oL := { dst := none, op := Go.Op.store 88 (Go.Operand.tmp 57) (Go.Operand.tmp 56), type := 0, pos := "law.go:129", after := #[{ on := 9, ground := Go.Ground.data }, { on := 8, ground := Go.Ground.data }, { on := 0, ground := Go.Ground.phase }, { on := 1, ground := Go.Ground.phase }, { on := 2, ground := Go.Ground.phase }, { on := 3, ground := Go.Ground.phase }, { on := 4, ground := Go.Ground.phase }, { on := 5, ground := Go.Ground.phase }, { on := 6, ground := Go.Ground.phase }, { on := 7, ground := Go.Ground.phase }, { on := 8, ground := Go.Ground.phase }], guard := none }) (v := .int .i64 (j : Int)) rfl rfl (by kernel_rfl) (by kernel_rfl) (by kernel_rfl) (by kernel_rfl) (fun _ _ _ h => h) (Or.inl ⟨by kernel_rfl, ?_⟩) rfl ?_
            · (intro X hX; subst hX <;> (go_simp; try (with_reducible rfl)))
            (try simp only [Act.put, List.setIfInBounds_toArray, List.set_cons_zero, List.set_cons_succ])
            refine wpAnyN_take (i := 5) (oi := { dst := some 53, op := Go.Op.move (Go.Operand.tmp 1), type := 30, pos := "law.go:129", after := #[], guard := none }) (oL := { dst := none, op := Go.Op.store 88 (Go.Operand.tmp 57) (Go.Operand.tmp 56), type := 0, pos := "law.go:129", after := #[{ on := 9, ground := Go.Ground.data }, { on := 8, ground := Go.Ground.data }, { on := 0, ground := Go.Ground.phase }, { on := 1, ground := Go.Ground.phase }, { on := 2, ground := Go.Ground.phase }, { on := 3, ground := Go.Ground.phase }, { on := 4, ground := Go.Ground.phase }, { on := 5, ground := Go.Ground.phase }, { on := 6, ground := Go.Ground.phase }, { on := 7, ground := Go.Ground.phase }, { on := 8, ground := Go.Ground.phase }], guard := none }) (v := .slice (some ⟨g2, o2, none⟩) ml.length mc) rfl rfl (by kernel_rfl) (by kernel_rfl) (by kernel_rfl) (by kernel_rfl) (fun _ _ _ h => h) (Or.inl ⟨by kernel_rfl, ?_⟩) rfl ?_
            · (intro X hX; subst hX <;> (go_simp; try (with_reducible rfl)))
            (try simp only [Act.put, List.setIfInBounds_toArray, List.set_cons_zero, List.set_cons_succ])
            refine wpAnyN_take (i := 6) (oi := { dst := some 54, op := Go.Op.move (Go.Operand.tmp 6), type := 3, pos := "law.go:129", after := #[], guard := none }) (oL := { dst := none, op := Go.Op.store 88 (Go.Operand.tmp 57) (Go.Operand.tmp 56), type := 0, pos := "law.go:129", after := #[{ on := 9, ground := Go.Ground.data }, { on := 8, ground := Go.Ground.data }, { on := 0, ground := Go.Ground.phase }, { on := 1, ground := Go.Ground.phase }, { on := 2, ground := Go.Ground.phase }, { on := 3, ground := Go.Ground.phase }, { on := 4, ground := Go.Ground.phase }, { on := 5, ground := Go.Ground.phase }, { on := 6, ground := Go.Ground.phase }, { on := 7, ground := Go.Ground.phase }, { on := 8, ground := Go.Ground.phase }], guard := none }) (v := .int .i64 (j : Int)) rfl rfl (by kernel_rfl) (by kernel_rfl) (by kernel_rfl) (by kernel_rfl) (fun _ _ _ h => h) (Or.inl ⟨by kernel_rfl, ?_⟩) rfl ?_
            · (intro X hX; subst hX <;> (go_simp; try (with_reducible rfl)))
            (try simp only [Act.put, List.setIfInBounds_toArray, List.set_cons_zero, List.set_cons_succ])
            refine wpAnyN_take (i := 7) (oi := { dst := some 55, op := Go.Op.indexAddr 30 (Go.Operand.tmp 53) (Go.Operand.tmp 54), type := 0, pos := "law.go:129", after := #[{ on := 5, ground := Go.Ground.data }, { on := 6, ground := Go.Ground.data }], guard := none }) (oL := { dst := none, op := Go.Op.store 88 (Go.Operand.tmp 57) (Go.Operand.tmp 56), type := 0, pos := "law.go:129", after := #[{ on := 9, ground := Go.Ground.data }, { on := 8, ground := Go.Ground.data }, { on := 0, ground := Go.Ground.phase }, { on := 1, ground := Go.Ground.phase }, { on := 2, ground := Go.Ground.phase }, { on := 3, ground := Go.Ground.phase }, { on := 4, ground := Go.Ground.phase }, { on := 5, ground := Go.Ground.phase }, { on := 6, ground := Go.Ground.phase }, { on := 7, ground := Go.Ground.phase }, { on := 8, ground := Go.Ground.phase }], guard := none }) (v := .pointer (some ⟨g2, o2 + j * 13, none⟩)) rfl rfl (by kernel_rfl) (by kernel_rfl) (by kernel_rfl) (by kernel_rfl) (fun _ _ _ h => h) (Or.inl ⟨by kernel_rfl, ?_⟩) rfl ?_
            · (intro X hX; subst hX <;> (go_simp; try (with_reducible rfl)))
            (try simp only [Act.put, List.setIfInBounds_toArray, List.set_cons_zero, List.set_cons_succ])
            refine wpAnyN_one (i := 8) (o := { dst := some 56, op := Go.Op.load 88 (Go.Operand.tmp 55), type := 88, pos := "law.go:129", after := #[{ on := 7, ground := Go.Ground.data }], guard := none }) (by kernel_rfl) rfl (fun K hK => ?_)
            refine wp_load_mid 88 _ rfl g2 (o2 + j * 13) rfl _ _ HCr.out Tryz.underlying88 rfl (Tryz.sizeMl m) ?_
            refine hK.out _ _ (fun _ => rfl) ?_
            clear hK K
            (try simp only [Act.put, List.setIfInBounds_toArray, List.set_cons_zero, List.set_cons_succ])
            refine wpAnyN_take (i := 9) (oi := { dst := some 57, op := Go.Op.indexAddr 30 (Go.Operand.tmp 51) (Go.Operand.tmp 52), type := 0, pos := "law.go:129", after := #[{ on := 3, ground := Go.Ground.data }, { on := 4, ground := Go.Ground.data }, { on := 0, ground := Go.Ground.phase }, { on := 1, ground := Go.Ground.phase }, { on := 2, ground := Go.Ground.phase }, { on := 3, ground := Go.Ground.phase }, { on := 4, ground := Go.Ground.phase }, { on := 5, ground := Go.Ground.phase }, { on := 6, ground := Go.Ground.phase }, { on := 7, ground := Go.Ground.phase }, { on := 8, ground := Go.Ground.phase }], guard := none }) (oL := { dst := none, op := Go.Op.store 88 (Go.Operand.tmp 57) (Go.Operand.tmp 56), type := 0, pos := "law.go:129", after := #[{ on := 9, ground := Go.Ground.data }, { on := 8, ground := Go.Ground.data }, { on := 0, ground := Go.Ground.phase }, { on := 1, ground := Go.Ground.phase }, { on := 2, ground := Go.Ground.phase }, { on := 3, ground := Go.Ground.phase }, { on := 4, ground := Go.Ground.phase }, { on := 5, ground := Go.Ground.phase }, { on := 6, ground := Go.Ground.phase }, { on := 7, ground := Go.Ground.phase }, { on := 8, ground := Go.Ground.phase }], guard := none }) (v := .pointer (some ⟨g, j * 13, none⟩)) rfl rfl (by kernel_rfl) (by kernel_rfl) (by kernel_rfl) (by kernel_rfl) (fun _ _ _ h => h) (Or.inl ⟨by kernel_rfl, ?_⟩) rfl ?_
            · (intro X hX; subst hX <;> (go_simp; try (with_reducible rfl)))
            (try simp only [Act.put, List.setIfInBounds_toArray, List.set_cons_zero, List.set_cons_succ])
            refine wpAnyN_one (i := 10) (o := { dst := none, op := Go.Op.store 88 (Go.Operand.tmp 57) (Go.Operand.tmp 56), type := 0, pos := "law.go:129", after := #[{ on := 9, ground := Go.Ground.data }, { on := 8, ground := Go.Ground.data }, { on := 0, ground := Go.Ground.phase }, { on := 1, ground := Go.Ground.phase }, { on := 2, ground := Go.Ground.phase }, { on := 3, ground := Go.Ground.phase }, { on := 4, ground := Go.Ground.phase }, { on := 5, ground := Go.Ground.phase }, { on := 6, ground := Go.Ground.phase }, { on := 7, ground := Go.Ground.phase }, { on := 8, ground := Go.Ground.phase }], guard := none }) (by kernel_rfl) rfl (fun K hK => ?_)
            refine wp_store_mid 88 _ _ rfl g (j * 13) (mlA m) rfl rfl HTh.out (Tryz.sizeMlA m) (mlA_one m) ?_
            refine hK.out _ _ (fun e => absurd (e.symm.trans (by kernel_rfl) : false = true) Bool.false_ne_true) ?_
            clear hK K
            (try simp only [Act.put])
            refine wpAnyN_of_H (S' := fun _ => True) _ _ _ _ (by kernel_rfl) ?_
            refine wpAnyH_done (by kernel_rfl) ?_ _
            go_wp2_with fail
            go_roundw
            case rel => first | exact ⟨j + 1, _, rfl, by omega, by go_num, HP3.out⟩ | exact ⟨j + 1, by omega, by go_num, HP3.out⟩
            case measure => simp [intOf]; omega
          · obtain rfl : j = ml.length := by omega
            have HFin : Hid (MlOut D c ml fp w (.returned (.slice (some ⟨g, 0, none⟩) ml.length cp)) Y) := Lib.hid (by
              refine ⟨g, cp, k, _, rfl, by rw [← HC0.out]; exact hd, by omega, by omega, ?_, HES.out⟩
              have hrow := hd.1.mails
              rw [HES.out] at hrow
              have hlen : (layM ml k ml.length).length = k := layM_length ml k ml.length
              refine ⟨_, cp, rfl, fun h0 => ⟨g, 0, rfl, (hrow.lt g rfl).2, fun i hi j u hju => ?_⟩⟩
              have hj13 : j < 13 := by have := (Array.getElem?_eq_some_iff.1 hju).1; simpa [mlA] using this
              have hc := mlC_at (layM ml k ml.length) i j (by omega) hj13
              rw [layM_at ml (by omega) (by omega), if_pos hi] at hc
              rw [Nat.zero_add]
              have hrow2 : Y.ownsRow 0 88 13 (.slice (some ⟨g, 0, none⟩) k cp) k (mlC (layM ml k ml.length)) := by rw [← hlen]; rw [hlen]; have := hrow; rw [show (({ c0 with M := layM ml k ml.length } : DC).M).length = k from hlen] at this; exact this
              rw [hrow2.cellAt (i * 13 + j) (by omega), hc]
              exact hju)
            have hlk : (ml.length : Int) ≤ (k : Int) := by omega
            have hlc : (ml.length : Int) ≤ (cp : Int) := by
              have hset := hd.1.mails
              rw [HES.out] at hset
              rcases hset.2 with ⟨q, _⟩ | ⟨g', cap', cur, q, _, _, q1, _⟩
              · cases q
              · injection q with _ _ q3
                subst q3
                have : (layM ml k ml.length).length = k := layM_length ml k ml.length
                have q1' : k ≤ cp := by rw [← this]; exact q1
                omega
            clear hd
            go_wp2_with fail
            go_ret
            exact HFin.out
end Go.Proofs.YtflkhnmggmfhfaaGreat
