/- postbagref11: put (r11cgen.py out of R11c.src). -/
import Derived.Test.YtgcbindjbgkniaaGreatDoorR11b
import Derived.Test.YtgcbindjbgkniaaGreatDoorZv
namespace Go.Proofs.YtgcbindjbgkniaaGreatDoor
open Go.RowKit Go.Lib

/-- One text below another, in small letters. -/
def ltB (x y : ByteArray) : Bool := Op.bytesLess (S (lower (L x))).toList (S (lower (L y))).toList
/-- A list is the given one, or it lies in memory from a place on. -/
def PutLo (B : Nat) (v v' : Value) : Prop := ∀ a n c, v' = .slice (some a) n c → v' = v ∨ B ≤ a.block
theorem OwnT.putLo {B : Nat} {v v' : Value} {l : List ByteArray} {W0 w : World} (h : OwnT B v' l W0 w) : PutLo B v v' := by
  intro a n c e
  rcases h.row.2 with ⟨rfl, _⟩ | ⟨g, cap, cur, rfl, hB, _⟩
  · cases e
  · cases e
    exact .inr hB
/-- A keyword among others, where it belongs. -/
def putGo (x : ByteArray) : Bool → List ByteArray → List ByteArray
  | d, [] => cond d [] [x]
  | d, y :: r => cond (!d && ltB x y) (x :: y :: putGo x true r) (y :: putGo x d r)
def sameB (x y : ByteArray) : Bool := same (L x) (L y)
def putL (ws : List ByteArray) (x : ByteArray) : List ByteArray := cond (ws.any (fun y => sameB y x)) ws (putGo x false ws)
/-- What has been put behind some words. -/
def putS (x : ByteArray) (p : List ByteArray × Bool) (y : ByteArray) : List ByteArray × Bool := cond (!p.2 && ltB x y) (p.1 ++ [x, y], true) (p.1 ++ [y], p.2)
def putAt (x : ByteArray) (ws : List ByteArray) : List ByteArray × Bool := ws.foldl (putS x) ([], false)
theorem putAt_snoc (x : ByteArray) (ws : List ByteArray) (y : ByteArray) : putAt x (ws ++ [y]) = putS x (putAt x ws) y := by
  unfold putAt
  rw [List.foldl_append]
  rfl
theorem putGo_fold (x : ByteArray) (ws : List ByteArray) : ∀ (p : List ByteArray × Bool), p.1 ++ putGo x p.2 ws = (ws.foldl (putS x) p).1 ++ cond (ws.foldl (putS x) p).2 [] [x] := by
  induction ws with
  | nil => intro p; rfl
  | cons y r ih =>
    intro p
    rw [List.foldl_cons, ← ih, putGo]
    unfold putS
    cases hc : (!p.2 && ltB x y) <;> simp
theorem putAt_all (x : ByteArray) (ws : List ByteArray) : putGo x false ws = (putAt x ws).1 ++ cond (putAt x ws).2 [] [x] := by
  have := putGo_fold x ws ([], false)
  rw [List.nil_append] at this
  exact this
theorem putS_len (x : ByteArray) (p : List ByteArray × Bool) (y : ByteArray) : (putS x p y).1.length ≤ p.1.length + 2 := by
  unfold putS
  cases (!p.2 && ltB x y) <;> simp
theorem putAt_len (x : ByteArray) (ws : List ByteArray) : ∀ k, k ≤ ws.length → (putAt x (ws.take k)).1.length ≤ 2 * k := by
  intro k
  induction k with
  | zero => intro _; simp [putAt]
  | succ k ih =>
    intro hk
    have h1 := ih (by omega)
    rw [List.take_add_one, List.getElem?_eq_getElem (by omega)]
    have h2 := putS_len x (putAt x (ws.take k)) ws[k]
    have e : ws.take k ++ (some ws[k]).toList = ws.take k ++ [ws[k]] := rfl
    rw [e, putAt_snoc]
    omega
set_option maxHeartbeats 8000000 in
theorem put_any (v : Value) (ws : List ByteArray) (x : ByteArray) (w : World) (h : Strs w v ws) (hl : ws.length ≤ 1000) (hx : x.size ≤ 140737488355328) (hz : ∀ y, y ∈ ws → y.size ≤ 140737488355328) :
    Calls Tryz.prog 27 #[v, .string x] w fun e w' => ∃ v', e = .returned v' ∧ Strs w' v' (putL ws x) ∧ Below w.heap.size w w' ∧ PutLo w.heap.size v v' := by
  obtain ⟨ao, cap, rfl, hk⟩ := h.cells
  have HS := Lib.hid h
  have HC := Lib.hid hk
  have HZ := Lib.hid (And.intro hl (And.intro hx hz))
  have hmi : (ws.length : Int) ≤ 1000 := by omega
  clear h hk hl hx hz
  obtain ⟨m, hm⟩ : ∃ m, ws.length = m := ⟨_, rfl⟩
  have HM := Lib.hid hm
  rw [hm] at hmi HC ⊢
  clear hm
  go_enter Tryz.func27, Tryz.ntmps27
  go_wp2_with fail
  go_loopw [5, 6, 7] (fun vo vd vi wr => ∃ (k : Nat) (X : World), X = wr ∧ k ≤ m ∧ vi = .int .i64 k ∧ vd = .bool (putAt x (ws.take k)).2 ∧ (∀ j, j < k → sameB (ws.getD j ByteArray.empty) x = false) ∧ OwnT w.heap.size vo (putAt x (ws.take k)).1 w X) (fun _ _ i _ => m - (intOf i).toNat)
  case atStart => exact ⟨0, _, rfl, Nat.zero_le _, rfl, rfl, fun j hj => absurd hj (Nat.not_lt_zero _), OwnT.nil (Below.refl _ _) (Nat.le_refl _)⟩
  case round =>
    obtain ⟨k, X0, hX, hk, rfl, rfl, hno, hown⟩ := hrel
    subst hX
    have hk2 : (k : Int) ≤ 1000 := by omega
    have HO := Lib.hid hown
    have HNo := Lib.hid hno
    have HLn : Hid ((putAt x (ws.take k)).1.length + 4 ≤ 1099511627776) := Lib.hid (by
      have := putAt_len x ws k (by rw [HM.out]; exact hk)
      omega)
    clear hno
    by_cases hlt : k < m
    · obtain ⟨b, off, hao, hbl, hcl⟩ := HC.out k hlt
      have hkw : k < ws.length := by rw [HM.out]; exact hlt
      have HMem : Hid (ws.getD k ByteArray.empty ∈ ws) := Lib.hid (by
        rw [List.getD_eq_getElem?_getD, List.getElem?_eq_getElem hkw]
        exact List.getElem_mem hkw)
      have HSn : Hid (putAt x (ws.take (k + 1)) = putS x (putAt x (ws.take k)) (ws.getD k ByteArray.empty)) := Lib.hid (by
        rw [List.take_add_one, List.getElem?_eq_getElem hkw]
        have e : ws.take k ++ (some ws[k]).toList = ws.take k ++ [ws[k]] := rfl
        rw [e, putAt_snoc, List.getD_eq_getElem?_getD, List.getElem?_eq_getElem hkw]
        rfl)
      have HSm := Lib.hid (fun X => refSame_any (ws.getD k ByteArray.empty) x X (HZ.out.2.2 _ HMem.out) HZ.out.2.1)
      have HLx := Lib.hid (fun X => refLower_any x X HZ.out.2.1)
      have HLt := Lib.hid (fun X => refLower_any (ws.getD k ByteArray.empty) X (HZ.out.2.2 _ HMem.out))
      have HYb : Hid (∀ X, Below w.heap.size w X → X.cell? ⟨b, off + k, none⟩ = some (.string (ws.getD k ByteArray.empty))) := Lib.hid (fun X hX => by rw [hX.cell (p := ⟨b, off + k, none⟩) hbl]; exact hcl)
      have y0 := HYb.out X0 hown.below
      have hki : (k : Int) < (m : Int) := by omega
      have HAny : Hid (sameB (ws.getD k ByteArray.empty) x = true → putL ws x = ws) := Lib.hid (fun e => by
        unfold putL
        have : ws.any (fun y => sameB y x) = true := List.any_eq_true.2 ⟨_, HMem.out, e⟩
        rw [this]
        rfl)
      have hlt' : Op.bytesLess (S (lower (L x))).toList (S (lower (L (ws.getD k ByteArray.empty)))).toList = ltB x (ws.getD k ByteArray.empty) := rfl
      have hsm' : same (L (ws.getD k ByteArray.empty)) (L x) = sameB (ws.getD k ByteArray.empty) x := rfl
      rw [hsm'] at HSm
      subst hao
      obtain ⟨t, ht⟩ : ∃ t, ws.getD k ByteArray.empty = t := ⟨_, rfl⟩
      rw [ht] at HSm HLt HYb y0 HAny hlt' HSn
      have HT := Lib.hid ht
      clear ht hsm' hcl hbl hkw
      obtain ⟨P, hP⟩ : ∃ P, putAt x (ws.take k) = P := ⟨_, rfl⟩
      rw [hP] at HSn HO HLn hown ⊢
      clear hP
      obtain ⟨pl, pd⟩ := P
      simp only at HO HLn hown ⊢
      obtain ⟨ao5, cap5, rfl⟩ := hown.shape
      cases hs : sameB t x with
      | true =>
        rw [hs] at HSm
        have HA2 := Lib.hid (HAny.out hs)
        clear hs hown
        go_wp2_with (go_at_call 42; refine (HSm.out _).mono ?_; rintro e w3 ⟨rfl, hb3⟩; have HB3 := Lib.hid hb3; clear hb3)
        go_ret
        have hbb : Below w.heap.size w w3 := HO.out.below.trans (HB3.out.mono HO.out.base)
        refine ⟨_, rfl, ?_, hbb, fun _ _ _ _ => .inl rfl⟩
        rw [HA2.out]
        have := HS.out.on hbb
        rw [HM.out] at this
        exact this
      | false =>
        rw [hs] at HSm
        have HNo2 : Hid (∀ j, j < k + 1 → sameB (ws.getD j ByteArray.empty) x = false) := Lib.hid (fun j hj => by
          by_cases e : j = k
          · rw [e, HT.out]; exact hs
          · exact HNo.out j (by omega))
        clear hs hown
        go_upto_region 8 with (go_at_call 42; refine (HSm.out _).mono ?_; rintro e w3 ⟨rfl, hb3⟩; have HO3 := Lib.hid (HO.out.on hb3); clear hb3)
        have HY : Hid (∀ X, Below w3.heap.size w3 X → X.cell? ⟨b, off + k, none⟩ = some (.string t)) := Lib.hid (fun X hX => HYb.out X (HO3.out.below.trans (hX.mono HO3.out.base)))
        have y3 := HY.out w3 (Below.refl _ _)
        clear y0 HSm HAny HNo
        cases pd with
        | true =>
          clear HLx HLt hlt'
          refine wp_region_N 11 (fun X => X = w3.drew) (by kernel_rfl) ?_
          refine wpAnyN_take (i := 0) (oi := { dst := some 21, op := Go.Op.move (Go.Operand.tmp 6), type := 4, pos := "ref.go:79", after := #[], guard := none }) (oL := { dst := some 32, op := Go.Op.pick (Go.Operand.tmp 23) (Go.Operand.tmp 31) (Go.Operand.const (Go.Value.bool false)), type := 4, pos := "ref.go:79", after := #[{ on := 2, ground := Go.Ground.data }, { on := 10, ground := Go.Ground.data }], guard := none }) (v := .bool true) rfl rfl (by kernel_rfl) (by kernel_rfl) (by kernel_rfl) (by kernel_rfl) (fun _ _ _ h => h) (Or.inl ⟨by kernel_rfl, ?_⟩) rfl ?_
          · (intro X hX; subst hX <;> (go_simp; try (with_reducible rfl)))
          (try simp only [Act.put, List.setIfInBounds_toArray, List.set_cons_zero, List.set_cons_succ])
          refine wpAnyN_take (i := 1) (oi := { dst := some 22, op := Go.Op.unOp Go.UnOp.not 4 (Go.Operand.tmp 21), type := 4, pos := "ref.go:79", after := #[{ on := 0, ground := Go.Ground.data }], guard := none }) (oL := { dst := some 32, op := Go.Op.pick (Go.Operand.tmp 23) (Go.Operand.tmp 31) (Go.Operand.const (Go.Value.bool false)), type := 4, pos := "ref.go:79", after := #[{ on := 2, ground := Go.Ground.data }, { on := 10, ground := Go.Ground.data }], guard := none }) (v := .bool false) rfl rfl (by kernel_rfl) (by kernel_rfl) (by kernel_rfl) (by kernel_rfl) (fun _ _ _ h => h) (Or.inl ⟨by kernel_rfl, ?_⟩) rfl ?_
          · (intro X hX; subst hX <;> (go_simp; try (with_reducible rfl)))
          (try simp only [Act.put, List.setIfInBounds_toArray, List.set_cons_zero, List.set_cons_succ])
          refine wpAnyN_take (i := 2) (oi := { dst := some 23, op := Go.Op.move (Go.Operand.tmp 22), type := 4, pos := "ref.go:79", after := #[{ on := 1, ground := Go.Ground.data }], guard := none }) (oL := { dst := some 32, op := Go.Op.pick (Go.Operand.tmp 23) (Go.Operand.tmp 31) (Go.Operand.const (Go.Value.bool false)), type := 4, pos := "ref.go:79", after := #[{ on := 2, ground := Go.Ground.data }, { on := 10, ground := Go.Ground.data }], guard := none }) (v := .bool false) rfl rfl (by kernel_rfl) (by kernel_rfl) (by kernel_rfl) (by kernel_rfl) (fun _ _ _ h => h) (Or.inl ⟨by kernel_rfl, ?_⟩) rfl ?_
          · (intro X hX; subst hX <;> (go_simp; try (with_reducible rfl)))
          (try simp only [Act.put, List.setIfInBounds_toArray, List.set_cons_zero, List.set_cons_succ])
          refine wpAnyN_take (i := 3) (oi := { dst := some 24, op := Go.Op.move (Go.Operand.tmp 1), type := 9, pos := "ref.go:79", after := #[{ on := 2, ground := Go.Ground.guard }], guard := some (2, true) }) (oL := { dst := some 32, op := Go.Op.pick (Go.Operand.tmp 23) (Go.Operand.tmp 31) (Go.Operand.const (Go.Value.bool false)), type := 4, pos := "ref.go:79", after := #[{ on := 2, ground := Go.Ground.data }, { on := 10, ground := Go.Ground.data }], guard := none }) (v := undef) rfl rfl (by kernel_rfl) (by kernel_rfl) (by kernel_rfl) (by kernel_rfl) (fun _ _ _ h => h) (Or.inr ⟨by kernel_rfl, rfl⟩) rfl ?_
          (try simp only [Act.put, List.setIfInBounds_toArray, List.set_cons_zero, List.set_cons_succ])
          refine wpAnyN_take (i := 4) (oi := { dst := some 25, op := Go.Op.call { callee := Go.Callee.value (Go.Operand.func 46), args := #[Go.Operand.tmp 24], argTypes := #[9] }, type := 9, pos := "ref.go:79", after := #[{ on := 3, ground := Go.Ground.data }, { on := 2, ground := Go.Ground.chain }, { on := 2, ground := Go.Ground.guard }], guard := some (2, true) }) (oL := { dst := some 32, op := Go.Op.pick (Go.Operand.tmp 23) (Go.Operand.tmp 31) (Go.Operand.const (Go.Value.bool false)), type := 4, pos := "ref.go:79", after := #[{ on := 2, ground := Go.Ground.data }, { on := 10, ground := Go.Ground.data }], guard := none }) (v := undef) rfl rfl (by kernel_rfl) (by kernel_rfl) (by kernel_rfl) (by kernel_rfl) (fun _ _ _ h => h) (Or.inr ⟨by kernel_rfl, rfl⟩) rfl ?_
          (try simp only [Act.put, List.setIfInBounds_toArray, List.set_cons_zero, List.set_cons_succ])
          refine wpAnyN_take (i := 5) (oi := { dst := some 26, op := Go.Op.move (Go.Operand.tmp 0), type := 22, pos := "ref.go:79", after := #[{ on := 2, ground := Go.Ground.guard }], guard := some (2, true) }) (oL := { dst := some 32, op := Go.Op.pick (Go.Operand.tmp 23) (Go.Operand.tmp 31) (Go.Operand.const (Go.Value.bool false)), type := 4, pos := "ref.go:79", after := #[{ on := 2, ground := Go.Ground.data }, { on := 10, ground := Go.Ground.data }], guard := none }) (v := undef) rfl rfl (by kernel_rfl) (by kernel_rfl) (by kernel_rfl) (by kernel_rfl) (fun _ _ _ h => h) (Or.inr ⟨by kernel_rfl, rfl⟩) rfl ?_
          (try simp only [Act.put, List.setIfInBounds_toArray, List.set_cons_zero, List.set_cons_succ])
          refine wpAnyN_take (i := 6) (oi := { dst := some 27, op := Go.Op.move (Go.Operand.tmp 7), type := 3, pos := "ref.go:79", after := #[{ on := 2, ground := Go.Ground.guard }], guard := some (2, true) }) (oL := { dst := some 32, op := Go.Op.pick (Go.Operand.tmp 23) (Go.Operand.tmp 31) (Go.Operand.const (Go.Value.bool false)), type := 4, pos := "ref.go:79", after := #[{ on := 2, ground := Go.Ground.data }, { on := 10, ground := Go.Ground.data }], guard := none }) (v := undef) rfl rfl (by kernel_rfl) (by kernel_rfl) (by kernel_rfl) (by kernel_rfl) (fun _ _ _ h => h) (Or.inr ⟨by kernel_rfl, rfl⟩) rfl ?_
          (try simp only [Act.put, List.setIfInBounds_toArray, List.set_cons_zero, List.set_cons_succ])
          refine wpAnyN_take (i := 7) (oi := { dst := some 28, op := Go.Op.indexAddr 22 (Go.Operand.tmp 26) (Go.Operand.tmp 27), type := 0, pos := "ref.go:79", after := #[{ on := 5, ground := Go.Ground.data }, { on := 6, ground := Go.Ground.data }, { on := 2, ground := Go.Ground.guard }], guard := some (2, true) }) (oL := { dst := some 32, op := Go.Op.pick (Go.Operand.tmp 23) (Go.Operand.tmp 31) (Go.Operand.const (Go.Value.bool false)), type := 4, pos := "ref.go:79", after := #[{ on := 2, ground := Go.Ground.data }, { on := 10, ground := Go.Ground.data }], guard := none }) (v := undef) rfl rfl (by kernel_rfl) (by kernel_rfl) (by kernel_rfl) (by kernel_rfl) (fun _ _ _ h => h) (Or.inr ⟨by kernel_rfl, rfl⟩) rfl ?_
          (try simp only [Act.put, List.setIfInBounds_toArray, List.set_cons_zero, List.set_cons_succ])
          refine wpAnyN_take (i := 8) (oi := { dst := some 29, op := Go.Op.load 9 (Go.Operand.tmp 28), type := 9, pos := "ref.go:79", after := #[{ on := 7, ground := Go.Ground.data }, { on := 2, ground := Go.Ground.guard }], guard := some (2, true) }) (oL := { dst := some 32, op := Go.Op.pick (Go.Operand.tmp 23) (Go.Operand.tmp 31) (Go.Operand.const (Go.Value.bool false)), type := 4, pos := "ref.go:79", after := #[{ on := 2, ground := Go.Ground.data }, { on := 10, ground := Go.Ground.data }], guard := none }) (v := undef) rfl rfl (by kernel_rfl) (by kernel_rfl) (by kernel_rfl) (by kernel_rfl) (fun _ _ _ h => h) (Or.inr ⟨by kernel_rfl, rfl⟩) rfl ?_
          (try simp only [Act.put, List.setIfInBounds_toArray, List.set_cons_zero, List.set_cons_succ])
          refine wpAnyN_take (i := 9) (oi := { dst := some 30, op := Go.Op.call { callee := Go.Callee.value (Go.Operand.func 46), args := #[Go.Operand.tmp 29], argTypes := #[9] }, type := 9, pos := "ref.go:79", after := #[{ on := 8, ground := Go.Ground.data }, { on := 4, ground := Go.Ground.chain }, { on := 2, ground := Go.Ground.guard }], guard := some (2, true) }) (oL := { dst := some 32, op := Go.Op.pick (Go.Operand.tmp 23) (Go.Operand.tmp 31) (Go.Operand.const (Go.Value.bool false)), type := 4, pos := "ref.go:79", after := #[{ on := 2, ground := Go.Ground.data }, { on := 10, ground := Go.Ground.data }], guard := none }) (v := undef) rfl rfl (by kernel_rfl) (by kernel_rfl) (by kernel_rfl) (by kernel_rfl) (fun _ _ _ h => h) (Or.inr ⟨by kernel_rfl, rfl⟩) rfl ?_
          (try simp only [Act.put, List.setIfInBounds_toArray, List.set_cons_zero, List.set_cons_succ])
          refine wpAnyN_take (i := 10) (oi := { dst := some 31, op := Go.Op.binOp Go.BinOp.lss 9 (Go.Operand.tmp 25) (Go.Operand.tmp 30) 9, type := 4, pos := "ref.go:79", after := #[{ on := 4, ground := Go.Ground.data }, { on := 9, ground := Go.Ground.data }, { on := 2, ground := Go.Ground.guard }], guard := some (2, true) }) (oL := { dst := some 32, op := Go.Op.pick (Go.Operand.tmp 23) (Go.Operand.tmp 31) (Go.Operand.const (Go.Value.bool false)), type := 4, pos := "ref.go:79", after := #[{ on := 2, ground := Go.Ground.data }, { on := 10, ground := Go.Ground.data }], guard := none }) (v := undef) rfl rfl (by kernel_rfl) (by kernel_rfl) (by kernel_rfl) (by kernel_rfl) (fun _ _ _ h => h) (Or.inr ⟨by kernel_rfl, rfl⟩) rfl ?_
          (try simp only [Act.put, List.setIfInBounds_toArray, List.set_cons_zero, List.set_cons_succ])
          refine wpAnyN_one (i := 11) (o := { dst := some 32, op := Go.Op.pick (Go.Operand.tmp 23) (Go.Operand.tmp 31) (Go.Operand.const (Go.Value.bool false)), type := 4, pos := "ref.go:79", after := #[{ on := 2, ground := Go.Ground.data }, { on := 10, ground := Go.Ground.data }], guard := none }) (by kernel_rfl) rfl (fun K hK => ?_)
          go_simp
          refine hK.out _ _ (fun e => absurd (e.symm.trans (by kernel_rfl) : false = true) Bool.false_ne_true) ?_
          clear hK K
          (try simp only [Act.put, List.setIfInBounds_toArray, List.set_cons_zero, List.set_cons_succ])
          refine wpAnyN_of_H (S' := fun _ => True) _ _ _ _ (by kernel_rfl) ?_
          refine wpAnyH_done (by kernel_rfl) ?_ _
          have HO4 := Lib.hid (HO3.out.on (Below.refl _ _).drew)
          go_wp2_with (at_builtin; refine appT rfl _ _ rfl t HO4.out rfl w3.heap.size rfl rfl (by have := HLn.out; omega) ?_; intro v6 w6 ho6; obtain ⟨a6, k6, hv6⟩ := ho6.shape; rw [List.length_append] at hv6; subst hv6; have HO6 := Lib.hid ho6; clear ho6)
          go_roundw
          case rel => exact ⟨k + 1, _, rfl, hlt, by go_num, by rw [HSn.out]; rfl, HNo2.out, by rw [HSn.out]; exact HO6.out⟩
          case measure => simp [intOf]; omega
        | false =>
          obtain ⟨lt, hltb⟩ : ∃ lt, ltB x t = lt := ⟨_, rfl⟩
          rw [hltb] at hlt'
          have HLb := Lib.hid hltb
          clear hltb
          generalize S (lower (L x)) = sx at *
          generalize S (lower (L t)) = st at *
          refine wp_region_N 11 (fun X => Below w3.heap.size w3 X) (by kernel_rfl) ?_
          refine wpAnyN_take (i := 0) (oi := { dst := some 21, op := Go.Op.move (Go.Operand.tmp 6), type := 4, pos := "ref.go:79", after := #[], guard := none }) (oL := { dst := some 32, op := Go.Op.pick (Go.Operand.tmp 23) (Go.Operand.tmp 31) (Go.Operand.const (Go.Value.bool false)), type := 4, pos := "ref.go:79", after := #[{ on := 2, ground := Go.Ground.data }, { on := 10, ground := Go.Ground.data }], guard := none }) (v := .bool false) rfl rfl (by kernel_rfl) (by kernel_rfl) (by kernel_rfl) (by kernel_rfl) (fun _ _ _ h => h) (Or.inl ⟨by kernel_rfl, ?_⟩) (Below.refl _ _).drew ?_
          · (intro X hX; have y := HY.out X hX <;> (go_simp; try (with_reducible rfl)))
          (try simp only [Act.put, List.setIfInBounds_toArray, List.set_cons_zero, List.set_cons_succ])
          refine wpAnyN_take (i := 1) (oi := { dst := some 22, op := Go.Op.unOp Go.UnOp.not 4 (Go.Operand.tmp 21), type := 4, pos := "ref.go:79", after := #[{ on := 0, ground := Go.Ground.data }], guard := none }) (oL := { dst := some 32, op := Go.Op.pick (Go.Operand.tmp 23) (Go.Operand.tmp 31) (Go.Operand.const (Go.Value.bool false)), type := 4, pos := "ref.go:79", after := #[{ on := 2, ground := Go.Ground.data }, { on := 10, ground := Go.Ground.data }], guard := none }) (v := .bool true) rfl rfl (by kernel_rfl) (by kernel_rfl) (by kernel_rfl) (by kernel_rfl) (fun _ _ _ h => h) (Or.inl ⟨by kernel_rfl, ?_⟩) (Below.refl _ _).drew ?_
          · (intro X hX; have y := HY.out X hX <;> (go_simp; try (with_reducible rfl)))
          (try simp only [Act.put, List.setIfInBounds_toArray, List.set_cons_zero, List.set_cons_succ])
          refine wpAnyN_take (i := 2) (oi := { dst := some 23, op := Go.Op.move (Go.Operand.tmp 22), type := 4, pos := "ref.go:79", after := #[{ on := 1, ground := Go.Ground.data }], guard := none }) (oL := { dst := some 32, op := Go.Op.pick (Go.Operand.tmp 23) (Go.Operand.tmp 31) (Go.Operand.const (Go.Value.bool false)), type := 4, pos := "ref.go:79", after := #[{ on := 2, ground := Go.Ground.data }, { on := 10, ground := Go.Ground.data }], guard := none }) (v := .bool true) rfl rfl (by kernel_rfl) (by kernel_rfl) (by kernel_rfl) (by kernel_rfl) (fun _ _ _ h => h) (Or.inl ⟨by kernel_rfl, ?_⟩) (Below.refl _ _).drew ?_
          · (intro X hX; have y := HY.out X hX <;> (go_simp; try (with_reducible rfl)))
          (try simp only [Act.put, List.setIfInBounds_toArray, List.set_cons_zero, List.set_cons_succ])
          refine wpAnyN_take (i := 3) (oi := { dst := some 24, op := Go.Op.move (Go.Operand.tmp 1), type := 9, pos := "ref.go:79", after := #[{ on := 2, ground := Go.Ground.guard }], guard := some (2, true) }) (oL := { dst := some 32, op := Go.Op.pick (Go.Operand.tmp 23) (Go.Operand.tmp 31) (Go.Operand.const (Go.Value.bool false)), type := 4, pos := "ref.go:79", after := #[{ on := 2, ground := Go.Ground.data }, { on := 10, ground := Go.Ground.data }], guard := none }) (v := .string x) rfl rfl (by kernel_rfl) (by kernel_rfl) (by kernel_rfl) (by kernel_rfl) (fun _ _ _ h => h) (Or.inl ⟨by kernel_rfl, ?_⟩) (Below.refl _ _).drew ?_
          · (intro X hX; have y := HY.out X hX <;> (go_simp; try (with_reducible rfl)))
          (try simp only [Act.put, List.setIfInBounds_toArray, List.set_cons_zero, List.set_cons_succ])
          refine wpAnyN_take (i := 5) (oi := { dst := some 26, op := Go.Op.move (Go.Operand.tmp 0), type := 22, pos := "ref.go:79", after := #[{ on := 2, ground := Go.Ground.guard }], guard := some (2, true) }) (oL := { dst := some 32, op := Go.Op.pick (Go.Operand.tmp 23) (Go.Operand.tmp 31) (Go.Operand.const (Go.Value.bool false)), type := 4, pos := "ref.go:79", after := #[{ on := 2, ground := Go.Ground.data }, { on := 10, ground := Go.Ground.data }], guard := none }) (v := .slice (some ⟨b, off, none⟩) m cap) rfl rfl (by kernel_rfl) (by kernel_rfl) (by kernel_rfl) (by kernel_rfl) (fun _ _ _ h => h) (Or.inl ⟨by kernel_rfl, ?_⟩) (Below.refl _ _).drew ?_
          · (intro X hX; have y := HY.out X hX <;> (go_simp; try (with_reducible rfl)))
          (try simp only [Act.put, List.setIfInBounds_toArray, List.set_cons_zero, List.set_cons_succ])
          refine wpAnyN_take (i := 6) (oi := { dst := some 27, op := Go.Op.move (Go.Operand.tmp 7), type := 3, pos := "ref.go:79", after := #[{ on := 2, ground := Go.Ground.guard }], guard := some (2, true) }) (oL := { dst := some 32, op := Go.Op.pick (Go.Operand.tmp 23) (Go.Operand.tmp 31) (Go.Operand.const (Go.Value.bool false)), type := 4, pos := "ref.go:79", after := #[{ on := 2, ground := Go.Ground.data }, { on := 10, ground := Go.Ground.data }], guard := none }) (v := .int .i64 (k : Int)) rfl rfl (by kernel_rfl) (by kernel_rfl) (by kernel_rfl) (by kernel_rfl) (fun _ _ _ h => h) (Or.inl ⟨by kernel_rfl, ?_⟩) (Below.refl _ _).drew ?_
          · (intro X hX; have y := HY.out X hX <;> (go_simp; try (with_reducible rfl)))
          (try simp only [Act.put, List.setIfInBounds_toArray, List.set_cons_zero, List.set_cons_succ])
          refine wpAnyN_take (i := 7) (oi := { dst := some 28, op := Go.Op.indexAddr 22 (Go.Operand.tmp 26) (Go.Operand.tmp 27), type := 0, pos := "ref.go:79", after := #[{ on := 5, ground := Go.Ground.data }, { on := 6, ground := Go.Ground.data }, { on := 2, ground := Go.Ground.guard }], guard := some (2, true) }) (oL := { dst := some 32, op := Go.Op.pick (Go.Operand.tmp 23) (Go.Operand.tmp 31) (Go.Operand.const (Go.Value.bool false)), type := 4, pos := "ref.go:79", after := #[{ on := 2, ground := Go.Ground.data }, { on := 10, ground := Go.Ground.data }], guard := none }) (v := .pointer (some ⟨b, off + k, none⟩)) rfl rfl (by kernel_rfl) (by kernel_rfl) (by kernel_rfl) (by kernel_rfl) (fun _ _ _ h => h) (Or.inl ⟨by kernel_rfl, ?_⟩) (Below.refl _ _).drew ?_
          · (intro X hX; have y := HY.out X hX <;> (go_simp; try (with_reducible rfl)))
          (try simp only [Act.put, List.setIfInBounds_toArray, List.set_cons_zero, List.set_cons_succ])
          refine wpAnyN_take (i := 8) (oi := { dst := some 29, op := Go.Op.load 9 (Go.Operand.tmp 28), type := 9, pos := "ref.go:79", after := #[{ on := 7, ground := Go.Ground.data }, { on := 2, ground := Go.Ground.guard }], guard := some (2, true) }) (oL := { dst := some 32, op := Go.Op.pick (Go.Operand.tmp 23) (Go.Operand.tmp 31) (Go.Operand.const (Go.Value.bool false)), type := 4, pos := "ref.go:79", after := #[{ on := 2, ground := Go.Ground.data }, { on := 10, ground := Go.Ground.data }], guard := none }) (v := .string t) rfl rfl (by kernel_rfl) (by kernel_rfl) (by kernel_rfl) (by kernel_rfl) (fun _ _ _ h => h) (Or.inl ⟨by kernel_rfl, ?_⟩) (Below.refl _ _).drew ?_
          · (intro X hX; have y := HY.out X hX <;> (go_simp; try (with_reducible rfl)))
          (try simp only [Act.put, List.setIfInBounds_toArray, List.set_cons_zero, List.set_cons_succ])
          refine wpAnyN_one (i := 4) (o := { dst := some 25, op := Go.Op.call { callee := Go.Callee.value (Go.Operand.func 46), args := #[Go.Operand.tmp 24], argTypes := #[9] }, type := 9, pos := "ref.go:79", after := #[{ on := 3, ground := Go.Ground.data }, { on := 2, ground := Go.Ground.chain }, { on := 2, ground := Go.Ground.guard }], guard := some (2, true) }) (by kernel_rfl) rfl (fun K hK => ?_)
          go_simp
          refine (HLx.out _).mono ?_
          rintro e w4 ⟨rfl, hb4⟩
          have HB4 := Lib.hid ((Below.refl _ _).drew.trans hb4)
          clear hb4
          refine hK.out _ _ (fun _ => HB4.out) ?_
          clear hK K
          (try simp only [Act.put, List.setIfInBounds_toArray, List.set_cons_zero, List.set_cons_succ])
          refine wpAnyN_one (i := 9) (o := { dst := some 30, op := Go.Op.call { callee := Go.Callee.value (Go.Operand.func 46), args := #[Go.Operand.tmp 29], argTypes := #[9] }, type := 9, pos := "ref.go:79", after := #[{ on := 8, ground := Go.Ground.data }, { on := 4, ground := Go.Ground.chain }, { on := 2, ground := Go.Ground.guard }], guard := some (2, true) }) (by kernel_rfl) rfl (fun K hK => ?_)
          go_simp
          refine (HLt.out _).mono ?_
          rintro e w5 ⟨rfl, hb5⟩
          have HB5 := Lib.hid (HB4.out.trans (hb5.mono HB4.out.size))
          clear hb5
          refine hK.out _ _ (fun _ => HB5.out) ?_
          clear hK K
          (try simp only [Act.put, List.setIfInBounds_toArray, List.set_cons_zero, List.set_cons_succ])
          refine wpAnyN_take (i := 10) (oi := { dst := some 31, op := Go.Op.binOp Go.BinOp.lss 9 (Go.Operand.tmp 25) (Go.Operand.tmp 30) 9, type := 4, pos := "ref.go:79", after := #[{ on := 4, ground := Go.Ground.data }, { on := 9, ground := Go.Ground.data }, { on := 2, ground := Go.Ground.guard }], guard := some (2, true) }) (oL := { dst := some 32, op := Go.Op.pick (Go.Operand.tmp 23) (Go.Operand.tmp 31) (Go.Operand.const (Go.Value.bool false)), type := 4, pos := "ref.go:79", after := #[{ on := 2, ground := Go.Ground.data }, { on := 10, ground := Go.Ground.data }], guard := none }) (v := .bool lt) rfl rfl (by kernel_rfl) (by kernel_rfl) (by kernel_rfl) (by kernel_rfl) (fun _ _ _ h => h) (Or.inl ⟨by kernel_rfl, ?_⟩) HB5.out ?_
          · (intro X hX; have y := HY.out X hX <;> (go_simp; try (with_reducible rfl)))
          (try simp only [Act.put, List.setIfInBounds_toArray, List.set_cons_zero, List.set_cons_succ])
          refine wpAnyN_one (i := 11) (o := { dst := some 32, op := Go.Op.pick (Go.Operand.tmp 23) (Go.Operand.tmp 31) (Go.Operand.const (Go.Value.bool false)), type := 4, pos := "ref.go:79", after := #[{ on := 2, ground := Go.Ground.data }, { on := 10, ground := Go.Ground.data }], guard := none }) (by kernel_rfl) rfl (fun K hK => ?_)
          go_simp
          refine hK.out _ _ (fun e => absurd (e.symm.trans (by kernel_rfl) : false = true) Bool.false_ne_true) ?_
          clear hK K
          (try simp only [Act.put, List.setIfInBounds_toArray, List.set_cons_zero, List.set_cons_succ])
          refine wpAnyN_of_H (S' := fun _ => True) _ _ _ _ (by kernel_rfl) ?_
          refine wpAnyH_done (by kernel_rfl) ?_ _
          have HO5 := Lib.hid (HO3.out.on HB5.out)
          have y5 := HY.out _ HB5.out
          clear hlt'
          cases lt with
          | true =>
            go_wp2_with (at_builtin; first | (have hX := HO6; clear hX; refine appT rfl _ _ rfl t HO6.out rfl w6.heap.size rfl rfl (by have := HLn.out; simp; omega) ?_; intro v7 w7 ho7; obtain ⟨a7, k7, hv7⟩ := ho7.shape; rw [List.length_append] at hv7; subst hv7; have HO7 := Lib.hid ho7; clear ho7) | (refine appT rfl _ _ rfl x HO5.out rfl w5.heap.size rfl rfl (by have := HLn.out; omega) ?_; intro v6 w6 ho6; obtain ⟨a6, k6, hv6⟩ := ho6.shape; rw [List.length_append] at hv6; subst hv6; have HO6 := Lib.hid ho6; have y6 := HYb.out _ ho6.below; clear ho6))
            go_roundw
            case rel => exact ⟨k + 1, _, rfl, hlt, by go_num, by rw [HSn.out]; unfold putS; rw [HLb.out]; rfl, HNo2.out, by
              rw [HSn.out]
              unfold putS
              rw [HLb.out]
              have h := HO7.out
              rw [List.append_assoc, List.length_append, List.length_singleton, List.length_singleton] at h
              exact h⟩
            case measure => simp [intOf]; omega
          | false =>
            go_wp2_with (at_builtin; refine appT rfl _ _ rfl t HO5.out rfl w5.heap.size rfl rfl (by have := HLn.out; omega) ?_; intro v6 w6 ho6; obtain ⟨a6, k6, hv6⟩ := ho6.shape; rw [List.length_append] at hv6; subst hv6; have HO6 := Lib.hid ho6; clear ho6)
            go_roundw
            case rel => exact ⟨k + 1, _, rfl, hlt, by go_num, by rw [HSn.out]; unfold putS; rw [HLb.out]; rfl, HNo2.out, by rw [HSn.out]; unfold putS; rw [HLb.out]; exact HO6.out⟩
            case measure => simp [intOf]; omega
    · have hki : ¬ (k : Int) < (m : Int) := by omega
      have hkm : k = ws.length := by rw [HM.out]; omega
      have HFin : Hid (putL ws x = (putAt x (ws.take k)).1 ++ cond (putAt x (ws.take k)).2 [] [x]) := Lib.hid (by
        unfold putL
        have : ws.any (fun y => sameB y x) = false := by
          rw [List.any_eq_false]
          intro y hy
          obtain ⟨j, hj, rfl⟩ := List.getElem_of_mem hy
          have := HNo.out j (by omega)
          rw [List.getD_eq_getElem?_getD, List.getElem?_eq_getElem hj] at this
          simpa using this
        rw [this, hkm, List.take_length]
        exact putAt_all x ws)
      clear hkm
      obtain ⟨P, hP⟩ : ∃ P, putAt x (ws.take k) = P := ⟨_, rfl⟩
      rw [hP] at HFin HO HLn hown ⊢
      clear hP
      obtain ⟨pl, pd⟩ := P
      simp only at HFin HO HLn hown ⊢
      obtain ⟨ao5, cap5, rfl⟩ := hown.shape
      clear hown
      cases pd with
      | true =>
        go_wp2_with fail
        go_ret
        refine ⟨_, rfl, ?_, HO.out.below, HO.out.putLo⟩
        rw [HFin.out, cond_true, List.append_nil]
        exact HO.out.strs (by have := HLn.out; omega)
      | false =>
        go_wp2_with (at_builtin; refine appT rfl _ _ rfl x HO.out rfl _ rfl rfl (by have := HLn.out; omega) ?_; intro v6 w6 ho6; obtain ⟨a6, k6, hv6⟩ := ho6.shape; rw [List.length_append] at hv6; subst hv6; have HO6 := Lib.hid ho6; clear ho6)
        go_ret
        refine ⟨_, rfl, ?_, HO6.out.below, HO6.out.putLo⟩
        rw [HFin.out, cond_false]
        exact HO6.out.strs (by have := HLn.out; simp; omega)
end Go.Proofs.YtgcbindjbgkniaaGreatDoor
