/- disk: Append. -/
import Derived.Test.YtgadmfbilmlnkabGreatDoorD9r
import Derived.Test.YtgadmfbilmlnkabGreatDoorZv
import Derived.Deep.QuietTactic
import Derived.BigQuiet
namespace Go.Proofs.YtgadmfbilmlnkabGreatDoor
open Go.RowKit Go.Lib

theorem grow_any {B d m clk : Nat} {sv : Value} {S : DS} {F : List FE} {w : World} (h : DiskAt B d m clk sv S F w) (n s : ByteArray) (hns : n.size ≤ 140737488355328) (hs : usedF F + s.size ≤ S.quota) :
    Calls Tryz.prog 36 #[.pointer (some ⟨d, 0, none⟩), .string n, .string s] w fun e w' => e = .returned (.tuple #[]) ∧ Did B d m sv S F w (growP n (L s) (F.map FE.pl)) w' := by
  rcases fe_split n F with ⟨F1, f, F2, rfl, hn, _⟩ | hno
  · exact grow_hit h n s hn hs
  · exact grow_new h n s hns hno hs
theorem Did.undrew {B d m : Nat} {sv : Value} {S : DS} {F : List FE} {w w' : World} {G : List PF} (h : Did B d m sv S F w.drew G w') : Did B d m sv S F w G w' := by
  obtain ⟨clk, F', hD, hG, hS, hM⟩ := h
  exact ⟨clk, F', hD, hG, (Stays.refl _ w).drew.trans hS (fun b hb => .inl hb), hM⟩
theorem L_extract (s : ByteArray) (k : Nat) : L (s.extract 0 k) = (L s).take k := by
  simp [L]
theorem isFn_of {n : Nat} {fn : Func} (hf : Tryz.prog.funcs[n]? = some fn) (hname : (fn.name == "runtime.NumGoroutine") = false) (hb : fn.body.isNone = false) : IsFn n := fun args W => by
  have h1 : ¬ fn.name = "runtime.NumGoroutine" := by simpa using hname
  have h2 : ¬ fn.body = none := fun e => by rw [e] at hb; cases hb
  simp [callFunc, hf, h1, h2]
theorem isFn_36 : IsFn 35 := isFn_of Tryz.func35 (by kernel_rfl) (by kernel_rfl)
theorem isFn_38 : IsFn 37 := isFn_of Tryz.func37 (by kernel_rfl) (by kernel_rfl)
theorem Append1_any {B d m clk : Nat} {sv : Value} {S : DS} {F : List FE} {w : World} (h : DiskAt B d m clk sv S F w) (k0 k1 k2 : Nat) (n s : ByteArray) (hns : n.size ≤ 140737488355328) (hs : usedF F + s.size ≤ S.quota) (c0 : w.cell? ⟨k0, 0, none⟩ = some (.pointer (some ⟨d, 0, none⟩))) (c1 : w.cell? ⟨k1, 0, none⟩ = some (.string n)) (c2 : w.cell? ⟨k2, 0, none⟩ = some (.string s)) :
    Calls Tryz.prog 35 #[.pointer (some ⟨k0, 0, none⟩), .pointer (some ⟨k1, 0, none⟩), .pointer (some ⟨k2, 0, none⟩)] w fun e w' => e = .returned (.tuple #[]) ∧ Did B d m sv S F w (growP n (L s) (F.map FE.pl)) w' := by
  have hG := Lib.hid (grow_any h n s hns hs)
  clear h hs
  go_enter Tryz.func35, Tryz.ntmps35
  go_wp2_with (go_at_call 36; refine hG.out.mono ?_; rintro e w' ⟨rfl, hD⟩; have HD := Lib.hid hD; clear hD)
  first | refine bodyPost_end (results_none rfl _ _ _) rfl ?_ | refine bodyPost_ret (results_none rfl _ _ _) rfl ?_
  exact ⟨rfl, HD.out⟩
set_option maxHeartbeats 4000000 in
theorem Append2_any {B d m clk : Nat} {sv : Value} {S : DS} {F : List FE} {w : World} (h : DiskAt B d m clk sv S F w) (y : Int) (hy : inI y) (k0 k1 k2 : Nat) (n s : ByteArray) (hns : n.size ≤ 140737488355328) (hs : usedF F + s.size ≤ S.quota) (c0 : w.cell? ⟨k0, 0, none⟩ = some (.pointer (some ⟨d, 0, none⟩))) (c1 : w.cell? ⟨k1, 0, none⟩ = some (.string n)) (c2 : w.cell? ⟨k2, 0, none⟩ = some (.string s)) :
    Calls Tryz.prog 37 #[.int .i64 y, .pointer (some ⟨k0, 0, none⟩), .pointer (some ⟨k1, 0, none⟩), .pointer (some ⟨k2, 0, none⟩)] w fun e w' => e = .returned (.tuple #[]) ∧ Did B d m sv S F w (growP n ((L s).take (wth y (s.size : Int)).toNat) (F.map FE.pl)) w' := by
  have hq := h.quota
  have hw := wth_bd y (s.size : Int) (by omega)
  obtain ⟨k, hk⟩ : ∃ k : Nat, (k : Int) = wth y (s.size : Int) := ⟨(wth y (s.size : Int)).toNat, by omega⟩
  have hkk : (wth y (s.size : Int)).toNat = k := by omega
  have hks : k ≤ s.size := by omega
  have HW := Lib.hid (fun W => within_any y (s.size : Int) W hy.1 hy.2 (by omega) (by omega))
  rw [← hk] at HW
  have HG := Lib.hid (grow_any h.drew n (s.extract 0 k) hns (by
    rw [ByteArray.size_extract]
    omega))
  rw [L_extract] at HG
  rw [hkk]
  have hk1 : (k : Int) ≤ (s.size : Int) := by omega
  have HD : Hid (∀ w' G, Did B d m sv S F w.drew G w' → Did B d m sv S F w G w') := Lib.hid (fun w' G hD => hD.undrew)
  clear h hs hw hk hkk hq hy hks hns
  go_enter Tryz.func37, Tryz.ntmps37
  --R Append2--
  refine wp_region_N 8 (fun X => X = w.drew) (by kernel_rfl) ?_
  refine wpAnyN_take (i := 0) (oi := { dst := some 5, op := Go.Op.load 24 (Go.Operand.tmp 1), type := 24, pos := "operate.go:43", after := #[], guard := none }) (oL := { dst := some 13, op := Go.Op.call { callee := Go.Callee.value (Go.Operand.func 36), args := #[Go.Operand.tmp 5, Go.Operand.tmp 6, Go.Operand.tmp 12], argTypes := #[24, 9, 9] }, type := 0, pos := "operate.go:43", after := #[{ on := 0, ground := Go.Ground.data }, { on := 1, ground := Go.Ground.data }, { on := 7, ground := Go.Ground.data }, { on := 6, ground := Go.Ground.chain }], guard := none }) (v := .pointer (some ⟨d, 0, none⟩)) rfl rfl (by kernel_rfl) (by kernel_rfl) (by kernel_rfl) (by kernel_rfl) (fun _ _ _ h => h) (Or.inl ⟨by kernel_rfl, ?_⟩) rfl ?_
  · (intro X hX; subst hX <;> (go_simp; try (with_reducible rfl)))
  (try simp only [Act.put, List.setIfInBounds_toArray, List.set_cons_zero, List.set_cons_succ])
  refine wpAnyN_take (i := 1) (oi := { dst := some 6, op := Go.Op.load 9 (Go.Operand.tmp 2), type := 9, pos := "operate.go:43", after := #[], guard := none }) (oL := { dst := some 13, op := Go.Op.call { callee := Go.Callee.value (Go.Operand.func 36), args := #[Go.Operand.tmp 5, Go.Operand.tmp 6, Go.Operand.tmp 12], argTypes := #[24, 9, 9] }, type := 0, pos := "operate.go:43", after := #[{ on := 0, ground := Go.Ground.data }, { on := 1, ground := Go.Ground.data }, { on := 7, ground := Go.Ground.data }, { on := 6, ground := Go.Ground.chain }], guard := none }) (v := .string n) rfl rfl (by kernel_rfl) (by kernel_rfl) (by kernel_rfl) (by kernel_rfl) (fun _ _ _ h => h) (Or.inl ⟨by kernel_rfl, ?_⟩) rfl ?_
  · (intro X hX; subst hX <;> (go_simp; try (with_reducible rfl)))
  (try simp only [Act.put, List.setIfInBounds_toArray, List.set_cons_zero, List.set_cons_succ])
  refine wpAnyN_take (i := 2) (oi := { dst := some 7, op := Go.Op.load 9 (Go.Operand.tmp 3), type := 9, pos := "operate.go:43", after := #[], guard := none }) (oL := { dst := some 13, op := Go.Op.call { callee := Go.Callee.value (Go.Operand.func 36), args := #[Go.Operand.tmp 5, Go.Operand.tmp 6, Go.Operand.tmp 12], argTypes := #[24, 9, 9] }, type := 0, pos := "operate.go:43", after := #[{ on := 0, ground := Go.Ground.data }, { on := 1, ground := Go.Ground.data }, { on := 7, ground := Go.Ground.data }, { on := 6, ground := Go.Ground.chain }], guard := none }) (v := .string s) rfl rfl (by kernel_rfl) (by kernel_rfl) (by kernel_rfl) (by kernel_rfl) (fun _ _ _ h => h) (Or.inl ⟨by kernel_rfl, ?_⟩) rfl ?_
  · (intro X hX; subst hX <;> (go_simp; try (with_reducible rfl)))
  (try simp only [Act.put, List.setIfInBounds_toArray, List.set_cons_zero, List.set_cons_succ])
  refine wpAnyN_take (i := 3) (oi := { dst := some 8, op := Go.Op.move (Go.Operand.tmp 0), type := 3, pos := "operate.go:43", after := #[], guard := none }) (oL := { dst := some 13, op := Go.Op.call { callee := Go.Callee.value (Go.Operand.func 36), args := #[Go.Operand.tmp 5, Go.Operand.tmp 6, Go.Operand.tmp 12], argTypes := #[24, 9, 9] }, type := 0, pos := "operate.go:43", after := #[{ on := 0, ground := Go.Ground.data }, { on := 1, ground := Go.Ground.data }, { on := 7, ground := Go.Ground.data }, { on := 6, ground := Go.Ground.chain }], guard := none }) (v := .int .i64 y) rfl rfl (by kernel_rfl) (by kernel_rfl) (by kernel_rfl) (by kernel_rfl) (fun _ _ _ h => h) (Or.inl ⟨by kernel_rfl, ?_⟩) rfl ?_
  · (intro X hX; subst hX <;> (go_simp; try (with_reducible rfl)))
  (try simp only [Act.put, List.setIfInBounds_toArray, List.set_cons_zero, List.set_cons_succ])
  refine wpAnyN_take (i := 4) (oi := { dst := some 9, op := Go.Op.load 9 (Go.Operand.tmp 3), type := 9, pos := "operate.go:43", after := #[], guard := none }) (oL := { dst := some 13, op := Go.Op.call { callee := Go.Callee.value (Go.Operand.func 36), args := #[Go.Operand.tmp 5, Go.Operand.tmp 6, Go.Operand.tmp 12], argTypes := #[24, 9, 9] }, type := 0, pos := "operate.go:43", after := #[{ on := 0, ground := Go.Ground.data }, { on := 1, ground := Go.Ground.data }, { on := 7, ground := Go.Ground.data }, { on := 6, ground := Go.Ground.chain }], guard := none }) (v := .string s) rfl rfl (by kernel_rfl) (by kernel_rfl) (by kernel_rfl) (by kernel_rfl) (fun _ _ _ h => h) (Or.inl ⟨by kernel_rfl, ?_⟩) rfl ?_
  · (intro X hX; subst hX <;> (go_simp; try (with_reducible rfl)))
  (try simp only [Act.put, List.setIfInBounds_toArray, List.set_cons_zero, List.set_cons_succ])
  refine wpAnyN_take (i := 5) (oi := { dst := some 10, op := Go.Op.call { callee := Go.Callee.builtin Go.Builtin.len, args := #[Go.Operand.tmp 9], argTypes := #[9] }, type := 3, pos := "operate.go:43", after := #[{ on := 4, ground := Go.Ground.data }], guard := none }) (oL := { dst := some 13, op := Go.Op.call { callee := Go.Callee.value (Go.Operand.func 36), args := #[Go.Operand.tmp 5, Go.Operand.tmp 6, Go.Operand.tmp 12], argTypes := #[24, 9, 9] }, type := 0, pos := "operate.go:43", after := #[{ on := 0, ground := Go.Ground.data }, { on := 1, ground := Go.Ground.data }, { on := 7, ground := Go.Ground.data }, { on := 6, ground := Go.Ground.chain }], guard := none }) (v := .int .i64 (s.size : Int)) rfl rfl (by kernel_rfl) (by kernel_rfl) (by kernel_rfl) (by kernel_rfl) (fun _ _ _ h => h) (Or.inl ⟨by kernel_rfl, ?_⟩) rfl ?_
  · (intro X hX; subst hX <;> (go_simp; try (with_reducible rfl)))
  (try simp only [Act.put, List.setIfInBounds_toArray, List.set_cons_zero, List.set_cons_succ])
  refine wpAnyN_one (i := 6) (o := { dst := some 11, op := Go.Op.call { callee := Go.Callee.value (Go.Operand.func 38), args := #[Go.Operand.tmp 8, Go.Operand.tmp 10], argTypes := #[3, 3] }, type := 3, pos := "operate.go:43", after := #[{ on := 3, ground := Go.Ground.data }, { on := 5, ground := Go.Ground.data }], guard := none }) (by kernel_rfl) rfl (fun K hK => ?_)
  go_simp
  refine (HW.out _).mono ?_
  rintro e w3 ⟨rfl, rfl⟩
  refine hK.out _ _ (fun _ => rfl) ?_
  clear hK K
  (try simp only [Act.put, List.setIfInBounds_toArray, List.set_cons_zero, List.set_cons_succ])
  refine wpAnyN_one (i := 7) (o := { dst := some 12, op := Go.Op.slice 9 (Go.Operand.tmp 7) none (some (Go.Operand.tmp 11)) none, type := 9, pos := "operate.go:43", after := #[{ on := 2, ground := Go.Ground.data }, { on := 6, ground := Go.Ground.data }], guard := none }) (by kernel_rfl) rfl (fun K hK => ?_)
  go_simp
  refine hK.out _ _ (fun _ => rfl) ?_
  clear hK K
  (try simp only [Act.put, List.setIfInBounds_toArray, List.set_cons_zero, List.set_cons_succ])
  refine wpAnyN_one (i := 8) (o := { dst := some 13, op := Go.Op.call { callee := Go.Callee.value (Go.Operand.func 36), args := #[Go.Operand.tmp 5, Go.Operand.tmp 6, Go.Operand.tmp 12], argTypes := #[24, 9, 9] }, type := 0, pos := "operate.go:43", after := #[{ on := 0, ground := Go.Ground.data }, { on := 1, ground := Go.Ground.data }, { on := 7, ground := Go.Ground.data }, { on := 6, ground := Go.Ground.chain }], guard := none }) (by kernel_rfl) rfl (fun K hK => ?_)
  go_simp
  refine HG.out.mono ?_
  rintro e w4 ⟨rfl, hD4⟩
  refine hK.out _ _ (fun e => absurd (e.symm.trans (by kernel_rfl) : false = true) Bool.false_ne_true) ?_
  clear hK K
  (try simp only [Act.put, List.setIfInBounds_toArray, List.set_cons_zero, List.set_cons_succ])
  refine wpAnyN_of_H (S' := fun _ => True) _ _ _ _ (by kernel_rfl) ?_
  refine wpAnyH_done (by kernel_rfl) ?_ _
  --E Append2--
  go_wp2_with fail
  first | refine bodyPost_end (results_none rfl _ _ _) rfl ?_ | refine bodyPost_ret (results_none rfl _ _ _) rfl ?_
  exact ⟨rfl, HD.out _ _ hD4⟩
end Go.Proofs.YtgadmfbilmlnkabGreatDoor
