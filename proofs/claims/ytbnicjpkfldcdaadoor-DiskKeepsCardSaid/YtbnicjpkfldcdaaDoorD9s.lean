/- disk: Append. -/
import Derived.Test.YtbnicjpkfldcdaaDoorD9q
import Derived.Test.YtbnicjpkfldcdaaDoorZv
import Derived.Deep.QuietTactic
import Derived.BigQuiet
namespace Go.Proofs.YtbnicjpkfldcdaaDoor
open Go.RowKit Go.Lib

theorem grow_any {B d m clk : Nat} {sv : Value} {S : DS} {F : List FE} {w : World} (h : DiskAt B d m clk sv S F w) (n s : ByteArray) (hns : n.size ≤ 140737488355328) (hs : usedF F + s.size ≤ S.quota) :
    Calls Tryd.prog 36 #[.pointer (some ⟨d, 0, none⟩), .string n, .string s] w fun e w' => e = .returned (.tuple #[]) ∧ Did B d m sv S F w (growP n (L s) (F.map FE.pl)) w' := by
  rcases fe_split n F with ⟨F1, f, F2, rfl, hn, _⟩ | hno
  · exact grow_hit h n s hn hs
  · exact grow_new h n s hns hno hs
theorem Did.undrew {B d m : Nat} {sv : Value} {S : DS} {F : List FE} {w w' : World} {G : List PF} (h : Did B d m sv S F w.drew G w') : Did B d m sv S F w G w' := by
  obtain ⟨clk, F', hD, hG, hS, hM⟩ := h
  exact ⟨clk, F', hD, hG, (Stays.refl _ w).drew.trans hS (fun b hb => .inl hb), hM⟩
theorem L_extract (s : ByteArray) (k : Nat) : L (s.extract 0 k) = (L s).take k := by
  simp [L]
theorem isFn_of {n : Nat} {fn : Func} (hf : Tryd.prog.funcs[n]? = some fn) (hname : (fn.name == "runtime.NumGoroutine") = false) (hb : fn.body.isNone = false) : IsFn n := fun args W => by
  have h1 : ¬ fn.name = "runtime.NumGoroutine" := by simpa using hname
  have h2 : ¬ fn.body = none := fun e => by rw [e] at hb; cases hb
  simp [callFunc, hf, h1, h2]
theorem isFn_36 : IsFn 35 := isFn_of Tryd.func35 (by kernel_rfl) (by kernel_rfl)
theorem isFn_38 : IsFn 37 := isFn_of Tryd.func37 (by kernel_rfl) (by kernel_rfl)
theorem Append1_any {B d m clk : Nat} {sv : Value} {S : DS} {F : List FE} {w : World} (h : DiskAt B d m clk sv S F w) (k0 k1 k2 : Nat) (n s : ByteArray) (hns : n.size ≤ 140737488355328) (hs : usedF F + s.size ≤ S.quota) (c0 : w.cell? ⟨k0, 0, none⟩ = some (.pointer (some ⟨d, 0, none⟩))) (c1 : w.cell? ⟨k1, 0, none⟩ = some (.string n)) (c2 : w.cell? ⟨k2, 0, none⟩ = some (.string s)) :
    Calls Tryd.prog 35 #[.pointer (some ⟨k0, 0, none⟩), .pointer (some ⟨k1, 0, none⟩), .pointer (some ⟨k2, 0, none⟩)] w fun e w' => e = .returned (.tuple #[]) ∧ Did B d m sv S F w (growP n (L s) (F.map FE.pl)) w' := by
  have hG := Lib.hid (grow_any h n s hns hs)
  clear h hs
  go_enter Tryd.func35, Tryd.ntmps35
  go_wp2_with (go_at_call 36; refine hG.out.mono ?_; rintro e w' ⟨rfl, hD⟩; have HD := Lib.hid hD; clear hD)
  first | refine bodyPost_end (results_none rfl _ _ _) rfl ?_ | refine bodyPost_ret (results_none rfl _ _ _) rfl ?_
  exact ⟨rfl, HD.out⟩
set_option maxHeartbeats 4000000 in
theorem Append2_any {B d m clk : Nat} {sv : Value} {S : DS} {F : List FE} {w : World} (h : DiskAt B d m clk sv S F w) (y : Int) (hy : inI y) (k0 k1 k2 : Nat) (n s : ByteArray) (hns : n.size ≤ 140737488355328) (hs : usedF F + s.size ≤ S.quota) (c0 : w.cell? ⟨k0, 0, none⟩ = some (.pointer (some ⟨d, 0, none⟩))) (c1 : w.cell? ⟨k1, 0, none⟩ = some (.string n)) (c2 : w.cell? ⟨k2, 0, none⟩ = some (.string s)) :
    Calls Tryd.prog 37 #[.int .i64 y, .pointer (some ⟨k0, 0, none⟩), .pointer (some ⟨k1, 0, none⟩), .pointer (some ⟨k2, 0, none⟩)] w fun e w' => e = .returned (.tuple #[]) ∧ Did B d m sv S F w (growP n ((L s).take (wth y (s.size : Int)).toNat) (F.map FE.pl)) w' := by
  have hq := h.quota
  have hw := wth_bd y (s.size : Int) (by omega)
  obtain ⟨k, hk⟩ : ∃ k : Nat, (k : Int) = wth y (s.size : Int) := ⟨(wth y (s.size : Int)).toNat, by omega⟩
  have hkk : (wth y (s.size : Int)).toNat = k := by omega
  have hks : k ≤ s.size := by omega
  have HW := Lib.hid (fun W => within_any y (s.size : Int) W hy.1 hy.2 (by omega) (by omega))
  rw [← hk] at HW
  have HG := Lib.hid (grow_any h.drew n (s.extract 0 k) hns (by
    rw [ByteArray.size_extract]
    omega))
  rw [L_extract] at HG
  rw [hkk]
  have hk1 : (k : Int) ≤ (s.size : Int) := by omega
  have HD : Hid (∀ w' G, Did B d m sv S F w.drew G w' → Did B d m sv S F w G w') := Lib.hid (fun w' G hD => hD.undrew)
  clear h hs hw hk hkk hq hy hks hns
  go_enter Tryd.func37, Tryd.ntmps37
  --R Append2--
  refine wp_region_N 8 (fun X => X = w.drew) (by kernel_rfl) ?_
  refine wpAnyN_take (i := 0) (oi := { dst := some 5, op := Go.Op.load 24 (Go.Operand.tmp 1), type := 24, pos := "operate.go:43", after := #[], guard := none }) (oL := { dst := some 13, op := Go.Op.call { callee := Go.Callee.value (Go.Operand.func 36), args := #[Go.Operand.tmp 5, Go.Operand.tmp 6, Go.Operand.tmp 12], argTypes := #[24, 9, 9] }, type := 0, pos := "operate.go:43", after := #[{ on := 0, ground := Go.Ground.data }, { on := 1, ground := Go.Ground.data }, { on := 7, ground := Go.Ground.data }, { on := 6, ground := Go.Ground.chain }], guard := none }) (v := .pointer (some ⟨d, 0, none⟩)) rfl rfl (by kernel_rfl) (by kernel_rfl) (by kernel_rfl) (by kernel_rfl) (fun _ _ _ h => h) (Or.inl ⟨by kernel_rfl, ?_⟩) rfl ?_
  · (intro X hX; subst hX <;> (go_simp; try (with_reducible rfl)))
  (try simp only [Act.put, List.setIfInBounds_toArray, List.set_cons_zero, List.set_cons_succ])
  refine wpAnyN_take (i := 1) (oi := { dst := some 6, op := Go.Op.load 9 (Go.Operand.tmp 2), type := 9, pos := "operate.go:43", after := #[], guard := none }) (oL := { dst := some 13, op := Go.Op.call { callee := Go.Callee.value (Go.Operand.func 36), args := #[Go.Operand.tmp 5, Go.Operand.tmp 6, Go.Operand.tmp 12], argTypes := #[24, 9, 9] }, type := 0, pos := "operate.go:43", after := #[{ on := 0, ground := Go.Ground.data }, { on := 1, ground := Go.Ground.data }, { on := 7, ground := Go.Ground.data }, { on := 6, ground := Go.Ground.chain }], guard := none }) (v := .string n) rfl rfl (by kernel_rfl) (by kernel_rfl) (by kernel_rfl) (by kernel_rfl) (fun _ _ _ h => h) (Or.inl ⟨by kernel_rfl, ?_⟩) rfl ?_
  · (intro X hX; subst hX <;> (go_simp; try (with_reducible rfl)))
  (try simp only [Act.put, List.setIfInBounds_toArray, List.set_cons_zero, List.set_cons_succ])
  refine wpAnyN_take (i := 2) (oi := { dst := some 7, op := Go.Op.load 9 (Go.Operand.tmp 3), type := 9, pos := "operate.go:43", after := #[], guard := none }) (oL := { dst := some 13, op := Go.Op.call { callee := Go.Callee.value (Go.Operand.func 36), args := #[Go.Operand.tmp 5, Go.Operand.tmp 6, Go.Operand.tmp 12], argTypes := #[24, 9, 9] }, type := 0, pos := "operate.go:43", after := #[{ on := 0, ground := Go.Ground.data }, { on := 1, ground := Go.Ground.data }, { on := 7, ground := Go.Ground.data }, { on := 6, ground := Go.Ground.chain }], guard := none }) (v := .string s) rfl rfl (by kernel_rfl) (by kernel_rfl) (by kernel_rfl) (by kernel_rfl) (fun _ _ _ h => h) (Or.inl ⟨by kernel_rfl, ?_⟩) rfl ?_
  · (intro X hX; subst hX <;> (go_simp; try (with_reducible rfl)))
  (try simp only [Act.put, List.setIfInBounds_toArray, List.set_cons_zero, List.set_cons_succ])
  refine wpAnyN_take (i := 3) (oi := { dst := some 8, op := Go.Op.move (Go.Operand.tmp 0), type := 3, pos := "operate.go:43", after := #[], guard := none }) (oL := { dst := some 13, op := Go.Op.call { callee := Go.Callee.value (Go.Operand.func 36), args := #[Go.Operand.tmp 5, Go.Operand.tmp 6, Go.Operand.tmp 12], argTypes := #[24, 9, 9] }, type := 0, pos := "operate.go:43", after := #[{ on := 0, ground := Go.Ground.data }, { on := 1, ground := Go.Ground.data }, { on := 7, ground := Go.Ground.data }, { on := 6, ground := Go.Ground.chain }], guard := none }) (v := .int .i64 y) rfl rfl (by kernel_rfl) (by kernel_rfl) (by kernel_rfl) (by kernel_rfl) (fun _ _ _ h => h) (Or.inl ⟨by kernel_rfl, ?_⟩) rfl ?_
  · (intro X hX; subst hX <;> (go_simp; try (with_reducible rfl)))
  (try simp only [Act.put, List.setIfInBounds_toArray, List.set_cons_zero, List.set_cons_succ])
  refine wpAnyN_take (i := 4) (oi := { dst := some 9, op := Go.Op.load 9 (Go.Operand.tmp 3), type := 9, pos := "operate.go:43", after := #[], guard := none }) (oL := { dst := some 13, op := Go.Op.call { callee := Go.Callee.value (Go.Operand.func 36), args := #[Go.Operand.tmp 5, Go.Operand.tmp 6, Go.Operand.tmp 12], argTypes := #[24, 9, 9] }, type := 0, pos := "operate.go:43", after := #[{ on := 0, ground := Go.Ground.data }, { on := 1, ground := Go.Ground.data }, { on := 7, ground := Go.Ground.data }, { on := 6, ground := Go.Ground.chain }], guard := none }) (v := .string s) rfl rfl (by kernel_rfl) (by kernel_rfl) (by kernel_rfl) (by kernel_rfl) (fun _ _ _ h => h) (Or.inl ⟨by kernel_rfl, ?_⟩) rfl ?_
  · (intro X hX; subst hX <;> (go_simp; try (with_reducible rfl)))
  (try simp only [Act.put, List.setIfInBounds_toArray, List.set_cons_zero, List.set_cons_succ])
  refine wpAnyN_take (i := 5) (oi := { dst := some 10, op := Go.Op.call { callee := Go.Callee.builtin Go.Builtin.len, args := #[Go.Operand.tmp 9], argTypes := #[9] }, type := 3, pos := "operate.go:43", after := #[{ on := 4, ground := Go.Ground.data }], guard := none }) (oL := { dst := some 13, op := Go.Op.call { callee := Go.Callee.value (Go.Operand.func 36), args := #[Go.Operand.tmp 5, Go.Operand.tmp 6, Go.Operand.tmp 12], argTypes := #[24, 9, 9] }, type := 0, pos := "operate.go:43", after := #[{ on := 0, ground := Go.Ground.data }, { on := 1, ground := Go.Ground.data }, { on := 7, ground := Go.Ground.data }, { on := 6, ground := Go.Ground.chain }], guard := none }) (v := .int .i64 (s.size : Int)) rfl rfl (by kernel_rfl) (by kernel_rfl) (by kernel_rfl) (by kernel_rfl) (fun _ _ _ h => h) (Or.inl ⟨by kernel_rfl, ?_⟩) rfl ?_
  · (intro X hX; subst hX <;> (go_simp; try (with_reducible rfl)))
  (try simp only [Act.put, List.setIfInBounds_toArray, List.set_cons_zero, List.set_cons_succ])
  refine wpAnyN_one (i := 6) (o := { dst := some 11, op := Go.Op.call { callee := Go.Callee.value (Go.Operand.func 38), args := #[Go.Operand.tmp 8, Go.Operand.tmp 10], argTypes := #[3, 3] }, type := 3, pos := "operate.go:43", after := #[{ on := 3, ground := Go.Ground.data }, { on := 5, ground := Go.Ground.data }], guard := none }) (by kernel_rfl) rfl (fun K hK => ?_)
  go_simp
  refine (HW.out _).mono ?_
  rintro e w3 ⟨rfl, rfl⟩
  refine hK.out _ _ (fun _ => rfl) ?_
  clear hK K
  (try simp only [Act.put, List.setIfInBounds_toArray, List.set_cons_zero, List.set_cons_succ])
  refine wpAnyN_one (i := 7) (o := { dst := some 12, op := Go.Op.slice 9 (Go.Operand.tmp 7) none (some (Go.Operand.tmp 11)) none, type := 9, pos := "operate.go:43", after := #[{ on := 2, ground := Go.Ground.data }, { on := 6, ground := Go.Ground.data }], guard := none }) (by kernel_rfl) rfl (fun K hK => ?_)
  go_simp
  refine hK.out _ _ (fun _ => rfl) ?_
  clear hK K
  (try simp only [Act.put, List.setIfInBounds_toArray, List.set_cons_zero, List.set_cons_succ])
  refine wpAnyN_one (i := 8) (o := { dst := some 13, op := Go.Op.call { callee := Go.Callee.value (Go.Operand.func 36), args := #[Go.Operand.tmp 5, Go.Operand.tmp 6, Go.Operand.tmp 12], argTypes := #[24, 9, 9] }, type := 0, pos := "operate.go:43", after := #[{ on := 0, ground := Go.Ground.data }, { on := 1, ground := Go.Ground.data }, { on := 7, ground := Go.Ground.data }, { on := 6, ground := Go.Ground.chain }], guard := none }) (by kernel_rfl) rfl (fun K hK => ?_)
  go_simp
  refine HG.out.mono ?_
  rintro e w4 ⟨rfl, hD4⟩
  refine hK.out _ _ (fun e => absurd (e.symm.trans (by kernel_rfl) : false = true) Bool.false_ne_true) ?_
  clear hK K
  (try simp only [Act.put, List.setIfInBounds_toArray, List.set_cons_zero, List.set_cons_succ])
  refine wpAnyN_of_H (S' := fun _ => True) _ _ _ _ (by kernel_rfl) ?_
  refine wpAnyH_done (by kernel_rfl) ?_ _
  --E Append2--
  go_wp2_with fail
  first | refine bodyPost_end (results_none rfl _ _ _) rfl ?_ | refine bodyPost_ret (results_none rfl _ _ _) rfl ?_
  exact ⟨rfl, HD.out _ _ hD4⟩
end Go.Proofs.YtbnicjpkfldcdaaDoor

/- disk: Append, its walk. -/
namespace Go.Proofs.YtbnicjpkfldcdaaDoor
open Go.RowKit Go.Lib

def sApp : ByteArray := ⟨#[97, 112, 112, 101, 110, 100]⟩
def appCode (S : DS) (F : List PF) (n s : ByteArray) : Int := if isNm n = true then (if (S.quota : Int) - (usedP F : Int) < (s.size : Int) then 92 else 0) else 90
theorem app_operate {A : Whys} {B d m clk : Nat} {sv : Value} {S : DS} {F : List FE} {w : World} (h : DiskAt B d m clk sv S F w) (he : Env A B w) (hok : S.ok) (hn : S.steps < 1000000000) (n s : ByteArray) (hns : n.size ≤ 140737488355328) (k0 k1 k2 : Nat) (h0 : k0 ∉ fpOf d m sv F) (h1 : k1 ∉ fpOf d m sv F) (h2 : k2 ∉ fpOf d m sv F)
    (c0 : w.cell? ⟨k0, 0, none⟩ = some (.pointer (some ⟨d, 0, none⟩))) (c1 : w.cell? ⟨k1, 0, none⟩ = some (.string n)) (c2 : w.cell? ⟨k2, 0, none⟩ = some (.string s)) (code : Int) (hcode : code = appCode S (F.map FE.pl) n s) :
    Calls Tryd.prog 39 #[.pointer (some ⟨d, 0, none⟩), .string sApp, .string n, .int .i64 code, .func (.func 35) #[] #[.pointer (some ⟨k0, 0, none⟩), .pointer (some ⟨k1, 0, none⟩), .pointer (some ⟨k2, 0, none⟩)], .func (.func 37) #[] #[.pointer (some ⟨k0, 0, none⟩), .pointer (some ⟨k1, 0, none⟩), .pointer (some ⟨k2, 0, none⟩)]] w
      fun e w' => After A B d m sv S F sApp n code (growP n (L s) (F.map FE.pl)) (fun y => growP n ((L s).take (wth y (s.size : Int)).toNat) (F.map FE.pl)) w e w' := by
  have hl0 := World.block_lt_of_cell? w _ c0
  have hl1 := World.block_lt_of_cell? w _ c1
  have hl2 := World.block_lt_of_cell? w _ c2
  have hfit : code = 0 → usedF F + s.size ≤ S.quota := by
    intro e
    rw [e] at hcode
    unfold appCode at hcode
    rw [usedF_pl]
    split at hcode
    · split at hcode
      · cases hcode
      · omega
    · cases hcode
  have hq : S.step.tick.quota = S.quota := by
    unfold DS.tick
    split
    · rfl
    · split <;> rfl
  refine operate_after h he hok hn sApp n code _ _ _ _ isFn_36 isFn_38 _ _ ?_ ?_
  · intro hc _ _ W hW hS
    exact Append1_any hW k0 k1 k2 n s hns (by rw [hq]; exact hfit hc) (by rw [hS.cell hl0 h0]; exact c0) (by rw [hS.cell hl1 h1]; exact c1) (by rw [hS.cell hl2 h2]; exact c2)
  · intro hc _ y W sv' hy hW hS _
    exact Append2_any hW y hy k0 k1 k2 n s hns (by rw [hq]; exact hfit hc) (by rw [hS.cell hl0 h0]; exact c0) (by rw [hS.cell hl1 h1]; exact c1) (by rw [hS.cell hl2 h2]; exact c2)
/-- Three boxes. -/
abbrev box3 (w : World) (a b c : Value) (ta tb tc : TypeId) : World := ((w.alloc (.cells #[a] ta)).alloc (.cells #[b] tb)).alloc (.cells #[c] tc)
theorem box3_facts (w : World) (a b c : Value) (ta tb tc : TypeId) : Below w.heap.size w (box3 w a b c ta tb tc) ∧ (box3 w a b c ta tb tc).cell? ⟨w.heap.size, 0, none⟩ = some a ∧ (box3 w a b c ta tb tc).cell? ⟨w.heap.size + 1, 0, none⟩ = some b ∧ (box3 w a b c ta tb tc).cell? ⟨w.heap.size + 1 + 1, 0, none⟩ = some c := by
  refine ⟨(((Below.refl _ _).alloc (Nat.le_refl _) _).alloc (by simp) _).alloc (by simp; omega) _, ?_, ?_, ?_⟩
  · have h1 : (box3 w a b c ta tb tc).heap[w.heap.size]? = some (.cells #[a] ta (0, 0)) := by
      rw [Below.heap_alloc _ _ _ (by simp; omega), Below.heap_alloc _ _ _ (by simp)]; exact heap_alloc_new _ _
    exact cell_of h1 0
  · have h1 : (box3 w a b c ta tb tc).heap[w.heap.size + 1]? = some (.cells #[b] tb (0, 0)) := by
      rw [Below.heap_alloc _ _ _ (by simp)]
      have := heap_alloc_new (w.alloc (.cells #[a] ta)) (.cells #[b] tb)
      have e : (w.alloc (.cells #[a] ta)).heap.size = w.heap.size + 1 := by simp
      rw [e] at this; exact this
    exact cell_of h1 0
  · have h1 : (box3 w a b c ta tb tc).heap[w.heap.size + 1 + 1]? = some (.cells #[c] tc (0, 0)) := by
      have := heap_alloc_new ((w.alloc (.cells #[a] ta)).alloc (.cells #[b] tb)) (.cells #[c] tc)
      have e : ((w.alloc (.cells #[a] ta)).alloc (.cells #[b] tb)).heap.size = w.heap.size + 1 + 1 := by simp
      rw [e] at this; exact this
    exact cell_of h1 0
set_option maxHeartbeats 4000000 in
theorem Append_any {A : Whys} {B d m clk : Nat} {sv : Value} {S : DS} {F : List FE} {w : World} (h : DiskAt B d m clk sv S F w) (he : Env A B w) (hok : S.ok) (hn : S.steps < 1000000000) (n s : ByteArray) (hns : n.size ≤ 140737488355328) :
    Calls Tryd.prog 16 #[.pointer (some ⟨d, 0, none⟩), .string n, .string s] w fun e w' => After A B d m sv S F sApp n (appCode S (F.map FE.pl) n s) (growP n (L s) (F.map FE.pl)) (fun y => growP n ((L s).take (wth y (s.size : Int)).toNat) (F.map FE.pl)) w e w' := by
  obtain ⟨hb, c0, c1, c2⟩ := box3_facts w (.pointer (some ⟨d, 0, none⟩)) (.string n) (.string s) 24 9 9
  have hD1 := h.below hb
  have hE1 := he.below (hb.mono h.size)
  have ho : ∀ k, w.heap.size ≤ k → k ∉ fpOf d m sv F := fun k hk e => by have := h.lt e; omega
  have hq := h.quota
  have hfits := h.fits
  generalize hWB : box3 w (.pointer (some ⟨d, 0, none⟩)) (.string n) (.string s) 24 9 9 = W1 at *
  have HO := Lib.hid (fun (W : World) (hW : W = W1 ∨ W = W1.drew) (code : Int) (hc : code = appCode S (F.map FE.pl) n s) => app_operate (w := W) (by rcases hW with rfl | rfl <;> first | exact hD1 | exact hD1.drew) (by rcases hW with rfl | rfl <;> first | exact hE1 | exact hE1.drew) hok hn n s hns w.heap.size (w.heap.size + 1) (w.heap.size + 1 + 1)
    (ho _ (by omega)) (ho _ (by omega)) (ho _ (by omega)) (by rcases hW with rfl | rfl <;> exact c0) (by rcases hW with rfl | rfl <;> exact c1) (by rcases hW with rfl | rfl <;> exact c2) code hc)
  have HA := Lib.hid (fun (W : World) (hW : W = W1 ∨ W = W1.drew) e w' (hc : After A B d m sv S F sApp n (appCode S (F.map FE.pl) n s) (growP n (L s) (F.map FE.pl)) (fun y => growP n ((L s).take (wth y (s.size : Int)).toNat) (F.map FE.pl)) W e w') => After.ahead (w := w) (by rcases hW with rfl | rfl <;> first | exact hb | exact hb.drew) hc)
  have HN := Lib.hid (fun W => isName_any n W hns)
  have HQ := Lib.hid (fun W (hW : DiskAt B d m clk sv S F W) => Quota_any hW)
  have HU := Lib.hid (fun W (hW : DiskAt B d m clk sv S F W) => Used_any hW)
  have HD1 := Lib.hid hD1
  have HWB : Hid (((w.alloc (.cells #[.pointer (some ⟨d, 0, none⟩)] 24)).alloc (.cells #[.string n] 9)).alloc (.cells #[.string s] 9) = W1) := Lib.hid hWB
  have hu : (usedF F : Int) ≤ (S.quota : Int) := by omega
  have hq2 : (S.quota : Int) ≤ 1048576 := by omega
  have HUP := Lib.hid (usedF_pl F)
  unfold appCode at *
  simp only [← HUP.out] at HO HA ⊢
  clear h he hok hn hns ho hb hD1 hE1 hq hfits hWB
  obtain ⟨q, hq⟩ : ∃ q, isNm n = q := ⟨_, rfl⟩
  rw [hq] at HN HO HA ⊢
  clear hq
  cases q with
  | false =>
    simp only [Bool.false_eq_true, if_false] at HO HA ⊢
    go_enter Tryd.func16, Tryd.ntmps16
    go_upto_region 1 with fail
    rw [HWB.out]
    go_wp2_with (first | (go_at_call 33; refine (HN.out _).mono ?_; rintro e w2 ⟨rfl, rfl⟩) | (go_at_call 39; refine (HO.out _ (.inl rfl) 90 rfl).mono ?_; rintro e w3 ⟨r, sv', clk', F', rfl, hA⟩; have HR := Lib.hid hA; clear hA))
    go_ret
    exact HA.out _ (.inl rfl) _ _ ⟨r, sv', clk', F', rfl, HR.out⟩
  | true =>
    simp only [if_true] at HO HA ⊢
    have hwr : IntKind.i64.wrap ((S.quota : Int) - (usedF F : Int)) = (S.quota : Int) - (usedF F : Int) := wr64 _ (by omega) (by omega)
    obtain ⟨c, hc⟩ : ∃ c : Int, (if (S.quota : Int) - (usedF F : Int) < (s.size : Int) then (92 : Int) else 0) = c := ⟨_, rfl⟩
    have HCC := Lib.hid hc
    rw [hc] at HO HA ⊢
    clear hc
    go_enter Tryd.func16, Tryd.ntmps16
    go_upto_region 1 with fail
    rw [HWB.out]
    go_wp2_with (first | (go_at_call 33; refine (HN.out _).mono ?_; rintro e w2 ⟨rfl, hw2⟩; subst w2))
    --R Append--
    refine wp_region_N 7 (fun X => X = W1.drew) (by kernel_rfl) ?_
    refine wpAnyN_take (i := 0) (oi := { dst := some 13, op := Go.Op.load 9 (Go.Operand.tmp 5), type := 9, pos := "operate.go:39", after := #[], guard := none }) (oL := { dst := some 20, op := Go.Op.binOp Go.BinOp.gtr 3 (Go.Operand.tmp 14) (Go.Operand.tmp 19) 3, type := 4, pos := "operate.go:39", after := #[{ on := 1, ground := Go.Ground.data }, { on := 6, ground := Go.Ground.data }], guard := none }) (v := .string s) rfl rfl (by kernel_rfl) (by kernel_rfl) (by kernel_rfl) (by kernel_rfl) (fun _ _ _ h => h) (Or.inl ⟨by kernel_rfl, ?_⟩) rfl ?_
    · (intro X hX; subst hX <;> (go_simp; try (with_reducible rfl)))
    (try simp only [Act.put, List.setIfInBounds_toArray, List.set_cons_zero, List.set_cons_succ])
    refine wpAnyN_take (i := 1) (oi := { dst := some 14, op := Go.Op.call { callee := Go.Callee.builtin Go.Builtin.len, args := #[Go.Operand.tmp 13], argTypes := #[9] }, type := 3, pos := "operate.go:39", after := #[{ on := 0, ground := Go.Ground.data }], guard := none }) (oL := { dst := some 20, op := Go.Op.binOp Go.BinOp.gtr 3 (Go.Operand.tmp 14) (Go.Operand.tmp 19) 3, type := 4, pos := "operate.go:39", after := #[{ on := 1, ground := Go.Ground.data }, { on := 6, ground := Go.Ground.data }], guard := none }) (v := .int .i64 (s.size : Int)) rfl rfl (by kernel_rfl) (by kernel_rfl) (by kernel_rfl) (by kernel_rfl) (fun _ _ _ h => h) (Or.inl ⟨by kernel_rfl, ?_⟩) rfl ?_
    · (intro X hX; subst hX <;> (go_simp; try (with_reducible rfl)))
    (try simp only [Act.put, List.setIfInBounds_toArray, List.set_cons_zero, List.set_cons_succ])
    refine wpAnyN_take (i := 2) (oi := { dst := some 15, op := Go.Op.load 24 (Go.Operand.tmp 3), type := 24, pos := "operate.go:39", after := #[], guard := none }) (oL := { dst := some 20, op := Go.Op.binOp Go.BinOp.gtr 3 (Go.Operand.tmp 14) (Go.Operand.tmp 19) 3, type := 4, pos := "operate.go:39", after := #[{ on := 1, ground := Go.Ground.data }, { on := 6, ground := Go.Ground.data }], guard := none }) (v := .pointer (some ⟨d, 0, none⟩)) rfl rfl (by kernel_rfl) (by kernel_rfl) (by kernel_rfl) (by kernel_rfl) (fun _ _ _ h => h) (Or.inl ⟨by kernel_rfl, ?_⟩) rfl ?_
    · (intro X hX; subst hX <;> (go_simp; try (with_reducible rfl)))
    (try simp only [Act.put, List.setIfInBounds_toArray, List.set_cons_zero, List.set_cons_succ])
    refine wpAnyN_take (i := 4) (oi := { dst := some 17, op := Go.Op.load 24 (Go.Operand.tmp 3), type := 24, pos := "operate.go:39", after := #[], guard := none }) (oL := { dst := some 20, op := Go.Op.binOp Go.BinOp.gtr 3 (Go.Operand.tmp 14) (Go.Operand.tmp 19) 3, type := 4, pos := "operate.go:39", after := #[{ on := 1, ground := Go.Ground.data }, { on := 6, ground := Go.Ground.data }], guard := none }) (v := .pointer (some ⟨d, 0, none⟩)) rfl rfl (by kernel_rfl) (by kernel_rfl) (by kernel_rfl) (by kernel_rfl) (fun _ _ _ h => h) (Or.inl ⟨by kernel_rfl, ?_⟩) rfl ?_
    · (intro X hX; subst hX <;> (go_simp; try (with_reducible rfl)))
    (try simp only [Act.put, List.setIfInBounds_toArray, List.set_cons_zero, List.set_cons_succ])
    refine wpAnyN_one (i := 3) (o := { dst := some 16, op := Go.Op.call { callee := Go.Callee.value (Go.Operand.func 34), args := #[Go.Operand.tmp 15], argTypes := #[24] }, type := 3, pos := "operate.go:39", after := #[{ on := 2, ground := Go.Ground.data }], guard := none }) (by kernel_rfl) rfl (fun K hK => ?_)
    go_simp
    refine (HQ.out _ HD1.out.drew).mono ?_
    rintro e w3 ⟨rfl, rfl⟩
    refine hK.out _ _ (fun _ => rfl) ?_
    clear hK K
    (try simp only [Act.put, List.setIfInBounds_toArray, List.set_cons_zero, List.set_cons_succ])
    refine wpAnyN_one (i := 5) (o := { dst := some 18, op := Go.Op.call { callee := Go.Callee.value (Go.Operand.func 18), args := #[Go.Operand.tmp 17], argTypes := #[24] }, type := 3, pos := "operate.go:39", after := #[{ on := 4, ground := Go.Ground.data }, { on := 3, ground := Go.Ground.chain }], guard := none }) (by kernel_rfl) rfl (fun K hK => ?_)
    go_simp
    refine (HU.out _ HD1.out.drew).mono ?_
    rintro e w3 ⟨rfl, rfl⟩
    refine hK.out _ _ (fun _ => rfl) ?_
    clear hK K
    (try simp only [Act.put, List.setIfInBounds_toArray, List.set_cons_zero, List.set_cons_succ])
    refine wpAnyN_one (i := 6) (o := { dst := some 19, op := Go.Op.binOp Go.BinOp.sub 3 (Go.Operand.tmp 16) (Go.Operand.tmp 18) 3, type := 3, pos := "operate.go:39", after := #[{ on := 3, ground := Go.Ground.data }, { on := 5, ground := Go.Ground.data }], guard := none }) (by kernel_rfl) rfl (fun K hK => ?_)
    go_simp
    refine hK.out _ _ (fun _ => rfl) ?_
    clear hK K
    (try simp only [Act.put, List.setIfInBounds_toArray, List.set_cons_zero, List.set_cons_succ])
    refine wpAnyN_one (i := 7) (o := { dst := some 20, op := Go.Op.binOp Go.BinOp.gtr 3 (Go.Operand.tmp 14) (Go.Operand.tmp 19) 3, type := 4, pos := "operate.go:39", after := #[{ on := 1, ground := Go.Ground.data }, { on := 6, ground := Go.Ground.data }], guard := none }) (by kernel_rfl) rfl (fun K hK => ?_)
    go_simp
    refine hK.out _ _ (fun e => absurd (e.symm.trans (by kernel_rfl) : false = true) Bool.false_ne_true) ?_
    clear hK K
    (try simp only [Act.put, List.setIfInBounds_toArray, List.set_cons_zero, List.set_cons_succ])
    refine wpAnyN_of_H (S' := fun _ => True) _ _ _ _ (by kernel_rfl) ?_
    refine wpAnyH_done (by kernel_rfl) ?_ _
    --E Append--
    by_cases hlt : (S.quota : Int) - (usedF F : Int) < (s.size : Int)
    · have hc := HCC.out
      rw [if_pos hlt] at hc
      have hdc : decide ((S.quota : Int) - (usedF F : Int) < (s.size : Int)) = true := decide_eq_true hlt
      rw [hdc]
      clear hlt hdc hwr HCC
      subst hc
      go_wp2_with (first | (go_at_call 39; refine (HO.out _ (.inr rfl) 92 rfl).mono ?_; rintro e w3 ⟨r, sv', clk', F', rfl, hA⟩; have HR := Lib.hid hA; clear hA))
      go_ret
      exact HA.out _ (.inr rfl) _ _ ⟨r, sv', clk', F', rfl, HR.out⟩
    · have hc := HCC.out
      rw [if_neg hlt] at hc
      have hdc : decide ((S.quota : Int) - (usedF F : Int) < (s.size : Int)) = false := decide_eq_false hlt
      rw [hdc]
      clear hlt hdc hwr HCC
      subst hc
      go_wp2_with (first | (go_at_call 39; refine (HO.out _ (.inr rfl) 0 rfl).mono ?_; rintro e w3 ⟨r, sv', clk', F', rfl, hA⟩; have HR := Lib.hid hA; clear hA))
      go_ret
      exact HA.out _ (.inr rfl) _ _ ⟨r, sv', clk', F', rfl, HR.out⟩
end Go.Proofs.YtbnicjpkfldcdaaDoor
