/- disk: Truncate. -/
import Derived.Test.YtbnicjpkfldcdaaDoorD9zb
namespace Go.Proofs.YtbnicjpkfldcdaaDoor
open Go.RowKit Go.Lib

def cutF (k : Nat) (p : PF) : PF := { p with data := p.data.take k, dur := min p.dur k }
def truC (P : List PF) (n : ByteArray) (k : Int) : Int := if lookC P n = 0 then (if 0 ≤ k ∧ k ≤ sizeP n P then 0 else 3) else lookC P n
theorem cut_did {B d m clk : Nat} {sv : Value} {S : DS} {F1 F2 : List FE} {f : FE} {w : World} (h : DiskAt B d m clk sv S (F1 ++ f :: F2) w) (k : Nat) (hk : k ≤ f.data.length) :
    Calls Tryd.prog 51 #[.pointer (some ⟨d, 0, none⟩), .pointer (some ⟨f.blk, 0, none⟩), .int .i64 (k : Int)] w fun e w' => e = .returned (.tuple #[]) ∧ Did B d m sv S (F1 ++ f :: F2) w (modP f.name (cutF k) ((F1 ++ f :: F2).map FE.pl)) w' := by
  by_cases he : k = f.data.length
  · subst he
    refine (cut_whole h).mono ?_
    rintro e w' ⟨rfl, rfl⟩
    refine ⟨rfl, ?_⟩
    have e1 : (F1 ++ f :: F2).map FE.pl = modP f.name (cutF f.data.length) ((F1 ++ f :: F2).map FE.pl) := modP_hit rfl h.names (by
      have := (h.files f (by simp)).dur
      unfold cutF FE.pl
      simp only [List.take_length]
      rw [Nat.min_eq_left this])
    rw [← e1]
    exact Did.refl h
  · refine (cut_part h k (by omega)).mono ?_
    rintro e w' ⟨rfl, v, hD, hS, hM⟩
    exact ⟨rfl, clk, _, hD, modP_hit rfl h.names rfl, hS, hM⟩
theorem isFn_tr : IsFn 50 := isFn_of Tryd.func50 (by kernel_rfl) (by kernel_rfl)
theorem Truncate1_any {B d m clk : Nat} {sv : Value} {S : DS} {F1 F2 : List FE} {f : FE} {w : World} (h : DiskAt B d m clk sv S (F1 ++ f :: F2) w) (k0 k1 k2 : Nat) (k : Nat) (hk : k ≤ f.data.length) (c0 : w.cell? ⟨k0, 0, none⟩ = some (.pointer (some ⟨d, 0, none⟩))) (c1 : w.cell? ⟨k1, 0, none⟩ = some (.pointer (some ⟨f.blk, 0, none⟩))) (c2 : w.cell? ⟨k2, 0, none⟩ = some (.int .i64 (k : Int))) :
    Calls Tryd.prog 50 #[.pointer (some ⟨k0, 0, none⟩), .pointer (some ⟨k1, 0, none⟩), .pointer (some ⟨k2, 0, none⟩)] w fun e w' => e = .returned (.tuple #[]) ∧ Did B d m sv S (F1 ++ f :: F2) w (modP f.name (cutF k) ((F1 ++ f :: F2).map FE.pl)) w' := by
  have hG := Lib.hid (cut_did h k hk)
  clear h
  go_enter Tryd.func50, Tryd.ntmps50
  go_wp2_with (go_at_call 51; refine hG.out.mono ?_; rintro e w' ⟨rfl, hD⟩; have HD := Lib.hid hD; clear hD)
  first | refine bodyPost_end (results_none rfl _ _ _) rfl ?_ | refine bodyPost_ret (results_none rfl _ _ _) rfl ?_
  exact ⟨rfl, HD.out⟩
def sTrunc : ByteArray := ⟨#[116, 114, 117, 110, 99, 97, 116, 101]⟩
set_option maxHeartbeats 4000000 in
theorem Truncate_any {A : Whys} {B d m clk : Nat} {sv : Value} {S : DS} {F : List FE} {w : World} (h : DiskAt B d m clk sv S F w) (he : Env A B w) (hok : S.ok) (hn : S.steps < 1000000000) (n : ByteArray) (k : Int) (hns : n.size ≤ 140737488355328) :
    Calls Tryd.prog 25 #[.pointer (some ⟨d, 0, none⟩), .string n, .int .i64 k] w fun e w' => After A B d m sv S F sTrunc n (truC (F.map FE.pl) n k) (modP n (cutF k.toNat) (F.map FE.pl)) (fun y => if 1 ≤ y then modP n (cutF k.toNat) (F.map FE.pl) else F.map FE.pl) w e w' := by
  obtain ⟨pv, c0, hlook, hc0, hcase⟩ := look_all h n hns
  obtain ⟨c, hc⟩ : ∃ c, truC (F.map FE.pl) n k = c := ⟨_, rfl⟩
  rw [hc]
  unfold truC at hc
  rw [← hc0] at hc
  obtain ⟨hb0, _, _, hz0⟩ := box2_facts w (.pointer (some ⟨d, 0, none⟩)) (.int .i64 k) 24 3
  obtain ⟨hb1, cA, cB, cC⟩ := box3_facts w (.pointer (some ⟨d, 0, none⟩)) (.int .i64 k) (.pointer pv) 24 3 67
  have HL := Lib.hid (hlook _ (h.below hb0))
  obtain ⟨W1, hW1⟩ : ∃ W1, ((w.alloc (.cells #[.pointer (some ⟨d, 0, none⟩)] 24)).alloc (.cells #[.int .i64 k] 3)).alloc (.cells #[.pointer pv] 67) = W1 := ⟨_, rfl⟩
  have hz1 : W1.heap.size = w.heap.size + 1 + 1 + 1 := by rw [← hW1]; simp
  simp only [box3] at hb1 cA cB cC
  rw [hW1] at hb1 cA cB cC
  have fA : W1.drew.cell? ⟨w.heap.size, 0, none⟩ = some (.pointer (some ⟨d, 0, none⟩)) := cA
  have fB : W1.drew.cell? ⟨w.heap.size + 1, 0, none⟩ = some (.int .i64 k) := cB
  have fC : W1.drew.cell? ⟨w.heap.size + 1 + 1, 0, none⟩ = some (.pointer pv) := cC
  have hD1 := (h.below hb1).drew
  obtain ⟨Y, hY⟩ : ∃ Y, W1.drew = Y := ⟨_, rfl⟩
  rw [hY] at fA fB fC hD1
  have hzY : Y.heap.size = w.heap.size + 1 + 1 + 1 := by rw [← hY]; exact hz1
  have hbY : Below w.heap.size w Y := by rw [← hY]; exact hb1.drew
  have HAl := Lib.hid (allOr_any (.func (.func 50) #[] #[.pointer (some ⟨w.heap.size, 0, none⟩), .pointer (some ⟨w.heap.size + 1 + 1, 0, none⟩), .pointer (some ⟨w.heap.size + 1, 0, none⟩)]) Y.drew _ _ rfl)
  obtain ⟨W2, hW2⟩ : ∃ W2, Y.drew.alloc (.cells #[.func (.func 50) #[] #[.pointer (some ⟨w.heap.size, 0, none⟩), .pointer (some ⟨w.heap.size + 1 + 1, 0, none⟩), .pointer (some ⟨w.heap.size + 1, 0, none⟩)]] 1) = W2 := ⟨_, rfl⟩
  have hb2 : Below Y.heap.size Y W2 := by rw [← hW2]; exact (Below.refl _ _).drew.alloc (Nat.le_refl _) _
  have hbb : Below w.heap.size w W2 := hbY.trans (hb2.mono (by omega))
  have cA2 : W2.cell? ⟨w.heap.size, 0, none⟩ = some (.pointer (some ⟨d, 0, none⟩)) := by rw [← hW2]; exact cell_on fA _
  have cB2 : W2.cell? ⟨w.heap.size + 1, 0, none⟩ = some (.int .i64 k) := by rw [← hW2]; exact cell_on fB _
  have cC2 : W2.cell? ⟨w.heap.size + 1 + 1, 0, none⟩ = some (.pointer pv) := by rw [← hW2]; exact cell_on fC _
  have cF2 : W2.cell? ⟨Y.heap.size, 0, none⟩ = some (.func (.func 50) #[] #[.pointer (some ⟨w.heap.size, 0, none⟩), .pointer (some ⟨w.heap.size + 1 + 1, 0, none⟩), .pointer (some ⟨w.heap.size + 1, 0, none⟩)]) := box1_cell (w := Y.drew) (by rw [hW2]; exact Below.refl _ _)
  have hD2 := h.below hbb
  have hE2 := he.below (hbb.mono h.size)
  have hoA : w.heap.size ∉ fpOf d m sv F := h.far (Nat.le_refl _)
  have hoB : w.heap.size + 1 ∉ fpOf d m sv F := h.far (by omega)
  have hoC : w.heap.size + 1 + 1 ∉ fpOf d m sv F := h.far (by omega)
  have hoF : Y.heap.size ∉ fpOf d m sv F := h.far (by omega)
  have hlA := World.block_lt_of_cell? W2 _ cA2
  have hlB := World.block_lt_of_cell? W2 _ cB2
  have hlC := World.block_lt_of_cell? W2 _ cC2
  have hlF := World.block_lt_of_cell? W2 _ cF2
  have HO : Hid (Calls Tryd.prog 39 #[.pointer (some ⟨d, 0, none⟩), .string sTrunc, .string n, .int .i64 c, .func (.func 50) #[] #[.pointer (some ⟨w.heap.size, 0, none⟩), .pointer (some ⟨w.heap.size + 1 + 1, 0, none⟩), .pointer (some ⟨w.heap.size + 1, 0, none⟩)], .func (.func 57) #[] #[.pointer (some ⟨Y.heap.size, 0, none⟩)]] W2 fun e w' => After A B d m sv S F sTrunc n c (modP n (cutF k.toNat) (F.map FE.pl)) (fun y => if 1 ≤ y then modP n (cutF k.toNat) (F.map FE.pl) else F.map FE.pl) W2 e w') := Lib.hid (by
    by_cases hcz : c = 0
    · have hc00 : c0 = 0 ∧ 0 ≤ k ∧ k ≤ sizeP n (F.map FE.pl) := by
        rw [hcz] at hc
        split at hc
        · rename_i h0
          refine ⟨h0, ?_⟩
          split at hc
          · assumption
          · cases hc
        · rename_i h0; exact absurd hc h0
      rcases hcase with ⟨hne, _⟩ | ⟨_, _, F1, f, F2, rfl, rfl, rfl⟩
      · exact absurd hc00.1 hne
      · have hsz : sizeP f.name ((F1 ++ f :: F2).map FE.pl) = (f.data.length : Int) := by
          unfold sizeP
          rw [find_pl rfl (names_tail h.names).1]
          rfl
        rw [hsz] at hc00
        have hkl : k.toNat ≤ f.data.length := by omega
        have hkk : ((k.toNat : Nat) : Int) = k := by omega
        refine operate_after hD2 hE2 hok hn sTrunc f.name c _ _ _ _ isFn_tr isFn_70 _ _ (fun _ _ _ W hW hS => ?_) (fun _ _ y W sv' _ hW hS hM => ?_)
        · exact Truncate1_any hW _ _ _ k.toNat hkl (by rw [hS.cell hlA hoA]; exact cA2) (by rw [hS.cell hlC hoC]; exact cC2) (by rw [hS.cell hlB hoB, hkk]; exact cB2)
        · exact allOr1_any hW _ _ _ (by rw [hS.cell hlF hoF]; exact cF2) isFn_tr _ (Truncate1_any hW _ _ _ k.toNat hkl (by rw [hS.cell hlA hoA]; exact cA2) (by rw [hS.cell hlC hoC]; exact cC2) (by rw [hS.cell hlB hoB, hkk]; exact cB2)) y
    · exact operate_after hD2 hE2 hok hn sTrunc n c _ _ _ _ isFn_tr isFn_70 _ _ (fun e => absurd e hcz) (fun e => absurd e hcz))
  have HA := Lib.hid (fun e w' (hc : After A B d m sv S F sTrunc n c (modP n (cutF k.toNat) (F.map FE.pl)) (fun y => if 1 ≤ y then modP n (cutF k.toNat) (F.map FE.pl) else F.map FE.pl) W2 e w') => After.ahead hbb hc)
  have HW1 := Lib.hid hW1
  have HW2 := Lib.hid hW2
  have cAd : Y.drew.cell? ⟨w.heap.size, 0, none⟩ = some (.pointer (some ⟨d, 0, none⟩)) := fA
  have HY := Lib.hid hY
  by_cases hz : c0 = 0
  · rcases hcase with ⟨hne, _⟩ | ⟨_, _, F1, f, F2, hF, hfn, hpv⟩
    · exact absurd hz hne
    · have hsz : sizeP n (F.map FE.pl) = (f.data.length : Int) := by
        rw [hF, ← hfn]
        unfold sizeP
        rw [find_pl rfl (names_tail (by rw [← hF]; exact h.names)).1]
        rfl
      rw [if_pos hz, hsz] at hc
      obtain ⟨a, cp, _, ⟨b0, _, _⟩⟩ := hD1.fileC (f := f) (by rw [hF]; simp)
      rw [← hY] at b0
      generalize f.data.length = fl at *
      generalize f.blk = fb at *
      subst hz
      subst hpv
      clear h he hok hn hns hlook hc0 hb0 hz0 hb1 hz1 hb2 hbb cB2 cC2 cF2 hD1 hD2 hE2 hoA hoB hoC hoF hlA hlB hlC hlF hW1 hW2 hF hfn hsz hzY hbY hY
      by_cases hk0 : 0 ≤ k
      · by_cases hkl : k ≤ (fl : Int)
        · rw [if_pos ⟨hk0, hkl⟩] at hc
          subst hc
          have hk1 : ¬ k < 0 := by omega
          have hk2 : ¬ (fl : Int) < k := by omega
          go_enter Tryd.func25, Tryd.ntmps25
          go_upto_region 2 with (go_at_call 40; refine HL.out.mono ?_; rintro e w2 ⟨rfl, hw2⟩; subst w2)
          rw [HW1.out]
          --R Trunc2D--
          refine wp_region_N 14 (fun X => X = W1.drew) (by kernel_rfl) ?_
          refine wpAnyN_take (i := 0) (oi := { dst := some 16, op := Go.Op.move (Go.Operand.tmp 8), type := 51, pos := "operate.go:83", after := #[], guard := none }) (oL := { dst := some 30, op := Go.Op.pick (Go.Operand.tmp 18) (Go.Operand.tmp 29) (Go.Operand.const (Go.Value.bool false)), type := 4, pos := "operate.go:83", after := #[{ on := 2, ground := Go.Ground.data }, { on := 13, ground := Go.Ground.data }], guard := none }) (v := .int .i64 0) rfl rfl (by kernel_rfl) (by kernel_rfl) (by kernel_rfl) (by kernel_rfl) (fun _ _ _ h => h) (Or.inl ⟨by kernel_rfl, ?_⟩) rfl ?_
          · (intro X hX; subst hX <;> (go_simp; try (with_reducible rfl)))
          (try simp only [Act.put, List.setIfInBounds_toArray, List.set_cons_zero, List.set_cons_succ])
          refine wpAnyN_take (i := 1) (oi := { dst := some 17, op := Go.Op.binOp Go.BinOp.eql 51 (Go.Operand.tmp 16) (Go.Operand.const (Go.Value.int Go.IntKind.i64 0)) 51, type := 4, pos := "operate.go:83", after := #[{ on := 0, ground := Go.Ground.data }], guard := none }) (oL := { dst := some 30, op := Go.Op.pick (Go.Operand.tmp 18) (Go.Operand.tmp 29) (Go.Operand.const (Go.Value.bool false)), type := 4, pos := "operate.go:83", after := #[{ on := 2, ground := Go.Ground.data }, { on := 13, ground := Go.Ground.data }], guard := none }) (v := .bool true) rfl rfl (by kernel_rfl) (by kernel_rfl) (by kernel_rfl) (by kernel_rfl) (fun _ _ _ h => h) (Or.inl ⟨by kernel_rfl, ?_⟩) rfl ?_
          · (intro X hX; subst hX <;> (go_simp; try (with_reducible rfl)))
          (try simp only [Act.put, List.setIfInBounds_toArray, List.set_cons_zero, List.set_cons_succ])
          refine wpAnyN_take (i := 2) (oi := { dst := some 18, op := Go.Op.move (Go.Operand.tmp 17), type := 4, pos := "operate.go:83", after := #[{ on := 1, ground := Go.Ground.data }], guard := none }) (oL := { dst := some 30, op := Go.Op.pick (Go.Operand.tmp 18) (Go.Operand.tmp 29) (Go.Operand.const (Go.Value.bool false)), type := 4, pos := "operate.go:83", after := #[{ on := 2, ground := Go.Ground.data }, { on := 13, ground := Go.Ground.data }], guard := none }) (v := .bool true) rfl rfl (by kernel_rfl) (by kernel_rfl) (by kernel_rfl) (by kernel_rfl) (fun _ _ _ h => h) (Or.inl ⟨by kernel_rfl, ?_⟩) rfl ?_
          · (intro X hX; subst hX <;> (go_simp; try (with_reducible rfl)))
          (try simp only [Act.put, List.setIfInBounds_toArray, List.set_cons_zero, List.set_cons_succ])
          refine wpAnyN_take (i := 3) (oi := { dst := some 19, op := Go.Op.load 3 (Go.Operand.tmp 5), type := 3, pos := "operate.go:83", after := #[{ on := 2, ground := Go.Ground.guard }], guard := some (2, true) }) (oL := { dst := some 30, op := Go.Op.pick (Go.Operand.tmp 18) (Go.Operand.tmp 29) (Go.Operand.const (Go.Value.bool false)), type := 4, pos := "operate.go:83", after := #[{ on := 2, ground := Go.Ground.data }, { on := 13, ground := Go.Ground.data }], guard := none }) (v := .int .i64 k) rfl rfl (by kernel_rfl) (by kernel_rfl) (by kernel_rfl) (by kernel_rfl) (fun _ _ _ h => h) (Or.inl ⟨by kernel_rfl, ?_⟩) rfl ?_
          · (intro X hX; subst hX <;> (go_simp; try (with_reducible rfl)))
          (try simp only [Act.put, List.setIfInBounds_toArray, List.set_cons_zero, List.set_cons_succ])
          refine wpAnyN_take (i := 4) (oi := { dst := some 20, op := Go.Op.binOp Go.BinOp.lss 3 (Go.Operand.tmp 19) (Go.Operand.const (Go.Value.int Go.IntKind.i64 0)) 3, type := 4, pos := "operate.go:83", after := #[{ on := 3, ground := Go.Ground.data }, { on := 2, ground := Go.Ground.guard }], guard := some (2, true) }) (oL := { dst := some 30, op := Go.Op.pick (Go.Operand.tmp 18) (Go.Operand.tmp 29) (Go.Operand.const (Go.Value.bool false)), type := 4, pos := "operate.go:83", after := #[{ on := 2, ground := Go.Ground.data }, { on := 13, ground := Go.Ground.data }], guard := none }) (v := .bool false) rfl rfl (by kernel_rfl) (by kernel_rfl) (by kernel_rfl) (by kernel_rfl) (fun _ _ _ h => h) (Or.inl ⟨by kernel_rfl, ?_⟩) rfl ?_
          · (intro X hX; subst hX <;> (go_simp; try (with_reducible rfl)))
          (try simp only [Act.put, List.setIfInBounds_toArray, List.set_cons_zero, List.set_cons_succ])
          refine wpAnyN_take (i := 5) (oi := { dst := some 21, op := Go.Op.move (Go.Operand.tmp 20), type := 4, pos := "operate.go:83", after := #[{ on := 4, ground := Go.Ground.data }, { on := 2, ground := Go.Ground.chain }, { on := 2, ground := Go.Ground.guard }], guard := some (2, true) }) (oL := { dst := some 30, op := Go.Op.pick (Go.Operand.tmp 18) (Go.Operand.tmp 29) (Go.Operand.const (Go.Value.bool false)), type := 4, pos := "operate.go:83", after := #[{ on := 2, ground := Go.Ground.data }, { on := 13, ground := Go.Ground.data }], guard := none }) (v := .bool false) rfl rfl (by kernel_rfl) (by kernel_rfl) (by kernel_rfl) (by kernel_rfl) (fun _ _ _ h => h) (Or.inl ⟨by kernel_rfl, ?_⟩) rfl ?_
          · (intro X hX; subst hX <;> (go_simp; try (with_reducible rfl)))
          (try simp only [Act.put, List.setIfInBounds_toArray, List.set_cons_zero, List.set_cons_succ])
          refine wpAnyN_take (i := 6) (oi := { dst := some 22, op := Go.Op.load 3 (Go.Operand.tmp 5), type := 3, pos := "operate.go:83", after := #[{ on := 5, ground := Go.Ground.guard }], guard := some (5, false) }) (oL := { dst := some 30, op := Go.Op.pick (Go.Operand.tmp 18) (Go.Operand.tmp 29) (Go.Operand.const (Go.Value.bool false)), type := 4, pos := "operate.go:83", after := #[{ on := 2, ground := Go.Ground.data }, { on := 13, ground := Go.Ground.data }], guard := none }) (v := .int .i64 k) rfl rfl (by kernel_rfl) (by kernel_rfl) (by kernel_rfl) (by kernel_rfl) (fun _ _ _ h => h) (Or.inl ⟨by kernel_rfl, ?_⟩) rfl ?_
          · (intro X hX; subst hX <;> (go_simp; try (with_reducible rfl)))
          (try simp only [Act.put, List.setIfInBounds_toArray, List.set_cons_zero, List.set_cons_succ])
          refine wpAnyN_take (i := 7) (oi := { dst := some 23, op := Go.Op.load 67 (Go.Operand.tmp 7), type := 67, pos := "operate.go:83", after := #[{ on := 5, ground := Go.Ground.guard }], guard := some (5, false) }) (oL := { dst := some 30, op := Go.Op.pick (Go.Operand.tmp 18) (Go.Operand.tmp 29) (Go.Operand.const (Go.Value.bool false)), type := 4, pos := "operate.go:83", after := #[{ on := 2, ground := Go.Ground.data }, { on := 13, ground := Go.Ground.data }], guard := none }) (v := .pointer (some ⟨fb, 0, none⟩)) rfl rfl (by kernel_rfl) (by kernel_rfl) (by kernel_rfl) (by kernel_rfl) (fun _ _ _ h => h) (Or.inl ⟨by kernel_rfl, ?_⟩) rfl ?_
          · (intro X hX; subst hX <;> (go_simp; try (with_reducible rfl)))
          (try simp only [Act.put, List.setIfInBounds_toArray, List.set_cons_zero, List.set_cons_succ])
          refine wpAnyN_take (i := 8) (oi := { dst := some 24, op := Go.Op.nilCheck (Go.Operand.tmp 23), type := 0, pos := "operate.go:83", after := #[{ on := 7, ground := Go.Ground.data }, { on := 5, ground := Go.Ground.guard }], guard := some (5, false) }) (oL := { dst := some 30, op := Go.Op.pick (Go.Operand.tmp 18) (Go.Operand.tmp 29) (Go.Operand.const (Go.Value.bool false)), type := 4, pos := "operate.go:83", after := #[{ on := 2, ground := Go.Ground.data }, { on := 13, ground := Go.Ground.data }], guard := none }) (v := .pointer (some ⟨fb, 0, none⟩)) rfl rfl (by kernel_rfl) (by kernel_rfl) (by kernel_rfl) (by kernel_rfl) (fun _ _ _ h => h) (Or.inl ⟨by kernel_rfl, ?_⟩) rfl ?_
          · (intro X hX; subst hX <;> (go_simp; try (with_reducible rfl)))
          (try simp only [Act.put, List.setIfInBounds_toArray, List.set_cons_zero, List.set_cons_succ])
          refine wpAnyN_take (i := 9) (oi := { dst := some 25, op := Go.Op.fieldAddr 71 (Go.Operand.tmp 24) 0, type := 0, pos := "operate.go:83", after := #[{ on := 8, ground := Go.Ground.data }, { on := 5, ground := Go.Ground.guard }], guard := some (5, false) }) (oL := { dst := some 30, op := Go.Op.pick (Go.Operand.tmp 18) (Go.Operand.tmp 29) (Go.Operand.const (Go.Value.bool false)), type := 4, pos := "operate.go:83", after := #[{ on := 2, ground := Go.Ground.data }, { on := 13, ground := Go.Ground.data }], guard := none }) (v := .pointer (some ⟨fb, 0, none⟩)) rfl rfl (by kernel_rfl) (by kernel_rfl) (by kernel_rfl) (by kernel_rfl) (fun _ _ _ h => h) (Or.inl ⟨by kernel_rfl, ?_⟩) rfl ?_
          · (intro X hX; subst hX <;> (go_simp; try (with_reducible rfl)))
          (try simp only [Act.put, List.setIfInBounds_toArray, List.set_cons_zero, List.set_cons_succ])
          refine wpAnyN_take (i := 10) (oi := { dst := some 26, op := Go.Op.load 69 (Go.Operand.tmp 25), type := 69, pos := "operate.go:83", after := #[{ on := 9, ground := Go.Ground.data }, { on := 5, ground := Go.Ground.guard }], guard := some (5, false) }) (oL := { dst := some 30, op := Go.Op.pick (Go.Operand.tmp 18) (Go.Operand.tmp 29) (Go.Operand.const (Go.Value.bool false)), type := 4, pos := "operate.go:83", after := #[{ on := 2, ground := Go.Ground.data }, { on := 13, ground := Go.Ground.data }], guard := none }) (v := .slice a fl cp) rfl rfl (by kernel_rfl) (by kernel_rfl) (by kernel_rfl) (by kernel_rfl) (fun _ _ _ h => h) (Or.inl ⟨by kernel_rfl, ?_⟩) rfl ?_
          · (intro X hX; subst hX <;> (go_simp; try (with_reducible rfl)))
          (try simp only [Act.put, List.setIfInBounds_toArray, List.set_cons_zero, List.set_cons_succ])
          refine wpAnyN_take (i := 11) (oi := { dst := some 27, op := Go.Op.call { callee := Go.Callee.builtin Go.Builtin.len, args := #[Go.Operand.tmp 26], argTypes := #[69] }, type := 3, pos := "operate.go:83", after := #[{ on := 10, ground := Go.Ground.data }, { on := 5, ground := Go.Ground.guard }], guard := some (5, false) }) (oL := { dst := some 30, op := Go.Op.pick (Go.Operand.tmp 18) (Go.Operand.tmp 29) (Go.Operand.const (Go.Value.bool false)), type := 4, pos := "operate.go:83", after := #[{ on := 2, ground := Go.Ground.data }, { on := 13, ground := Go.Ground.data }], guard := none }) (v := .int .i64 (fl : Int)) rfl rfl (by kernel_rfl) (by kernel_rfl) (by kernel_rfl) (by kernel_rfl) (fun _ _ _ h => h) (Or.inl ⟨by kernel_rfl, ?_⟩) rfl ?_
          · (intro X hX; subst hX <;> (go_simp; try (with_reducible rfl)))
          (try simp only [Act.put, List.setIfInBounds_toArray, List.set_cons_zero, List.set_cons_succ])
          refine wpAnyN_take (i := 12) (oi := { dst := some 28, op := Go.Op.binOp Go.BinOp.gtr 3 (Go.Operand.tmp 22) (Go.Operand.tmp 27) 3, type := 4, pos := "operate.go:83", after := #[{ on := 6, ground := Go.Ground.data }, { on := 11, ground := Go.Ground.data }, { on := 5, ground := Go.Ground.guard }], guard := some (5, false) }) (oL := { dst := some 30, op := Go.Op.pick (Go.Operand.tmp 18) (Go.Operand.tmp 29) (Go.Operand.const (Go.Value.bool false)), type := 4, pos := "operate.go:83", after := #[{ on := 2, ground := Go.Ground.data }, { on := 13, ground := Go.Ground.data }], guard := none }) (v := .bool false) rfl rfl (by kernel_rfl) (by kernel_rfl) (by kernel_rfl) (by kernel_rfl) (fun _ _ _ h => h) (Or.inl ⟨by kernel_rfl, ?_⟩) rfl ?_
          · (intro X hX; subst hX <;> (go_simp; try (with_reducible rfl)))
          (try simp only [Act.put, List.setIfInBounds_toArray, List.set_cons_zero, List.set_cons_succ])
          refine wpAnyN_take (i := 13) (oi := { dst := some 29, op := Go.Op.pick (Go.Operand.tmp 21) (Go.Operand.const (Go.Value.bool true)) (Go.Operand.tmp 28), type := 4, pos := "operate.go:83", after := #[{ on := 5, ground := Go.Ground.data }, { on := 12, ground := Go.Ground.data }, { on := 2, ground := Go.Ground.guard }], guard := some (2, true) }) (oL := { dst := some 30, op := Go.Op.pick (Go.Operand.tmp 18) (Go.Operand.tmp 29) (Go.Operand.const (Go.Value.bool false)), type := 4, pos := "operate.go:83", after := #[{ on := 2, ground := Go.Ground.data }, { on := 13, ground := Go.Ground.data }], guard := none }) (v := .bool false) rfl rfl (by kernel_rfl) (by kernel_rfl) (by kernel_rfl) (by kernel_rfl) (fun _ _ _ h => h) (Or.inl ⟨by kernel_rfl, ?_⟩) rfl ?_
          · (intro X hX; subst hX <;> (go_simp; try (with_reducible rfl)))
          (try simp only [Act.put, List.setIfInBounds_toArray, List.set_cons_zero, List.set_cons_succ])
          refine wpAnyN_one (i := 14) (o := { dst := some 30, op := Go.Op.pick (Go.Operand.tmp 18) (Go.Operand.tmp 29) (Go.Operand.const (Go.Value.bool false)), type := 4, pos := "operate.go:83", after := #[{ on := 2, ground := Go.Ground.data }, { on := 13, ground := Go.Ground.data }], guard := none }) (by kernel_rfl) rfl (fun K hK => ?_)
          go_simp
          refine hK.out _ _ (fun e => absurd (e.symm.trans (by kernel_rfl) : false = true) Bool.false_ne_true) ?_
          clear hK K
          (try simp only [Act.put, List.setIfInBounds_toArray, List.set_cons_zero, List.set_cons_succ])
          refine wpAnyN_of_H (S' := fun _ => True) _ _ _ _ (by kernel_rfl) ?_
          refine wpAnyH_done (by kernel_rfl) ?_ _
          --E Trunc2D--
          rw [HY.out]
          go_upto_region 5 with fail
          --R TruncateD--
          refine wp_region_N 6 (fun X => X = Y.drew ∨ X = W2) (by kernel_rfl) ?_
          refine wpAnyN_take (i := 0) (oi := { dst := some 32, op := Go.Op.load 24 (Go.Operand.tmp 3), type := 24, pos := "operate.go:87", after := #[], guard := none }) (oL := { dst := some 38, op := Go.Op.call { callee := Go.Callee.value (Go.Operand.func 39), args := #[Go.Operand.tmp 32, Go.Operand.const (Go.Value.string { data := #[116, 114, 117, 110, 99, 97, 116, 101] }), Go.Operand.tmp 33, Go.Operand.tmp 34, Go.Operand.tmp 35, Go.Operand.tmp 37], argTypes := #[24, 9, 9, 51, 1, 75] }, type := 26, pos := "operate.go:87", after := #[{ on := 0, ground := Go.Ground.data }, { on := 1, ground := Go.Ground.data }, { on := 2, ground := Go.Ground.data }, { on := 3, ground := Go.Ground.data }, { on := 5, ground := Go.Ground.data }, { on := 5, ground := Go.Ground.chain }], guard := none }) (v := .pointer (some ⟨d, 0, none⟩)) rfl rfl (by kernel_rfl) (by kernel_rfl) (by kernel_rfl) (by kernel_rfl) (fun _ _ _ h => h) (Or.inl ⟨by kernel_rfl, ?_⟩) (.inl rfl) ?_
          · (intro X hX; rcases hX with rfl | rfl <;> (go_simp; try (with_reducible rfl)))
          (try simp only [Act.put, List.setIfInBounds_toArray, List.set_cons_zero, List.set_cons_succ])
          refine wpAnyN_take (i := 1) (oi := { dst := some 33, op := Go.Op.move (Go.Operand.tmp 1), type := 9, pos := "operate.go:87", after := #[], guard := none }) (oL := { dst := some 38, op := Go.Op.call { callee := Go.Callee.value (Go.Operand.func 39), args := #[Go.Operand.tmp 32, Go.Operand.const (Go.Value.string { data := #[116, 114, 117, 110, 99, 97, 116, 101] }), Go.Operand.tmp 33, Go.Operand.tmp 34, Go.Operand.tmp 35, Go.Operand.tmp 37], argTypes := #[24, 9, 9, 51, 1, 75] }, type := 26, pos := "operate.go:87", after := #[{ on := 0, ground := Go.Ground.data }, { on := 1, ground := Go.Ground.data }, { on := 2, ground := Go.Ground.data }, { on := 3, ground := Go.Ground.data }, { on := 5, ground := Go.Ground.data }, { on := 5, ground := Go.Ground.chain }], guard := none }) (v := .string n) rfl rfl (by kernel_rfl) (by kernel_rfl) (by kernel_rfl) (by kernel_rfl) (fun _ _ _ h => h) (Or.inl ⟨by kernel_rfl, ?_⟩) (.inl rfl) ?_
          · (intro X hX; rcases hX with rfl | rfl <;> (go_simp; try (with_reducible rfl)))
          (try simp only [Act.put, List.setIfInBounds_toArray, List.set_cons_zero, List.set_cons_succ])
          refine wpAnyN_take (i := 2) (oi := { dst := some 34, op := Go.Op.move (Go.Operand.tmp 8), type := 51, pos := "operate.go:87", after := #[], guard := none }) (oL := { dst := some 38, op := Go.Op.call { callee := Go.Callee.value (Go.Operand.func 39), args := #[Go.Operand.tmp 32, Go.Operand.const (Go.Value.string { data := #[116, 114, 117, 110, 99, 97, 116, 101] }), Go.Operand.tmp 33, Go.Operand.tmp 34, Go.Operand.tmp 35, Go.Operand.tmp 37], argTypes := #[24, 9, 9, 51, 1, 75] }, type := 26, pos := "operate.go:87", after := #[{ on := 0, ground := Go.Ground.data }, { on := 1, ground := Go.Ground.data }, { on := 2, ground := Go.Ground.data }, { on := 3, ground := Go.Ground.data }, { on := 5, ground := Go.Ground.data }, { on := 5, ground := Go.Ground.chain }], guard := none }) (v := .int .i64 0) rfl rfl (by kernel_rfl) (by kernel_rfl) (by kernel_rfl) (by kernel_rfl) (fun _ _ _ h => h) (Or.inl ⟨by kernel_rfl, ?_⟩) (.inl rfl) ?_
          · (intro X hX; rcases hX with rfl | rfl <;> (go_simp; try (with_reducible rfl)))
          (try simp only [Act.put, List.setIfInBounds_toArray, List.set_cons_zero, List.set_cons_succ])
          refine wpAnyN_take (i := 3) (oi := { dst := some 35, op := Go.Op.move (Go.Operand.tmp 9), type := 1, pos := "operate.go:87", after := #[], guard := none }) (oL := { dst := some 38, op := Go.Op.call { callee := Go.Callee.value (Go.Operand.func 39), args := #[Go.Operand.tmp 32, Go.Operand.const (Go.Value.string { data := #[116, 114, 117, 110, 99, 97, 116, 101] }), Go.Operand.tmp 33, Go.Operand.tmp 34, Go.Operand.tmp 35, Go.Operand.tmp 37], argTypes := #[24, 9, 9, 51, 1, 75] }, type := 26, pos := "operate.go:87", after := #[{ on := 0, ground := Go.Ground.data }, { on := 1, ground := Go.Ground.data }, { on := 2, ground := Go.Ground.data }, { on := 3, ground := Go.Ground.data }, { on := 5, ground := Go.Ground.data }, { on := 5, ground := Go.Ground.chain }], guard := none }) (v := .func (.func 50) #[] #[.pointer (some ⟨w.heap.size, 0, none⟩), .pointer (some ⟨w.heap.size + 1 + 1, 0, none⟩), .pointer (some ⟨w.heap.size + 1, 0, none⟩)]) rfl rfl (by kernel_rfl) (by kernel_rfl) (by kernel_rfl) (by kernel_rfl) (fun _ _ _ h => h) (Or.inl ⟨by kernel_rfl, ?_⟩) (.inl rfl) ?_
          · (intro X hX; rcases hX with rfl | rfl <;> (go_simp; try (with_reducible rfl)))
          (try simp only [Act.put, List.setIfInBounds_toArray, List.set_cons_zero, List.set_cons_succ])
          refine wpAnyN_take (i := 4) (oi := { dst := some 36, op := Go.Op.move (Go.Operand.tmp 9), type := 1, pos := "operate.go:87", after := #[], guard := none }) (oL := { dst := some 38, op := Go.Op.call { callee := Go.Callee.value (Go.Operand.func 39), args := #[Go.Operand.tmp 32, Go.Operand.const (Go.Value.string { data := #[116, 114, 117, 110, 99, 97, 116, 101] }), Go.Operand.tmp 33, Go.Operand.tmp 34, Go.Operand.tmp 35, Go.Operand.tmp 37], argTypes := #[24, 9, 9, 51, 1, 75] }, type := 26, pos := "operate.go:87", after := #[{ on := 0, ground := Go.Ground.data }, { on := 1, ground := Go.Ground.data }, { on := 2, ground := Go.Ground.data }, { on := 3, ground := Go.Ground.data }, { on := 5, ground := Go.Ground.data }, { on := 5, ground := Go.Ground.chain }], guard := none }) (v := .func (.func 50) #[] #[.pointer (some ⟨w.heap.size, 0, none⟩), .pointer (some ⟨w.heap.size + 1 + 1, 0, none⟩), .pointer (some ⟨w.heap.size + 1, 0, none⟩)]) rfl rfl (by kernel_rfl) (by kernel_rfl) (by kernel_rfl) (by kernel_rfl) (fun _ _ _ h => h) (Or.inl ⟨by kernel_rfl, ?_⟩) (.inl rfl) ?_
          · (intro X hX; rcases hX with rfl | rfl <;> (go_simp; try (with_reducible rfl)))
          (try simp only [Act.put, List.setIfInBounds_toArray, List.set_cons_zero, List.set_cons_succ])
          refine wpAnyN_one (i := 5) (o := { dst := some 37, op := Go.Op.call { callee := Go.Callee.value (Go.Operand.func 45), args := #[Go.Operand.tmp 36], argTypes := #[1] }, type := 75, pos := "operate.go:87", after := #[{ on := 4, ground := Go.Ground.data }], guard := none }) (by kernel_rfl) rfl (fun K hK => ?_)
          go_simp
          refine HAl.out.mono ?_
          rintro e w3 ⟨rfl, hw3⟩
          rw [HW2.out] at hw3
          subst w3
          refine hK.out _ _ (fun _ => (.inr rfl)) ?_
          clear hK K
          (try simp only [Act.put, List.setIfInBounds_toArray, List.set_cons_zero, List.set_cons_succ])
          refine wpAnyN_one (i := 6) (o := { dst := some 38, op := Go.Op.call { callee := Go.Callee.value (Go.Operand.func 39), args := #[Go.Operand.tmp 32, Go.Operand.const (Go.Value.string { data := #[116, 114, 117, 110, 99, 97, 116, 101] }), Go.Operand.tmp 33, Go.Operand.tmp 34, Go.Operand.tmp 35, Go.Operand.tmp 37], argTypes := #[24, 9, 9, 51, 1, 75] }, type := 26, pos := "operate.go:87", after := #[{ on := 0, ground := Go.Ground.data }, { on := 1, ground := Go.Ground.data }, { on := 2, ground := Go.Ground.data }, { on := 3, ground := Go.Ground.data }, { on := 5, ground := Go.Ground.data }, { on := 5, ground := Go.Ground.chain }], guard := none }) (by kernel_rfl) rfl (fun K hK => ?_)
          go_simp
          refine HO.out.mono ?_
          rintro e w4 ⟨r, sv', clk', F', rfl, hA⟩
          have HR := Lib.hid hA
          clear hA
          refine hK.out _ _ (fun e => absurd (e.symm.trans (by kernel_rfl) : false = true) Bool.false_ne_true) ?_
          clear hK K
          (try simp only [Act.put, List.setIfInBounds_toArray, List.set_cons_zero, List.set_cons_succ])
          refine wpAnyN_of_H (S' := fun _ => True) _ _ _ _ (by kernel_rfl) ?_
          refine wpAnyH_take (i := 7) (oi := { dst := some 6, op := Go.Op.assign (Go.Operand.tmp 38), type := 26, pos := "operate.go:87", after := #[{ on := 6, ground := Go.Ground.data }, { on := 6, ground := Go.Ground.chain }, { on := 0, ground := Go.Ground.phase }, { on := 1, ground := Go.Ground.phase }, { on := 2, ground := Go.Ground.phase }, { on := 3, ground := Go.Ground.phase }, { on := 4, ground := Go.Ground.phase }, { on := 5, ground := Go.Ground.phase }, { on := 6, ground := Go.Ground.phase }], guard := none }) (v := r) rfl (by kernel_rfl) (by kernel_rfl) (by kernel_rfl) (fun _ _ _ h => h) (Or.inl ⟨by kernel_rfl, ?_⟩) trivial ?_
          · (intro X hX; go_simp; try (with_reducible rfl))
          (try simp only [Act.put, List.setIfInBounds_toArray, List.set_cons_zero, List.set_cons_succ])
          refine wpAnyH_done (by kernel_rfl) ?_ _
          --E TruncateD--
          go_wp2_with fail
          go_ret
          exact HA.out _ _ ⟨r, sv', clk', F', rfl, HR.out⟩
        · rw [if_neg (fun e => hkl e.2)] at hc
          subst hc
          have hk1 : ¬ k < 0 := by omega
          have hk2 : (fl : Int) < k := by omega
          go_enter Tryd.func25, Tryd.ntmps25
          go_upto_region 2 with (go_at_call 40; refine HL.out.mono ?_; rintro e w2 ⟨rfl, hw2⟩; subst w2)
          rw [HW1.out]
          --R Trunc2C--
          refine wp_region_N 14 (fun X => X = W1.drew) (by kernel_rfl) ?_
          refine wpAnyN_take (i := 0) (oi := { dst := some 16, op := Go.Op.move (Go.Operand.tmp 8), type := 51, pos := "operate.go:83", after := #[], guard := none }) (oL := { dst := some 30, op := Go.Op.pick (Go.Operand.tmp 18) (Go.Operand.tmp 29) (Go.Operand.const (Go.Value.bool false)), type := 4, pos := "operate.go:83", after := #[{ on := 2, ground := Go.Ground.data }, { on := 13, ground := Go.Ground.data }], guard := none }) (v := .int .i64 0) rfl rfl (by kernel_rfl) (by kernel_rfl) (by kernel_rfl) (by kernel_rfl) (fun _ _ _ h => h) (Or.inl ⟨by kernel_rfl, ?_⟩) rfl ?_
          · (intro X hX; subst hX <;> (go_simp; try (with_reducible rfl)))
          (try simp only [Act.put, List.setIfInBounds_toArray, List.set_cons_zero, List.set_cons_succ])
          refine wpAnyN_take (i := 1) (oi := { dst := some 17, op := Go.Op.binOp Go.BinOp.eql 51 (Go.Operand.tmp 16) (Go.Operand.const (Go.Value.int Go.IntKind.i64 0)) 51, type := 4, pos := "operate.go:83", after := #[{ on := 0, ground := Go.Ground.data }], guard := none }) (oL := { dst := some 30, op := Go.Op.pick (Go.Operand.tmp 18) (Go.Operand.tmp 29) (Go.Operand.const (Go.Value.bool false)), type := 4, pos := "operate.go:83", after := #[{ on := 2, ground := Go.Ground.data }, { on := 13, ground := Go.Ground.data }], guard := none }) (v := .bool true) rfl rfl (by kernel_rfl) (by kernel_rfl) (by kernel_rfl) (by kernel_rfl) (fun _ _ _ h => h) (Or.inl ⟨by kernel_rfl, ?_⟩) rfl ?_
          · (intro X hX; subst hX <;> (go_simp; try (with_reducible rfl)))
          (try simp only [Act.put, List.setIfInBounds_toArray, List.set_cons_zero, List.set_cons_succ])
          refine wpAnyN_take (i := 2) (oi := { dst := some 18, op := Go.Op.move (Go.Operand.tmp 17), type := 4, pos := "operate.go:83", after := #[{ on := 1, ground := Go.Ground.data }], guard := none }) (oL := { dst := some 30, op := Go.Op.pick (Go.Operand.tmp 18) (Go.Operand.tmp 29) (Go.Operand.const (Go.Value.bool false)), type := 4, pos := "operate.go:83", after := #[{ on := 2, ground := Go.Ground.data }, { on := 13, ground := Go.Ground.data }], guard := none }) (v := .bool true) rfl rfl (by kernel_rfl) (by kernel_rfl) (by kernel_rfl) (by kernel_rfl) (fun _ _ _ h => h) (Or.inl ⟨by kernel_rfl, ?_⟩) rfl ?_
          · (intro X hX; subst hX <;> (go_simp; try (with_reducible rfl)))
          (try simp only [Act.put, List.setIfInBounds_toArray, List.set_cons_zero, List.set_cons_succ])
          refine wpAnyN_take (i := 3) (oi := { dst := some 19, op := Go.Op.load 3 (Go.Operand.tmp 5), type := 3, pos := "operate.go:83", after := #[{ on := 2, ground := Go.Ground.guard }], guard := some (2, true) }) (oL := { dst := some 30, op := Go.Op.pick (Go.Operand.tmp 18) (Go.Operand.tmp 29) (Go.Operand.const (Go.Value.bool false)), type := 4, pos := "operate.go:83", after := #[{ on := 2, ground := Go.Ground.data }, { on := 13, ground := Go.Ground.data }], guard := none }) (v := .int .i64 k) rfl rfl (by kernel_rfl) (by kernel_rfl) (by kernel_rfl) (by kernel_rfl) (fun _ _ _ h => h) (Or.inl ⟨by kernel_rfl, ?_⟩) rfl ?_
          · (intro X hX; subst hX <;> (go_simp; try (with_reducible rfl)))
          (try simp only [Act.put, List.setIfInBounds_toArray, List.set_cons_zero, List.set_cons_succ])
          refine wpAnyN_take (i := 4) (oi := { dst := some 20, op := Go.Op.binOp Go.BinOp.lss 3 (Go.Operand.tmp 19) (Go.Operand.const (Go.Value.int Go.IntKind.i64 0)) 3, type := 4, pos := "operate.go:83", after := #[{ on := 3, ground := Go.Ground.data }, { on := 2, ground := Go.Ground.guard }], guard := some (2, true) }) (oL := { dst := some 30, op := Go.Op.pick (Go.Operand.tmp 18) (Go.Operand.tmp 29) (Go.Operand.const (Go.Value.bool false)), type := 4, pos := "operate.go:83", after := #[{ on := 2, ground := Go.Ground.data }, { on := 13, ground := Go.Ground.data }], guard := none }) (v := .bool false) rfl rfl (by kernel_rfl) (by kernel_rfl) (by kernel_rfl) (by kernel_rfl) (fun _ _ _ h => h) (Or.inl ⟨by kernel_rfl, ?_⟩) rfl ?_
          · (intro X hX; subst hX <;> (go_simp; try (with_reducible rfl)))
          (try simp only [Act.put, List.setIfInBounds_toArray, List.set_cons_zero, List.set_cons_succ])
          refine wpAnyN_take (i := 5) (oi := { dst := some 21, op := Go.Op.move (Go.Operand.tmp 20), type := 4, pos := "operate.go:83", after := #[{ on := 4, ground := Go.Ground.data }, { on := 2, ground := Go.Ground.chain }, { on := 2, ground := Go.Ground.guard }], guard := some (2, true) }) (oL := { dst := some 30, op := Go.Op.pick (Go.Operand.tmp 18) (Go.Operand.tmp 29) (Go.Operand.const (Go.Value.bool false)), type := 4, pos := "operate.go:83", after := #[{ on := 2, ground := Go.Ground.data }, { on := 13, ground := Go.Ground.data }], guard := none }) (v := .bool false) rfl rfl (by kernel_rfl) (by kernel_rfl) (by kernel_rfl) (by kernel_rfl) (fun _ _ _ h => h) (Or.inl ⟨by kernel_rfl, ?_⟩) rfl ?_
          · (intro X hX; subst hX <;> (go_simp; try (with_reducible rfl)))
          (try simp only [Act.put, List.setIfInBounds_toArray, List.set_cons_zero, List.set_cons_succ])
          refine wpAnyN_take (i := 6) (oi := { dst := some 22, op := Go.Op.load 3 (Go.Operand.tmp 5), type := 3, pos := "operate.go:83", after := #[{ on := 5, ground := Go.Ground.guard }], guard := some (5, false) }) (oL := { dst := some 30, op := Go.Op.pick (Go.Operand.tmp 18) (Go.Operand.tmp 29) (Go.Operand.const (Go.Value.bool false)), type := 4, pos := "operate.go:83", after := #[{ on := 2, ground := Go.Ground.data }, { on := 13, ground := Go.Ground.data }], guard := none }) (v := .int .i64 k) rfl rfl (by kernel_rfl) (by kernel_rfl) (by kernel_rfl) (by kernel_rfl) (fun _ _ _ h => h) (Or.inl ⟨by kernel_rfl, ?_⟩) rfl ?_
          · (intro X hX; subst hX <;> (go_simp; try (with_reducible rfl)))
          (try simp only [Act.put, List.setIfInBounds_toArray, List.set_cons_zero, List.set_cons_succ])
          refine wpAnyN_take (i := 7) (oi := { dst := some 23, op := Go.Op.load 67 (Go.Operand.tmp 7), type := 67, pos := "operate.go:83", after := #[{ on := 5, ground := Go.Ground.guard }], guard := some (5, false) }) (oL := { dst := some 30, op := Go.Op.pick (Go.Operand.tmp 18) (Go.Operand.tmp 29) (Go.Operand.const (Go.Value.bool false)), type := 4, pos := "operate.go:83", after := #[{ on := 2, ground := Go.Ground.data }, { on := 13, ground := Go.Ground.data }], guard := none }) (v := .pointer (some ⟨fb, 0, none⟩)) rfl rfl (by kernel_rfl) (by kernel_rfl) (by kernel_rfl) (by kernel_rfl) (fun _ _ _ h => h) (Or.inl ⟨by kernel_rfl, ?_⟩) rfl ?_
          · (intro X hX; subst hX <;> (go_simp; try (with_reducible rfl)))
          (try simp only [Act.put, List.setIfInBounds_toArray, List.set_cons_zero, List.set_cons_succ])
          refine wpAnyN_take (i := 8) (oi := { dst := some 24, op := Go.Op.nilCheck (Go.Operand.tmp 23), type := 0, pos := "operate.go:83", after := #[{ on := 7, ground := Go.Ground.data }, { on := 5, ground := Go.Ground.guard }], guard := some (5, false) }) (oL := { dst := some 30, op := Go.Op.pick (Go.Operand.tmp 18) (Go.Operand.tmp 29) (Go.Operand.const (Go.Value.bool false)), type := 4, pos := "operate.go:83", after := #[{ on := 2, ground := Go.Ground.data }, { on := 13, ground := Go.Ground.data }], guard := none }) (v := .pointer (some ⟨fb, 0, none⟩)) rfl rfl (by kernel_rfl) (by kernel_rfl) (by kernel_rfl) (by kernel_rfl) (fun _ _ _ h => h) (Or.inl ⟨by kernel_rfl, ?_⟩) rfl ?_
          · (intro X hX; subst hX <;> (go_simp; try (with_reducible rfl)))
          (try simp only [Act.put, List.setIfInBounds_toArray, List.set_cons_zero, List.set_cons_succ])
          refine wpAnyN_take (i := 9) (oi := { dst := some 25, op := Go.Op.fieldAddr 71 (Go.Operand.tmp 24) 0, type := 0, pos := "operate.go:83", after := #[{ on := 8, ground := Go.Ground.data }, { on := 5, ground := Go.Ground.guard }], guard := some (5, false) }) (oL := { dst := some 30, op := Go.Op.pick (Go.Operand.tmp 18) (Go.Operand.tmp 29) (Go.Operand.const (Go.Value.bool false)), type := 4, pos := "operate.go:83", after := #[{ on := 2, ground := Go.Ground.data }, { on := 13, ground := Go.Ground.data }], guard := none }) (v := .pointer (some ⟨fb, 0, none⟩)) rfl rfl (by kernel_rfl) (by kernel_rfl) (by kernel_rfl) (by kernel_rfl) (fun _ _ _ h => h) (Or.inl ⟨by kernel_rfl, ?_⟩) rfl ?_
          · (intro X hX; subst hX <;> (go_simp; try (with_reducible rfl)))
          (try simp only [Act.put, List.setIfInBounds_toArray, List.set_cons_zero, List.set_cons_succ])
          refine wpAnyN_take (i := 10) (oi := { dst := some 26, op := Go.Op.load 69 (Go.Operand.tmp 25), type := 69, pos := "operate.go:83", after := #[{ on := 9, ground := Go.Ground.data }, { on := 5, ground := Go.Ground.guard }], guard := some (5, false) }) (oL := { dst := some 30, op := Go.Op.pick (Go.Operand.tmp 18) (Go.Operand.tmp 29) (Go.Operand.const (Go.Value.bool false)), type := 4, pos := "operate.go:83", after := #[{ on := 2, ground := Go.Ground.data }, { on := 13, ground := Go.Ground.data }], guard := none }) (v := .slice a fl cp) rfl rfl (by kernel_rfl) (by kernel_rfl) (by kernel_rfl) (by kernel_rfl) (fun _ _ _ h => h) (Or.inl ⟨by kernel_rfl, ?_⟩) rfl ?_
          · (intro X hX; subst hX <;> (go_simp; try (with_reducible rfl)))
          (try simp only [Act.put, List.setIfInBounds_toArray, List.set_cons_zero, List.set_cons_succ])
          refine wpAnyN_take (i := 11) (oi := { dst := some 27, op := Go.Op.call { callee := Go.Callee.builtin Go.Builtin.len, args := #[Go.Operand.tmp 26], argTypes := #[69] }, type := 3, pos := "operate.go:83", after := #[{ on := 10, ground := Go.Ground.data }, { on := 5, ground := Go.Ground.guard }], guard := some (5, false) }) (oL := { dst := some 30, op := Go.Op.pick (Go.Operand.tmp 18) (Go.Operand.tmp 29) (Go.Operand.const (Go.Value.bool false)), type := 4, pos := "operate.go:83", after := #[{ on := 2, ground := Go.Ground.data }, { on := 13, ground := Go.Ground.data }], guard := none }) (v := .int .i64 (fl : Int)) rfl rfl (by kernel_rfl) (by kernel_rfl) (by kernel_rfl) (by kernel_rfl) (fun _ _ _ h => h) (Or.inl ⟨by kernel_rfl, ?_⟩) rfl ?_
          · (intro X hX; subst hX <;> (go_simp; try (with_reducible rfl)))
          (try simp only [Act.put, List.setIfInBounds_toArray, List.set_cons_zero, List.set_cons_succ])
          refine wpAnyN_take (i := 12) (oi := { dst := some 28, op := Go.Op.binOp Go.BinOp.gtr 3 (Go.Operand.tmp 22) (Go.Operand.tmp 27) 3, type := 4, pos := "operate.go:83", after := #[{ on := 6, ground := Go.Ground.data }, { on := 11, ground := Go.Ground.data }, { on := 5, ground := Go.Ground.guard }], guard := some (5, false) }) (oL := { dst := some 30, op := Go.Op.pick (Go.Operand.tmp 18) (Go.Operand.tmp 29) (Go.Operand.const (Go.Value.bool false)), type := 4, pos := "operate.go:83", after := #[{ on := 2, ground := Go.Ground.data }, { on := 13, ground := Go.Ground.data }], guard := none }) (v := .bool true) rfl rfl (by kernel_rfl) (by kernel_rfl) (by kernel_rfl) (by kernel_rfl) (fun _ _ _ h => h) (Or.inl ⟨by kernel_rfl, ?_⟩) rfl ?_
          · (intro X hX; subst hX <;> (go_simp; try (with_reducible rfl)))
          (try simp only [Act.put, List.setIfInBounds_toArray, List.set_cons_zero, List.set_cons_succ])
          refine wpAnyN_take (i := 13) (oi := { dst := some 29, op := Go.Op.pick (Go.Operand.tmp 21) (Go.Operand.const (Go.Value.bool true)) (Go.Operand.tmp 28), type := 4, pos := "operate.go:83", after := #[{ on := 5, ground := Go.Ground.data }, { on := 12, ground := Go.Ground.data }, { on := 2, ground := Go.Ground.guard }], guard := some (2, true) }) (oL := { dst := some 30, op := Go.Op.pick (Go.Operand.tmp 18) (Go.Operand.tmp 29) (Go.Operand.const (Go.Value.bool false)), type := 4, pos := "operate.go:83", after := #[{ on := 2, ground := Go.Ground.data }, { on := 13, ground := Go.Ground.data }], guard := none }) (v := .bool true) rfl rfl (by kernel_rfl) (by kernel_rfl) (by kernel_rfl) (by kernel_rfl) (fun _ _ _ h => h) (Or.inl ⟨by kernel_rfl, ?_⟩) rfl ?_
          · (intro X hX; subst hX <;> (go_simp; try (with_reducible rfl)))
          (try simp only [Act.put, List.setIfInBounds_toArray, List.set_cons_zero, List.set_cons_succ])
          refine wpAnyN_one (i := 14) (o := { dst := some 30, op := Go.Op.pick (Go.Operand.tmp 18) (Go.Operand.tmp 29) (Go.Operand.const (Go.Value.bool false)), type := 4, pos := "operate.go:83", after := #[{ on := 2, ground := Go.Ground.data }, { on := 13, ground := Go.Ground.data }], guard := none }) (by kernel_rfl) rfl (fun K hK => ?_)
          go_simp
          refine hK.out _ _ (fun e => absurd (e.symm.trans (by kernel_rfl) : false = true) Bool.false_ne_true) ?_
          clear hK K
          (try simp only [Act.put, List.setIfInBounds_toArray, List.set_cons_zero, List.set_cons_succ])
          refine wpAnyN_of_H (S' := fun _ => True) _ _ _ _ (by kernel_rfl) ?_
          refine wpAnyH_done (by kernel_rfl) ?_ _
          --E Trunc2C--
          rw [HY.out]
          go_upto_region 5 with fail
          --R TruncateA--
          refine wp_region_N 6 (fun X => X = Y.drew ∨ X = W2) (by kernel_rfl) ?_
          refine wpAnyN_take (i := 0) (oi := { dst := some 32, op := Go.Op.load 24 (Go.Operand.tmp 3), type := 24, pos := "operate.go:87", after := #[], guard := none }) (oL := { dst := some 38, op := Go.Op.call { callee := Go.Callee.value (Go.Operand.func 39), args := #[Go.Operand.tmp 32, Go.Operand.const (Go.Value.string { data := #[116, 114, 117, 110, 99, 97, 116, 101] }), Go.Operand.tmp 33, Go.Operand.tmp 34, Go.Operand.tmp 35, Go.Operand.tmp 37], argTypes := #[24, 9, 9, 51, 1, 75] }, type := 26, pos := "operate.go:87", after := #[{ on := 0, ground := Go.Ground.data }, { on := 1, ground := Go.Ground.data }, { on := 2, ground := Go.Ground.data }, { on := 3, ground := Go.Ground.data }, { on := 5, ground := Go.Ground.data }, { on := 5, ground := Go.Ground.chain }], guard := none }) (v := .pointer (some ⟨d, 0, none⟩)) rfl rfl (by kernel_rfl) (by kernel_rfl) (by kernel_rfl) (by kernel_rfl) (fun _ _ _ h => h) (Or.inl ⟨by kernel_rfl, ?_⟩) (.inl rfl) ?_
          · (intro X hX; rcases hX with rfl | rfl <;> (go_simp; try (with_reducible rfl)))
          (try simp only [Act.put, List.setIfInBounds_toArray, List.set_cons_zero, List.set_cons_succ])
          refine wpAnyN_take (i := 1) (oi := { dst := some 33, op := Go.Op.move (Go.Operand.tmp 1), type := 9, pos := "operate.go:87", after := #[], guard := none }) (oL := { dst := some 38, op := Go.Op.call { callee := Go.Callee.value (Go.Operand.func 39), args := #[Go.Operand.tmp 32, Go.Operand.const (Go.Value.string { data := #[116, 114, 117, 110, 99, 97, 116, 101] }), Go.Operand.tmp 33, Go.Operand.tmp 34, Go.Operand.tmp 35, Go.Operand.tmp 37], argTypes := #[24, 9, 9, 51, 1, 75] }, type := 26, pos := "operate.go:87", after := #[{ on := 0, ground := Go.Ground.data }, { on := 1, ground := Go.Ground.data }, { on := 2, ground := Go.Ground.data }, { on := 3, ground := Go.Ground.data }, { on := 5, ground := Go.Ground.data }, { on := 5, ground := Go.Ground.chain }], guard := none }) (v := .string n) rfl rfl (by kernel_rfl) (by kernel_rfl) (by kernel_rfl) (by kernel_rfl) (fun _ _ _ h => h) (Or.inl ⟨by kernel_rfl, ?_⟩) (.inl rfl) ?_
          · (intro X hX; rcases hX with rfl | rfl <;> (go_simp; try (with_reducible rfl)))
          (try simp only [Act.put, List.setIfInBounds_toArray, List.set_cons_zero, List.set_cons_succ])
          refine wpAnyN_take (i := 2) (oi := { dst := some 34, op := Go.Op.move (Go.Operand.tmp 8), type := 51, pos := "operate.go:87", after := #[], guard := none }) (oL := { dst := some 38, op := Go.Op.call { callee := Go.Callee.value (Go.Operand.func 39), args := #[Go.Operand.tmp 32, Go.Operand.const (Go.Value.string { data := #[116, 114, 117, 110, 99, 97, 116, 101] }), Go.Operand.tmp 33, Go.Operand.tmp 34, Go.Operand.tmp 35, Go.Operand.tmp 37], argTypes := #[24, 9, 9, 51, 1, 75] }, type := 26, pos := "operate.go:87", after := #[{ on := 0, ground := Go.Ground.data }, { on := 1, ground := Go.Ground.data }, { on := 2, ground := Go.Ground.data }, { on := 3, ground := Go.Ground.data }, { on := 5, ground := Go.Ground.data }, { on := 5, ground := Go.Ground.chain }], guard := none }) (v := .int .i64 3) rfl rfl (by kernel_rfl) (by kernel_rfl) (by kernel_rfl) (by kernel_rfl) (fun _ _ _ h => h) (Or.inl ⟨by kernel_rfl, ?_⟩) (.inl rfl) ?_
          · (intro X hX; rcases hX with rfl | rfl <;> (go_simp; try (with_reducible rfl)))
          (try simp only [Act.put, List.setIfInBounds_toArray, List.set_cons_zero, List.set_cons_succ])
          refine wpAnyN_take (i := 3) (oi := { dst := some 35, op := Go.Op.move (Go.Operand.tmp 9), type := 1, pos := "operate.go:87", after := #[], guard := none }) (oL := { dst := some 38, op := Go.Op.call { callee := Go.Callee.value (Go.Operand.func 39), args := #[Go.Operand.tmp 32, Go.Operand.const (Go.Value.string { data := #[116, 114, 117, 110, 99, 97, 116, 101] }), Go.Operand.tmp 33, Go.Operand.tmp 34, Go.Operand.tmp 35, Go.Operand.tmp 37], argTypes := #[24, 9, 9, 51, 1, 75] }, type := 26, pos := "operate.go:87", after := #[{ on := 0, ground := Go.Ground.data }, { on := 1, ground := Go.Ground.data }, { on := 2, ground := Go.Ground.data }, { on := 3, ground := Go.Ground.data }, { on := 5, ground := Go.Ground.data }, { on := 5, ground := Go.Ground.chain }], guard := none }) (v := .func (.func 50) #[] #[.pointer (some ⟨w.heap.size, 0, none⟩), .pointer (some ⟨w.heap.size + 1 + 1, 0, none⟩), .pointer (some ⟨w.heap.size + 1, 0, none⟩)]) rfl rfl (by kernel_rfl) (by kernel_rfl) (by kernel_rfl) (by kernel_rfl) (fun _ _ _ h => h) (Or.inl ⟨by kernel_rfl, ?_⟩) (.inl rfl) ?_
          · (intro X hX; rcases hX with rfl | rfl <;> (go_simp; try (with_reducible rfl)))
          (try simp only [Act.put, List.setIfInBounds_toArray, List.set_cons_zero, List.set_cons_succ])
          refine wpAnyN_take (i := 4) (oi := { dst := some 36, op := Go.Op.move (Go.Operand.tmp 9), type := 1, pos := "operate.go:87", after := #[], guard := none }) (oL := { dst := some 38, op := Go.Op.call { callee := Go.Callee.value (Go.Operand.func 39), args := #[Go.Operand.tmp 32, Go.Operand.const (Go.Value.string { data := #[116, 114, 117, 110, 99, 97, 116, 101] }), Go.Operand.tmp 33, Go.Operand.tmp 34, Go.Operand.tmp 35, Go.Operand.tmp 37], argTypes := #[24, 9, 9, 51, 1, 75] }, type := 26, pos := "operate.go:87", after := #[{ on := 0, ground := Go.Ground.data }, { on := 1, ground := Go.Ground.data }, { on := 2, ground := Go.Ground.data }, { on := 3, ground := Go.Ground.data }, { on := 5, ground := Go.Ground.data }, { on := 5, ground := Go.Ground.chain }], guard := none }) (v := .func (.func 50) #[] #[.pointer (some ⟨w.heap.size, 0, none⟩), .pointer (some ⟨w.heap.size + 1 + 1, 0, none⟩), .pointer (some ⟨w.heap.size + 1, 0, none⟩)]) rfl rfl (by kernel_rfl) (by kernel_rfl) (by kernel_rfl) (by kernel_rfl) (fun _ _ _ h => h) (Or.inl ⟨by kernel_rfl, ?_⟩) (.inl rfl) ?_
          · (intro X hX; rcases hX with rfl | rfl <;> (go_simp; try (with_reducible rfl)))
          (try simp only [Act.put, List.setIfInBounds_toArray, List.set_cons_zero, List.set_cons_succ])
          refine wpAnyN_one (i := 5) (o := { dst := some 37, op := Go.Op.call { callee := Go.Callee.value (Go.Operand.func 45), args := #[Go.Operand.tmp 36], argTypes := #[1] }, type := 75, pos := "operate.go:87", after := #[{ on := 4, ground := Go.Ground.data }], guard := none }) (by kernel_rfl) rfl (fun K hK => ?_)
          go_simp
          refine HAl.out.mono ?_
          rintro e w3 ⟨rfl, hw3⟩
          rw [HW2.out] at hw3
          subst w3
          refine hK.out _ _ (fun _ => (.inr rfl)) ?_
          clear hK K
          (try simp only [Act.put, List.setIfInBounds_toArray, List.set_cons_zero, List.set_cons_succ])
          refine wpAnyN_one (i := 6) (o := { dst := some 38, op := Go.Op.call { callee := Go.Callee.value (Go.Operand.func 39), args := #[Go.Operand.tmp 32, Go.Operand.const (Go.Value.string { data := #[116, 114, 117, 110, 99, 97, 116, 101] }), Go.Operand.tmp 33, Go.Operand.tmp 34, Go.Operand.tmp 35, Go.Operand.tmp 37], argTypes := #[24, 9, 9, 51, 1, 75] }, type := 26, pos := "operate.go:87", after := #[{ on := 0, ground := Go.Ground.data }, { on := 1, ground := Go.Ground.data }, { on := 2, ground := Go.Ground.data }, { on := 3, ground := Go.Ground.data }, { on := 5, ground := Go.Ground.data }, { on := 5, ground := Go.Ground.chain }], guard := none }) (by kernel_rfl) rfl (fun K hK => ?_)
          go_simp
          refine HO.out.mono ?_
          rintro e w4 ⟨r, sv', clk', F', rfl, hA⟩
          have HR := Lib.hid hA
          clear hA
          refine hK.out _ _ (fun e => absurd (e.symm.trans (by kernel_rfl) : false = true) Bool.false_ne_true) ?_
          clear hK K
          (try simp only [Act.put, List.setIfInBounds_toArray, List.set_cons_zero, List.set_cons_succ])
          refine wpAnyN_of_H (S' := fun _ => True) _ _ _ _ (by kernel_rfl) ?_
          refine wpAnyH_take (i := 7) (oi := { dst := some 6, op := Go.Op.assign (Go.Operand.tmp 38), type := 26, pos := "operate.go:87", after := #[{ on := 6, ground := Go.Ground.data }, { on := 6, ground := Go.Ground.chain }, { on := 0, ground := Go.Ground.phase }, { on := 1, ground := Go.Ground.phase }, { on := 2, ground := Go.Ground.phase }, { on := 3, ground := Go.Ground.phase }, { on := 4, ground := Go.Ground.phase }, { on := 5, ground := Go.Ground.phase }, { on := 6, ground := Go.Ground.phase }], guard := none }) (v := r) rfl (by kernel_rfl) (by kernel_rfl) (by kernel_rfl) (fun _ _ _ h => h) (Or.inl ⟨by kernel_rfl, ?_⟩) trivial ?_
          · (intro X hX; go_simp; try (with_reducible rfl))
          (try simp only [Act.put, List.setIfInBounds_toArray, List.set_cons_zero, List.set_cons_succ])
          refine wpAnyH_done (by kernel_rfl) ?_ _
          --E TruncateA--
          go_wp2_with fail
          go_ret
          exact HA.out _ _ ⟨r, sv', clk', F', rfl, HR.out⟩
      · rw [if_neg (fun e => hk0 e.1)] at hc
        subst hc
        have hk1 : k < 0 := by omega
        go_enter Tryd.func25, Tryd.ntmps25
        go_upto_region 2 with (go_at_call 40; refine HL.out.mono ?_; rintro e w2 ⟨rfl, hw2⟩; subst w2)
        rw [HW1.out]
        --R Trunc2N--
        refine wp_region_N 14 (fun X => X = W1.drew) (by kernel_rfl) ?_
        refine wpAnyN_take (i := 0) (oi := { dst := some 16, op := Go.Op.move (Go.Operand.tmp 8), type := 51, pos := "operate.go:83", after := #[], guard := none }) (oL := { dst := some 30, op := Go.Op.pick (Go.Operand.tmp 18) (Go.Operand.tmp 29) (Go.Operand.const (Go.Value.bool false)), type := 4, pos := "operate.go:83", after := #[{ on := 2, ground := Go.Ground.data }, { on := 13, ground := Go.Ground.data }], guard := none }) (v := .int .i64 0) rfl rfl (by kernel_rfl) (by kernel_rfl) (by kernel_rfl) (by kernel_rfl) (fun _ _ _ h => h) (Or.inl ⟨by kernel_rfl, ?_⟩) rfl ?_
        · (intro X hX; subst hX <;> (go_simp; try (with_reducible rfl)))
        (try simp only [Act.put, List.setIfInBounds_toArray, List.set_cons_zero, List.set_cons_succ])
        refine wpAnyN_take (i := 1) (oi := { dst := some 17, op := Go.Op.binOp Go.BinOp.eql 51 (Go.Operand.tmp 16) (Go.Operand.const (Go.Value.int Go.IntKind.i64 0)) 51, type := 4, pos := "operate.go:83", after := #[{ on := 0, ground := Go.Ground.data }], guard := none }) (oL := { dst := some 30, op := Go.Op.pick (Go.Operand.tmp 18) (Go.Operand.tmp 29) (Go.Operand.const (Go.Value.bool false)), type := 4, pos := "operate.go:83", after := #[{ on := 2, ground := Go.Ground.data }, { on := 13, ground := Go.Ground.data }], guard := none }) (v := .bool true) rfl rfl (by kernel_rfl) (by kernel_rfl) (by kernel_rfl) (by kernel_rfl) (fun _ _ _ h => h) (Or.inl ⟨by kernel_rfl, ?_⟩) rfl ?_
        · (intro X hX; subst hX <;> (go_simp; try (with_reducible rfl)))
        (try simp only [Act.put, List.setIfInBounds_toArray, List.set_cons_zero, List.set_cons_succ])
        refine wpAnyN_take (i := 2) (oi := { dst := some 18, op := Go.Op.move (Go.Operand.tmp 17), type := 4, pos := "operate.go:83", after := #[{ on := 1, ground := Go.Ground.data }], guard := none }) (oL := { dst := some 30, op := Go.Op.pick (Go.Operand.tmp 18) (Go.Operand.tmp 29) (Go.Operand.const (Go.Value.bool false)), type := 4, pos := "operate.go:83", after := #[{ on := 2, ground := Go.Ground.data }, { on := 13, ground := Go.Ground.data }], guard := none }) (v := .bool true) rfl rfl (by kernel_rfl) (by kernel_rfl) (by kernel_rfl) (by kernel_rfl) (fun _ _ _ h => h) (Or.inl ⟨by kernel_rfl, ?_⟩) rfl ?_
        · (intro X hX; subst hX <;> (go_simp; try (with_reducible rfl)))
        (try simp only [Act.put, List.setIfInBounds_toArray, List.set_cons_zero, List.set_cons_succ])
        refine wpAnyN_take (i := 3) (oi := { dst := some 19, op := Go.Op.load 3 (Go.Operand.tmp 5), type := 3, pos := "operate.go:83", after := #[{ on := 2, ground := Go.Ground.guard }], guard := some (2, true) }) (oL := { dst := some 30, op := Go.Op.pick (Go.Operand.tmp 18) (Go.Operand.tmp 29) (Go.Operand.const (Go.Value.bool false)), type := 4, pos := "operate.go:83", after := #[{ on := 2, ground := Go.Ground.data }, { on := 13, ground := Go.Ground.data }], guard := none }) (v := .int .i64 k) rfl rfl (by kernel_rfl) (by kernel_rfl) (by kernel_rfl) (by kernel_rfl) (fun _ _ _ h => h) (Or.inl ⟨by kernel_rfl, ?_⟩) rfl ?_
        · (intro X hX; subst hX <;> (go_simp; try (with_reducible rfl)))
        (try simp only [Act.put, List.setIfInBounds_toArray, List.set_cons_zero, List.set_cons_succ])
        refine wpAnyN_take (i := 4) (oi := { dst := some 20, op := Go.Op.binOp Go.BinOp.lss 3 (Go.Operand.tmp 19) (Go.Operand.const (Go.Value.int Go.IntKind.i64 0)) 3, type := 4, pos := "operate.go:83", after := #[{ on := 3, ground := Go.Ground.data }, { on := 2, ground := Go.Ground.guard }], guard := some (2, true) }) (oL := { dst := some 30, op := Go.Op.pick (Go.Operand.tmp 18) (Go.Operand.tmp 29) (Go.Operand.const (Go.Value.bool false)), type := 4, pos := "operate.go:83", after := #[{ on := 2, ground := Go.Ground.data }, { on := 13, ground := Go.Ground.data }], guard := none }) (v := .bool true) rfl rfl (by kernel_rfl) (by kernel_rfl) (by kernel_rfl) (by kernel_rfl) (fun _ _ _ h => h) (Or.inl ⟨by kernel_rfl, ?_⟩) rfl ?_
        · (intro X hX; subst hX <;> (go_simp; try (with_reducible rfl)))
        (try simp only [Act.put, List.setIfInBounds_toArray, List.set_cons_zero, List.set_cons_succ])
        refine wpAnyN_take (i := 5) (oi := { dst := some 21, op := Go.Op.move (Go.Operand.tmp 20), type := 4, pos := "operate.go:83", after := #[{ on := 4, ground := Go.Ground.data }, { on := 2, ground := Go.Ground.chain }, { on := 2, ground := Go.Ground.guard }], guard := some (2, true) }) (oL := { dst := some 30, op := Go.Op.pick (Go.Operand.tmp 18) (Go.Operand.tmp 29) (Go.Operand.const (Go.Value.bool false)), type := 4, pos := "operate.go:83", after := #[{ on := 2, ground := Go.Ground.data }, { on := 13, ground := Go.Ground.data }], guard := none }) (v := .bool true) rfl rfl (by kernel_rfl) (by kernel_rfl) (by kernel_rfl) (by kernel_rfl) (fun _ _ _ h => h) (Or.inl ⟨by kernel_rfl, ?_⟩) rfl ?_
        · (intro X hX; subst hX <;> (go_simp; try (with_reducible rfl)))
        (try simp only [Act.put, List.setIfInBounds_toArray, List.set_cons_zero, List.set_cons_succ])
        refine wpAnyN_take (i := 6) (oi := { dst := some 22, op := Go.Op.load 3 (Go.Operand.tmp 5), type := 3, pos := "operate.go:83", after := #[{ on := 5, ground := Go.Ground.guard }], guard := some (5, false) }) (oL := { dst := some 30, op := Go.Op.pick (Go.Operand.tmp 18) (Go.Operand.tmp 29) (Go.Operand.const (Go.Value.bool false)), type := 4, pos := "operate.go:83", after := #[{ on := 2, ground := Go.Ground.data }, { on := 13, ground := Go.Ground.data }], guard := none }) (v := undef) rfl rfl (by kernel_rfl) (by kernel_rfl) (by kernel_rfl) (by kernel_rfl) (fun _ _ _ h => h) (Or.inr ⟨by kernel_rfl, rfl⟩) rfl ?_
        (try simp only [Act.put, List.setIfInBounds_toArray, List.set_cons_zero, List.set_cons_succ])
        refine wpAnyN_take (i := 7) (oi := { dst := some 23, op := Go.Op.load 67 (Go.Operand.tmp 7), type := 67, pos := "operate.go:83", after := #[{ on := 5, ground := Go.Ground.guard }], guard := some (5, false) }) (oL := { dst := some 30, op := Go.Op.pick (Go.Operand.tmp 18) (Go.Operand.tmp 29) (Go.Operand.const (Go.Value.bool false)), type := 4, pos := "operate.go:83", after := #[{ on := 2, ground := Go.Ground.data }, { on := 13, ground := Go.Ground.data }], guard := none }) (v := undef) rfl rfl (by kernel_rfl) (by kernel_rfl) (by kernel_rfl) (by kernel_rfl) (fun _ _ _ h => h) (Or.inr ⟨by kernel_rfl, rfl⟩) rfl ?_
        (try simp only [Act.put, List.setIfInBounds_toArray, List.set_cons_zero, List.set_cons_succ])
        refine wpAnyN_take (i := 8) (oi := { dst := some 24, op := Go.Op.nilCheck (Go.Operand.tmp 23), type := 0, pos := "operate.go:83", after := #[{ on := 7, ground := Go.Ground.data }, { on := 5, ground := Go.Ground.guard }], guard := some (5, false) }) (oL := { dst := some 30, op := Go.Op.pick (Go.Operand.tmp 18) (Go.Operand.tmp 29) (Go.Operand.const (Go.Value.bool false)), type := 4, pos := "operate.go:83", after := #[{ on := 2, ground := Go.Ground.data }, { on := 13, ground := Go.Ground.data }], guard := none }) (v := undef) rfl rfl (by kernel_rfl) (by kernel_rfl) (by kernel_rfl) (by kernel_rfl) (fun _ _ _ h => h) (Or.inr ⟨by kernel_rfl, rfl⟩) rfl ?_
        (try simp only [Act.put, List.setIfInBounds_toArray, List.set_cons_zero, List.set_cons_succ])
        refine wpAnyN_take (i := 9) (oi := { dst := some 25, op := Go.Op.fieldAddr 71 (Go.Operand.tmp 24) 0, type := 0, pos := "operate.go:83", after := #[{ on := 8, ground := Go.Ground.data }, { on := 5, ground := Go.Ground.guard }], guard := some (5, false) }) (oL := { dst := some 30, op := Go.Op.pick (Go.Operand.tmp 18) (Go.Operand.tmp 29) (Go.Operand.const (Go.Value.bool false)), type := 4, pos := "operate.go:83", after := #[{ on := 2, ground := Go.Ground.data }, { on := 13, ground := Go.Ground.data }], guard := none }) (v := undef) rfl rfl (by kernel_rfl) (by kernel_rfl) (by kernel_rfl) (by kernel_rfl) (fun _ _ _ h => h) (Or.inr ⟨by kernel_rfl, rfl⟩) rfl ?_
        (try simp only [Act.put, List.setIfInBounds_toArray, List.set_cons_zero, List.set_cons_succ])
        refine wpAnyN_take (i := 10) (oi := { dst := some 26, op := Go.Op.load 69 (Go.Operand.tmp 25), type := 69, pos := "operate.go:83", after := #[{ on := 9, ground := Go.Ground.data }, { on := 5, ground := Go.Ground.guard }], guard := some (5, false) }) (oL := { dst := some 30, op := Go.Op.pick (Go.Operand.tmp 18) (Go.Operand.tmp 29) (Go.Operand.const (Go.Value.bool false)), type := 4, pos := "operate.go:83", after := #[{ on := 2, ground := Go.Ground.data }, { on := 13, ground := Go.Ground.data }], guard := none }) (v := undef) rfl rfl (by kernel_rfl) (by kernel_rfl) (by kernel_rfl) (by kernel_rfl) (fun _ _ _ h => h) (Or.inr ⟨by kernel_rfl, rfl⟩) rfl ?_
        (try simp only [Act.put, List.setIfInBounds_toArray, List.set_cons_zero, List.set_cons_succ])
        refine wpAnyN_take (i := 11) (oi := { dst := some 27, op := Go.Op.call { callee := Go.Callee.builtin Go.Builtin.len, args := #[Go.Operand.tmp 26], argTypes := #[69] }, type := 3, pos := "operate.go:83", after := #[{ on := 10, ground := Go.Ground.data }, { on := 5, ground := Go.Ground.guard }], guard := some (5, false) }) (oL := { dst := some 30, op := Go.Op.pick (Go.Operand.tmp 18) (Go.Operand.tmp 29) (Go.Operand.const (Go.Value.bool false)), type := 4, pos := "operate.go:83", after := #[{ on := 2, ground := Go.Ground.data }, { on := 13, ground := Go.Ground.data }], guard := none }) (v := undef) rfl rfl (by kernel_rfl) (by kernel_rfl) (by kernel_rfl) (by kernel_rfl) (fun _ _ _ h => h) (Or.inr ⟨by kernel_rfl, rfl⟩) rfl ?_
        (try simp only [Act.put, List.setIfInBounds_toArray, List.set_cons_zero, List.set_cons_succ])
        refine wpAnyN_take (i := 12) (oi := { dst := some 28, op := Go.Op.binOp Go.BinOp.gtr 3 (Go.Operand.tmp 22) (Go.Operand.tmp 27) 3, type := 4, pos := "operate.go:83", after := #[{ on := 6, ground := Go.Ground.data }, { on := 11, ground := Go.Ground.data }, { on := 5, ground := Go.Ground.guard }], guard := some (5, false) }) (oL := { dst := some 30, op := Go.Op.pick (Go.Operand.tmp 18) (Go.Operand.tmp 29) (Go.Operand.const (Go.Value.bool false)), type := 4, pos := "operate.go:83", after := #[{ on := 2, ground := Go.Ground.data }, { on := 13, ground := Go.Ground.data }], guard := none }) (v := undef) rfl rfl (by kernel_rfl) (by kernel_rfl) (by kernel_rfl) (by kernel_rfl) (fun _ _ _ h => h) (Or.inr ⟨by kernel_rfl, rfl⟩) rfl ?_
        (try simp only [Act.put, List.setIfInBounds_toArray, List.set_cons_zero, List.set_cons_succ])
        refine wpAnyN_take (i := 13) (oi := { dst := some 29, op := Go.Op.pick (Go.Operand.tmp 21) (Go.Operand.const (Go.Value.bool true)) (Go.Operand.tmp 28), type := 4, pos := "operate.go:83", after := #[{ on := 5, ground := Go.Ground.data }, { on := 12, ground := Go.Ground.data }, { on := 2, ground := Go.Ground.guard }], guard := some (2, true) }) (oL := { dst := some 30, op := Go.Op.pick (Go.Operand.tmp 18) (Go.Operand.tmp 29) (Go.Operand.const (Go.Value.bool false)), type := 4, pos := "operate.go:83", after := #[{ on := 2, ground := Go.Ground.data }, { on := 13, ground := Go.Ground.data }], guard := none }) (v := .bool true) rfl rfl (by kernel_rfl) (by kernel_rfl) (by kernel_rfl) (by kernel_rfl) (fun _ _ _ h => h) (Or.inl ⟨by kernel_rfl, ?_⟩) rfl ?_
        · (intro X hX; subst hX <;> (go_simp; try (with_reducible rfl)))
        (try simp only [Act.put, List.setIfInBounds_toArray, List.set_cons_zero, List.set_cons_succ])
        refine wpAnyN_one (i := 14) (o := { dst := some 30, op := Go.Op.pick (Go.Operand.tmp 18) (Go.Operand.tmp 29) (Go.Operand.const (Go.Value.bool false)), type := 4, pos := "operate.go:83", after := #[{ on := 2, ground := Go.Ground.data }, { on := 13, ground := Go.Ground.data }], guard := none }) (by kernel_rfl) rfl (fun K hK => ?_)
        go_simp
        refine hK.out _ _ (fun e => absurd (e.symm.trans (by kernel_rfl) : false = true) Bool.false_ne_true) ?_
        clear hK K
        (try simp only [Act.put, List.setIfInBounds_toArray, List.set_cons_zero, List.set_cons_succ])
        refine wpAnyN_of_H (S' := fun _ => True) _ _ _ _ (by kernel_rfl) ?_
        refine wpAnyH_done (by kernel_rfl) ?_ _
        --E Trunc2N--
        rw [HY.out]
        go_upto_region 5 with fail
        --R TruncateA--
        refine wp_region_N 6 (fun X => X = Y.drew ∨ X = W2) (by kernel_rfl) ?_
        refine wpAnyN_take (i := 0) (oi := { dst := some 32, op := Go.Op.load 24 (Go.Operand.tmp 3), type := 24, pos := "operate.go:87", after := #[], guard := none }) (oL := { dst := some 38, op := Go.Op.call { callee := Go.Callee.value (Go.Operand.func 39), args := #[Go.Operand.tmp 32, Go.Operand.const (Go.Value.string { data := #[116, 114, 117, 110, 99, 97, 116, 101] }), Go.Operand.tmp 33, Go.Operand.tmp 34, Go.Operand.tmp 35, Go.Operand.tmp 37], argTypes := #[24, 9, 9, 51, 1, 75] }, type := 26, pos := "operate.go:87", after := #[{ on := 0, ground := Go.Ground.data }, { on := 1, ground := Go.Ground.data }, { on := 2, ground := Go.Ground.data }, { on := 3, ground := Go.Ground.data }, { on := 5, ground := Go.Ground.data }, { on := 5, ground := Go.Ground.chain }], guard := none }) (v := .pointer (some ⟨d, 0, none⟩)) rfl rfl (by kernel_rfl) (by kernel_rfl) (by kernel_rfl) (by kernel_rfl) (fun _ _ _ h => h) (Or.inl ⟨by kernel_rfl, ?_⟩) (.inl rfl) ?_
        · (intro X hX; rcases hX with rfl | rfl <;> (go_simp; try (with_reducible rfl)))
        (try simp only [Act.put, List.setIfInBounds_toArray, List.set_cons_zero, List.set_cons_succ])
        refine wpAnyN_take (i := 1) (oi := { dst := some 33, op := Go.Op.move (Go.Operand.tmp 1), type := 9, pos := "operate.go:87", after := #[], guard := none }) (oL := { dst := some 38, op := Go.Op.call { callee := Go.Callee.value (Go.Operand.func 39), args := #[Go.Operand.tmp 32, Go.Operand.const (Go.Value.string { data := #[116, 114, 117, 110, 99, 97, 116, 101] }), Go.Operand.tmp 33, Go.Operand.tmp 34, Go.Operand.tmp 35, Go.Operand.tmp 37], argTypes := #[24, 9, 9, 51, 1, 75] }, type := 26, pos := "operate.go:87", after := #[{ on := 0, ground := Go.Ground.data }, { on := 1, ground := Go.Ground.data }, { on := 2, ground := Go.Ground.data }, { on := 3, ground := Go.Ground.data }, { on := 5, ground := Go.Ground.data }, { on := 5, ground := Go.Ground.chain }], guard := none }) (v := .string n) rfl rfl (by kernel_rfl) (by kernel_rfl) (by kernel_rfl) (by kernel_rfl) (fun _ _ _ h => h) (Or.inl ⟨by kernel_rfl, ?_⟩) (.inl rfl) ?_
        · (intro X hX; rcases hX with rfl | rfl <;> (go_simp; try (with_reducible rfl)))
        (try simp only [Act.put, List.setIfInBounds_toArray, List.set_cons_zero, List.set_cons_succ])
        refine wpAnyN_take (i := 2) (oi := { dst := some 34, op := Go.Op.move (Go.Operand.tmp 8), type := 51, pos := "operate.go:87", after := #[], guard := none }) (oL := { dst := some 38, op := Go.Op.call { callee := Go.Callee.value (Go.Operand.func 39), args := #[Go.Operand.tmp 32, Go.Operand.const (Go.Value.string { data := #[116, 114, 117, 110, 99, 97, 116, 101] }), Go.Operand.tmp 33, Go.Operand.tmp 34, Go.Operand.tmp 35, Go.Operand.tmp 37], argTypes := #[24, 9, 9, 51, 1, 75] }, type := 26, pos := "operate.go:87", after := #[{ on := 0, ground := Go.Ground.data }, { on := 1, ground := Go.Ground.data }, { on := 2, ground := Go.Ground.data }, { on := 3, ground := Go.Ground.data }, { on := 5, ground := Go.Ground.data }, { on := 5, ground := Go.Ground.chain }], guard := none }) (v := .int .i64 3) rfl rfl (by kernel_rfl) (by kernel_rfl) (by kernel_rfl) (by kernel_rfl) (fun _ _ _ h => h) (Or.inl ⟨by kernel_rfl, ?_⟩) (.inl rfl) ?_
        · (intro X hX; rcases hX with rfl | rfl <;> (go_simp; try (with_reducible rfl)))
        (try simp only [Act.put, List.setIfInBounds_toArray, List.set_cons_zero, List.set_cons_succ])
        refine wpAnyN_take (i := 3) (oi := { dst := some 35, op := Go.Op.move (Go.Operand.tmp 9), type := 1, pos := "operate.go:87", after := #[], guard := none }) (oL := { dst := some 38, op := Go.Op.call { callee := Go.Callee.value (Go.Operand.func 39), args := #[Go.Operand.tmp 32, Go.Operand.const (Go.Value.string { data := #[116, 114, 117, 110, 99, 97, 116, 101] }), Go.Operand.tmp 33, Go.Operand.tmp 34, Go.Operand.tmp 35, Go.Operand.tmp 37], argTypes := #[24, 9, 9, 51, 1, 75] }, type := 26, pos := "operate.go:87", after := #[{ on := 0, ground := Go.Ground.data }, { on := 1, ground := Go.Ground.data }, { on := 2, ground := Go.Ground.data }, { on := 3, ground := Go.Ground.data }, { on := 5, ground := Go.Ground.data }, { on := 5, ground := Go.Ground.chain }], guard := none }) (v := .func (.func 50) #[] #[.pointer (some ⟨w.heap.size, 0, none⟩), .pointer (some ⟨w.heap.size + 1 + 1, 0, none⟩), .pointer (some ⟨w.heap.size + 1, 0, none⟩)]) rfl rfl (by kernel_rfl) (by kernel_rfl) (by kernel_rfl) (by kernel_rfl) (fun _ _ _ h => h) (Or.inl ⟨by kernel_rfl, ?_⟩) (.inl rfl) ?_
        · (intro X hX; rcases hX with rfl | rfl <;> (go_simp; try (with_reducible rfl)))
        (try simp only [Act.put, List.setIfInBounds_toArray, List.set_cons_zero, List.set_cons_succ])
        refine wpAnyN_take (i := 4) (oi := { dst := some 36, op := Go.Op.move (Go.Operand.tmp 9), type := 1, pos := "operate.go:87", after := #[], guard := none }) (oL := { dst := some 38, op := Go.Op.call { callee := Go.Callee.value (Go.Operand.func 39), args := #[Go.Operand.tmp 32, Go.Operand.const (Go.Value.string { data := #[116, 114, 117, 110, 99, 97, 116, 101] }), Go.Operand.tmp 33, Go.Operand.tmp 34, Go.Operand.tmp 35, Go.Operand.tmp 37], argTypes := #[24, 9, 9, 51, 1, 75] }, type := 26, pos := "operate.go:87", after := #[{ on := 0, ground := Go.Ground.data }, { on := 1, ground := Go.Ground.data }, { on := 2, ground := Go.Ground.data }, { on := 3, ground := Go.Ground.data }, { on := 5, ground := Go.Ground.data }, { on := 5, ground := Go.Ground.chain }], guard := none }) (v := .func (.func 50) #[] #[.pointer (some ⟨w.heap.size, 0, none⟩), .pointer (some ⟨w.heap.size + 1 + 1, 0, none⟩), .pointer (some ⟨w.heap.size + 1, 0, none⟩)]) rfl rfl (by kernel_rfl) (by kernel_rfl) (by kernel_rfl) (by kernel_rfl) (fun _ _ _ h => h) (Or.inl ⟨by kernel_rfl, ?_⟩) (.inl rfl) ?_
        · (intro X hX; rcases hX with rfl | rfl <;> (go_simp; try (with_reducible rfl)))
        (try simp only [Act.put, List.setIfInBounds_toArray, List.set_cons_zero, List.set_cons_succ])
        refine wpAnyN_one (i := 5) (o := { dst := some 37, op := Go.Op.call { callee := Go.Callee.value (Go.Operand.func 45), args := #[Go.Operand.tmp 36], argTypes := #[1] }, type := 75, pos := "operate.go:87", after := #[{ on := 4, ground := Go.Ground.data }], guard := none }) (by kernel_rfl) rfl (fun K hK => ?_)
        go_simp
        refine HAl.out.mono ?_
        rintro e w3 ⟨rfl, hw3⟩
        rw [HW2.out] at hw3
        subst w3
        refine hK.out _ _ (fun _ => (.inr rfl)) ?_
        clear hK K
        (try simp only [Act.put, List.setIfInBounds_toArray, List.set_cons_zero, List.set_cons_succ])
        refine wpAnyN_one (i := 6) (o := { dst := some 38, op := Go.Op.call { callee := Go.Callee.value (Go.Operand.func 39), args := #[Go.Operand.tmp 32, Go.Operand.const (Go.Value.string { data := #[116, 114, 117, 110, 99, 97, 116, 101] }), Go.Operand.tmp 33, Go.Operand.tmp 34, Go.Operand.tmp 35, Go.Operand.tmp 37], argTypes := #[24, 9, 9, 51, 1, 75] }, type := 26, pos := "operate.go:87", after := #[{ on := 0, ground := Go.Ground.data }, { on := 1, ground := Go.Ground.data }, { on := 2, ground := Go.Ground.data }, { on := 3, ground := Go.Ground.data }, { on := 5, ground := Go.Ground.data }, { on := 5, ground := Go.Ground.chain }], guard := none }) (by kernel_rfl) rfl (fun K hK => ?_)
        go_simp
        refine HO.out.mono ?_
        rintro e w4 ⟨r, sv', clk', F', rfl, hA⟩
        have HR := Lib.hid hA
        clear hA
        refine hK.out _ _ (fun e => absurd (e.symm.trans (by kernel_rfl) : false = true) Bool.false_ne_true) ?_
        clear hK K
        (try simp only [Act.put, List.setIfInBounds_toArray, List.set_cons_zero, List.set_cons_succ])
        refine wpAnyN_of_H (S' := fun _ => True) _ _ _ _ (by kernel_rfl) ?_
        refine wpAnyH_take (i := 7) (oi := { dst := some 6, op := Go.Op.assign (Go.Operand.tmp 38), type := 26, pos := "operate.go:87", after := #[{ on := 6, ground := Go.Ground.data }, { on := 6, ground := Go.Ground.chain }, { on := 0, ground := Go.Ground.phase }, { on := 1, ground := Go.Ground.phase }, { on := 2, ground := Go.Ground.phase }, { on := 3, ground := Go.Ground.phase }, { on := 4, ground := Go.Ground.phase }, { on := 5, ground := Go.Ground.phase }, { on := 6, ground := Go.Ground.phase }], guard := none }) (v := r) rfl (by kernel_rfl) (by kernel_rfl) (by kernel_rfl) (fun _ _ _ h => h) (Or.inl ⟨by kernel_rfl, ?_⟩) trivial ?_
        · (intro X hX; go_simp; try (with_reducible rfl))
        (try simp only [Act.put, List.setIfInBounds_toArray, List.set_cons_zero, List.set_cons_succ])
        refine wpAnyH_done (by kernel_rfl) ?_ _
        --E TruncateA--
        go_wp2_with fail
        go_ret
        exact HA.out _ _ ⟨r, sv', clk', F', rfl, HR.out⟩
  · rw [if_neg hz] at hc
    subst hc
    have hzb := beqI_no hz
    clear h he hok hn hns hlook hc0 hcase hb0 hz0 hb1 hz1 hb2 hbb cB2 cC2 cF2 hD1 hD2 hE2 hoA hoB hoC hoF hlA hlB hlC hlF hW1 hW2 hzY hbY hY
    go_enter Tryd.func25, Tryd.ntmps25
    go_upto_region 2 with (go_at_call 40; refine HL.out.mono ?_; rintro e w2 ⟨rfl, hw2⟩; subst w2)
    rw [HW1.out]
    --R Trunc2B--
    refine wp_region_N 14 (fun X => X = W1.drew) (by kernel_rfl) ?_
    refine wpAnyN_take (i := 0) (oi := { dst := some 16, op := Go.Op.move (Go.Operand.tmp 8), type := 51, pos := "operate.go:83", after := #[], guard := none }) (oL := { dst := some 30, op := Go.Op.pick (Go.Operand.tmp 18) (Go.Operand.tmp 29) (Go.Operand.const (Go.Value.bool false)), type := 4, pos := "operate.go:83", after := #[{ on := 2, ground := Go.Ground.data }, { on := 13, ground := Go.Ground.data }], guard := none }) (v := .int .i64 c0) rfl rfl (by kernel_rfl) (by kernel_rfl) (by kernel_rfl) (by kernel_rfl) (fun _ _ _ h => h) (Or.inl ⟨by kernel_rfl, ?_⟩) rfl ?_
    · (intro X hX; subst hX <;> (go_simp; try (with_reducible rfl)))
    (try simp only [Act.put, List.setIfInBounds_toArray, List.set_cons_zero, List.set_cons_succ])
    refine wpAnyN_take (i := 1) (oi := { dst := some 17, op := Go.Op.binOp Go.BinOp.eql 51 (Go.Operand.tmp 16) (Go.Operand.const (Go.Value.int Go.IntKind.i64 0)) 51, type := 4, pos := "operate.go:83", after := #[{ on := 0, ground := Go.Ground.data }], guard := none }) (oL := { dst := some 30, op := Go.Op.pick (Go.Operand.tmp 18) (Go.Operand.tmp 29) (Go.Operand.const (Go.Value.bool false)), type := 4, pos := "operate.go:83", after := #[{ on := 2, ground := Go.Ground.data }, { on := 13, ground := Go.Ground.data }], guard := none }) (v := .bool false) rfl rfl (by kernel_rfl) (by kernel_rfl) (by kernel_rfl) (by kernel_rfl) (fun _ _ _ h => h) (Or.inl ⟨by kernel_rfl, ?_⟩) rfl ?_
    · (intro X hX; subst hX <;> (go_simp; try (with_reducible rfl)))
    (try simp only [Act.put, List.setIfInBounds_toArray, List.set_cons_zero, List.set_cons_succ])
    refine wpAnyN_take (i := 2) (oi := { dst := some 18, op := Go.Op.move (Go.Operand.tmp 17), type := 4, pos := "operate.go:83", after := #[{ on := 1, ground := Go.Ground.data }], guard := none }) (oL := { dst := some 30, op := Go.Op.pick (Go.Operand.tmp 18) (Go.Operand.tmp 29) (Go.Operand.const (Go.Value.bool false)), type := 4, pos := "operate.go:83", after := #[{ on := 2, ground := Go.Ground.data }, { on := 13, ground := Go.Ground.data }], guard := none }) (v := .bool false) rfl rfl (by kernel_rfl) (by kernel_rfl) (by kernel_rfl) (by kernel_rfl) (fun _ _ _ h => h) (Or.inl ⟨by kernel_rfl, ?_⟩) rfl ?_
    · (intro X hX; subst hX <;> (go_simp; try (with_reducible rfl)))
    (try simp only [Act.put, List.setIfInBounds_toArray, List.set_cons_zero, List.set_cons_succ])
    refine wpAnyN_take (i := 3) (oi := { dst := some 19, op := Go.Op.load 3 (Go.Operand.tmp 5), type := 3, pos := "operate.go:83", after := #[{ on := 2, ground := Go.Ground.guard }], guard := some (2, true) }) (oL := { dst := some 30, op := Go.Op.pick (Go.Operand.tmp 18) (Go.Operand.tmp 29) (Go.Operand.const (Go.Value.bool false)), type := 4, pos := "operate.go:83", after := #[{ on := 2, ground := Go.Ground.data }, { on := 13, ground := Go.Ground.data }], guard := none }) (v := undef) rfl rfl (by kernel_rfl) (by kernel_rfl) (by kernel_rfl) (by kernel_rfl) (fun _ _ _ h => h) (Or.inr ⟨by kernel_rfl, rfl⟩) rfl ?_
    (try simp only [Act.put, List.setIfInBounds_toArray, List.set_cons_zero, List.set_cons_succ])
    refine wpAnyN_take (i := 4) (oi := { dst := some 20, op := Go.Op.binOp Go.BinOp.lss 3 (Go.Operand.tmp 19) (Go.Operand.const (Go.Value.int Go.IntKind.i64 0)) 3, type := 4, pos := "operate.go:83", after := #[{ on := 3, ground := Go.Ground.data }, { on := 2, ground := Go.Ground.guard }], guard := some (2, true) }) (oL := { dst := some 30, op := Go.Op.pick (Go.Operand.tmp 18) (Go.Operand.tmp 29) (Go.Operand.const (Go.Value.bool false)), type := 4, pos := "operate.go:83", after := #[{ on := 2, ground := Go.Ground.data }, { on := 13, ground := Go.Ground.data }], guard := none }) (v := undef) rfl rfl (by kernel_rfl) (by kernel_rfl) (by kernel_rfl) (by kernel_rfl) (fun _ _ _ h => h) (Or.inr ⟨by kernel_rfl, rfl⟩) rfl ?_
    (try simp only [Act.put, List.setIfInBounds_toArray, List.set_cons_zero, List.set_cons_succ])
    refine wpAnyN_take (i := 5) (oi := { dst := some 21, op := Go.Op.move (Go.Operand.tmp 20), type := 4, pos := "operate.go:83", after := #[{ on := 4, ground := Go.Ground.data }, { on := 2, ground := Go.Ground.chain }, { on := 2, ground := Go.Ground.guard }], guard := some (2, true) }) (oL := { dst := some 30, op := Go.Op.pick (Go.Operand.tmp 18) (Go.Operand.tmp 29) (Go.Operand.const (Go.Value.bool false)), type := 4, pos := "operate.go:83", after := #[{ on := 2, ground := Go.Ground.data }, { on := 13, ground := Go.Ground.data }], guard := none }) (v := undef) rfl rfl (by kernel_rfl) (by kernel_rfl) (by kernel_rfl) (by kernel_rfl) (fun _ _ _ h => h) (Or.inr ⟨by kernel_rfl, rfl⟩) rfl ?_
    (try simp only [Act.put, List.setIfInBounds_toArray, List.set_cons_zero, List.set_cons_succ])
    refine wpAnyN_take (i := 6) (oi := { dst := some 22, op := Go.Op.load 3 (Go.Operand.tmp 5), type := 3, pos := "operate.go:83", after := #[{ on := 5, ground := Go.Ground.guard }], guard := some (5, false) }) (oL := { dst := some 30, op := Go.Op.pick (Go.Operand.tmp 18) (Go.Operand.tmp 29) (Go.Operand.const (Go.Value.bool false)), type := 4, pos := "operate.go:83", after := #[{ on := 2, ground := Go.Ground.data }, { on := 13, ground := Go.Ground.data }], guard := none }) (v := undef) rfl rfl (by kernel_rfl) (by kernel_rfl) (by kernel_rfl) (by kernel_rfl) (fun _ _ _ h => h) (Or.inr ⟨by kernel_rfl, rfl⟩) rfl ?_
    (try simp only [Act.put, List.setIfInBounds_toArray, List.set_cons_zero, List.set_cons_succ])
    refine wpAnyN_take (i := 7) (oi := { dst := some 23, op := Go.Op.load 67 (Go.Operand.tmp 7), type := 67, pos := "operate.go:83", after := #[{ on := 5, ground := Go.Ground.guard }], guard := some (5, false) }) (oL := { dst := some 30, op := Go.Op.pick (Go.Operand.tmp 18) (Go.Operand.tmp 29) (Go.Operand.const (Go.Value.bool false)), type := 4, pos := "operate.go:83", after := #[{ on := 2, ground := Go.Ground.data }, { on := 13, ground := Go.Ground.data }], guard := none }) (v := undef) rfl rfl (by kernel_rfl) (by kernel_rfl) (by kernel_rfl) (by kernel_rfl) (fun _ _ _ h => h) (Or.inr ⟨by kernel_rfl, rfl⟩) rfl ?_
    (try simp only [Act.put, List.setIfInBounds_toArray, List.set_cons_zero, List.set_cons_succ])
    refine wpAnyN_take (i := 8) (oi := { dst := some 24, op := Go.Op.nilCheck (Go.Operand.tmp 23), type := 0, pos := "operate.go:83", after := #[{ on := 7, ground := Go.Ground.data }, { on := 5, ground := Go.Ground.guard }], guard := some (5, false) }) (oL := { dst := some 30, op := Go.Op.pick (Go.Operand.tmp 18) (Go.Operand.tmp 29) (Go.Operand.const (Go.Value.bool false)), type := 4, pos := "operate.go:83", after := #[{ on := 2, ground := Go.Ground.data }, { on := 13, ground := Go.Ground.data }], guard := none }) (v := undef) rfl rfl (by kernel_rfl) (by kernel_rfl) (by kernel_rfl) (by kernel_rfl) (fun _ _ _ h => h) (Or.inr ⟨by kernel_rfl, rfl⟩) rfl ?_
    (try simp only [Act.put, List.setIfInBounds_toArray, List.set_cons_zero, List.set_cons_succ])
    refine wpAnyN_take (i := 9) (oi := { dst := some 25, op := Go.Op.fieldAddr 71 (Go.Operand.tmp 24) 0, type := 0, pos := "operate.go:83", after := #[{ on := 8, ground := Go.Ground.data }, { on := 5, ground := Go.Ground.guard }], guard := some (5, false) }) (oL := { dst := some 30, op := Go.Op.pick (Go.Operand.tmp 18) (Go.Operand.tmp 29) (Go.Operand.const (Go.Value.bool false)), type := 4, pos := "operate.go:83", after := #[{ on := 2, ground := Go.Ground.data }, { on := 13, ground := Go.Ground.data }], guard := none }) (v := undef) rfl rfl (by kernel_rfl) (by kernel_rfl) (by kernel_rfl) (by kernel_rfl) (fun _ _ _ h => h) (Or.inr ⟨by kernel_rfl, rfl⟩) rfl ?_
    (try simp only [Act.put, List.setIfInBounds_toArray, List.set_cons_zero, List.set_cons_succ])
    refine wpAnyN_take (i := 10) (oi := { dst := some 26, op := Go.Op.load 69 (Go.Operand.tmp 25), type := 69, pos := "operate.go:83", after := #[{ on := 9, ground := Go.Ground.data }, { on := 5, ground := Go.Ground.guard }], guard := some (5, false) }) (oL := { dst := some 30, op := Go.Op.pick (Go.Operand.tmp 18) (Go.Operand.tmp 29) (Go.Operand.const (Go.Value.bool false)), type := 4, pos := "operate.go:83", after := #[{ on := 2, ground := Go.Ground.data }, { on := 13, ground := Go.Ground.data }], guard := none }) (v := undef) rfl rfl (by kernel_rfl) (by kernel_rfl) (by kernel_rfl) (by kernel_rfl) (fun _ _ _ h => h) (Or.inr ⟨by kernel_rfl, rfl⟩) rfl ?_
    (try simp only [Act.put, List.setIfInBounds_toArray, List.set_cons_zero, List.set_cons_succ])
    refine wpAnyN_take (i := 11) (oi := { dst := some 27, op := Go.Op.call { callee := Go.Callee.builtin Go.Builtin.len, args := #[Go.Operand.tmp 26], argTypes := #[69] }, type := 3, pos := "operate.go:83", after := #[{ on := 10, ground := Go.Ground.data }, { on := 5, ground := Go.Ground.guard }], guard := some (5, false) }) (oL := { dst := some 30, op := Go.Op.pick (Go.Operand.tmp 18) (Go.Operand.tmp 29) (Go.Operand.const (Go.Value.bool false)), type := 4, pos := "operate.go:83", after := #[{ on := 2, ground := Go.Ground.data }, { on := 13, ground := Go.Ground.data }], guard := none }) (v := undef) rfl rfl (by kernel_rfl) (by kernel_rfl) (by kernel_rfl) (by kernel_rfl) (fun _ _ _ h => h) (Or.inr ⟨by kernel_rfl, rfl⟩) rfl ?_
    (try simp only [Act.put, List.setIfInBounds_toArray, List.set_cons_zero, List.set_cons_succ])
    refine wpAnyN_take (i := 12) (oi := { dst := some 28, op := Go.Op.binOp Go.BinOp.gtr 3 (Go.Operand.tmp 22) (Go.Operand.tmp 27) 3, type := 4, pos := "operate.go:83", after := #[{ on := 6, ground := Go.Ground.data }, { on := 11, ground := Go.Ground.data }, { on := 5, ground := Go.Ground.guard }], guard := some (5, false) }) (oL := { dst := some 30, op := Go.Op.pick (Go.Operand.tmp 18) (Go.Operand.tmp 29) (Go.Operand.const (Go.Value.bool false)), type := 4, pos := "operate.go:83", after := #[{ on := 2, ground := Go.Ground.data }, { on := 13, ground := Go.Ground.data }], guard := none }) (v := undef) rfl rfl (by kernel_rfl) (by kernel_rfl) (by kernel_rfl) (by kernel_rfl) (fun _ _ _ h => h) (Or.inr ⟨by kernel_rfl, rfl⟩) rfl ?_
    (try simp only [Act.put, List.setIfInBounds_toArray, List.set_cons_zero, List.set_cons_succ])
    refine wpAnyN_take (i := 13) (oi := { dst := some 29, op := Go.Op.pick (Go.Operand.tmp 21) (Go.Operand.const (Go.Value.bool true)) (Go.Operand.tmp 28), type := 4, pos := "operate.go:83", after := #[{ on := 5, ground := Go.Ground.data }, { on := 12, ground := Go.Ground.data }, { on := 2, ground := Go.Ground.guard }], guard := some (2, true) }) (oL := { dst := some 30, op := Go.Op.pick (Go.Operand.tmp 18) (Go.Operand.tmp 29) (Go.Operand.const (Go.Value.bool false)), type := 4, pos := "operate.go:83", after := #[{ on := 2, ground := Go.Ground.data }, { on := 13, ground := Go.Ground.data }], guard := none }) (v := undef) rfl rfl (by kernel_rfl) (by kernel_rfl) (by kernel_rfl) (by kernel_rfl) (fun _ _ _ h => h) (Or.inr ⟨by kernel_rfl, rfl⟩) rfl ?_
    (try simp only [Act.put, List.setIfInBounds_toArray, List.set_cons_zero, List.set_cons_succ])
    refine wpAnyN_one (i := 14) (o := { dst := some 30, op := Go.Op.pick (Go.Operand.tmp 18) (Go.Operand.tmp 29) (Go.Operand.const (Go.Value.bool false)), type := 4, pos := "operate.go:83", after := #[{ on := 2, ground := Go.Ground.data }, { on := 13, ground := Go.Ground.data }], guard := none }) (by kernel_rfl) rfl (fun K hK => ?_)
    go_simp
    refine hK.out _ _ (fun e => absurd (e.symm.trans (by kernel_rfl) : false = true) Bool.false_ne_true) ?_
    clear hK K
    (try simp only [Act.put, List.setIfInBounds_toArray, List.set_cons_zero, List.set_cons_succ])
    refine wpAnyN_of_H (S' := fun _ => True) _ _ _ _ (by kernel_rfl) ?_
    refine wpAnyH_done (by kernel_rfl) ?_ _
    --E Trunc2B--
    rw [HY.out]
    go_upto_region 5 with fail
    --R TruncateB--
    refine wp_region_N 6 (fun X => X = Y.drew ∨ X = W2) (by kernel_rfl) ?_
    refine wpAnyN_take (i := 0) (oi := { dst := some 32, op := Go.Op.load 24 (Go.Operand.tmp 3), type := 24, pos := "operate.go:87", after := #[], guard := none }) (oL := { dst := some 38, op := Go.Op.call { callee := Go.Callee.value (Go.Operand.func 39), args := #[Go.Operand.tmp 32, Go.Operand.const (Go.Value.string { data := #[116, 114, 117, 110, 99, 97, 116, 101] }), Go.Operand.tmp 33, Go.Operand.tmp 34, Go.Operand.tmp 35, Go.Operand.tmp 37], argTypes := #[24, 9, 9, 51, 1, 75] }, type := 26, pos := "operate.go:87", after := #[{ on := 0, ground := Go.Ground.data }, { on := 1, ground := Go.Ground.data }, { on := 2, ground := Go.Ground.data }, { on := 3, ground := Go.Ground.data }, { on := 5, ground := Go.Ground.data }, { on := 5, ground := Go.Ground.chain }], guard := none }) (v := .pointer (some ⟨d, 0, none⟩)) rfl rfl (by kernel_rfl) (by kernel_rfl) (by kernel_rfl) (by kernel_rfl) (fun _ _ _ h => h) (Or.inl ⟨by kernel_rfl, ?_⟩) (.inl rfl) ?_
    · (intro X hX; rcases hX with rfl | rfl <;> (go_simp; try (with_reducible rfl)))
    (try simp only [Act.put, List.setIfInBounds_toArray, List.set_cons_zero, List.set_cons_succ])
    refine wpAnyN_take (i := 1) (oi := { dst := some 33, op := Go.Op.move (Go.Operand.tmp 1), type := 9, pos := "operate.go:87", after := #[], guard := none }) (oL := { dst := some 38, op := Go.Op.call { callee := Go.Callee.value (Go.Operand.func 39), args := #[Go.Operand.tmp 32, Go.Operand.const (Go.Value.string { data := #[116, 114, 117, 110, 99, 97, 116, 101] }), Go.Operand.tmp 33, Go.Operand.tmp 34, Go.Operand.tmp 35, Go.Operand.tmp 37], argTypes := #[24, 9, 9, 51, 1, 75] }, type := 26, pos := "operate.go:87", after := #[{ on := 0, ground := Go.Ground.data }, { on := 1, ground := Go.Ground.data }, { on := 2, ground := Go.Ground.data }, { on := 3, ground := Go.Ground.data }, { on := 5, ground := Go.Ground.data }, { on := 5, ground := Go.Ground.chain }], guard := none }) (v := .string n) rfl rfl (by kernel_rfl) (by kernel_rfl) (by kernel_rfl) (by kernel_rfl) (fun _ _ _ h => h) (Or.inl ⟨by kernel_rfl, ?_⟩) (.inl rfl) ?_
    · (intro X hX; rcases hX with rfl | rfl <;> (go_simp; try (with_reducible rfl)))
    (try simp only [Act.put, List.setIfInBounds_toArray, List.set_cons_zero, List.set_cons_succ])
    refine wpAnyN_take (i := 2) (oi := { dst := some 34, op := Go.Op.move (Go.Operand.tmp 8), type := 51, pos := "operate.go:87", after := #[], guard := none }) (oL := { dst := some 38, op := Go.Op.call { callee := Go.Callee.value (Go.Operand.func 39), args := #[Go.Operand.tmp 32, Go.Operand.const (Go.Value.string { data := #[116, 114, 117, 110, 99, 97, 116, 101] }), Go.Operand.tmp 33, Go.Operand.tmp 34, Go.Operand.tmp 35, Go.Operand.tmp 37], argTypes := #[24, 9, 9, 51, 1, 75] }, type := 26, pos := "operate.go:87", after := #[{ on := 0, ground := Go.Ground.data }, { on := 1, ground := Go.Ground.data }, { on := 2, ground := Go.Ground.data }, { on := 3, ground := Go.Ground.data }, { on := 5, ground := Go.Ground.data }, { on := 5, ground := Go.Ground.chain }], guard := none }) (v := .int .i64 c0) rfl rfl (by kernel_rfl) (by kernel_rfl) (by kernel_rfl) (by kernel_rfl) (fun _ _ _ h => h) (Or.inl ⟨by kernel_rfl, ?_⟩) (.inl rfl) ?_
    · (intro X hX; rcases hX with rfl | rfl <;> (go_simp; try (with_reducible rfl)))
    (try simp only [Act.put, List.setIfInBounds_toArray, List.set_cons_zero, List.set_cons_succ])
    refine wpAnyN_take (i := 3) (oi := { dst := some 35, op := Go.Op.move (Go.Operand.tmp 9), type := 1, pos := "operate.go:87", after := #[], guard := none }) (oL := { dst := some 38, op := Go.Op.call { callee := Go.Callee.value (Go.Operand.func 39), args := #[Go.Operand.tmp 32, Go.Operand.const (Go.Value.string { data := #[116, 114, 117, 110, 99, 97, 116, 101] }), Go.Operand.tmp 33, Go.Operand.tmp 34, Go.Operand.tmp 35, Go.Operand.tmp 37], argTypes := #[24, 9, 9, 51, 1, 75] }, type := 26, pos := "operate.go:87", after := #[{ on := 0, ground := Go.Ground.data }, { on := 1, ground := Go.Ground.data }, { on := 2, ground := Go.Ground.data }, { on := 3, ground := Go.Ground.data }, { on := 5, ground := Go.Ground.data }, { on := 5, ground := Go.Ground.chain }], guard := none }) (v := .func (.func 50) #[] #[.pointer (some ⟨w.heap.size, 0, none⟩), .pointer (some ⟨w.heap.size + 1 + 1, 0, none⟩), .pointer (some ⟨w.heap.size + 1, 0, none⟩)]) rfl rfl (by kernel_rfl) (by kernel_rfl) (by kernel_rfl) (by kernel_rfl) (fun _ _ _ h => h) (Or.inl ⟨by kernel_rfl, ?_⟩) (.inl rfl) ?_
    · (intro X hX; rcases hX with rfl | rfl <;> (go_simp; try (with_reducible rfl)))
    (try simp only [Act.put, List.setIfInBounds_toArray, List.set_cons_zero, List.set_cons_succ])
    refine wpAnyN_take (i := 4) (oi := { dst := some 36, op := Go.Op.move (Go.Operand.tmp 9), type := 1, pos := "operate.go:87", after := #[], guard := none }) (oL := { dst := some 38, op := Go.Op.call { callee := Go.Callee.value (Go.Operand.func 39), args := #[Go.Operand.tmp 32, Go.Operand.const (Go.Value.string { data := #[116, 114, 117, 110, 99, 97, 116, 101] }), Go.Operand.tmp 33, Go.Operand.tmp 34, Go.Operand.tmp 35, Go.Operand.tmp 37], argTypes := #[24, 9, 9, 51, 1, 75] }, type := 26, pos := "operate.go:87", after := #[{ on := 0, ground := Go.Ground.data }, { on := 1, ground := Go.Ground.data }, { on := 2, ground := Go.Ground.data }, { on := 3, ground := Go.Ground.data }, { on := 5, ground := Go.Ground.data }, { on := 5, ground := Go.Ground.chain }], guard := none }) (v := .func (.func 50) #[] #[.pointer (some ⟨w.heap.size, 0, none⟩), .pointer (some ⟨w.heap.size + 1 + 1, 0, none⟩), .pointer (some ⟨w.heap.size + 1, 0, none⟩)]) rfl rfl (by kernel_rfl) (by kernel_rfl) (by kernel_rfl) (by kernel_rfl) (fun _ _ _ h => h) (Or.inl ⟨by kernel_rfl, ?_⟩) (.inl rfl) ?_
    · (intro X hX; rcases hX with rfl | rfl <;> (go_simp; try (with_reducible rfl)))
    (try simp only [Act.put, List.setIfInBounds_toArray, List.set_cons_zero, List.set_cons_succ])
    refine wpAnyN_one (i := 5) (o := { dst := some 37, op := Go.Op.call { callee := Go.Callee.value (Go.Operand.func 45), args := #[Go.Operand.tmp 36], argTypes := #[1] }, type := 75, pos := "operate.go:87", after := #[{ on := 4, ground := Go.Ground.data }], guard := none }) (by kernel_rfl) rfl (fun K hK => ?_)
    go_simp
    refine HAl.out.mono ?_
    rintro e w3 ⟨rfl, hw3⟩
    rw [HW2.out] at hw3
    subst w3
    refine hK.out _ _ (fun _ => (.inr rfl)) ?_
    clear hK K
    (try simp only [Act.put, List.setIfInBounds_toArray, List.set_cons_zero, List.set_cons_succ])
    refine wpAnyN_one (i := 6) (o := { dst := some 38, op := Go.Op.call { callee := Go.Callee.value (Go.Operand.func 39), args := #[Go.Operand.tmp 32, Go.Operand.const (Go.Value.string { data := #[116, 114, 117, 110, 99, 97, 116, 101] }), Go.Operand.tmp 33, Go.Operand.tmp 34, Go.Operand.tmp 35, Go.Operand.tmp 37], argTypes := #[24, 9, 9, 51, 1, 75] }, type := 26, pos := "operate.go:87", after := #[{ on := 0, ground := Go.Ground.data }, { on := 1, ground := Go.Ground.data }, { on := 2, ground := Go.Ground.data }, { on := 3, ground := Go.Ground.data }, { on := 5, ground := Go.Ground.data }, { on := 5, ground := Go.Ground.chain }], guard := none }) (by kernel_rfl) rfl (fun K hK => ?_)
    go_simp
    refine HO.out.mono ?_
    rintro e w4 ⟨r, sv', clk', F', rfl, hA⟩
    have HR := Lib.hid hA
    clear hA
    refine hK.out _ _ (fun e => absurd (e.symm.trans (by kernel_rfl) : false = true) Bool.false_ne_true) ?_
    clear hK K
    (try simp only [Act.put, List.setIfInBounds_toArray, List.set_cons_zero, List.set_cons_succ])
    refine wpAnyN_of_H (S' := fun _ => True) _ _ _ _ (by kernel_rfl) ?_
    refine wpAnyH_take (i := 7) (oi := { dst := some 6, op := Go.Op.assign (Go.Operand.tmp 38), type := 26, pos := "operate.go:87", after := #[{ on := 6, ground := Go.Ground.data }, { on := 6, ground := Go.Ground.chain }, { on := 0, ground := Go.Ground.phase }, { on := 1, ground := Go.Ground.phase }, { on := 2, ground := Go.Ground.phase }, { on := 3, ground := Go.Ground.phase }, { on := 4, ground := Go.Ground.phase }, { on := 5, ground := Go.Ground.phase }, { on := 6, ground := Go.Ground.phase }], guard := none }) (v := r) rfl (by kernel_rfl) (by kernel_rfl) (by kernel_rfl) (fun _ _ _ h => h) (Or.inl ⟨by kernel_rfl, ?_⟩) trivial ?_
    · (intro X hX; go_simp; try (with_reducible rfl))
    (try simp only [Act.put, List.setIfInBounds_toArray, List.set_cons_zero, List.set_cons_succ])
    refine wpAnyH_done (by kernel_rfl) ?_ _
    --E TruncateB--
    go_wp2_with fail
    go_ret
    exact HA.out _ _ ⟨r, sv', clk', F', rfl, HR.out⟩
theorem TruncateD {A : Whys} {w0 w : World} {d : Nat} {S : DS} {P : List PF} {K : List (Nat × Obj)} (h : Dk A w0 d S P K w) (hok : S.ok) (hn : S.steps < 1000000000) (n : ByteArray) (k : Int) (hns : n.size ≤ 140737488355328) :
    Calls Tryd.prog 25 #[.pointer (some ⟨d, 0, none⟩), .string n, .int .i64 k] w fun e w' => ∃ r K', e = .returned r ∧ Dk A w0 d S.next (nextF S (truC P n k) P (modP n (cutF k.toNat) P) (fun y => if 1 ≤ y then modP n (cutF k.toNat) P else P)) K' w' ∧ ErrK A sTrunc n (errS S) (errC S (truC P n k)) r K K' := by
  obtain ⟨m, sv, clk, F, hD, rfl, hb, he, hK⟩ := h
  refine (Truncate_any hD he hok hn n k hns).mono ?_
  intro e w' hA
  exact hA.toD hD hb he hK
end Go.Proofs.YtbnicjpkfldcdaaDoor
