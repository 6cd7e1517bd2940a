/- mirror: Ask. -/
import Derived.Test.YtlmlbcnjohjnlaaDoorM19n
namespace Go.Proofs.YtlmlbcnjohjnlaaDoor
open Go.RowKit

theorem undrew {B : Nat} {w w' : World} (h : Below B w.drew w') : Below B w w' := ⟨h.os, h.tape, h.output, h.size, h.block⟩
set_option maxRecDepth 20000 in
set_option maxHeartbeats 2000000 in
theorem Ask_plain (P : Nat) (qa : Option Addr) (n qc : Nat) (sel : Bool) (v nx h : Int) (rows was : Value) (bg : Bool) (xs : List Value) (tag : ByteArray) (verb : Int) (uid : Bool) (ht : tag.toList.isEmpty = false) (h1 : 1 ≤ verb) (h2 : verb ≤ 29) (hv : ¬ verb = 22) (w : World) (hM : w.heap[P]? = some (mirO (.slice qa n qc) sel v nx h rows was bg)) (hQ : w.ownsRow 0 78 5 (.slice qa n qc) n xs) (hn : n + 1 ≤ 4294967296) :
    Calls Tryd.prog 8 #[.pointer (some ⟨P, 0, none⟩), .agg (cmC tag verb uid (.slice none 0 0) (.slice none 0 0))] w fun e w' => e = .returned (.int .i64 0) ∧ PutOut P sel v nx h rows was bg (n + 1) (xs ++ (akC ⟨tag, verb, uid, false, .slice none 0 0⟩).toList) (P :: (Value.slice qa n qc).ownBlock.toList) w w' := by
  obtain ⟨Y, hY⟩ : ∃ Y, w.alloc (.cells (cmC tag verb uid (.slice none 0 0) (.slice none 0 0)) 38) = Y := ⟨_, rfl⟩
  have b0 : Below w.heap.size w Y := by rw [← hY]; exact (Below.refl _ _).alloc (Nat.le_refl _) _
  have r0 : Y.heap[w.heap.size]? = some (.cells (cmC tag verb uid (.slice none 0 0) (.slice none 0 0)) 38 (0, 0)) := by rw [← hY]; exact heap_new _ _
  have HC : Hid (Y.drew.rangeAt w.heap.size 0 (cmC tag verb uid (.slice none 0 0) (.slice none 0 0)).toList) := Lib.hid (by
    intro j u hj
    rw [Nat.zero_add, cell_of (show Y.drew.heap[w.heap.size]? = some (.cells (cmC tag verb uid (.slice none 0 0) (.slice none 0 0)) 38 (0, 0)) from r0)]
    simpa using hj)
  have c0 : Y.cell? ⟨w.heap.size, 0, none⟩ = some (.string tag) := by unfold cmC at r0; exact cell_of r0 0
  have c1 : Y.cell? ⟨w.heap.size, 1, none⟩ = some (.int .i64 verb) := by unfold cmC at r0; exact cell_of r0 1
  have HAs : Hid (∀ X, Calls Tryd.prog 19 #[.agg (cmC tag verb uid (.slice none 0 0) (.slice none 0 0)).toList.toArray] X fun e w' => e = .returned (.agg (akC ⟨tag, verb, uid, false, .slice none 0 0⟩)) ∧ Below X.heap.size X w') := Lib.hid (fun X => asking_plain tag verb uid hv X)
  have HPu : Hid (∀ X, Below Y.heap.size Y X → Calls Tryd.prog 18 #[.pointer (some ⟨P, 0, none⟩), .agg (akC ⟨tag, verb, uid, false, .slice none 0 0⟩)] X fun e w' => e = .returned (.tuple #[]) ∧ PutOut P sel v nx h rows was bg (n + 1) (xs ++ (akC ⟨tag, verb, uid, false, .slice none 0 0⟩).toList) (P :: (Value.slice qa n qc).ownBlock.toList) w w') := Lib.hid (fun X hX => by
    have bX : Below w.heap.size w X := b0.trans (hX.mono b0.size)
    refine (put_any P qa n qc sel v nx h rows was bg xs ⟨tag, verb, uid, false, .slice none 0 0⟩ ⟨_, _, _, rfl⟩ X (bel_at bX (lt_of_heap hM) hM) (ownsRow_same hQ (fun b e => bX.block b (hQ.lt b e).2)) hn).mono ?_
    rintro e w' ⟨rfl, a, c, p1, p2, p3, p4⟩
    exact ⟨rfl, a, c, p1, p2, (Stays.ofBelow bX).trans p3 (fun b hb => .inl hb), fun b e => (p4 b e).imp id (fun h => Nat.le_trans bX.size h)⟩)
  have HBd : Hid (Below Y.heap.size Y Y.drew) := Lib.hid (Below.refl _ _).drew
  have n1 : ¬ verb < 1 := by omega
  have n2 : ¬ (29 : Int) < verb := by omega
  have HY := Lib.hid hY
  clear hY b0 r0 hM hQ hn h1 h2 hv
  go_enter Tryd.func8, Tryd.ntmps8
  go_upto_region 1 with fail
  rw [HY.out]
  clear HY
  go_upto_region 3 with fail
  clear c0 c1
  refine wp_region_N 5 (fun X => Below Y.heap.size Y X) (by kernel_rfl) ?_
  refine wpAnyN_take (i := 0) (oi := { dst := some 22, op := Go.Op.move (Go.Operand.tmp 0), type := 24, pos := "mirror.go:25", after := #[], guard := none }) (oL := { dst := some 27, op := Go.Op.call { callee := Go.Callee.value (Go.Operand.func 18), args := #[Go.Operand.tmp 24, Go.Operand.tmp 26], argTypes := #[69, 78] }, type := 0, pos := "mirror.go:25", after := #[{ on := 2, ground := Go.Ground.data }, { on := 4, ground := Go.Ground.data }, { on := 4, ground := Go.Ground.chain }], guard := none }) (v := .pointer (some ⟨P, 0, none⟩)) rfl rfl (by kernel_rfl) (by kernel_rfl) (by kernel_rfl) (by kernel_rfl) (fun _ _ _ h => h) (Or.inl ⟨by kernel_rfl, ?_⟩) HBd.out ?_
  · (intro X hX; have _hX := hX <;> (go_simp; try (with_reducible rfl)))
  (try simp only [Act.put, List.setIfInBounds_toArray, List.set_cons_zero, List.set_cons_succ])
  refine wpAnyN_take (i := 1) (oi := { dst := some 23, op := Go.Op.nilCheck (Go.Operand.tmp 22), type := 0, pos := "mirror.go:25", after := #[{ on := 0, ground := Go.Ground.data }], guard := none }) (oL := { dst := some 27, op := Go.Op.call { callee := Go.Callee.value (Go.Operand.func 18), args := #[Go.Operand.tmp 24, Go.Operand.tmp 26], argTypes := #[69, 78] }, type := 0, pos := "mirror.go:25", after := #[{ on := 2, ground := Go.Ground.data }, { on := 4, ground := Go.Ground.data }, { on := 4, ground := Go.Ground.chain }], guard := none }) (v := .pointer (some ⟨P, 0, none⟩)) rfl rfl (by kernel_rfl) (by kernel_rfl) (by kernel_rfl) (by kernel_rfl) (fun _ _ _ h => h) (Or.inl ⟨by kernel_rfl, ?_⟩) HBd.out ?_
  · (intro X hX; have _hX := hX <;> (go_simp; try (with_reducible rfl)))
  (try simp only [Act.put, List.setIfInBounds_toArray, List.set_cons_zero, List.set_cons_succ])
  refine wpAnyN_take (i := 2) (oi := { dst := some 24, op := Go.Op.fieldAddr 75 (Go.Operand.tmp 23) 0, type := 0, pos := "mirror.go:25", after := #[{ on := 1, ground := Go.Ground.data }], guard := none }) (oL := { dst := some 27, op := Go.Op.call { callee := Go.Callee.value (Go.Operand.func 18), args := #[Go.Operand.tmp 24, Go.Operand.tmp 26], argTypes := #[69, 78] }, type := 0, pos := "mirror.go:25", after := #[{ on := 2, ground := Go.Ground.data }, { on := 4, ground := Go.Ground.data }, { on := 4, ground := Go.Ground.chain }], guard := none }) (v := .pointer (some ⟨P, 0, none⟩)) rfl rfl (by kernel_rfl) (by kernel_rfl) (by kernel_rfl) (by kernel_rfl) (fun _ _ _ h => h) (Or.inl ⟨by kernel_rfl, ?_⟩) HBd.out ?_
  · (intro X hX; have _hX := hX <;> (go_simp; try (with_reducible rfl)))
  (try simp only [Act.put, List.setIfInBounds_toArray, List.set_cons_zero, List.set_cons_succ])
  refine wpAnyN_one (i := 3) (o := { dst := some 25, op := Go.Op.load 38 (Go.Operand.tmp 3), type := 38, pos := "mirror.go:25", after := #[], guard := none }) (by kernel_rfl) rfl (fun K hK => ?_)
  refine wp_load_mid 38 _ rfl w.heap.size 0 rfl _ _ HC.out Tryd.underlying38 rfl Tryd.sizeCm ?_
  refine hK.out _ _ (fun _ => HBd.out) ?_
  clear hK K
  (try simp only [Act.put, List.setIfInBounds_toArray, List.set_cons_zero, List.set_cons_succ])
  refine wpAnyN_one (i := 4) (o := { dst := some 26, op := Go.Op.call { callee := Go.Callee.value (Go.Operand.func 19), args := #[Go.Operand.tmp 25], argTypes := #[38] }, type := 78, pos := "mirror.go:25", after := #[{ on := 3, ground := Go.Ground.data }], guard := none }) (by kernel_rfl) rfl (fun K hK => ?_)
  go_simp
  refine (HAs.out _).mono ?_
  rintro e w3 ⟨rfl, hb3⟩
  have HB3 := Lib.hid (undrew hb3)
  clear hb3
  refine hK.out _ _ (fun _ => HB3.out) ?_
  clear hK K
  (try simp only [Act.put, List.setIfInBounds_toArray, List.set_cons_zero, List.set_cons_succ])
  refine wpAnyN_one (i := 5) (o := { dst := some 27, op := Go.Op.call { callee := Go.Callee.value (Go.Operand.func 18), args := #[Go.Operand.tmp 24, Go.Operand.tmp 26], argTypes := #[69, 78] }, type := 0, pos := "mirror.go:25", after := #[{ on := 2, ground := Go.Ground.data }, { on := 4, ground := Go.Ground.data }, { on := 4, ground := Go.Ground.chain }], guard := none }) (by kernel_rfl) rfl (fun K hK => ?_)
  go_simp
  refine (HPu.out _ HB3.out).mono ?_
  rintro e w4 ⟨rfl, hp⟩
  have HP4 := Lib.hid hp
  clear hp
  refine hK.out _ _ (fun e => absurd (e.symm.trans (by kernel_rfl) : false = true) Bool.false_ne_true) ?_
  clear hK K
  (try simp only [Act.put, List.setIfInBounds_toArray, List.set_cons_zero, List.set_cons_succ])
  refine wpAnyN_of_H (S' := fun _ => True) _ _ _ _ (by kernel_rfl) ?_
  refine wpAnyH_done (by kernel_rfl) ?_ _
  go_wp2_with fail
  go_ret
  first | exact ⟨rfl, HP4.out⟩ | exact HP4.out
end Go.Proofs.YtlmlbcnjohjnlaaDoor
