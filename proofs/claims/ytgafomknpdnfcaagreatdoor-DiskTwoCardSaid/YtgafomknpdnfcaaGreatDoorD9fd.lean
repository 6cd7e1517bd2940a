/- The document's disk, empty. -/
import Derived.Test.YtgafomknpdnfcaaGreatDoorD9fc
import Derived.Test.YtgafomknpdnfcaaGreatDoorD9ya
import Derived.Test.YtgafomknpdnfcaaGreatDoorD9xa
namespace Go.Proofs.YtgafomknpdnfcaaGreatDoor
open Go.RowKit Go.Lib Go.Sort

def refD (q : Int) : Value := .agg #[.slice none 0 0, .int .i64 q, .int .i64 0, .slice none 0 0, .int .i64 0, .bool false]
theorem Tryz.sizeRefD : (Tryz.prog.info? 32).map (·.size) = some 6 := by kernel_rfl
theorem rNew_ok (q : Int) (h1 : 1 ≤ q) (h2 : q ≤ 1048576) (w : World) : Calls Tryz.prog 7 #[.int .i64 q] w fun e w' => e = .returned (.tuple #[refD q, .int .i64 0]) ∧ Below w.heap.size w w' := by
  have e1 : ¬ q < 1 := by omega
  have e2 : ¬ 1048576 < q := by omega
  unfold refD
  go_enter Tryz.func7, Tryz.ntmps7
  go_wp2
  refine bodyPost_ret (res2 rfl _ _ w.heap.size 32 #[.slice none 0 0, .int .i64 q, .int .i64 0, .slice none 0 0, .int .i64 0, .bool false] (0, 0) _ rfl (heap_alloc_new _ _) Tryz.underlying32 rfl Tryz.sizeRefD) rfl ?_
  exact ⟨rfl, (Below.refl _ _).alloc (Nat.le_refl _) _⟩
theorem rNew_bad (q : Int) (h : q < 1 ∨ 1048576 < q) (w : World) : Calls Tryz.prog 7 #[.int .i64 q] w fun e w' => e = .returned (.tuple #[refD 0, .int .i64 3]) ∧ Below w.heap.size w w' := by
  unfold refD
  by_cases e1 : q < 1
  · clear h
    go_enter Tryz.func7, Tryz.ntmps7
    go_wp2
    refine bodyPost_ret (res2 rfl _ _ w.heap.size 32 #[.slice none 0 0, .int .i64 0, .int .i64 0, .slice none 0 0, .int .i64 0, .bool false] (0, 0) _ rfl (heap_alloc_new _ _) Tryz.underlying32 rfl Tryz.sizeRefD) rfl ?_
    exact ⟨rfl, (Below.refl _ _).alloc (Nat.le_refl _) _⟩
  · have e2 : 1048576 < q := by omega
    clear h
    go_enter Tryz.func7, Tryz.ntmps7
    go_wp2
    refine bodyPost_ret (res2 rfl _ _ w.heap.size 32 #[.slice none 0 0, .int .i64 0, .int .i64 0, .slice none 0 0, .int .i64 0, .bool false] (0, 0) _ rfl (heap_alloc_new _ _) Tryz.underlying32 rfl Tryz.sizeRefD) rfl ?_
    exact ⟨rfl, (Below.refl _ _).alloc (Nat.le_refl _) _⟩
theorem rNames (q : Int) (w : World) : Calls Tryz.prog 26 #[refD q] w fun e w' => e = .returned (.slice none 0 0) ∧ Below w.heap.size w w' := by
  unfold refD
  go_enter Tryz.func26, Tryz.ntmps26
  go_wp2
  refine wp_loop_rounds 1 ?_
  rw [rounds_succ]
  go_wp2
  go_ret
  exact ⟨rfl, (Below.refl _ _).alloc (Nat.le_refl _) _⟩
theorem rUsed (q : Int) (w : World) : Calls Tryz.prog 28 #[refD q] w fun e w' => e = .returned (.int .i64 0) ∧ Below w.heap.size w w' := by
  unfold refD
  go_enter Tryz.func28, Tryz.ntmps28
  go_wp2
  refine wp_loop_rounds 1 ?_
  rw [rounds_succ]
  go_wp2
  go_ret
  exact ⟨rfl, (Below.refl _ _).alloc (Nat.le_refl _) _⟩
theorem rFind (q : Int) (n : ByteArray) (w : World) : Calls Tryz.prog 48 #[refD q, .string n] w fun e w' => e = .returned (.int .i64 (-1)) ∧ Below w.heap.size w w' := by
  unfold refD
  go_enter Tryz.func48, Tryz.ntmps48
  go_wp2
  refine wp_loop_rounds 1 ?_
  rw [rounds_succ]
  go_wp2
  go_ret
  exact ⟨rfl, (Below.refl _ _).alloc (Nat.le_refl _) _⟩
theorem rIsDown (q : Int) (hq : 1 ≤ q) (w : World) : Calls Tryz.prog 31 #[refD q] w fun e w' => e = .returned (.bool false) ∧ Below w.heap.size w w' := by
  have e1 : (q == 0) = false := beqI_no (by omega)
  unfold refD
  go_enter Tryz.func31, Tryz.ntmps31
  go_wp2
  go_ret
  exact ⟨rfl, (Below.refl _ _).alloc (Nat.le_refl _) _⟩
theorem rPeek (q : Int) (n : ByteArray) (w : World) : Calls Tryz.prog 59 #[refD q, .string n] w fun e w' => e = .returned (.tuple #[.string ⟨#[]⟩, .bool false]) ∧ Below w.heap.size w w' := by
  have HF := Lib.hid (fun W => rFind q n W)
  unfold refD at *
  have hb : Below w.heap.size w (w.alloc (.cells #[.slice none 0 0, .int .i64 q, .int .i64 0, .slice none 0 0, .int .i64 0, .bool false] 32)) := (Below.refl _ _).alloc (Nat.le_refl _) _
  have HB := Lib.hid hb
  clear hb
  go_enter Tryz.func59, Tryz.ntmps59
  go_wp2_with (go_at_call 48; refine (HF.out _).mono ?_; rintro e w2 ⟨rfl, hb2⟩; have HB2 := Lib.hid hb2; clear hb2)
  go_ret2
  exact ⟨rfl, HB.out.trans (HB2.out.mono (by simp))⟩
theorem rSize (q : Int) (n : ByteArray) (w : World) : Calls Tryz.prog 61 #[refD q, .string n] w fun e w' => e = .returned (.int .i64 (-1)) ∧ Below w.heap.size w w' := by
  have HF := Lib.hid (fun W => rFind q n W)
  unfold refD at *
  have hb : Below w.heap.size w (w.alloc (.cells #[.slice none 0 0, .int .i64 q, .int .i64 0, .slice none 0 0, .int .i64 0, .bool false] 32)) := (Below.refl _ _).alloc (Nat.le_refl _) _
  have HB := Lib.hid hb
  clear hb
  go_enter Tryz.func61, Tryz.ntmps61
  go_wp2_with (go_at_call 48; refine (HF.out _).mono ?_; rintro e w2 ⟨rfl, hb2⟩; have HB2 := Lib.hid hb2; clear hb2)
  go_ret
  exact ⟨rfl, HB.out.trans (HB2.out.mono (by simp))⟩
theorem texts_none (a b : Option Addr) (c e : Nat) (w : World) : Calls Tryz.prog 27 #[.slice a 0 c, .slice b 0 e] w fun e w' => e = .returned (.bool true) ∧ w' = w := by
  go_enter Tryz.func27, Tryz.ntmps27
  go_wp2
  refine wp_loop_rounds 1 ?_
  rw [rounds_succ]
  go_wp2
  go_ret
  exact ⟨rfl, rfl⟩
theorem NamesD {A : Whys} {w0 w : World} {d : Nat} {S : DS} {P : List PF} {K : List (Nat × Obj)} (h : Dk A w0 d S P K w) (hP : P.length ≤ 1000000) :
    Calls Tryz.prog 25 #[.pointer (some ⟨d, 0, none⟩)] w fun e w' => ∃ (v : Value) (Ts : List (List UInt8)), e = .returned v ∧ Ts.Perm (P.map fun p => L p.name) ∧ Ts.Pairwise (fun x y => x ≤ y) ∧ w'.ownsRow w.heap.size 9 1 v Ts.length (Ts.map encStr) ∧ Below w.heap.size w w' := by
  obtain ⟨m, sv, clk, F, hD, rfl, hb, he, hK⟩ := h
  refine (Names_any hD (by simpa using hP)).mono ?_
  rintro e w' ⟨v, Ts, rfl, h1, h2, h3, h4⟩
  refine ⟨v, Ts, rfl, ?_, h2, h3, h4⟩
  rw [List.map_map]
  exact h1
theorem Peek_none {A : Whys} {w0 w : World} {d : Nat} {S : DS} {K : List (Nat × Obj)} (h : Dk A w0 d S [] K w) (n : ByteArray) :
    Calls Tryz.prog 58 #[.pointer (some ⟨d, 0, none⟩), .string n] w fun e w' => e = .returned (.tuple #[.string ⟨#[]⟩, .bool false]) ∧ w' = w := by
  obtain ⟨m, sv, clk, F, hD, hF, hb, he, hK⟩ := h
  have hF : F = [] := List.map_eq_nil_iff.1 hF
  subst hF
  have HF := Lib.hid (find_no hD n (fun g hg => by cases hg))
  clear hD hb he hK
  go_enter Tryz.func58, Tryz.ntmps58
  go_wp2_with (go_at_call 63; refine HF.out.mono ?_; rintro e w2 ⟨rfl, hw2⟩; subst w2)
  go_ret2
  exact ⟨rfl, rfl⟩
abbrev refO (q : Int) : Obj := .cells #[.slice none 0 0, .int .i64 q, .int .i64 0, .slice none 0 0, .int .i64 0, .bool false] 32 (0, 0)
/-- The document's disk in a box. -/
theorem box_ref {q : Int} {b : Nat} {W1 : World} (h : W1.heap[b]? = some (refO q)) : ∀ W, Below W1.heap.size W1 W → W.cell? ⟨b, 0, none⟩ = some (.slice none 0 0) ∧ W.cell? ⟨b, 1, none⟩ = some (.int .i64 q) ∧ W.cell? ⟨b, 2, none⟩ = some (.int .i64 0) ∧ W.cell? ⟨b, 3, none⟩ = some (.slice none 0 0) ∧ W.cell? ⟨b, 4, none⟩ = some (.int .i64 0) ∧ W.cell? ⟨b, 5, none⟩ = some (.bool false) := by
  intro W hW
  have h2 : W.heap[b]? = some (refO q) := by rw [hW.block _ (lt_of_heap h)]; exact h
  exact ⟨cell_of h2 0, cell_of h2 1, cell_of h2 2, cell_of h2 3, cell_of h2 4, cell_of h2 5⟩
set_option maxHeartbeats 2000000 in
theorem peeked_none {A : Whys} {w0 w : World} {d : Nat} {S : DS} {K : List (Nat × Obj)} (h : Dk A w0 d S [] K w) (q : Int) (n : ByteArray) :
    Calls Tryz.prog 32 #[.pointer (some ⟨d, 0, none⟩), refD q, .string n] w fun e w' => e = .returned (.bool true) ∧ Below w.heap.size w w' := by
  obtain ⟨W1, hW1⟩ : ∃ W1, w.alloc (.cells #[.slice none 0 0, .int .i64 q, .int .i64 0, .slice none 0 0, .int .i64 0, .bool false] 32) = W1 := ⟨_, rfl⟩
  have hb1 : Below w.heap.size w W1 := by rw [← hW1]; exact (Below.refl _ _).alloc (Nat.le_refl _) _
  have ho1 : W1.heap[w.heap.size]? = some (refO q) := by rw [← hW1]; exact heap_alloc_new _ _
  have h1 := h.up hb1
  have HP := Lib.hid (fun W (hW : Below W1.heap.size W1 W) => Peek_none (h1.up hW) n)
  have HS : Hid (∀ W, Below W1.heap.size W1 W → Calls Tryz.prog 60 #[.pointer (some ⟨d, 0, none⟩), .string n] W fun e w' => e = .returned (.int .i64 (-1)) ∧ w' = W) := Lib.hid (fun W hW => SizeD (h1.up hW) n)
  have HRP : Hid (∀ W, Below W1.heap.size W1 W → Calls Tryz.prog 59 #[refD q, .string n] W fun e w' => e = .returned (.tuple #[.string ⟨#[]⟩, .bool false]) ∧ Below W1.heap.size W1 w') := Lib.hid (fun W hW => (rPeek q n W).mono (fun e w' ⟨h1, h2⟩ => ⟨h1, hW.trans (h2.mono hW.size)⟩))
  have HRS : Hid (∀ W, Below W1.heap.size W1 W → Calls Tryz.prog 61 #[refD q, .string n] W fun e w' => e = .returned (.int .i64 (-1)) ∧ Below W1.heap.size W1 w') := Lib.hid (fun W hW => (rSize q n W).mono (fun e w' ⟨h1, h2⟩ => ⟨h1, hW.trans (h2.mono hW.size)⟩))
  have HB := Lib.hid (Below.refl W1.heap.size W1)
  have HX := Lib.hid (box_ref ho1)
  obtain ⟨x0, x1, x2, x3, x4, x5⟩ := HX.out W1 HB.out
  have HE : Hid (∀ W, Below W1.heap.size W1 W → Below w.heap.size w W) := Lib.hid (fun W hW => hb1.trans (hW.mono hb1.size))
  have HW := Lib.hid hW1
  clear h h1 hW1 hb1 ho1
  unfold refD at *
  go_enter Tryz.func32, Tryz.ntmps32
  go_upto_region 1 with fail
  rw [HW.out]
  go_upto_region 3 with (first | (go_at_call 58; refine (HP.out _ HB.out).mono ?_; rintro e w2 ⟨rfl, hw2⟩; subst w2) | (go_at_call 59; refine (HRP.out _ HB.out).mono ?_; rintro e w3 ⟨rfl, hb3⟩; have HB3 := Lib.hid hb3; clear hb3))
  clear x0 x1 x2 x3 x4 x5
  --R peeked--
  refine wp_region_N 17 (fun X => Below W1.heap.size W1 X) (by kernel_rfl) ?_
  refine wpAnyN_take (i := 0) (oi := { dst := some 23, op := Go.Op.move (Go.Operand.tmp 7), type := 9, pos := "law.go:89", after := #[], guard := none }) (oL := { dst := some 6, op := Go.Op.assign (Go.Operand.tmp 39), type := 4, pos := "law.go:89", after := #[{ on := 16, ground := Go.Ground.data }, { on := 14, ground := Go.Ground.chain }, { on := 0, ground := Go.Ground.phase }, { on := 1, ground := Go.Ground.phase }, { on := 2, ground := Go.Ground.phase }, { on := 3, ground := Go.Ground.phase }, { on := 4, ground := Go.Ground.phase }, { on := 5, ground := Go.Ground.phase }, { on := 6, ground := Go.Ground.phase }, { on := 7, ground := Go.Ground.phase }, { on := 8, ground := Go.Ground.phase }, { on := 9, ground := Go.Ground.phase }, { on := 10, ground := Go.Ground.phase }, { on := 11, ground := Go.Ground.phase }, { on := 12, ground := Go.Ground.phase }, { on := 13, ground := Go.Ground.phase }, { on := 14, ground := Go.Ground.phase }, { on := 15, ground := Go.Ground.phase }, { on := 16, ground := Go.Ground.phase }], guard := none }) (v := .string ⟨#[]⟩) rfl rfl (by kernel_rfl) (by kernel_rfl) (by kernel_rfl) (by kernel_rfl) (fun _ _ _ h => h) (Or.inl ⟨by kernel_rfl, ?_⟩) HB3.out.drew ?_
  · (intro X hX; obtain ⟨z0, z1, z2, z3, z4, z5⟩ := HX.out X hX <;> (go_simp; try (with_reducible rfl)))
  (try simp only [Act.put, List.setIfInBounds_toArray, List.set_cons_zero, List.set_cons_succ])
  refine wpAnyN_take (i := 1) (oi := { dst := some 24, op := Go.Op.move (Go.Operand.tmp 9), type := 9, pos := "law.go:89", after := #[], guard := none }) (oL := { dst := some 6, op := Go.Op.assign (Go.Operand.tmp 39), type := 4, pos := "law.go:89", after := #[{ on := 16, ground := Go.Ground.data }, { on := 14, ground := Go.Ground.chain }, { on := 0, ground := Go.Ground.phase }, { on := 1, ground := Go.Ground.phase }, { on := 2, ground := Go.Ground.phase }, { on := 3, ground := Go.Ground.phase }, { on := 4, ground := Go.Ground.phase }, { on := 5, ground := Go.Ground.phase }, { on := 6, ground := Go.Ground.phase }, { on := 7, ground := Go.Ground.phase }, { on := 8, ground := Go.Ground.phase }, { on := 9, ground := Go.Ground.phase }, { on := 10, ground := Go.Ground.phase }, { on := 11, ground := Go.Ground.phase }, { on := 12, ground := Go.Ground.phase }, { on := 13, ground := Go.Ground.phase }, { on := 14, ground := Go.Ground.phase }, { on := 15, ground := Go.Ground.phase }, { on := 16, ground := Go.Ground.phase }], guard := none }) (v := .string ⟨#[]⟩) rfl rfl (by kernel_rfl) (by kernel_rfl) (by kernel_rfl) (by kernel_rfl) (fun _ _ _ h => h) (Or.inl ⟨by kernel_rfl, ?_⟩) HB3.out.drew ?_
  · (intro X hX; obtain ⟨z0, z1, z2, z3, z4, z5⟩ := HX.out X hX <;> (go_simp; try (with_reducible rfl)))
  (try simp only [Act.put, List.setIfInBounds_toArray, List.set_cons_zero, List.set_cons_succ])
  refine wpAnyN_take (i := 2) (oi := { dst := some 25, op := Go.Op.binOp Go.BinOp.eql 9 (Go.Operand.tmp 23) (Go.Operand.tmp 24) 9, type := 4, pos := "law.go:89", after := #[{ on := 0, ground := Go.Ground.data }, { on := 1, ground := Go.Ground.data }], guard := none }) (oL := { dst := some 6, op := Go.Op.assign (Go.Operand.tmp 39), type := 4, pos := "law.go:89", after := #[{ on := 16, ground := Go.Ground.data }, { on := 14, ground := Go.Ground.chain }, { on := 0, ground := Go.Ground.phase }, { on := 1, ground := Go.Ground.phase }, { on := 2, ground := Go.Ground.phase }, { on := 3, ground := Go.Ground.phase }, { on := 4, ground := Go.Ground.phase }, { on := 5, ground := Go.Ground.phase }, { on := 6, ground := Go.Ground.phase }, { on := 7, ground := Go.Ground.phase }, { on := 8, ground := Go.Ground.phase }, { on := 9, ground := Go.Ground.phase }, { on := 10, ground := Go.Ground.phase }, { on := 11, ground := Go.Ground.phase }, { on := 12, ground := Go.Ground.phase }, { on := 13, ground := Go.Ground.phase }, { on := 14, ground := Go.Ground.phase }, { on := 15, ground := Go.Ground.phase }, { on := 16, ground := Go.Ground.phase }], guard := none }) (v := .bool true) rfl rfl (by kernel_rfl) (by kernel_rfl) (by kernel_rfl) (by kernel_rfl) (fun _ _ _ h => h) (Or.inl ⟨by kernel_rfl, ?_⟩) HB3.out.drew ?_
  · (intro X hX; obtain ⟨z0, z1, z2, z3, z4, z5⟩ := HX.out X hX <;> (go_simp; try (with_reducible rfl)))
  (try simp only [Act.put, List.setIfInBounds_toArray, List.set_cons_zero, List.set_cons_succ])
  refine wpAnyN_take (i := 3) (oi := { dst := some 26, op := Go.Op.move (Go.Operand.tmp 25), type := 4, pos := "law.go:89", after := #[{ on := 2, ground := Go.Ground.data }], guard := none }) (oL := { dst := some 6, op := Go.Op.assign (Go.Operand.tmp 39), type := 4, pos := "law.go:89", after := #[{ on := 16, ground := Go.Ground.data }, { on := 14, ground := Go.Ground.chain }, { on := 0, ground := Go.Ground.phase }, { on := 1, ground := Go.Ground.phase }, { on := 2, ground := Go.Ground.phase }, { on := 3, ground := Go.Ground.phase }, { on := 4, ground := Go.Ground.phase }, { on := 5, ground := Go.Ground.phase }, { on := 6, ground := Go.Ground.phase }, { on := 7, ground := Go.Ground.phase }, { on := 8, ground := Go.Ground.phase }, { on := 9, ground := Go.Ground.phase }, { on := 10, ground := Go.Ground.phase }, { on := 11, ground := Go.Ground.phase }, { on := 12, ground := Go.Ground.phase }, { on := 13, ground := Go.Ground.phase }, { on := 14, ground := Go.Ground.phase }, { on := 15, ground := Go.Ground.phase }, { on := 16, ground := Go.Ground.phase }], guard := none }) (v := .bool true) rfl rfl (by kernel_rfl) (by kernel_rfl) (by kernel_rfl) (by kernel_rfl) (fun _ _ _ h => h) (Or.inl ⟨by kernel_rfl, ?_⟩) HB3.out.drew ?_
  · (intro X hX; obtain ⟨z0, z1, z2, z3, z4, z5⟩ := HX.out X hX <;> (go_simp; try (with_reducible rfl)))
  (try simp only [Act.put, List.setIfInBounds_toArray, List.set_cons_zero, List.set_cons_succ])
  refine wpAnyN_take (i := 4) (oi := { dst := some 27, op := Go.Op.move (Go.Operand.tmp 8), type := 4, pos := "law.go:89", after := #[{ on := 3, ground := Go.Ground.guard }], guard := some (3, true) }) (oL := { dst := some 6, op := Go.Op.assign (Go.Operand.tmp 39), type := 4, pos := "law.go:89", after := #[{ on := 16, ground := Go.Ground.data }, { on := 14, ground := Go.Ground.chain }, { on := 0, ground := Go.Ground.phase }, { on := 1, ground := Go.Ground.phase }, { on := 2, ground := Go.Ground.phase }, { on := 3, ground := Go.Ground.phase }, { on := 4, ground := Go.Ground.phase }, { on := 5, ground := Go.Ground.phase }, { on := 6, ground := Go.Ground.phase }, { on := 7, ground := Go.Ground.phase }, { on := 8, ground := Go.Ground.phase }, { on := 9, ground := Go.Ground.phase }, { on := 10, ground := Go.Ground.phase }, { on := 11, ground := Go.Ground.phase }, { on := 12, ground := Go.Ground.phase }, { on := 13, ground := Go.Ground.phase }, { on := 14, ground := Go.Ground.phase }, { on := 15, ground := Go.Ground.phase }, { on := 16, ground := Go.Ground.phase }], guard := none }) (v := .bool false) rfl rfl (by kernel_rfl) (by kernel_rfl) (by kernel_rfl) (by kernel_rfl) (fun _ _ _ h => h) (Or.inl ⟨by kernel_rfl, ?_⟩) HB3.out.drew ?_
  · (intro X hX; obtain ⟨z0, z1, z2, z3, z4, z5⟩ := HX.out X hX <;> (go_simp; try (with_reducible rfl)))
  (try simp only [Act.put, List.setIfInBounds_toArray, List.set_cons_zero, List.set_cons_succ])
  refine wpAnyN_take (i := 5) (oi := { dst := some 28, op := Go.Op.move (Go.Operand.tmp 10), type := 4, pos := "law.go:89", after := #[{ on := 3, ground := Go.Ground.guard }], guard := some (3, true) }) (oL := { dst := some 6, op := Go.Op.assign (Go.Operand.tmp 39), type := 4, pos := "law.go:89", after := #[{ on := 16, ground := Go.Ground.data }, { on := 14, ground := Go.Ground.chain }, { on := 0, ground := Go.Ground.phase }, { on := 1, ground := Go.Ground.phase }, { on := 2, ground := Go.Ground.phase }, { on := 3, ground := Go.Ground.phase }, { on := 4, ground := Go.Ground.phase }, { on := 5, ground := Go.Ground.phase }, { on := 6, ground := Go.Ground.phase }, { on := 7, ground := Go.Ground.phase }, { on := 8, ground := Go.Ground.phase }, { on := 9, ground := Go.Ground.phase }, { on := 10, ground := Go.Ground.phase }, { on := 11, ground := Go.Ground.phase }, { on := 12, ground := Go.Ground.phase }, { on := 13, ground := Go.Ground.phase }, { on := 14, ground := Go.Ground.phase }, { on := 15, ground := Go.Ground.phase }, { on := 16, ground := Go.Ground.phase }], guard := none }) (v := .bool false) rfl rfl (by kernel_rfl) (by kernel_rfl) (by kernel_rfl) (by kernel_rfl) (fun _ _ _ h => h) (Or.inl ⟨by kernel_rfl, ?_⟩) HB3.out.drew ?_
  · (intro X hX; obtain ⟨z0, z1, z2, z3, z4, z5⟩ := HX.out X hX <;> (go_simp; try (with_reducible rfl)))
  (try simp only [Act.put, List.setIfInBounds_toArray, List.set_cons_zero, List.set_cons_succ])
  refine wpAnyN_take (i := 6) (oi := { dst := some 29, op := Go.Op.binOp Go.BinOp.eql 4 (Go.Operand.tmp 27) (Go.Operand.tmp 28) 4, type := 4, pos := "law.go:89", after := #[{ on := 4, ground := Go.Ground.data }, { on := 5, ground := Go.Ground.data }, { on := 3, ground := Go.Ground.guard }], guard := some (3, true) }) (oL := { dst := some 6, op := Go.Op.assign (Go.Operand.tmp 39), type := 4, pos := "law.go:89", after := #[{ on := 16, ground := Go.Ground.data }, { on := 14, ground := Go.Ground.chain }, { on := 0, ground := Go.Ground.phase }, { on := 1, ground := Go.Ground.phase }, { on := 2, ground := Go.Ground.phase }, { on := 3, ground := Go.Ground.phase }, { on := 4, ground := Go.Ground.phase }, { on := 5, ground := Go.Ground.phase }, { on := 6, ground := Go.Ground.phase }, { on := 7, ground := Go.Ground.phase }, { on := 8, ground := Go.Ground.phase }, { on := 9, ground := Go.Ground.phase }, { on := 10, ground := Go.Ground.phase }, { on := 11, ground := Go.Ground.phase }, { on := 12, ground := Go.Ground.phase }, { on := 13, ground := Go.Ground.phase }, { on := 14, ground := Go.Ground.phase }, { on := 15, ground := Go.Ground.phase }, { on := 16, ground := Go.Ground.phase }], guard := none }) (v := .bool true) rfl rfl (by kernel_rfl) (by kernel_rfl) (by kernel_rfl) (by kernel_rfl) (fun _ _ _ h => h) (Or.inl ⟨by kernel_rfl, ?_⟩) HB3.out.drew ?_
  · (intro X hX; obtain ⟨z0, z1, z2, z3, z4, z5⟩ := HX.out X hX <;> (go_simp; try (with_reducible rfl)))
  (try simp only [Act.put, List.setIfInBounds_toArray, List.set_cons_zero, List.set_cons_succ])
  refine wpAnyN_take (i := 7) (oi := { dst := some 30, op := Go.Op.pick (Go.Operand.tmp 26) (Go.Operand.tmp 29) (Go.Operand.const (Go.Value.bool false)), type := 4, pos := "law.go:89", after := #[{ on := 3, ground := Go.Ground.data }, { on := 6, ground := Go.Ground.data }], guard := none }) (oL := { dst := some 6, op := Go.Op.assign (Go.Operand.tmp 39), type := 4, pos := "law.go:89", after := #[{ on := 16, ground := Go.Ground.data }, { on := 14, ground := Go.Ground.chain }, { on := 0, ground := Go.Ground.phase }, { on := 1, ground := Go.Ground.phase }, { on := 2, ground := Go.Ground.phase }, { on := 3, ground := Go.Ground.phase }, { on := 4, ground := Go.Ground.phase }, { on := 5, ground := Go.Ground.phase }, { on := 6, ground := Go.Ground.phase }, { on := 7, ground := Go.Ground.phase }, { on := 8, ground := Go.Ground.phase }, { on := 9, ground := Go.Ground.phase }, { on := 10, ground := Go.Ground.phase }, { on := 11, ground := Go.Ground.phase }, { on := 12, ground := Go.Ground.phase }, { on := 13, ground := Go.Ground.phase }, { on := 14, ground := Go.Ground.phase }, { on := 15, ground := Go.Ground.phase }, { on := 16, ground := Go.Ground.phase }], guard := none }) (v := .bool true) rfl rfl (by kernel_rfl) (by kernel_rfl) (by kernel_rfl) (by kernel_rfl) (fun _ _ _ h => h) (Or.inl ⟨by kernel_rfl, ?_⟩) HB3.out.drew ?_
  · (intro X hX; obtain ⟨z0, z1, z2, z3, z4, z5⟩ := HX.out X hX <;> (go_simp; try (with_reducible rfl)))
  (try simp only [Act.put, List.setIfInBounds_toArray, List.set_cons_zero, List.set_cons_succ])
  refine wpAnyN_take (i := 8) (oi := { dst := some 31, op := Go.Op.move (Go.Operand.tmp 30), type := 4, pos := "law.go:89", after := #[{ on := 7, ground := Go.Ground.data }, { on := 3, ground := Go.Ground.chain }], guard := none }) (oL := { dst := some 6, op := Go.Op.assign (Go.Operand.tmp 39), type := 4, pos := "law.go:89", after := #[{ on := 16, ground := Go.Ground.data }, { on := 14, ground := Go.Ground.chain }, { on := 0, ground := Go.Ground.phase }, { on := 1, ground := Go.Ground.phase }, { on := 2, ground := Go.Ground.phase }, { on := 3, ground := Go.Ground.phase }, { on := 4, ground := Go.Ground.phase }, { on := 5, ground := Go.Ground.phase }, { on := 6, ground := Go.Ground.phase }, { on := 7, ground := Go.Ground.phase }, { on := 8, ground := Go.Ground.phase }, { on := 9, ground := Go.Ground.phase }, { on := 10, ground := Go.Ground.phase }, { on := 11, ground := Go.Ground.phase }, { on := 12, ground := Go.Ground.phase }, { on := 13, ground := Go.Ground.phase }, { on := 14, ground := Go.Ground.phase }, { on := 15, ground := Go.Ground.phase }, { on := 16, ground := Go.Ground.phase }], guard := none }) (v := .bool true) rfl rfl (by kernel_rfl) (by kernel_rfl) (by kernel_rfl) (by kernel_rfl) (fun _ _ _ h => h) (Or.inl ⟨by kernel_rfl, ?_⟩) HB3.out.drew ?_
  · (intro X hX; obtain ⟨z0, z1, z2, z3, z4, z5⟩ := HX.out X hX <;> (go_simp; try (with_reducible rfl)))
  (try simp only [Act.put, List.setIfInBounds_toArray, List.set_cons_zero, List.set_cons_succ])
  refine wpAnyN_take (i := 9) (oi := { dst := some 32, op := Go.Op.move (Go.Operand.tmp 0), type := 24, pos := "law.go:89", after := #[{ on := 8, ground := Go.Ground.guard }], guard := some (8, true) }) (oL := { dst := some 6, op := Go.Op.assign (Go.Operand.tmp 39), type := 4, pos := "law.go:89", after := #[{ on := 16, ground := Go.Ground.data }, { on := 14, ground := Go.Ground.chain }, { on := 0, ground := Go.Ground.phase }, { on := 1, ground := Go.Ground.phase }, { on := 2, ground := Go.Ground.phase }, { on := 3, ground := Go.Ground.phase }, { on := 4, ground := Go.Ground.phase }, { on := 5, ground := Go.Ground.phase }, { on := 6, ground := Go.Ground.phase }, { on := 7, ground := Go.Ground.phase }, { on := 8, ground := Go.Ground.phase }, { on := 9, ground := Go.Ground.phase }, { on := 10, ground := Go.Ground.phase }, { on := 11, ground := Go.Ground.phase }, { on := 12, ground := Go.Ground.phase }, { on := 13, ground := Go.Ground.phase }, { on := 14, ground := Go.Ground.phase }, { on := 15, ground := Go.Ground.phase }, { on := 16, ground := Go.Ground.phase }], guard := none }) (v := .pointer (some ⟨d, 0, none⟩)) rfl rfl (by kernel_rfl) (by kernel_rfl) (by kernel_rfl) (by kernel_rfl) (fun _ _ _ h => h) (Or.inl ⟨by kernel_rfl, ?_⟩) HB3.out.drew ?_
  · (intro X hX; obtain ⟨z0, z1, z2, z3, z4, z5⟩ := HX.out X hX <;> (go_simp; try (with_reducible rfl)))
  (try simp only [Act.put, List.setIfInBounds_toArray, List.set_cons_zero, List.set_cons_succ])
  refine wpAnyN_take (i := 10) (oi := { dst := some 33, op := Go.Op.move (Go.Operand.tmp 2), type := 9, pos := "law.go:89", after := #[{ on := 8, ground := Go.Ground.guard }], guard := some (8, true) }) (oL := { dst := some 6, op := Go.Op.assign (Go.Operand.tmp 39), type := 4, pos := "law.go:89", after := #[{ on := 16, ground := Go.Ground.data }, { on := 14, ground := Go.Ground.chain }, { on := 0, ground := Go.Ground.phase }, { on := 1, ground := Go.Ground.phase }, { on := 2, ground := Go.Ground.phase }, { on := 3, ground := Go.Ground.phase }, { on := 4, ground := Go.Ground.phase }, { on := 5, ground := Go.Ground.phase }, { on := 6, ground := Go.Ground.phase }, { on := 7, ground := Go.Ground.phase }, { on := 8, ground := Go.Ground.phase }, { on := 9, ground := Go.Ground.phase }, { on := 10, ground := Go.Ground.phase }, { on := 11, ground := Go.Ground.phase }, { on := 12, ground := Go.Ground.phase }, { on := 13, ground := Go.Ground.phase }, { on := 14, ground := Go.Ground.phase }, { on := 15, ground := Go.Ground.phase }, { on := 16, ground := Go.Ground.phase }], guard := none }) (v := .string n) rfl rfl (by kernel_rfl) (by kernel_rfl) (by kernel_rfl) (by kernel_rfl) (fun _ _ _ h => h) (Or.inl ⟨by kernel_rfl, ?_⟩) HB3.out.drew ?_
  · (intro X hX; obtain ⟨z0, z1, z2, z3, z4, z5⟩ := HX.out X hX <;> (go_simp; try (with_reducible rfl)))
  (try simp only [Act.put, List.setIfInBounds_toArray, List.set_cons_zero, List.set_cons_succ])
  refine wpAnyN_take (i := 12) (oi := { dst := some 35, op := Go.Op.load 32 (Go.Operand.tmp 4), type := 32, pos := "law.go:89", after := #[{ on := 8, ground := Go.Ground.guard }], guard := some (8, true) }) (oL := { dst := some 6, op := Go.Op.assign (Go.Operand.tmp 39), type := 4, pos := "law.go:89", after := #[{ on := 16, ground := Go.Ground.data }, { on := 14, ground := Go.Ground.chain }, { on := 0, ground := Go.Ground.phase }, { on := 1, ground := Go.Ground.phase }, { on := 2, ground := Go.Ground.phase }, { on := 3, ground := Go.Ground.phase }, { on := 4, ground := Go.Ground.phase }, { on := 5, ground := Go.Ground.phase }, { on := 6, ground := Go.Ground.phase }, { on := 7, ground := Go.Ground.phase }, { on := 8, ground := Go.Ground.phase }, { on := 9, ground := Go.Ground.phase }, { on := 10, ground := Go.Ground.phase }, { on := 11, ground := Go.Ground.phase }, { on := 12, ground := Go.Ground.phase }, { on := 13, ground := Go.Ground.phase }, { on := 14, ground := Go.Ground.phase }, { on := 15, ground := Go.Ground.phase }, { on := 16, ground := Go.Ground.phase }], guard := none }) (v := .agg #[.slice none 0 0, .int .i64 q, .int .i64 0, .slice none 0 0, .int .i64 0, .bool false]) rfl rfl (by kernel_rfl) (by kernel_rfl) (by kernel_rfl) (by kernel_rfl) (fun _ _ _ h => h) (Or.inl ⟨by kernel_rfl, ?_⟩) HB3.out.drew ?_
  · (intro X hX; obtain ⟨z0, z1, z2, z3, z4, z5⟩ := HX.out X hX <;> (go_simp; try (with_reducible rfl)))
  (try simp only [Act.put, List.setIfInBounds_toArray, List.set_cons_zero, List.set_cons_succ])
  refine wpAnyN_take (i := 13) (oi := { dst := some 36, op := Go.Op.move (Go.Operand.tmp 2), type := 9, pos := "law.go:89", after := #[{ on := 8, ground := Go.Ground.guard }], guard := some (8, true) }) (oL := { dst := some 6, op := Go.Op.assign (Go.Operand.tmp 39), type := 4, pos := "law.go:89", after := #[{ on := 16, ground := Go.Ground.data }, { on := 14, ground := Go.Ground.chain }, { on := 0, ground := Go.Ground.phase }, { on := 1, ground := Go.Ground.phase }, { on := 2, ground := Go.Ground.phase }, { on := 3, ground := Go.Ground.phase }, { on := 4, ground := Go.Ground.phase }, { on := 5, ground := Go.Ground.phase }, { on := 6, ground := Go.Ground.phase }, { on := 7, ground := Go.Ground.phase }, { on := 8, ground := Go.Ground.phase }, { on := 9, ground := Go.Ground.phase }, { on := 10, ground := Go.Ground.phase }, { on := 11, ground := Go.Ground.phase }, { on := 12, ground := Go.Ground.phase }, { on := 13, ground := Go.Ground.phase }, { on := 14, ground := Go.Ground.phase }, { on := 15, ground := Go.Ground.phase }, { on := 16, ground := Go.Ground.phase }], guard := none }) (v := .string n) rfl rfl (by kernel_rfl) (by kernel_rfl) (by kernel_rfl) (by kernel_rfl) (fun _ _ _ h => h) (Or.inl ⟨by kernel_rfl, ?_⟩) HB3.out.drew ?_
  · (intro X hX; obtain ⟨z0, z1, z2, z3, z4, z5⟩ := HX.out X hX <;> (go_simp; try (with_reducible rfl)))
  (try simp only [Act.put, List.setIfInBounds_toArray, List.set_cons_zero, List.set_cons_succ])
  refine wpAnyN_one (i := 11) (o := { dst := some 34, op := Go.Op.call { callee := Go.Callee.value (Go.Operand.func 60), args := #[Go.Operand.tmp 32, Go.Operand.tmp 33], argTypes := #[24, 9] }, type := 3, pos := "law.go:89", after := #[{ on := 9, ground := Go.Ground.data }, { on := 10, ground := Go.Ground.data }, { on := 8, ground := Go.Ground.chain }, { on := 8, ground := Go.Ground.guard }], guard := some (8, true) }) (by kernel_rfl) rfl (fun K hK => ?_)
  go_simp
  refine (HS.out _ HB3.out.drew).mono ?_
  rintro e w2 ⟨rfl, hw2⟩
  subst w2
  refine hK.out _ _ (fun _ => HB3.out.drew) ?_
  clear hK K
  (try simp only [Act.put, List.setIfInBounds_toArray, List.set_cons_zero, List.set_cons_succ])
  refine wpAnyN_one (i := 14) (o := { dst := some 37, op := Go.Op.call { callee := Go.Callee.value (Go.Operand.func 61), args := #[Go.Operand.tmp 35, Go.Operand.tmp 36], argTypes := #[32, 9] }, type := 3, pos := "law.go:89", after := #[{ on := 12, ground := Go.Ground.data }, { on := 13, ground := Go.Ground.data }, { on := 11, ground := Go.Ground.chain }, { on := 8, ground := Go.Ground.guard }], guard := some (8, true) }) (by kernel_rfl) rfl (fun K hK => ?_)
  go_simp
  refine (HRS.out _ HB3.out.drew).mono ?_
  rintro e w4 ⟨rfl, hw4⟩
  have Hw4 := Lib.hid hw4
  clear hw4
  refine hK.out _ _ (fun _ => Hw4.out) ?_
  clear hK K
  (try simp only [Act.put, List.setIfInBounds_toArray, List.set_cons_zero, List.set_cons_succ])
  refine wpAnyN_take (i := 15) (oi := { dst := some 38, op := Go.Op.binOp Go.BinOp.eql 3 (Go.Operand.tmp 34) (Go.Operand.tmp 37) 3, type := 4, pos := "law.go:89", after := #[{ on := 11, ground := Go.Ground.data }, { on := 14, ground := Go.Ground.data }, { on := 8, ground := Go.Ground.guard }], guard := some (8, true) }) (oL := { dst := some 6, op := Go.Op.assign (Go.Operand.tmp 39), type := 4, pos := "law.go:89", after := #[{ on := 16, ground := Go.Ground.data }, { on := 14, ground := Go.Ground.chain }, { on := 0, ground := Go.Ground.phase }, { on := 1, ground := Go.Ground.phase }, { on := 2, ground := Go.Ground.phase }, { on := 3, ground := Go.Ground.phase }, { on := 4, ground := Go.Ground.phase }, { on := 5, ground := Go.Ground.phase }, { on := 6, ground := Go.Ground.phase }, { on := 7, ground := Go.Ground.phase }, { on := 8, ground := Go.Ground.phase }, { on := 9, ground := Go.Ground.phase }, { on := 10, ground := Go.Ground.phase }, { on := 11, ground := Go.Ground.phase }, { on := 12, ground := Go.Ground.phase }, { on := 13, ground := Go.Ground.phase }, { on := 14, ground := Go.Ground.phase }, { on := 15, ground := Go.Ground.phase }, { on := 16, ground := Go.Ground.phase }], guard := none }) (v := .bool true) rfl rfl (by kernel_rfl) (by kernel_rfl) (by kernel_rfl) (by kernel_rfl) (fun _ _ _ h => h) (Or.inl ⟨by kernel_rfl, ?_⟩) Hw4.out ?_
  · (intro X hX; obtain ⟨z0, z1, z2, z3, z4, z5⟩ := HX.out X hX <;> (go_simp; try (with_reducible rfl)))
  (try simp only [Act.put, List.setIfInBounds_toArray, List.set_cons_zero, List.set_cons_succ])
  refine wpAnyN_take (i := 16) (oi := { dst := some 39, op := Go.Op.pick (Go.Operand.tmp 31) (Go.Operand.tmp 38) (Go.Operand.const (Go.Value.bool false)), type := 4, pos := "law.go:89", after := #[{ on := 8, ground := Go.Ground.data }, { on := 15, ground := Go.Ground.data }], guard := none }) (oL := { dst := some 6, op := Go.Op.assign (Go.Operand.tmp 39), type := 4, pos := "law.go:89", after := #[{ on := 16, ground := Go.Ground.data }, { on := 14, ground := Go.Ground.chain }, { on := 0, ground := Go.Ground.phase }, { on := 1, ground := Go.Ground.phase }, { on := 2, ground := Go.Ground.phase }, { on := 3, ground := Go.Ground.phase }, { on := 4, ground := Go.Ground.phase }, { on := 5, ground := Go.Ground.phase }, { on := 6, ground := Go.Ground.phase }, { on := 7, ground := Go.Ground.phase }, { on := 8, ground := Go.Ground.phase }, { on := 9, ground := Go.Ground.phase }, { on := 10, ground := Go.Ground.phase }, { on := 11, ground := Go.Ground.phase }, { on := 12, ground := Go.Ground.phase }, { on := 13, ground := Go.Ground.phase }, { on := 14, ground := Go.Ground.phase }, { on := 15, ground := Go.Ground.phase }, { on := 16, ground := Go.Ground.phase }], guard := none }) (v := .bool true) rfl rfl (by kernel_rfl) (by kernel_rfl) (by kernel_rfl) (by kernel_rfl) (fun _ _ _ h => h) (Or.inl ⟨by kernel_rfl, ?_⟩) Hw4.out ?_
  · (intro X hX; obtain ⟨z0, z1, z2, z3, z4, z5⟩ := HX.out X hX <;> (go_simp; try (with_reducible rfl)))
  (try simp only [Act.put, List.setIfInBounds_toArray, List.set_cons_zero, List.set_cons_succ])
  refine wpAnyN_one (i := 17) (o := { dst := some 6, op := Go.Op.assign (Go.Operand.tmp 39), type := 4, pos := "law.go:89", after := #[{ on := 16, ground := Go.Ground.data }, { on := 14, ground := Go.Ground.chain }, { on := 0, ground := Go.Ground.phase }, { on := 1, ground := Go.Ground.phase }, { on := 2, ground := Go.Ground.phase }, { on := 3, ground := Go.Ground.phase }, { on := 4, ground := Go.Ground.phase }, { on := 5, ground := Go.Ground.phase }, { on := 6, ground := Go.Ground.phase }, { on := 7, ground := Go.Ground.phase }, { on := 8, ground := Go.Ground.phase }, { on := 9, ground := Go.Ground.phase }, { on := 10, ground := Go.Ground.phase }, { on := 11, ground := Go.Ground.phase }, { on := 12, ground := Go.Ground.phase }, { on := 13, ground := Go.Ground.phase }, { on := 14, ground := Go.Ground.phase }, { on := 15, ground := Go.Ground.phase }, { on := 16, ground := Go.Ground.phase }], guard := none }) (by kernel_rfl) rfl (fun K hK => ?_)
  go_simp
  refine hK.out _ _ (fun e => absurd (e.symm.trans (by kernel_rfl) : false = true) Bool.false_ne_true) ?_
  clear hK K
  (try simp only [Act.put, List.setIfInBounds_toArray, List.set_cons_zero, List.set_cons_succ])
  refine wpAnyN_of_H (S' := fun _ => True) _ _ _ _ (by kernel_rfl) ?_
  refine wpAnyH_done (by kernel_rfl) ?_ _
  --E peeked--
  go_wp2_with fail
  go_ret
  exact ⟨rfl, HE.out _ Hw4.out⟩
end Go.Proofs.YtgafomknpdnfcaaGreatDoor
