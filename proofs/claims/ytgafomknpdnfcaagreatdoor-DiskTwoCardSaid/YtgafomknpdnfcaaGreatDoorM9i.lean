/- postbaglaw9's peeked and same on both disks. -/
import Derived.Test.YtgafomknpdnfcaaGreatDoorM9f
import Derived.Test.YtgafomknpdnfcaaGreatDoorR9s
namespace Go.Proofs.YtgafomknpdnfcaaGreatDoor
open Go.RowKit Go.Lib

theorem Peek_no {B d m clk : Nat} {sv : Value} {S : DS} {F : List FE} {w : World} (h : DiskAt B d m clk sv S F w) (n : ByteArray) (hno : ∀ g, g ∈ F → g.name ≠ n) :
    Calls Tryz.prog 58 #[.pointer (some ⟨d, 0, none⟩), .string n] w fun e w' => e = .returned (.tuple #[.string ⟨#[]⟩, .bool false]) ∧ w' = w := by
  have HF := Lib.hid (find_no h n hno)
  clear h hno
  go_enter Tryz.func58, Tryz.ntmps58
  go_wp2_with (go_at_call 63; refine HF.out.mono ?_; rintro e w2 ⟨rfl, hw2⟩; subst w2)
  go_ret2
  exact ⟨rfl, rfl⟩
theorem Peek_hit {B d m clk : Nat} {sv : Value} {S : DS} {F1 F2 : List FE} {f : FE} {w : World} (h : DiskAt B d m clk sv S (F1 ++ f :: F2) w) (n : ByteArray) (hn : f.name = n) :
    Calls Tryz.prog 58 #[.pointer (some ⟨d, 0, none⟩), .string n] w fun e w' => e = .returned (.tuple #[.string (Proofs.YtgafomknpdnfcaaGreatDoor.S f.data), .bool true]) ∧ w' = w := by
  have HF := Lib.hid (find_hit h n hn (by rw [← hn]; exact (names_tail h.names).1))
  obtain ⟨a, c, hsh, ⟨b0, b1, bz⟩⟩ := h.fileC (f := f) (by simp)
  have hcv := back_own (h.files f (by simp)).row
  rw [hsh] at hcv
  clear h hn hsh
  go_enter Tryz.func58, Tryz.ntmps58
  go_wp2_with (go_at_call 63; refine HF.out.mono ?_; rintro e w2 ⟨rfl, hw2⟩; subst w2)
  go_ret2
  exact ⟨rfl, rfl⟩
theorem PeekD {A : Whys} {w0 w : World} {d : Nat} {S : DS} {P : List PF} {K : List (Nat × Obj)} (h : Dk A w0 d S P K w) (n : ByteArray) :
    Calls Tryz.prog 58 #[.pointer (some ⟨d, 0, none⟩), .string n] w fun e w' => e = .returned (.tuple #[.string (peekS n P), .bool (peekB n P)]) ∧ w' = w := by
  obtain ⟨m, sv, clk, F, hD, rfl, hb, he, hK⟩ := h
  by_cases hx : ∃ f, f ∈ F ∧ f.name = n
  · obtain ⟨f, hf, hn⟩ := hx
    obtain ⟨F1, F2, rfl⟩ := List.append_of_mem hf
    have hg : getP n ((F1 ++ f :: F2).map FE.pl) = some f.pl := find_pl hn (by rw [← hn]; exact (names_tail hD.names).1)
    have e1 : peekS n ((F1 ++ f :: F2).map FE.pl) = Proofs.YtgafomknpdnfcaaGreatDoor.S f.data := by unfold peekS; rw [hg]; rfl
    have e2 : peekB n ((F1 ++ f :: F2).map FE.pl) = true := by unfold peekB; rw [hg]; rfl
    rw [e1, e2]
    exact Peek_hit hD n hn
  · have hno : ∀ g, g ∈ F → g.name ≠ n := fun g hg e => hx ⟨g, hg, e⟩
    have hg : getP n (F.map FE.pl) = none := by
      unfold getP
      rw [List.find?_eq_none]
      intro p hp
      obtain ⟨f, hf, rfl⟩ := List.mem_map.1 hp
      simp [FE.pl, hno f hf]
    have e1 : peekS n (F.map FE.pl) = ⟨#[]⟩ := by unfold peekS; rw [hg]
    have e2 : peekB n (F.map FE.pl) = false := by unfold peekB; rw [hg]; rfl
    rw [e1, e2]
    exact Peek_no hD n hno
theorem box_dk {b : Nat} {fv sv : Value} {qu st si : Int} {dn : Bool} {W1 : World} (h : W1.heap[b]? = some (.cells #[fv, .int .i64 qu, .int .i64 st, sv, .int .i64 si, .bool dn] 32 (0, 0))) : ∀ W, Below W1.heap.size W1 W → W.cell? ⟨b, 0, none⟩ = some fv ∧ W.cell? ⟨b, 1, none⟩ = some (.int .i64 qu) ∧ W.cell? ⟨b, 2, none⟩ = some (.int .i64 st) ∧ W.cell? ⟨b, 3, none⟩ = some sv ∧ W.cell? ⟨b, 4, none⟩ = some (.int .i64 si) ∧ W.cell? ⟨b, 5, none⟩ = some (.bool dn) := by
  intro W hW
  exact dskC (by rw [hW.block _ (lt_of_heap h)]; exact h)
set_option maxHeartbeats 4000000 in
theorem peeked_both {A : Whys} {w0 w : World} {d : Nat} {S : DS} {P l : List PF} {K : List (Nat × Obj)} {rs : List (Int × Int × Int)} {si0 : Int} (h : Dk A w0 d S P K w) (hM : Meet S P l rs si0) (hsm : S.steps ≤ 100000000) (fa : Option Addr) (fc : Nat) (qu st : Int) (sa : Option Addr) (sl sc : Nat) (si : Int) (dn : Bool) (hf : FsAt w (.slice fa l.length fc) l) (n : ByteArray) :
    Calls Tryz.prog 32 #[.pointer (some ⟨d, 0, none⟩), rdV (.slice fa l.length fc) qu st (.slice sa sl sc) si dn, .string n] w fun e w' => e = .returned (.bool true) ∧ Below w.heap.size w w' := by
  obtain ⟨W1, hW1⟩ : ∃ W1, w.alloc (.cells #[.slice fa l.length fc, .int .i64 qu, .int .i64 st, .slice sa sl sc, .int .i64 si, .bool dn] 32) = W1 := ⟨_, rfl⟩
  have hb1 : Below w.heap.size w W1 := by rw [← hW1]; exact (Below.refl _ _).alloc (Nat.le_refl _) _
  have ho1 : W1.heap[w.heap.size]? = some (.cells #[.slice fa l.length fc, .int .i64 qu, .int .i64 st, .slice sa sl sc, .int .i64 si, .bool dn] 32 (0, 0)) := by rw [← hW1]; exact heap_alloc_new _ _
  have h1 := h.up hb1
  have hll : l.length ≤ 1000000000 := by rw [hM.perm.length_eq]; have := hM.len; omega
  have e1 : peekS n P = peekS n l := by unfold peekS; rw [getP_perm hM.perm hM.nod]
  have e2 : peekB n P = peekB n l := by unfold peekB; rw [getP_perm hM.perm hM.nod]
  have e3 : sizeP n P = sizeR n l := by
    unfold sizeR
    rw [getP_perm hM.perm hM.nod]
    rfl
  have HP := Lib.hid (fun W (hW : Below W1.heap.size W1 W) => PeekD (h1.up hW) n)
  have HS := Lib.hid (fun W (hW : Below W1.heap.size W1 W) => SizeD (h1.up hW) n)
  rw [e1, e2] at HP
  rw [e3] at HS
  have HRP : Hid (∀ W, Below W1.heap.size W1 W → Calls Tryz.prog 59 #[rdV (.slice fa l.length fc) qu st (.slice sa sl sc) si dn, .string n] W fun e w' => e = .returned (.tuple #[.string (peekS n l), .bool (peekB n l)]) ∧ Below W1.heap.size W1 w') := Lib.hid (fun W hW => (rPeek_any _ l qu st _ si dn n W (hf.on (hb1.trans (hW.mono hb1.size))) hll).mono (fun e w' ⟨h1, h2⟩ => ⟨h1, hW.trans (h2.mono hW.size)⟩))
  have HRS : Hid (∀ W, Below W1.heap.size W1 W → Calls Tryz.prog 61 #[rdV (.slice fa l.length fc) qu st (.slice sa sl sc) si dn, .string n] W fun e w' => e = .returned (.int .i64 (sizeR n l)) ∧ Below W1.heap.size W1 w') := Lib.hid (fun W hW => (rSize_any _ l qu st _ si dn n W (hf.on (hb1.trans (hW.mono hb1.size))) hll (fun p hp => (hM.fokL p hp).2)).mono (fun e w' ⟨h1, h2⟩ => ⟨h1, hW.trans (h2.mono hW.size)⟩))
  have HB := Lib.hid (Below.refl W1.heap.size W1)
  have HX := Lib.hid (box_dk ho1)
  obtain ⟨x0, x1, x2, x3, x4, x5⟩ := HX.out W1 HB.out
  have HE : Hid (∀ W, Below W1.heap.size W1 W → Below w.heap.size w W) := Lib.hid (fun W hW => hb1.trans (hW.mono hb1.size))
  have HW := Lib.hid hW1
  clear h h1 hW1 hb1 ho1 hM hf hll e1 e2 e3 hsm
  unfold rdV at *
  generalize peekS n l = tx at *
  generalize peekB n l = tb at *
  generalize sizeR n l = sz at *
  go_enter Tryz.func32, Tryz.ntmps32
  go_upto_region 1 with fail
  rw [HW.out]
  go_upto_region 3 with (first | (go_at_call 58; refine (HP.out _ HB.out).mono ?_; rintro e w2 ⟨rfl, hw2⟩; subst w2) | (go_at_call 59; refine (HRP.out _ HB.out).mono ?_; rintro e w3 ⟨rfl, hb3⟩; have HB3 := Lib.hid hb3; clear hb3))
  clear x0 x1 x2 x3 x4 x5
  refine wp_region_N 17 (fun X => Below W1.heap.size W1 X) (by kernel_rfl) ?_
  refine wpAnyN_take (i := 0) (oi := { dst := some 23, op := Go.Op.move (Go.Operand.tmp 7), type := 9, pos := "law.go:89", after := #[], guard := none }) (oL := { dst := some 6, op := Go.Op.assign (Go.Operand.tmp 39), type := 4, pos := "law.go:89", after := #[{ on := 16, ground := Go.Ground.data }, { on := 14, ground := Go.Ground.chain }, { on := 0, ground := Go.Ground.phase }, { on := 1, ground := Go.Ground.phase }, { on := 2, ground := Go.Ground.phase }, { on := 3, ground := Go.Ground.phase }, { on := 4, ground := Go.Ground.phase }, { on := 5, ground := Go.Ground.phase }, { on := 6, ground := Go.Ground.phase }, { on := 7, ground := Go.Ground.phase }, { on := 8, ground := Go.Ground.phase }, { on := 9, ground := Go.Ground.phase }, { on := 10, ground := Go.Ground.phase }, { on := 11, ground := Go.Ground.phase }, { on := 12, ground := Go.Ground.phase }, { on := 13, ground := Go.Ground.phase }, { on := 14, ground := Go.Ground.phase }, { on := 15, ground := Go.Ground.phase }, { on := 16, ground := Go.Ground.phase }], guard := none }) (v := .string tx) rfl rfl (by kernel_rfl) (by kernel_rfl) (by kernel_rfl) (by kernel_rfl) (fun _ _ _ h => h) (Or.inl ⟨by kernel_rfl, ?_⟩) HB3.out.drew ?_
  · (intro X hX; obtain ⟨z0, z1, z2, z3, z4, z5⟩ := HX.out X hX <;> (go_simp; try (with_reducible rfl)))
  (try simp only [Act.put, List.setIfInBounds_toArray, List.set_cons_zero, List.set_cons_succ])
  refine wpAnyN_take (i := 1) (oi := { dst := some 24, op := Go.Op.move (Go.Operand.tmp 9), type := 9, pos := "law.go:89", after := #[], guard := none }) (oL := { dst := some 6, op := Go.Op.assign (Go.Operand.tmp 39), type := 4, pos := "law.go:89", after := #[{ on := 16, ground := Go.Ground.data }, { on := 14, ground := Go.Ground.chain }, { on := 0, ground := Go.Ground.phase }, { on := 1, ground := Go.Ground.phase }, { on := 2, ground := Go.Ground.phase }, { on := 3, ground := Go.Ground.phase }, { on := 4, ground := Go.Ground.phase }, { on := 5, ground := Go.Ground.phase }, { on := 6, ground := Go.Ground.phase }, { on := 7, ground := Go.Ground.phase }, { on := 8, ground := Go.Ground.phase }, { on := 9, ground := Go.Ground.phase }, { on := 10, ground := Go.Ground.phase }, { on := 11, ground := Go.Ground.phase }, { on := 12, ground := Go.Ground.phase }, { on := 13, ground := Go.Ground.phase }, { on := 14, ground := Go.Ground.phase }, { on := 15, ground := Go.Ground.phase }, { on := 16, ground := Go.Ground.phase }], guard := none }) (v := .string tx) rfl rfl (by kernel_rfl) (by kernel_rfl) (by kernel_rfl) (by kernel_rfl) (fun _ _ _ h => h) (Or.inl ⟨by kernel_rfl, ?_⟩) HB3.out.drew ?_
  · (intro X hX; obtain ⟨z0, z1, z2, z3, z4, z5⟩ := HX.out X hX <;> (go_simp; try (with_reducible rfl)))
  (try simp only [Act.put, List.setIfInBounds_toArray, List.set_cons_zero, List.set_cons_succ])
  refine wpAnyN_take (i := 2) (oi := { dst := some 25, op := Go.Op.binOp Go.BinOp.eql 9 (Go.Operand.tmp 23) (Go.Operand.tmp 24) 9, type := 4, pos := "law.go:89", after := #[{ on := 0, ground := Go.Ground.data }, { on := 1, ground := Go.Ground.data }], guard := none }) (oL := { dst := some 6, op := Go.Op.assign (Go.Operand.tmp 39), type := 4, pos := "law.go:89", after := #[{ on := 16, ground := Go.Ground.data }, { on := 14, ground := Go.Ground.chain }, { on := 0, ground := Go.Ground.phase }, { on := 1, ground := Go.Ground.phase }, { on := 2, ground := Go.Ground.phase }, { on := 3, ground := Go.Ground.phase }, { on := 4, ground := Go.Ground.phase }, { on := 5, ground := Go.Ground.phase }, { on := 6, ground := Go.Ground.phase }, { on := 7, ground := Go.Ground.phase }, { on := 8, ground := Go.Ground.phase }, { on := 9, ground := Go.Ground.phase }, { on := 10, ground := Go.Ground.phase }, { on := 11, ground := Go.Ground.phase }, { on := 12, ground := Go.Ground.phase }, { on := 13, ground := Go.Ground.phase }, { on := 14, ground := Go.Ground.phase }, { on := 15, ground := Go.Ground.phase }, { on := 16, ground := Go.Ground.phase }], guard := none }) (v := .bool true) rfl rfl (by kernel_rfl) (by kernel_rfl) (by kernel_rfl) (by kernel_rfl) (fun _ _ _ h => h) (Or.inl ⟨by kernel_rfl, ?_⟩) HB3.out.drew ?_
  · (intro X hX; obtain ⟨z0, z1, z2, z3, z4, z5⟩ := HX.out X hX <;> (go_simp; try (with_reducible rfl)))
  (try simp only [Act.put, List.setIfInBounds_toArray, List.set_cons_zero, List.set_cons_succ])
  refine wpAnyN_take (i := 3) (oi := { dst := some 26, op := Go.Op.move (Go.Operand.tmp 25), type := 4, pos := "law.go:89", after := #[{ on := 2, ground := Go.Ground.data }], guard := none }) (oL := { dst := some 6, op := Go.Op.assign (Go.Operand.tmp 39), type := 4, pos := "law.go:89", after := #[{ on := 16, ground := Go.Ground.data }, { on := 14, ground := Go.Ground.chain }, { on := 0, ground := Go.Ground.phase }, { on := 1, ground := Go.Ground.phase }, { on := 2, ground := Go.Ground.phase }, { on := 3, ground := Go.Ground.phase }, { on := 4, ground := Go.Ground.phase }, { on := 5, ground := Go.Ground.phase }, { on := 6, ground := Go.Ground.phase }, { on := 7, ground := Go.Ground.phase }, { on := 8, ground := Go.Ground.phase }, { on := 9, ground := Go.Ground.phase }, { on := 10, ground := Go.Ground.phase }, { on := 11, ground := Go.Ground.phase }, { on := 12, ground := Go.Ground.phase }, { on := 13, ground := Go.Ground.phase }, { on := 14, ground := Go.Ground.phase }, { on := 15, ground := Go.Ground.phase }, { on := 16, ground := Go.Ground.phase }], guard := none }) (v := .bool true) rfl rfl (by kernel_rfl) (by kernel_rfl) (by kernel_rfl) (by kernel_rfl) (fun _ _ _ h => h) (Or.inl ⟨by kernel_rfl, ?_⟩) HB3.out.drew ?_
  · (intro X hX; obtain ⟨z0, z1, z2, z3, z4, z5⟩ := HX.out X hX <;> (go_simp; try (with_reducible rfl)))
  (try simp only [Act.put, List.setIfInBounds_toArray, List.set_cons_zero, List.set_cons_succ])
  refine wpAnyN_take (i := 4) (oi := { dst := some 27, op := Go.Op.move (Go.Operand.tmp 8), type := 4, pos := "law.go:89", after := #[{ on := 3, ground := Go.Ground.guard }], guard := some (3, true) }) (oL := { dst := some 6, op := Go.Op.assign (Go.Operand.tmp 39), type := 4, pos := "law.go:89", after := #[{ on := 16, ground := Go.Ground.data }, { on := 14, ground := Go.Ground.chain }, { on := 0, ground := Go.Ground.phase }, { on := 1, ground := Go.Ground.phase }, { on := 2, ground := Go.Ground.phase }, { on := 3, ground := Go.Ground.phase }, { on := 4, ground := Go.Ground.phase }, { on := 5, ground := Go.Ground.phase }, { on := 6, ground := Go.Ground.phase }, { on := 7, ground := Go.Ground.phase }, { on := 8, ground := Go.Ground.phase }, { on := 9, ground := Go.Ground.phase }, { on := 10, ground := Go.Ground.phase }, { on := 11, ground := Go.Ground.phase }, { on := 12, ground := Go.Ground.phase }, { on := 13, ground := Go.Ground.phase }, { on := 14, ground := Go.Ground.phase }, { on := 15, ground := Go.Ground.phase }, { on := 16, ground := Go.Ground.phase }], guard := none }) (v := .bool tb) rfl rfl (by kernel_rfl) (by kernel_rfl) (by kernel_rfl) (by kernel_rfl) (fun _ _ _ h => h) (Or.inl ⟨by kernel_rfl, ?_⟩) HB3.out.drew ?_
  · (intro X hX; obtain ⟨z0, z1, z2, z3, z4, z5⟩ := HX.out X hX <;> (go_simp; try (with_reducible rfl)))
  (try simp only [Act.put, List.setIfInBounds_toArray, List.set_cons_zero, List.set_cons_succ])
  refine wpAnyN_take (i := 5) (oi := { dst := some 28, op := Go.Op.move (Go.Operand.tmp 10), type := 4, pos := "law.go:89", after := #[{ on := 3, ground := Go.Ground.guard }], guard := some (3, true) }) (oL := { dst := some 6, op := Go.Op.assign (Go.Operand.tmp 39), type := 4, pos := "law.go:89", after := #[{ on := 16, ground := Go.Ground.data }, { on := 14, ground := Go.Ground.chain }, { on := 0, ground := Go.Ground.phase }, { on := 1, ground := Go.Ground.phase }, { on := 2, ground := Go.Ground.phase }, { on := 3, ground := Go.Ground.phase }, { on := 4, ground := Go.Ground.phase }, { on := 5, ground := Go.Ground.phase }, { on := 6, ground := Go.Ground.phase }, { on := 7, ground := Go.Ground.phase }, { on := 8, ground := Go.Ground.phase }, { on := 9, ground := Go.Ground.phase }, { on := 10, ground := Go.Ground.phase }, { on := 11, ground := Go.Ground.phase }, { on := 12, ground := Go.Ground.phase }, { on := 13, ground := Go.Ground.phase }, { on := 14, ground := Go.Ground.phase }, { on := 15, ground := Go.Ground.phase }, { on := 16, ground := Go.Ground.phase }], guard := none }) (v := .bool tb) rfl rfl (by kernel_rfl) (by kernel_rfl) (by kernel_rfl) (by kernel_rfl) (fun _ _ _ h => h) (Or.inl ⟨by kernel_rfl, ?_⟩) HB3.out.drew ?_
  · (intro X hX; obtain ⟨z0, z1, z2, z3, z4, z5⟩ := HX.out X hX <;> (go_simp; try (with_reducible rfl)))
  (try simp only [Act.put, List.setIfInBounds_toArray, List.set_cons_zero, List.set_cons_succ])
  refine wpAnyN_take (i := 6) (oi := { dst := some 29, op := Go.Op.binOp Go.BinOp.eql 4 (Go.Operand.tmp 27) (Go.Operand.tmp 28) 4, type := 4, pos := "law.go:89", after := #[{ on := 4, ground := Go.Ground.data }, { on := 5, ground := Go.Ground.data }, { on := 3, ground := Go.Ground.guard }], guard := some (3, true) }) (oL := { dst := some 6, op := Go.Op.assign (Go.Operand.tmp 39), type := 4, pos := "law.go:89", after := #[{ on := 16, ground := Go.Ground.data }, { on := 14, ground := Go.Ground.chain }, { on := 0, ground := Go.Ground.phase }, { on := 1, ground := Go.Ground.phase }, { on := 2, ground := Go.Ground.phase }, { on := 3, ground := Go.Ground.phase }, { on := 4, ground := Go.Ground.phase }, { on := 5, ground := Go.Ground.phase }, { on := 6, ground := Go.Ground.phase }, { on := 7, ground := Go.Ground.phase }, { on := 8, ground := Go.Ground.phase }, { on := 9, ground := Go.Ground.phase }, { on := 10, ground := Go.Ground.phase }, { on := 11, ground := Go.Ground.phase }, { on := 12, ground := Go.Ground.phase }, { on := 13, ground := Go.Ground.phase }, { on := 14, ground := Go.Ground.phase }, { on := 15, ground := Go.Ground.phase }, { on := 16, ground := Go.Ground.phase }], guard := none }) (v := .bool true) rfl rfl (by kernel_rfl) (by kernel_rfl) (by kernel_rfl) (by kernel_rfl) (fun _ _ _ h => h) (Or.inl ⟨by kernel_rfl, ?_⟩) HB3.out.drew ?_
  · (intro X hX; obtain ⟨z0, z1, z2, z3, z4, z5⟩ := HX.out X hX <;> (go_simp; try (with_reducible rfl)))
  (try simp only [Act.put, List.setIfInBounds_toArray, List.set_cons_zero, List.set_cons_succ])
  refine wpAnyN_take (i := 7) (oi := { dst := some 30, op := Go.Op.pick (Go.Operand.tmp 26) (Go.Operand.tmp 29) (Go.Operand.const (Go.Value.bool false)), type := 4, pos := "law.go:89", after := #[{ on := 3, ground := Go.Ground.data }, { on := 6, ground := Go.Ground.data }], guard := none }) (oL := { dst := some 6, op := Go.Op.assign (Go.Operand.tmp 39), type := 4, pos := "law.go:89", after := #[{ on := 16, ground := Go.Ground.data }, { on := 14, ground := Go.Ground.chain }, { on := 0, ground := Go.Ground.phase }, { on := 1, ground := Go.Ground.phase }, { on := 2, ground := Go.Ground.phase }, { on := 3, ground := Go.Ground.phase }, { on := 4, ground := Go.Ground.phase }, { on := 5, ground := Go.Ground.phase }, { on := 6, ground := Go.Ground.phase }, { on := 7, ground := Go.Ground.phase }, { on := 8, ground := Go.Ground.phase }, { on := 9, ground := Go.Ground.phase }, { on := 10, ground := Go.Ground.phase }, { on := 11, ground := Go.Ground.phase }, { on := 12, ground := Go.Ground.phase }, { on := 13, ground := Go.Ground.phase }, { on := 14, ground := Go.Ground.phase }, { on := 15, ground := Go.Ground.phase }, { on := 16, ground := Go.Ground.phase }], guard := none }) (v := .bool true) rfl rfl (by kernel_rfl) (by kernel_rfl) (by kernel_rfl) (by kernel_rfl) (fun _ _ _ h => h) (Or.inl ⟨by kernel_rfl, ?_⟩) HB3.out.drew ?_
  · (intro X hX; obtain ⟨z0, z1, z2, z3, z4, z5⟩ := HX.out X hX <;> (go_simp; try (with_reducible rfl)))
  (try simp only [Act.put, List.setIfInBounds_toArray, List.set_cons_zero, List.set_cons_succ])
  refine wpAnyN_take (i := 8) (oi := { dst := some 31, op := Go.Op.move (Go.Operand.tmp 30), type := 4, pos := "law.go:89", after := #[{ on := 7, ground := Go.Ground.data }, { on := 3, ground := Go.Ground.chain }], guard := none }) (oL := { dst := some 6, op := Go.Op.assign (Go.Operand.tmp 39), type := 4, pos := "law.go:89", after := #[{ on := 16, ground := Go.Ground.data }, { on := 14, ground := Go.Ground.chain }, { on := 0, ground := Go.Ground.phase }, { on := 1, ground := Go.Ground.phase }, { on := 2, ground := Go.Ground.phase }, { on := 3, ground := Go.Ground.phase }, { on := 4, ground := Go.Ground.phase }, { on := 5, ground := Go.Ground.phase }, { on := 6, ground := Go.Ground.phase }, { on := 7, ground := Go.Ground.phase }, { on := 8, ground := Go.Ground.phase }, { on := 9, ground := Go.Ground.phase }, { on := 10, ground := Go.Ground.phase }, { on := 11, ground := Go.Ground.phase }, { on := 12, ground := Go.Ground.phase }, { on := 13, ground := Go.Ground.phase }, { on := 14, ground := Go.Ground.phase }, { on := 15, ground := Go.Ground.phase }, { on := 16, ground := Go.Ground.phase }], guard := none }) (v := .bool true) rfl rfl (by kernel_rfl) (by kernel_rfl) (by kernel_rfl) (by kernel_rfl) (fun _ _ _ h => h) (Or.inl ⟨by kernel_rfl, ?_⟩) HB3.out.drew ?_
  · (intro X hX; obtain ⟨z0, z1, z2, z3, z4, z5⟩ := HX.out X hX <;> (go_simp; try (with_reducible rfl)))
  (try simp only [Act.put, List.setIfInBounds_toArray, List.set_cons_zero, List.set_cons_succ])
  refine wpAnyN_take (i := 9) (oi := { dst := some 32, op := Go.Op.move (Go.Operand.tmp 0), type := 24, pos := "law.go:89", after := #[{ on := 8, ground := Go.Ground.guard }], guard := some (8, true) }) (oL := { dst := some 6, op := Go.Op.assign (Go.Operand.tmp 39), type := 4, pos := "law.go:89", after := #[{ on := 16, ground := Go.Ground.data }, { on := 14, ground := Go.Ground.chain }, { on := 0, ground := Go.Ground.phase }, { on := 1, ground := Go.Ground.phase }, { on := 2, ground := Go.Ground.phase }, { on := 3, ground := Go.Ground.phase }, { on := 4, ground := Go.Ground.phase }, { on := 5, ground := Go.Ground.phase }, { on := 6, ground := Go.Ground.phase }, { on := 7, ground := Go.Ground.phase }, { on := 8, ground := Go.Ground.phase }, { on := 9, ground := Go.Ground.phase }, { on := 10, ground := Go.Ground.phase }, { on := 11, ground := Go.Ground.phase }, { on := 12, ground := Go.Ground.phase }, { on := 13, ground := Go.Ground.phase }, { on := 14, ground := Go.Ground.phase }, { on := 15, ground := Go.Ground.phase }, { on := 16, ground := Go.Ground.phase }], guard := none }) (v := .pointer (some ⟨d, 0, none⟩)) rfl rfl (by kernel_rfl) (by kernel_rfl) (by kernel_rfl) (by kernel_rfl) (fun _ _ _ h => h) (Or.inl ⟨by kernel_rfl, ?_⟩) HB3.out.drew ?_
  · (intro X hX; obtain ⟨z0, z1, z2, z3, z4, z5⟩ := HX.out X hX <;> (go_simp; try (with_reducible rfl)))
  (try simp only [Act.put, List.setIfInBounds_toArray, List.set_cons_zero, List.set_cons_succ])
  refine wpAnyN_take (i := 10) (oi := { dst := some 33, op := Go.Op.move (Go.Operand.tmp 2), type := 9, pos := "law.go:89", after := #[{ on := 8, ground := Go.Ground.guard }], guard := some (8, true) }) (oL := { dst := some 6, op := Go.Op.assign (Go.Operand.tmp 39), type := 4, pos := "law.go:89", after := #[{ on := 16, ground := Go.Ground.data }, { on := 14, ground := Go.Ground.chain }, { on := 0, ground := Go.Ground.phase }, { on := 1, ground := Go.Ground.phase }, { on := 2, ground := Go.Ground.phase }, { on := 3, ground := Go.Ground.phase }, { on := 4, ground := Go.Ground.phase }, { on := 5, ground := Go.Ground.phase }, { on := 6, ground := Go.Ground.phase }, { on := 7, ground := Go.Ground.phase }, { on := 8, ground := Go.Ground.phase }, { on := 9, ground := Go.Ground.phase }, { on := 10, ground := Go.Ground.phase }, { on := 11, ground := Go.Ground.phase }, { on := 12, ground := Go.Ground.phase }, { on := 13, ground := Go.Ground.phase }, { on := 14, ground := Go.Ground.phase }, { on := 15, ground := Go.Ground.phase }, { on := 16, ground := Go.Ground.phase }], guard := none }) (v := .string n) rfl rfl (by kernel_rfl) (by kernel_rfl) (by kernel_rfl) (by kernel_rfl) (fun _ _ _ h => h) (Or.inl ⟨by kernel_rfl, ?_⟩) HB3.out.drew ?_
  · (intro X hX; obtain ⟨z0, z1, z2, z3, z4, z5⟩ := HX.out X hX <;> (go_simp; try (with_reducible rfl)))
  (try simp only [Act.put, List.setIfInBounds_toArray, List.set_cons_zero, List.set_cons_succ])
  refine wpAnyN_take (i := 12) (oi := { dst := some 35, op := Go.Op.load 32 (Go.Operand.tmp 4), type := 32, pos := "law.go:89", after := #[{ on := 8, ground := Go.Ground.guard }], guard := some (8, true) }) (oL := { dst := some 6, op := Go.Op.assign (Go.Operand.tmp 39), type := 4, pos := "law.go:89", after := #[{ on := 16, ground := Go.Ground.data }, { on := 14, ground := Go.Ground.chain }, { on := 0, ground := Go.Ground.phase }, { on := 1, ground := Go.Ground.phase }, { on := 2, ground := Go.Ground.phase }, { on := 3, ground := Go.Ground.phase }, { on := 4, ground := Go.Ground.phase }, { on := 5, ground := Go.Ground.phase }, { on := 6, ground := Go.Ground.phase }, { on := 7, ground := Go.Ground.phase }, { on := 8, ground := Go.Ground.phase }, { on := 9, ground := Go.Ground.phase }, { on := 10, ground := Go.Ground.phase }, { on := 11, ground := Go.Ground.phase }, { on := 12, ground := Go.Ground.phase }, { on := 13, ground := Go.Ground.phase }, { on := 14, ground := Go.Ground.phase }, { on := 15, ground := Go.Ground.phase }, { on := 16, ground := Go.Ground.phase }], guard := none }) (v := .agg #[.slice fa l.length fc, .int .i64 qu, .int .i64 st, .slice sa sl sc, .int .i64 si, .bool dn]) rfl rfl (by kernel_rfl) (by kernel_rfl) (by kernel_rfl) (by kernel_rfl) (fun _ _ _ h => h) (Or.inl ⟨by kernel_rfl, ?_⟩) HB3.out.drew ?_
  · (intro X hX; obtain ⟨z0, z1, z2, z3, z4, z5⟩ := HX.out X hX <;> (go_simp; try (with_reducible rfl)))
  (try simp only [Act.put, List.setIfInBounds_toArray, List.set_cons_zero, List.set_cons_succ])
  refine wpAnyN_take (i := 13) (oi := { dst := some 36, op := Go.Op.move (Go.Operand.tmp 2), type := 9, pos := "law.go:89", after := #[{ on := 8, ground := Go.Ground.guard }], guard := some (8, true) }) (oL := { dst := some 6, op := Go.Op.assign (Go.Operand.tmp 39), type := 4, pos := "law.go:89", after := #[{ on := 16, ground := Go.Ground.data }, { on := 14, ground := Go.Ground.chain }, { on := 0, ground := Go.Ground.phase }, { on := 1, ground := Go.Ground.phase }, { on := 2, ground := Go.Ground.phase }, { on := 3, ground := Go.Ground.phase }, { on := 4, ground := Go.Ground.phase }, { on := 5, ground := Go.Ground.phase }, { on := 6, ground := Go.Ground.phase }, { on := 7, ground := Go.Ground.phase }, { on := 8, ground := Go.Ground.phase }, { on := 9, ground := Go.Ground.phase }, { on := 10, ground := Go.Ground.phase }, { on := 11, ground := Go.Ground.phase }, { on := 12, ground := Go.Ground.phase }, { on := 13, ground := Go.Ground.phase }, { on := 14, ground := Go.Ground.phase }, { on := 15, ground := Go.Ground.phase }, { on := 16, ground := Go.Ground.phase }], guard := none }) (v := .string n) rfl rfl (by kernel_rfl) (by kernel_rfl) (by kernel_rfl) (by kernel_rfl) (fun _ _ _ h => h) (Or.inl ⟨by kernel_rfl, ?_⟩) HB3.out.drew ?_
  · (intro X hX; obtain ⟨z0, z1, z2, z3, z4, z5⟩ := HX.out X hX <;> (go_simp; try (with_reducible rfl)))
  (try simp only [Act.put, List.setIfInBounds_toArray, List.set_cons_zero, List.set_cons_succ])
  refine wpAnyN_one (i := 11) (o := { dst := some 34, op := Go.Op.call { callee := Go.Callee.value (Go.Operand.func 60), args := #[Go.Operand.tmp 32, Go.Operand.tmp 33], argTypes := #[24, 9] }, type := 3, pos := "law.go:89", after := #[{ on := 9, ground := Go.Ground.data }, { on := 10, ground := Go.Ground.data }, { on := 8, ground := Go.Ground.chain }, { on := 8, ground := Go.Ground.guard }], guard := some (8, true) }) (by kernel_rfl) rfl (fun K hK => ?_)
  go_simp
  refine (HS.out _ HB3.out.drew).mono ?_
  rintro e w2 ⟨rfl, hw2⟩
  subst w2
  refine hK.out _ _ (fun _ => HB3.out.drew) ?_
  clear hK K
  (try simp only [Act.put, List.setIfInBounds_toArray, List.set_cons_zero, List.set_cons_succ])
  refine wpAnyN_one (i := 14) (o := { dst := some 37, op := Go.Op.call { callee := Go.Callee.value (Go.Operand.func 61), args := #[Go.Operand.tmp 35, Go.Operand.tmp 36], argTypes := #[32, 9] }, type := 3, pos := "law.go:89", after := #[{ on := 12, ground := Go.Ground.data }, { on := 13, ground := Go.Ground.data }, { on := 11, ground := Go.Ground.chain }, { on := 8, ground := Go.Ground.guard }], guard := some (8, true) }) (by kernel_rfl) rfl (fun K hK => ?_)
  go_simp
  refine (HRS.out _ HB3.out.drew).mono ?_
  rintro e w4 ⟨rfl, hw4⟩
  have Hw4 := Lib.hid hw4
  clear hw4
  refine hK.out _ _ (fun _ => Hw4.out) ?_
  clear hK K
  (try simp only [Act.put, List.setIfInBounds_toArray, List.set_cons_zero, List.set_cons_succ])
  refine wpAnyN_take (i := 15) (oi := { dst := some 38, op := Go.Op.binOp Go.BinOp.eql 3 (Go.Operand.tmp 34) (Go.Operand.tmp 37) 3, type := 4, pos := "law.go:89", after := #[{ on := 11, ground := Go.Ground.data }, { on := 14, ground := Go.Ground.data }, { on := 8, ground := Go.Ground.guard }], guard := some (8, true) }) (oL := { dst := some 6, op := Go.Op.assign (Go.Operand.tmp 39), type := 4, pos := "law.go:89", after := #[{ on := 16, ground := Go.Ground.data }, { on := 14, ground := Go.Ground.chain }, { on := 0, ground := Go.Ground.phase }, { on := 1, ground := Go.Ground.phase }, { on := 2, ground := Go.Ground.phase }, { on := 3, ground := Go.Ground.phase }, { on := 4, ground := Go.Ground.phase }, { on := 5, ground := Go.Ground.phase }, { on := 6, ground := Go.Ground.phase }, { on := 7, ground := Go.Ground.phase }, { on := 8, ground := Go.Ground.phase }, { on := 9, ground := Go.Ground.phase }, { on := 10, ground := Go.Ground.phase }, { on := 11, ground := Go.Ground.phase }, { on := 12, ground := Go.Ground.phase }, { on := 13, ground := Go.Ground.phase }, { on := 14, ground := Go.Ground.phase }, { on := 15, ground := Go.Ground.phase }, { on := 16, ground := Go.Ground.phase }], guard := none }) (v := .bool true) rfl rfl (by kernel_rfl) (by kernel_rfl) (by kernel_rfl) (by kernel_rfl) (fun _ _ _ h => h) (Or.inl ⟨by kernel_rfl, ?_⟩) Hw4.out ?_
  · (intro X hX; obtain ⟨z0, z1, z2, z3, z4, z5⟩ := HX.out X hX <;> (go_simp; try (with_reducible rfl)))
  (try simp only [Act.put, List.setIfInBounds_toArray, List.set_cons_zero, List.set_cons_succ])
  refine wpAnyN_take (i := 16) (oi := { dst := some 39, op := Go.Op.pick (Go.Operand.tmp 31) (Go.Operand.tmp 38) (Go.Operand.const (Go.Value.bool false)), type := 4, pos := "law.go:89", after := #[{ on := 8, ground := Go.Ground.data }, { on := 15, ground := Go.Ground.data }], guard := none }) (oL := { dst := some 6, op := Go.Op.assign (Go.Operand.tmp 39), type := 4, pos := "law.go:89", after := #[{ on := 16, ground := Go.Ground.data }, { on := 14, ground := Go.Ground.chain }, { on := 0, ground := Go.Ground.phase }, { on := 1, ground := Go.Ground.phase }, { on := 2, ground := Go.Ground.phase }, { on := 3, ground := Go.Ground.phase }, { on := 4, ground := Go.Ground.phase }, { on := 5, ground := Go.Ground.phase }, { on := 6, ground := Go.Ground.phase }, { on := 7, ground := Go.Ground.phase }, { on := 8, ground := Go.Ground.phase }, { on := 9, ground := Go.Ground.phase }, { on := 10, ground := Go.Ground.phase }, { on := 11, ground := Go.Ground.phase }, { on := 12, ground := Go.Ground.phase }, { on := 13, ground := Go.Ground.phase }, { on := 14, ground := Go.Ground.phase }, { on := 15, ground := Go.Ground.phase }, { on := 16, ground := Go.Ground.phase }], guard := none }) (v := .bool true) rfl rfl (by kernel_rfl) (by kernel_rfl) (by kernel_rfl) (by kernel_rfl) (fun _ _ _ h => h) (Or.inl ⟨by kernel_rfl, ?_⟩) Hw4.out ?_
  · (intro X hX; obtain ⟨z0, z1, z2, z3, z4, z5⟩ := HX.out X hX <;> (go_simp; try (with_reducible rfl)))
  (try simp only [Act.put, List.setIfInBounds_toArray, List.set_cons_zero, List.set_cons_succ])
  refine wpAnyN_one (i := 17) (o := { dst := some 6, op := Go.Op.assign (Go.Operand.tmp 39), type := 4, pos := "law.go:89", after := #[{ on := 16, ground := Go.Ground.data }, { on := 14, ground := Go.Ground.chain }, { on := 0, ground := Go.Ground.phase }, { on := 1, ground := Go.Ground.phase }, { on := 2, ground := Go.Ground.phase }, { on := 3, ground := Go.Ground.phase }, { on := 4, ground := Go.Ground.phase }, { on := 5, ground := Go.Ground.phase }, { on := 6, ground := Go.Ground.phase }, { on := 7, ground := Go.Ground.phase }, { on := 8, ground := Go.Ground.phase }, { on := 9, ground := Go.Ground.phase }, { on := 10, ground := Go.Ground.phase }, { on := 11, ground := Go.Ground.phase }, { on := 12, ground := Go.Ground.phase }, { on := 13, ground := Go.Ground.phase }, { on := 14, ground := Go.Ground.phase }, { on := 15, ground := Go.Ground.phase }, { on := 16, ground := Go.Ground.phase }], guard := none }) (by kernel_rfl) rfl (fun K hK => ?_)
  go_simp
  refine hK.out _ _ (fun e => absurd (e.symm.trans (by kernel_rfl) : false = true) Bool.false_ne_true) ?_
  clear hK K
  (try simp only [Act.put, List.setIfInBounds_toArray, List.set_cons_zero, List.set_cons_succ])
  refine wpAnyN_of_H (S' := fun _ => True) _ _ _ _ (by kernel_rfl) ?_
  refine wpAnyH_done (by kernel_rfl) ?_ _
  go_wp2_with fail
  go_ret
  exact ⟨rfl, HE.out _ Hw4.out⟩
theorem rowIn_own {B : Nat} {v : Value} {l : List PF} {W0 w : World} (h : OwnN B v (l.map PF.name) W0 w) : RowIn w (l.map fun p => L p.name) v := by
  rcases h.shape with ⟨h0, rfl⟩ | ⟨g, c, rfl, _, hc⟩
  · have : l = [] := List.map_eq_nil_iff.1 h0
    subst this
    exact ⟨none, 0, rfl, .inl rfl⟩
  · refine ⟨some ⟨g, 0, none⟩, c, by simp, .inr ⟨g, rfl, fun i hi => ?_⟩⟩
    have hi' : i < l.length := by simpa using hi
    rw [hc i (l[i]).name (by rw [List.getElem?_map, List.getElem?_eq_getElem hi']; rfl)]
    rw [List.getD_eq_getElem?_getD, List.getElem?_map, List.getElem?_eq_getElem hi']
    show _ = some (Value.string (Proofs.YtgafomknpdnfcaaGreatDoor.S (L (l[i]).name)))
    rw [S_L]
theorem names_meet {P l : List PF} (h : l.Perm P) (hr : Ri l) {Ts : List (List UInt8)} (hp : Ts.Perm (P.map fun p => L p.name)) (hs : Ts.Pairwise (fun x y => x ≤ y)) : Ts = l.map fun p => L p.name := by
  refine names_same hp (h.map _) hs ?_
  rw [List.pairwise_map]
  exact hr.imp (fun h => Std.le_of_lt h)
set_option maxRecDepth 20000 in
set_option maxHeartbeats 8000000 in
theorem same_both {A : Whys} {w0 w : World} {d : Nat} {S : DS} {P l : List PF} {K : List (Nat × Obj)} {rs : List (Int × Int × Int)} {si : Int} {fv sv : Value} (h : Dk A w0 d S P K w) (hRf : Rf K fv sv l rs w) (hM : Meet S P l rs si) (hsm : S.steps ≤ 1000000) :
    Calls Tryz.prog 9 #[.pointer (some ⟨d, 0, none⟩), rdV fv (S.quota : Int) (S.steps : Int) sv si (!S.runs)] w fun e w' => e = .returned (.bool true) ∧ Below w.heap.size w w' := by
  obtain ⟨fa, fc, hfv, _⟩ := hRf.fs.form
  obtain ⟨sa, sc, hsv, _⟩ := id hRf.ss
  subst hfv hsv
  have hll : l.length ≤ 1000000 := by rw [hM.perm.length_eq]; have := hM.len; omega
  have hPl : P.length ≤ 1000000 := by have := hM.len; omega
  obtain ⟨W1, hW1⟩ : ∃ W1, w.alloc (.cells #[.slice fa l.length fc, .int .i64 (S.quota : Int), .int .i64 (S.steps : Int), .slice sa rs.length sc, .int .i64 si, .bool (!S.runs)] 32) = W1 := ⟨_, rfl⟩
  have hb1 : Below w.heap.size w W1 := by rw [← hW1]; exact (Below.refl _ _).alloc (Nat.le_refl _) _
  have ho1 : W1.heap[w.heap.size]? = some (.cells #[.slice fa l.length fc, .int .i64 (S.quota : Int), .int .i64 (S.steps : Int), .slice sa rs.length sc, .int .i64 si, .bool (!S.runs)] 32 (0, 0)) := by rw [← hW1]; exact heap_alloc_new _ _
  have hq0 : ((S.quota : Int) == 0) = false := beq_eq_false_iff_ne.2 (by have := hM.quota.1; omega)
  have HN := Lib.hid (NamesK (h.up hb1) hPl)
  have HRN := Lib.hid (fun W (hW : Below w.heap.size w W) => rNames_any (.slice fa l.length fc) l (S.quota : Int) (S.steps : Int) (.slice sa rs.length sc) si (!S.runs) W (hRf.fs.on hW) (by omega))
  have HU := Lib.hid (fun W (hW : Below w.heap.size w W) => UsedD (h.up hW))
  rw [← usedP_perm hM.perm] at HU
  have HQ := Lib.hid (fun W (hW : Below w.heap.size w W) => QuotaD (h.up hW))
  have HSt := Lib.hid (fun W (hW : Below w.heap.size w W) => StepsD (h.up hW))
  have HDw := Lib.hid (fun W (hW : Below w.heap.size w W) => DownD (h.up hW))
  have HRU := Lib.hid (fun W (hW : Below w.heap.size w W) => rUsed_any (.slice fa l.length fc) l (S.quota : Int) (S.steps : Int) (.slice sa rs.length sc) si (!S.runs) W (hRf.fs.on hW) (by omega) (by have := hM.usedL; omega))
  have HRD := Lib.hid (fun W => rIsDown_any (.slice fa l.length fc) (S.quota : Int) (S.steps : Int) (.slice sa rs.length sc) si (!S.runs) W)
  rw [hq0, Bool.or_false] at HRD
  have HPk := Lib.hid (fun W n (hW : Below w.heap.size w W) => peeked_both (h.up hW) hM (by omega) fa fc (S.quota : Int) (S.steps : Int) sa rs.length sc si (!S.runs) (hRf.fs.on hW) n)
  have HM := Lib.hid hM
  have HX1 := Lib.hid (box_dk ho1)
  have HE1 := Lib.hid hb1
  have HW := Lib.hid hW1
  have hli : (l.length : Int) ≤ 1000000 := by omega
  obtain ⟨x0, x1, x2, x3, x4, x5⟩ := HX1.out W1 (Below.refl _ _)
  clear h hRf hM hW1 hb1 ho1 hq0 hPl hsm
  unfold rdV at HRN HRU HRD HPk ⊢
  generalize hqu : (S.quota : Int) = qu at *
  generalize hst : (S.steps : Int) = st at *
  generalize hdn : (!S.runs) = dn at *
  generalize hsl : rs.length = sl at *
  clear hqu hst hdn hsl
  go_enter Tryz.func9, Tryz.ntmps9
  go_upto_region 1 with fail
  rw [HW.out]
  go_upto_region 2 with (go_at_call 25; refine HN.out.mono ?_; rintro e w2 ⟨va, Ts, K2, rfl, hp2, hs2, hD2, hr2, hb2, hk2⟩; obtain ⟨vaa, vac, hva, _⟩ := id hr2; have H2 := Lib.hid (And.intro hp2 (And.intro hs2 (And.intro hD2 (And.intro hr2 hb2)))); have HVA := Lib.hid hva; clear hp2 hs2 hD2 hr2 hb2 hk2 hva)
  clear x0 x1 x2 x3 x4 x5 HN
  obtain ⟨hp2, hs2, hD2, hr2, hb2⟩ := H2.out
  have hE2 : Below w.heap.size w w2 := HE1.out.trans (hb2.mono HE1.out.size)
  have HTs := Lib.hid (names_meet HM.out.perm HM.out.rise hp2 hs2)
  have HRow2 := Lib.hid (hr2.here hD2)
  rw [HTs.out] at HRow2
  have HRN2 := Lib.hid (HRN.out w2 hE2)
  have HE2 := Lib.hid hE2
  have HX2 : Hid (∀ W, Below w2.heap.size w2 W → W.cell? ⟨w.heap.size, 0, none⟩ = some (.slice fa l.length fc) ∧ W.cell? ⟨w.heap.size, 1, none⟩ = some (.int .i64 qu) ∧ W.cell? ⟨w.heap.size, 2, none⟩ = some (.int .i64 st) ∧ W.cell? ⟨w.heap.size, 3, none⟩ = some (.slice sa sl sc) ∧ W.cell? ⟨w.heap.size, 4, none⟩ = some (.int .i64 si) ∧ W.cell? ⟨w.heap.size, 5, none⟩ = some (.bool dn)) := Lib.hid (fun W hW => HX1.out W (hb2.trans (hW.mono hb2.size)))
  obtain ⟨x0, x1, x2, x3, x4, x5⟩ := HX2.out w2 (Below.refl _ _)
  clear hp2 hs2 hD2 hr2 hb2 hE2 HX1 HE1 HRN H2 HTs HM HVA
  go_upto_region 3 with (go_at_call 26; refine HRN2.out.mono ?_; rintro e w3 ⟨vb, rfl, B3, hB3, hO3, hb3⟩; have H3 := Lib.hid (And.intro hO3 hb3); clear hO3 hb3 hB3)
  clear x0 x1 x2 x3 x4 x5 HRN2
  have hE3 : Below w.heap.size w w3 := HE2.out.trans (H3.out.2.mono HE2.out.size)
  have hrb := rowIn_own H3.out.1
  have HTx : Hid (Calls Tryz.prog 27 #[va, vb] w3.drew fun e w' => e = .returned (.bool true) ∧ Below w3.heap.size w3 w') := Lib.hid ((texts_rows ((HRow2.out.on H3.out.2).on (Below.refl _ _).drew) (hrb.on (Below.refl _ _).drew) (by rw [List.length_map]; omega)).mono (by
    rintro e w' ⟨rfl, hb⟩
    exact ⟨rfl, (Below.refl w3.heap.size w3).drew.trans hb⟩))
  have HEE : Hid (∀ W, Below w3.heap.size w3 W → Below w.heap.size w W) := Lib.hid (fun W hW => hE3.trans (hW.mono hE3.size))
  have HX : Hid (∀ W, Below w3.heap.size w3 W → W.cell? ⟨w.heap.size, 0, none⟩ = some (.slice fa l.length fc) ∧ W.cell? ⟨w.heap.size, 1, none⟩ = some (.int .i64 qu) ∧ W.cell? ⟨w.heap.size, 2, none⟩ = some (.int .i64 st) ∧ W.cell? ⟨w.heap.size, 3, none⟩ = some (.slice sa sl sc) ∧ W.cell? ⟨w.heap.size, 4, none⟩ = some (.int .i64 si) ∧ W.cell? ⟨w.heap.size, 5, none⟩ = some (.bool dn)) := Lib.hid (fun W hW => HX2.out W (H3.out.2.trans (hW.mono H3.out.2.size)))
  have HB3 := Lib.hid (Below.refl w3.heap.size w3)
  have HU' : Hid (∀ W, Below w3.heap.size w3 W → Calls Tryz.prog 13 #[.pointer (some ⟨d, 0, none⟩)] W fun e w' => e = .returned (.int .i64 (usedP l : Int)) ∧ w' = W) := Lib.hid (fun W hW => HU.out W (HEE.out W hW))
  have HQ' : Hid (∀ W, Below w3.heap.size w3 W → Calls Tryz.prog 29 #[.pointer (some ⟨d, 0, none⟩)] W fun e w' => e = .returned (.int .i64 qu) ∧ w' = W) := Lib.hid (fun W hW => HQ.out W (HEE.out W hW))
  have HSt' : Hid (∀ W, Below w3.heap.size w3 W → Calls Tryz.prog 14 #[.pointer (some ⟨d, 0, none⟩)] W fun e w' => e = .returned (.int .i64 st) ∧ w' = W) := Lib.hid (fun W hW => HSt.out W (HEE.out W hW))
  have HDw' : Hid (∀ W, Below w3.heap.size w3 W → Calls Tryz.prog 30 #[.pointer (some ⟨d, 0, none⟩)] W fun e w' => e = .returned (.bool dn) ∧ w' = W) := Lib.hid (fun W hW => HDw.out W (HEE.out W hW))
  have HRU' : Hid (∀ W, Below w3.heap.size w3 W → Calls Tryz.prog 28 #[.agg #[.slice fa l.length fc, .int .i64 qu, .int .i64 st, .slice sa sl sc, .int .i64 si, .bool dn]] W fun e w' => e = .returned (.int .i64 (usedP l : Int)) ∧ Below w3.heap.size w3 w') := Lib.hid (fun W hW => (HRU.out W (HEE.out W hW)).mono (fun e w' ⟨h1, h2⟩ => ⟨h1, hW.trans (h2.mono hW.size)⟩))
  have HRD' : Hid (∀ W, Below w3.heap.size w3 W → Calls Tryz.prog 31 #[.agg #[.slice fa l.length fc, .int .i64 qu, .int .i64 st, .slice sa sl sc, .int .i64 si, .bool dn]] W fun e w' => e = .returned (.bool dn) ∧ Below w3.heap.size w3 w') := Lib.hid (fun W hW => (HRD.out W).mono (fun e w' ⟨h1, h2⟩ => ⟨h1, hW.trans (h2.mono hW.size)⟩))
  have HPk' : Hid (∀ W n, Below w3.heap.size w3 W → Calls Tryz.prog 32 #[.pointer (some ⟨d, 0, none⟩), .agg #[.slice fa l.length fc, .int .i64 qu, .int .i64 st, .slice sa sl sc, .int .i64 si, .bool dn], .string n] W fun e w' => e = .returned (.bool true) ∧ Below w3.heap.size w3 w') := Lib.hid (fun W n hW => (HPk.out W n (HEE.out W hW)).mono (fun e w' ⟨h1, h2⟩ => ⟨h1, hW.trans (h2.mono hW.size)⟩))
  have HRowB := Lib.hid hrb
  clear HU HQ HSt HDw HRU HRD HPk hE3 hrb HX2 HE2 HRow2
  obtain ⟨bb, cb, hvb, hvc⟩ := HRowB.out
  rw [List.length_map] at hvb
  have HNm : Hid (0 < l.length → ∃ g, bb = some ⟨g, 0, none⟩ ∧ ∀ W, Below w3.heap.size w3 W → ∀ k pn, (l.map PF.name)[k]? = some pn → W.cell? ⟨g, k, none⟩ = some (.string pn)) := Lib.hid (fun hpos => by
    rcases hvc with h0 | ⟨g, rfl, hc⟩
    · rw [List.length_map] at h0; omega
    · refine ⟨g, rfl, fun W hW k pn hk => ?_⟩
      rw [List.getElem?_map] at hk
      obtain ⟨p, hp, rfl⟩ := Option.map_eq_some_iff.1 hk
      have hkl := (List.getElem?_eq_some_iff.1 hp).1
      have c := hc k (by rw [List.length_map]; exact hkl)
      rw [List.getD_eq_getElem?_getD, List.getElem?_map, hp] at c
      have c : w3.cell? ⟨g, k, none⟩ = some (.string (Proofs.YtgafomknpdnfcaaGreatDoor.S (L p.name))) := c
      rw [S_L] at c
      rw [hW.cell (p := ⟨g, k, none⟩) (World.block_lt_of_cell? _ _ c)]
      exact c)
  clear hvc HRowB H3
  subst hvb
  generalize usedP l = us at *
  refine wp_region_N 31 (fun X => Below w3.heap.size w3 X) (by kernel_rfl) ?_
  refine wpAnyN_take (i := 0) (oi := { dst := some 13, op := Go.Op.move (Go.Operand.tmp 5), type := 65, pos := "law.go:73", after := #[], guard := none }) (oL := { dst := some 44, op := Go.Op.pick (Go.Operand.tmp 38) (Go.Operand.const (Go.Value.bool true)) (Go.Operand.tmp 43), type := 4, pos := "law.go:73", after := #[{ on := 25, ground := Go.Ground.data }, { on := 30, ground := Go.Ground.data }], guard := none }) (v := va) rfl rfl (by kernel_rfl) (by kernel_rfl) (by kernel_rfl) (by kernel_rfl) (fun _ _ _ h => h) (Or.inl ⟨by kernel_rfl, ?_⟩) HB3.out.drew ?_
  · (intro X hX; obtain ⟨z0, z1, z2, z3, z4, z5⟩ := HX.out X hX <;> (go_simp; try (with_reducible rfl)))
  (try simp only [Act.put, List.setIfInBounds_toArray, List.set_cons_zero, List.set_cons_succ])
  refine wpAnyN_take (i := 1) (oi := { dst := some 14, op := Go.Op.move (Go.Operand.tmp 6), type := 65, pos := "law.go:73", after := #[], guard := none }) (oL := { dst := some 44, op := Go.Op.pick (Go.Operand.tmp 38) (Go.Operand.const (Go.Value.bool true)) (Go.Operand.tmp 43), type := 4, pos := "law.go:73", after := #[{ on := 25, ground := Go.Ground.data }, { on := 30, ground := Go.Ground.data }], guard := none }) (v := .slice bb l.length cb) rfl rfl (by kernel_rfl) (by kernel_rfl) (by kernel_rfl) (by kernel_rfl) (fun _ _ _ h => h) (Or.inl ⟨by kernel_rfl, ?_⟩) HB3.out.drew ?_
  · (intro X hX; obtain ⟨z0, z1, z2, z3, z4, z5⟩ := HX.out X hX <;> (go_simp; try (with_reducible rfl)))
  (try simp only [Act.put, List.setIfInBounds_toArray, List.set_cons_zero, List.set_cons_succ])
  refine wpAnyN_one (i := 2) (o := { dst := some 15, op := Go.Op.call { callee := Go.Callee.value (Go.Operand.func 27), args := #[Go.Operand.tmp 13, Go.Operand.tmp 14], argTypes := #[65, 65] }, type := 4, pos := "law.go:73", after := #[{ on := 0, ground := Go.Ground.data }, { on := 1, ground := Go.Ground.data }], guard := none }) (by kernel_rfl) rfl (fun K hK => ?_)
  go_simp
  refine (HTx.out).mono ?_
  rintro e w5 ⟨rfl, hw5⟩
  have Hw5 := Lib.hid hw5
  clear hw5
  refine hK.out _ _ (fun _ => Hw5.out) ?_
  clear hK K
  (try simp only [Act.put, List.setIfInBounds_toArray, List.set_cons_zero, List.set_cons_succ])
  refine wpAnyN_take (i := 3) (oi := { dst := some 16, op := Go.Op.unOp Go.UnOp.not 4 (Go.Operand.tmp 15), type := 4, pos := "law.go:73", after := #[{ on := 2, ground := Go.Ground.data }], guard := none }) (oL := { dst := some 44, op := Go.Op.pick (Go.Operand.tmp 38) (Go.Operand.const (Go.Value.bool true)) (Go.Operand.tmp 43), type := 4, pos := "law.go:73", after := #[{ on := 25, ground := Go.Ground.data }, { on := 30, ground := Go.Ground.data }], guard := none }) (v := .bool false) rfl rfl (by kernel_rfl) (by kernel_rfl) (by kernel_rfl) (by kernel_rfl) (fun _ _ _ h => h) (Or.inl ⟨by kernel_rfl, ?_⟩) Hw5.out ?_
  · (intro X hX; obtain ⟨z0, z1, z2, z3, z4, z5⟩ := HX.out X hX <;> (go_simp; try (with_reducible rfl)))
  (try simp only [Act.put, List.setIfInBounds_toArray, List.set_cons_zero, List.set_cons_succ])
  refine wpAnyN_take (i := 4) (oi := { dst := some 17, op := Go.Op.move (Go.Operand.tmp 16), type := 4, pos := "law.go:73", after := #[{ on := 3, ground := Go.Ground.data }, { on := 2, ground := Go.Ground.chain }], guard := none }) (oL := { dst := some 44, op := Go.Op.pick (Go.Operand.tmp 38) (Go.Operand.const (Go.Value.bool true)) (Go.Operand.tmp 43), type := 4, pos := "law.go:73", after := #[{ on := 25, ground := Go.Ground.data }, { on := 30, ground := Go.Ground.data }], guard := none }) (v := .bool false) rfl rfl (by kernel_rfl) (by kernel_rfl) (by kernel_rfl) (by kernel_rfl) (fun _ _ _ h => h) (Or.inl ⟨by kernel_rfl, ?_⟩) Hw5.out ?_
  · (intro X hX; obtain ⟨z0, z1, z2, z3, z4, z5⟩ := HX.out X hX <;> (go_simp; try (with_reducible rfl)))
  (try simp only [Act.put, List.setIfInBounds_toArray, List.set_cons_zero, List.set_cons_succ])
  refine wpAnyN_take (i := 5) (oi := { dst := some 18, op := Go.Op.move (Go.Operand.tmp 0), type := 24, pos := "law.go:73", after := #[{ on := 4, ground := Go.Ground.guard }], guard := some (4, false) }) (oL := { dst := some 44, op := Go.Op.pick (Go.Operand.tmp 38) (Go.Operand.const (Go.Value.bool true)) (Go.Operand.tmp 43), type := 4, pos := "law.go:73", after := #[{ on := 25, ground := Go.Ground.data }, { on := 30, ground := Go.Ground.data }], guard := none }) (v := .pointer (some ⟨d, 0, none⟩)) rfl rfl (by kernel_rfl) (by kernel_rfl) (by kernel_rfl) (by kernel_rfl) (fun _ _ _ h => h) (Or.inl ⟨by kernel_rfl, ?_⟩) Hw5.out ?_
  · (intro X hX; obtain ⟨z0, z1, z2, z3, z4, z5⟩ := HX.out X hX <;> (go_simp; try (with_reducible rfl)))
  (try simp only [Act.put, List.setIfInBounds_toArray, List.set_cons_zero, List.set_cons_succ])
  refine wpAnyN_take (i := 7) (oi := { dst := some 20, op := Go.Op.load 32 (Go.Operand.tmp 3), type := 32, pos := "law.go:73", after := #[{ on := 4, ground := Go.Ground.guard }], guard := some (4, false) }) (oL := { dst := some 44, op := Go.Op.pick (Go.Operand.tmp 38) (Go.Operand.const (Go.Value.bool true)) (Go.Operand.tmp 43), type := 4, pos := "law.go:73", after := #[{ on := 25, ground := Go.Ground.data }, { on := 30, ground := Go.Ground.data }], guard := none }) (v := .agg #[.slice fa l.length fc, .int .i64 qu, .int .i64 st, .slice sa sl sc, .int .i64 si, .bool dn]) rfl rfl (by kernel_rfl) (by kernel_rfl) (by kernel_rfl) (by kernel_rfl) (fun _ _ _ h => h) (Or.inl ⟨by kernel_rfl, ?_⟩) Hw5.out ?_
  · (intro X hX; obtain ⟨z0, z1, z2, z3, z4, z5⟩ := HX.out X hX <;> (go_simp; try (with_reducible rfl)))
  (try simp only [Act.put, List.setIfInBounds_toArray, List.set_cons_zero, List.set_cons_succ])
  refine wpAnyN_one (i := 6) (o := { dst := some 19, op := Go.Op.call { callee := Go.Callee.value (Go.Operand.func 13), args := #[Go.Operand.tmp 18], argTypes := #[24] }, type := 3, pos := "law.go:73", after := #[{ on := 5, ground := Go.Ground.data }, { on := 4, ground := Go.Ground.chain }, { on := 4, ground := Go.Ground.guard }], guard := some (4, false) }) (by kernel_rfl) rfl (fun K hK => ?_)
  go_simp
  refine (HU'.out _ Hw5.out).mono ?_
  rintro e w9 ⟨rfl, hw9⟩
  subst w9
  refine hK.out _ _ (fun _ => Hw5.out) ?_
  clear hK K
  (try simp only [Act.put, List.setIfInBounds_toArray, List.set_cons_zero, List.set_cons_succ])
  refine wpAnyN_one (i := 8) (o := { dst := some 21, op := Go.Op.call { callee := Go.Callee.value (Go.Operand.func 28), args := #[Go.Operand.tmp 20], argTypes := #[32] }, type := 3, pos := "law.go:73", after := #[{ on := 7, ground := Go.Ground.data }, { on := 6, ground := Go.Ground.chain }, { on := 4, ground := Go.Ground.guard }], guard := some (4, false) }) (by kernel_rfl) rfl (fun K hK => ?_)
  go_simp
  refine (HRU'.out _ Hw5.out).mono ?_
  rintro e w6 ⟨rfl, hw6⟩
  have Hw6 := Lib.hid hw6
  clear hw6
  refine hK.out _ _ (fun _ => Hw6.out) ?_
  clear hK K
  (try simp only [Act.put, List.setIfInBounds_toArray, List.set_cons_zero, List.set_cons_succ])
  refine wpAnyN_take (i := 9) (oi := { dst := some 22, op := Go.Op.binOp Go.BinOp.neq 3 (Go.Operand.tmp 19) (Go.Operand.tmp 21) 3, type := 4, pos := "law.go:73", after := #[{ on := 6, ground := Go.Ground.data }, { on := 8, ground := Go.Ground.data }, { on := 4, ground := Go.Ground.guard }], guard := some (4, false) }) (oL := { dst := some 44, op := Go.Op.pick (Go.Operand.tmp 38) (Go.Operand.const (Go.Value.bool true)) (Go.Operand.tmp 43), type := 4, pos := "law.go:73", after := #[{ on := 25, ground := Go.Ground.data }, { on := 30, ground := Go.Ground.data }], guard := none }) (v := .bool false) rfl rfl (by kernel_rfl) (by kernel_rfl) (by kernel_rfl) (by kernel_rfl) (fun _ _ _ h => h) (Or.inl ⟨by kernel_rfl, ?_⟩) Hw6.out ?_
  · (intro X hX; obtain ⟨z0, z1, z2, z3, z4, z5⟩ := HX.out X hX <;> (go_simp; try (with_reducible rfl)))
  (try simp only [Act.put, List.setIfInBounds_toArray, List.set_cons_zero, List.set_cons_succ])
  refine wpAnyN_take (i := 10) (oi := { dst := some 23, op := Go.Op.pick (Go.Operand.tmp 17) (Go.Operand.const (Go.Value.bool true)) (Go.Operand.tmp 22), type := 4, pos := "law.go:73", after := #[{ on := 4, ground := Go.Ground.data }, { on := 9, ground := Go.Ground.data }], guard := none }) (oL := { dst := some 44, op := Go.Op.pick (Go.Operand.tmp 38) (Go.Operand.const (Go.Value.bool true)) (Go.Operand.tmp 43), type := 4, pos := "law.go:73", after := #[{ on := 25, ground := Go.Ground.data }, { on := 30, ground := Go.Ground.data }], guard := none }) (v := .bool false) rfl rfl (by kernel_rfl) (by kernel_rfl) (by kernel_rfl) (by kernel_rfl) (fun _ _ _ h => h) (Or.inl ⟨by kernel_rfl, ?_⟩) Hw6.out ?_
  · (intro X hX; obtain ⟨z0, z1, z2, z3, z4, z5⟩ := HX.out X hX <;> (go_simp; try (with_reducible rfl)))
  (try simp only [Act.put, List.setIfInBounds_toArray, List.set_cons_zero, List.set_cons_succ])
  refine wpAnyN_take (i := 11) (oi := { dst := some 24, op := Go.Op.move (Go.Operand.tmp 23), type := 4, pos := "law.go:73", after := #[{ on := 10, ground := Go.Ground.data }, { on := 8, ground := Go.Ground.chain }], guard := none }) (oL := { dst := some 44, op := Go.Op.pick (Go.Operand.tmp 38) (Go.Operand.const (Go.Value.bool true)) (Go.Operand.tmp 43), type := 4, pos := "law.go:73", after := #[{ on := 25, ground := Go.Ground.data }, { on := 30, ground := Go.Ground.data }], guard := none }) (v := .bool false) rfl rfl (by kernel_rfl) (by kernel_rfl) (by kernel_rfl) (by kernel_rfl) (fun _ _ _ h => h) (Or.inl ⟨by kernel_rfl, ?_⟩) Hw6.out ?_
  · (intro X hX; obtain ⟨z0, z1, z2, z3, z4, z5⟩ := HX.out X hX <;> (go_simp; try (with_reducible rfl)))
  (try simp only [Act.put, List.setIfInBounds_toArray, List.set_cons_zero, List.set_cons_succ])
  refine wpAnyN_take (i := 12) (oi := { dst := some 25, op := Go.Op.move (Go.Operand.tmp 0), type := 24, pos := "law.go:73", after := #[{ on := 11, ground := Go.Ground.guard }], guard := some (11, false) }) (oL := { dst := some 44, op := Go.Op.pick (Go.Operand.tmp 38) (Go.Operand.const (Go.Value.bool true)) (Go.Operand.tmp 43), type := 4, pos := "law.go:73", after := #[{ on := 25, ground := Go.Ground.data }, { on := 30, ground := Go.Ground.data }], guard := none }) (v := .pointer (some ⟨d, 0, none⟩)) rfl rfl (by kernel_rfl) (by kernel_rfl) (by kernel_rfl) (by kernel_rfl) (fun _ _ _ h => h) (Or.inl ⟨by kernel_rfl, ?_⟩) Hw6.out ?_
  · (intro X hX; obtain ⟨z0, z1, z2, z3, z4, z5⟩ := HX.out X hX <;> (go_simp; try (with_reducible rfl)))
  (try simp only [Act.put, List.setIfInBounds_toArray, List.set_cons_zero, List.set_cons_succ])
  refine wpAnyN_take (i := 14) (oi := { dst := some 27, op := Go.Op.fieldAddr 32 (Go.Operand.tmp 3) 1, type := 0, pos := "law.go:73", after := #[{ on := 11, ground := Go.Ground.guard }], guard := some (11, false) }) (oL := { dst := some 44, op := Go.Op.pick (Go.Operand.tmp 38) (Go.Operand.const (Go.Value.bool true)) (Go.Operand.tmp 43), type := 4, pos := "law.go:73", after := #[{ on := 25, ground := Go.Ground.data }, { on := 30, ground := Go.Ground.data }], guard := none }) (v := .pointer (some ⟨w.heap.size, 1, none⟩)) rfl rfl (by kernel_rfl) (by kernel_rfl) (by kernel_rfl) (by kernel_rfl) (fun _ _ _ h => h) (Or.inl ⟨by kernel_rfl, ?_⟩) Hw6.out ?_
  · (intro X hX; obtain ⟨z0, z1, z2, z3, z4, z5⟩ := HX.out X hX <;> (go_simp; try (with_reducible rfl)))
  (try simp only [Act.put, List.setIfInBounds_toArray, List.set_cons_zero, List.set_cons_succ])
  refine wpAnyN_take (i := 15) (oi := { dst := some 28, op := Go.Op.load 3 (Go.Operand.tmp 27), type := 3, pos := "law.go:73", after := #[{ on := 14, ground := Go.Ground.data }, { on := 11, ground := Go.Ground.guard }], guard := some (11, false) }) (oL := { dst := some 44, op := Go.Op.pick (Go.Operand.tmp 38) (Go.Operand.const (Go.Value.bool true)) (Go.Operand.tmp 43), type := 4, pos := "law.go:73", after := #[{ on := 25, ground := Go.Ground.data }, { on := 30, ground := Go.Ground.data }], guard := none }) (v := .int .i64 qu) rfl rfl (by kernel_rfl) (by kernel_rfl) (by kernel_rfl) (by kernel_rfl) (fun _ _ _ h => h) (Or.inl ⟨by kernel_rfl, ?_⟩) Hw6.out ?_
  · (intro X hX; obtain ⟨z0, z1, z2, z3, z4, z5⟩ := HX.out X hX <;> (go_simp; try (with_reducible rfl)))
  (try simp only [Act.put, List.setIfInBounds_toArray, List.set_cons_zero, List.set_cons_succ])
  refine wpAnyN_one (i := 13) (o := { dst := some 26, op := Go.Op.call { callee := Go.Callee.value (Go.Operand.func 29), args := #[Go.Operand.tmp 25], argTypes := #[24] }, type := 3, pos := "law.go:73", after := #[{ on := 12, ground := Go.Ground.data }, { on := 11, ground := Go.Ground.chain }, { on := 11, ground := Go.Ground.guard }], guard := some (11, false) }) (by kernel_rfl) rfl (fun K hK => ?_)
  go_simp
  refine (HQ'.out _ Hw6.out).mono ?_
  rintro e w9 ⟨rfl, hw9⟩
  subst w9
  refine hK.out _ _ (fun _ => Hw6.out) ?_
  clear hK K
  (try simp only [Act.put, List.setIfInBounds_toArray, List.set_cons_zero, List.set_cons_succ])
  refine wpAnyN_take (i := 16) (oi := { dst := some 29, op := Go.Op.binOp Go.BinOp.neq 3 (Go.Operand.tmp 26) (Go.Operand.tmp 28) 3, type := 4, pos := "law.go:73", after := #[{ on := 13, ground := Go.Ground.data }, { on := 15, ground := Go.Ground.data }, { on := 11, ground := Go.Ground.guard }], guard := some (11, false) }) (oL := { dst := some 44, op := Go.Op.pick (Go.Operand.tmp 38) (Go.Operand.const (Go.Value.bool true)) (Go.Operand.tmp 43), type := 4, pos := "law.go:73", after := #[{ on := 25, ground := Go.Ground.data }, { on := 30, ground := Go.Ground.data }], guard := none }) (v := .bool false) rfl rfl (by kernel_rfl) (by kernel_rfl) (by kernel_rfl) (by kernel_rfl) (fun _ _ _ h => h) (Or.inl ⟨by kernel_rfl, ?_⟩) Hw6.out ?_
  · (intro X hX; obtain ⟨z0, z1, z2, z3, z4, z5⟩ := HX.out X hX <;> (go_simp; try (with_reducible rfl)))
  (try simp only [Act.put, List.setIfInBounds_toArray, List.set_cons_zero, List.set_cons_succ])
  refine wpAnyN_take (i := 17) (oi := { dst := some 30, op := Go.Op.pick (Go.Operand.tmp 24) (Go.Operand.const (Go.Value.bool true)) (Go.Operand.tmp 29), type := 4, pos := "law.go:73", after := #[{ on := 11, ground := Go.Ground.data }, { on := 16, ground := Go.Ground.data }], guard := none }) (oL := { dst := some 44, op := Go.Op.pick (Go.Operand.tmp 38) (Go.Operand.const (Go.Value.bool true)) (Go.Operand.tmp 43), type := 4, pos := "law.go:73", after := #[{ on := 25, ground := Go.Ground.data }, { on := 30, ground := Go.Ground.data }], guard := none }) (v := .bool false) rfl rfl (by kernel_rfl) (by kernel_rfl) (by kernel_rfl) (by kernel_rfl) (fun _ _ _ h => h) (Or.inl ⟨by kernel_rfl, ?_⟩) Hw6.out ?_
  · (intro X hX; obtain ⟨z0, z1, z2, z3, z4, z5⟩ := HX.out X hX <;> (go_simp; try (with_reducible rfl)))
  (try simp only [Act.put, List.setIfInBounds_toArray, List.set_cons_zero, List.set_cons_succ])
  refine wpAnyN_take (i := 18) (oi := { dst := some 31, op := Go.Op.move (Go.Operand.tmp 30), type := 4, pos := "law.go:73", after := #[{ on := 17, ground := Go.Ground.data }, { on := 13, ground := Go.Ground.chain }], guard := none }) (oL := { dst := some 44, op := Go.Op.pick (Go.Operand.tmp 38) (Go.Operand.const (Go.Value.bool true)) (Go.Operand.tmp 43), type := 4, pos := "law.go:73", after := #[{ on := 25, ground := Go.Ground.data }, { on := 30, ground := Go.Ground.data }], guard := none }) (v := .bool false) rfl rfl (by kernel_rfl) (by kernel_rfl) (by kernel_rfl) (by kernel_rfl) (fun _ _ _ h => h) (Or.inl ⟨by kernel_rfl, ?_⟩) Hw6.out ?_
  · (intro X hX; obtain ⟨z0, z1, z2, z3, z4, z5⟩ := HX.out X hX <;> (go_simp; try (with_reducible rfl)))
  (try simp only [Act.put, List.setIfInBounds_toArray, List.set_cons_zero, List.set_cons_succ])
  refine wpAnyN_take (i := 19) (oi := { dst := some 32, op := Go.Op.move (Go.Operand.tmp 0), type := 24, pos := "law.go:73", after := #[{ on := 18, ground := Go.Ground.guard }], guard := some (18, false) }) (oL := { dst := some 44, op := Go.Op.pick (Go.Operand.tmp 38) (Go.Operand.const (Go.Value.bool true)) (Go.Operand.tmp 43), type := 4, pos := "law.go:73", after := #[{ on := 25, ground := Go.Ground.data }, { on := 30, ground := Go.Ground.data }], guard := none }) (v := .pointer (some ⟨d, 0, none⟩)) rfl rfl (by kernel_rfl) (by kernel_rfl) (by kernel_rfl) (by kernel_rfl) (fun _ _ _ h => h) (Or.inl ⟨by kernel_rfl, ?_⟩) Hw6.out ?_
  · (intro X hX; obtain ⟨z0, z1, z2, z3, z4, z5⟩ := HX.out X hX <;> (go_simp; try (with_reducible rfl)))
  (try simp only [Act.put, List.setIfInBounds_toArray, List.set_cons_zero, List.set_cons_succ])
  refine wpAnyN_take (i := 21) (oi := { dst := some 34, op := Go.Op.fieldAddr 32 (Go.Operand.tmp 3) 2, type := 0, pos := "law.go:73", after := #[{ on := 18, ground := Go.Ground.guard }], guard := some (18, false) }) (oL := { dst := some 44, op := Go.Op.pick (Go.Operand.tmp 38) (Go.Operand.const (Go.Value.bool true)) (Go.Operand.tmp 43), type := 4, pos := "law.go:73", after := #[{ on := 25, ground := Go.Ground.data }, { on := 30, ground := Go.Ground.data }], guard := none }) (v := .pointer (some ⟨w.heap.size, 2, none⟩)) rfl rfl (by kernel_rfl) (by kernel_rfl) (by kernel_rfl) (by kernel_rfl) (fun _ _ _ h => h) (Or.inl ⟨by kernel_rfl, ?_⟩) Hw6.out ?_
  · (intro X hX; obtain ⟨z0, z1, z2, z3, z4, z5⟩ := HX.out X hX <;> (go_simp; try (with_reducible rfl)))
  (try simp only [Act.put, List.setIfInBounds_toArray, List.set_cons_zero, List.set_cons_succ])
  refine wpAnyN_take (i := 22) (oi := { dst := some 35, op := Go.Op.load 3 (Go.Operand.tmp 34), type := 3, pos := "law.go:73", after := #[{ on := 21, ground := Go.Ground.data }, { on := 18, ground := Go.Ground.guard }], guard := some (18, false) }) (oL := { dst := some 44, op := Go.Op.pick (Go.Operand.tmp 38) (Go.Operand.const (Go.Value.bool true)) (Go.Operand.tmp 43), type := 4, pos := "law.go:73", after := #[{ on := 25, ground := Go.Ground.data }, { on := 30, ground := Go.Ground.data }], guard := none }) (v := .int .i64 st) rfl rfl (by kernel_rfl) (by kernel_rfl) (by kernel_rfl) (by kernel_rfl) (fun _ _ _ h => h) (Or.inl ⟨by kernel_rfl, ?_⟩) Hw6.out ?_
  · (intro X hX; obtain ⟨z0, z1, z2, z3, z4, z5⟩ := HX.out X hX <;> (go_simp; try (with_reducible rfl)))
  (try simp only [Act.put, List.setIfInBounds_toArray, List.set_cons_zero, List.set_cons_succ])
  refine wpAnyN_one (i := 20) (o := { dst := some 33, op := Go.Op.call { callee := Go.Callee.value (Go.Operand.func 14), args := #[Go.Operand.tmp 32], argTypes := #[24] }, type := 3, pos := "law.go:73", after := #[{ on := 19, ground := Go.Ground.data }, { on := 18, ground := Go.Ground.chain }, { on := 18, ground := Go.Ground.guard }], guard := some (18, false) }) (by kernel_rfl) rfl (fun K hK => ?_)
  go_simp
  refine (HSt'.out _ Hw6.out).mono ?_
  rintro e w9 ⟨rfl, hw9⟩
  subst w9
  refine hK.out _ _ (fun _ => Hw6.out) ?_
  clear hK K
  (try simp only [Act.put, List.setIfInBounds_toArray, List.set_cons_zero, List.set_cons_succ])
  refine wpAnyN_take (i := 23) (oi := { dst := some 36, op := Go.Op.binOp Go.BinOp.neq 3 (Go.Operand.tmp 33) (Go.Operand.tmp 35) 3, type := 4, pos := "law.go:73", after := #[{ on := 20, ground := Go.Ground.data }, { on := 22, ground := Go.Ground.data }, { on := 18, ground := Go.Ground.guard }], guard := some (18, false) }) (oL := { dst := some 44, op := Go.Op.pick (Go.Operand.tmp 38) (Go.Operand.const (Go.Value.bool true)) (Go.Operand.tmp 43), type := 4, pos := "law.go:73", after := #[{ on := 25, ground := Go.Ground.data }, { on := 30, ground := Go.Ground.data }], guard := none }) (v := .bool false) rfl rfl (by kernel_rfl) (by kernel_rfl) (by kernel_rfl) (by kernel_rfl) (fun _ _ _ h => h) (Or.inl ⟨by kernel_rfl, ?_⟩) Hw6.out ?_
  · (intro X hX; obtain ⟨z0, z1, z2, z3, z4, z5⟩ := HX.out X hX <;> (go_simp; try (with_reducible rfl)))
  (try simp only [Act.put, List.setIfInBounds_toArray, List.set_cons_zero, List.set_cons_succ])
  refine wpAnyN_take (i := 24) (oi := { dst := some 37, op := Go.Op.pick (Go.Operand.tmp 31) (Go.Operand.const (Go.Value.bool true)) (Go.Operand.tmp 36), type := 4, pos := "law.go:73", after := #[{ on := 18, ground := Go.Ground.data }, { on := 23, ground := Go.Ground.data }], guard := none }) (oL := { dst := some 44, op := Go.Op.pick (Go.Operand.tmp 38) (Go.Operand.const (Go.Value.bool true)) (Go.Operand.tmp 43), type := 4, pos := "law.go:73", after := #[{ on := 25, ground := Go.Ground.data }, { on := 30, ground := Go.Ground.data }], guard := none }) (v := .bool false) rfl rfl (by kernel_rfl) (by kernel_rfl) (by kernel_rfl) (by kernel_rfl) (fun _ _ _ h => h) (Or.inl ⟨by kernel_rfl, ?_⟩) Hw6.out ?_
  · (intro X hX; obtain ⟨z0, z1, z2, z3, z4, z5⟩ := HX.out X hX <;> (go_simp; try (with_reducible rfl)))
  (try simp only [Act.put, List.setIfInBounds_toArray, List.set_cons_zero, List.set_cons_succ])
  refine wpAnyN_take (i := 25) (oi := { dst := some 38, op := Go.Op.move (Go.Operand.tmp 37), type := 4, pos := "law.go:73", after := #[{ on := 24, ground := Go.Ground.data }, { on := 20, ground := Go.Ground.chain }], guard := none }) (oL := { dst := some 44, op := Go.Op.pick (Go.Operand.tmp 38) (Go.Operand.const (Go.Value.bool true)) (Go.Operand.tmp 43), type := 4, pos := "law.go:73", after := #[{ on := 25, ground := Go.Ground.data }, { on := 30, ground := Go.Ground.data }], guard := none }) (v := .bool false) rfl rfl (by kernel_rfl) (by kernel_rfl) (by kernel_rfl) (by kernel_rfl) (fun _ _ _ h => h) (Or.inl ⟨by kernel_rfl, ?_⟩) Hw6.out ?_
  · (intro X hX; obtain ⟨z0, z1, z2, z3, z4, z5⟩ := HX.out X hX <;> (go_simp; try (with_reducible rfl)))
  (try simp only [Act.put, List.setIfInBounds_toArray, List.set_cons_zero, List.set_cons_succ])
  refine wpAnyN_take (i := 26) (oi := { dst := some 39, op := Go.Op.move (Go.Operand.tmp 0), type := 24, pos := "law.go:73", after := #[{ on := 25, ground := Go.Ground.guard }], guard := some (25, false) }) (oL := { dst := some 44, op := Go.Op.pick (Go.Operand.tmp 38) (Go.Operand.const (Go.Value.bool true)) (Go.Operand.tmp 43), type := 4, pos := "law.go:73", after := #[{ on := 25, ground := Go.Ground.data }, { on := 30, ground := Go.Ground.data }], guard := none }) (v := .pointer (some ⟨d, 0, none⟩)) rfl rfl (by kernel_rfl) (by kernel_rfl) (by kernel_rfl) (by kernel_rfl) (fun _ _ _ h => h) (Or.inl ⟨by kernel_rfl, ?_⟩) Hw6.out ?_
  · (intro X hX; obtain ⟨z0, z1, z2, z3, z4, z5⟩ := HX.out X hX <;> (go_simp; try (with_reducible rfl)))
  (try simp only [Act.put, List.setIfInBounds_toArray, List.set_cons_zero, List.set_cons_succ])
  refine wpAnyN_take (i := 28) (oi := { dst := some 41, op := Go.Op.load 32 (Go.Operand.tmp 3), type := 32, pos := "law.go:73", after := #[{ on := 25, ground := Go.Ground.guard }], guard := some (25, false) }) (oL := { dst := some 44, op := Go.Op.pick (Go.Operand.tmp 38) (Go.Operand.const (Go.Value.bool true)) (Go.Operand.tmp 43), type := 4, pos := "law.go:73", after := #[{ on := 25, ground := Go.Ground.data }, { on := 30, ground := Go.Ground.data }], guard := none }) (v := .agg #[.slice fa l.length fc, .int .i64 qu, .int .i64 st, .slice sa sl sc, .int .i64 si, .bool dn]) rfl rfl (by kernel_rfl) (by kernel_rfl) (by kernel_rfl) (by kernel_rfl) (fun _ _ _ h => h) (Or.inl ⟨by kernel_rfl, ?_⟩) Hw6.out ?_
  · (intro X hX; obtain ⟨z0, z1, z2, z3, z4, z5⟩ := HX.out X hX <;> (go_simp; try (with_reducible rfl)))
  (try simp only [Act.put, List.setIfInBounds_toArray, List.set_cons_zero, List.set_cons_succ])
  refine wpAnyN_one (i := 27) (o := { dst := some 40, op := Go.Op.call { callee := Go.Callee.value (Go.Operand.func 30), args := #[Go.Operand.tmp 39], argTypes := #[24] }, type := 4, pos := "law.go:73", after := #[{ on := 26, ground := Go.Ground.data }, { on := 25, ground := Go.Ground.chain }, { on := 25, ground := Go.Ground.guard }], guard := some (25, false) }) (by kernel_rfl) rfl (fun K hK => ?_)
  go_simp
  refine (HDw'.out _ Hw6.out).mono ?_
  rintro e w9 ⟨rfl, hw9⟩
  subst w9
  refine hK.out _ _ (fun _ => Hw6.out) ?_
  clear hK K
  (try simp only [Act.put, List.setIfInBounds_toArray, List.set_cons_zero, List.set_cons_succ])
  refine wpAnyN_one (i := 29) (o := { dst := some 42, op := Go.Op.call { callee := Go.Callee.value (Go.Operand.func 31), args := #[Go.Operand.tmp 41], argTypes := #[32] }, type := 4, pos := "law.go:73", after := #[{ on := 28, ground := Go.Ground.data }, { on := 27, ground := Go.Ground.chain }, { on := 25, ground := Go.Ground.guard }], guard := some (25, false) }) (by kernel_rfl) rfl (fun K hK => ?_)
  go_simp
  refine (HRD'.out _ Hw6.out).mono ?_
  rintro e w7 ⟨rfl, hw7⟩
  have Hw7 := Lib.hid hw7
  clear hw7
  refine hK.out _ _ (fun _ => Hw7.out) ?_
  clear hK K
  (try simp only [Act.put, List.setIfInBounds_toArray, List.set_cons_zero, List.set_cons_succ])
  refine wpAnyN_take (i := 30) (oi := { dst := some 43, op := Go.Op.binOp Go.BinOp.neq 4 (Go.Operand.tmp 40) (Go.Operand.tmp 42) 4, type := 4, pos := "law.go:73", after := #[{ on := 27, ground := Go.Ground.data }, { on := 29, ground := Go.Ground.data }, { on := 25, ground := Go.Ground.guard }], guard := some (25, false) }) (oL := { dst := some 44, op := Go.Op.pick (Go.Operand.tmp 38) (Go.Operand.const (Go.Value.bool true)) (Go.Operand.tmp 43), type := 4, pos := "law.go:73", after := #[{ on := 25, ground := Go.Ground.data }, { on := 30, ground := Go.Ground.data }], guard := none }) (v := .bool false) rfl rfl (by kernel_rfl) (by kernel_rfl) (by kernel_rfl) (by kernel_rfl) (fun _ _ _ h => h) (Or.inl ⟨by kernel_rfl, ?_⟩) Hw7.out ?_
  · (intro X hX; obtain ⟨z0, z1, z2, z3, z4, z5⟩ := HX.out X hX <;> (go_simp; try (with_reducible rfl)))
  (try simp only [Act.put, List.setIfInBounds_toArray, List.set_cons_zero, List.set_cons_succ])
  refine wpAnyN_one (i := 31) (o := { dst := some 44, op := Go.Op.pick (Go.Operand.tmp 38) (Go.Operand.const (Go.Value.bool true)) (Go.Operand.tmp 43), type := 4, pos := "law.go:73", after := #[{ on := 25, ground := Go.Ground.data }, { on := 30, ground := Go.Ground.data }], guard := none }) (by kernel_rfl) rfl (fun K hK => ?_)
  go_simp
  refine hK.out _ _ (fun e => absurd (e.symm.trans (by kernel_rfl) : false = true) Bool.false_ne_true) ?_
  clear hK K
  (try simp only [Act.put, List.setIfInBounds_toArray, List.set_cons_zero, List.set_cons_succ])
  refine wpAnyN_of_H (S' := fun _ => True) _ _ _ _ (by kernel_rfl) ?_
  refine wpAnyH_done (by kernel_rfl) ?_ _
  go_wp2_with fail
  go_loopw [7, 8] (fun vi vo wr => ∃ (k : Nat) (X : World) (u : Value), X = wr ∧ vo = u ∧ k ≤ l.length ∧ vi = .int .i64 k ∧ Below w3.heap.size w3 X) (fun i _ _ => l.length - (Go.RowKit.intOf i).toNat)
  case atStart => exact ⟨0, _, _, rfl, rfl, Nat.zero_le _, rfl, Hw7.out⟩
  case round =>
    obtain ⟨k, X, u, hX, hu, hk, rfl, hbX⟩ := hrel
    subst hX
    subst hu
    have HbX := Lib.hid hbX
    clear hbX
    have hk2 : (k : Int) ≤ 1000000 := by omega
    by_cases hlt : k < l.length
    · obtain ⟨g, hbb, hnm⟩ := HNm.out (by omega)
      subst hbb
      have HNm := Lib.hid hnm
      obtain ⟨pn, hpn⟩ : ∃ pn, (l.map PF.name)[k]? = some pn := ⟨_, List.getElem?_eq_getElem (by rw [List.length_map]; exact hlt)⟩
      have hli2 : (k : Int) < (l.length : Int) := by omega
      have HLt := Lib.hid hlt
      clear hnm hk
      obtain ⟨x0, x1, x2, x3, x4, x5⟩ := HX.out X HbX.out
      go_upto_region 8 with fail
      clear x0 x1 x2 x3 x4 x5
      have HPk := HPk'
      refine wp_region_N 7 (fun X => Below w3.heap.size w3 X) (by kernel_rfl) ?_
      refine wpAnyN_take (i := 0) (oi := { dst := some 51, op := Go.Op.move (Go.Operand.tmp 0), type := 24, pos := "law.go:77", after := #[], guard := none }) (oL := { dst := some 8, op := Go.Op.assign (Go.Operand.tmp 57), type := 4, pos := "law.go:77", after := #[{ on := 6, ground := Go.Ground.data }, { on := 6, ground := Go.Ground.chain }, { on := 0, ground := Go.Ground.phase }, { on := 1, ground := Go.Ground.phase }, { on := 2, ground := Go.Ground.phase }, { on := 3, ground := Go.Ground.phase }, { on := 4, ground := Go.Ground.phase }, { on := 5, ground := Go.Ground.phase }, { on := 6, ground := Go.Ground.phase }], guard := none }) (v := .pointer (some ⟨d, 0, none⟩)) rfl rfl (by kernel_rfl) (by kernel_rfl) (by kernel_rfl) (by kernel_rfl) (fun _ _ _ h => h) (Or.inl ⟨by kernel_rfl, ?_⟩) HbX.out.drew ?_
      · (intro X hX; obtain ⟨z0, z1, z2, z3, z4, z5⟩ := HX.out X hX; have c0 := HNm.out _ hX k pn hpn <;> (go_simp; (try (with_reducible rfl)); (try omega)))
      (try simp only [Act.put, List.setIfInBounds_toArray, List.set_cons_zero, List.set_cons_succ])
      refine wpAnyN_take (i := 1) (oi := { dst := some 52, op := Go.Op.load 32 (Go.Operand.tmp 3), type := 32, pos := "law.go:77", after := #[], guard := none }) (oL := { dst := some 8, op := Go.Op.assign (Go.Operand.tmp 57), type := 4, pos := "law.go:77", after := #[{ on := 6, ground := Go.Ground.data }, { on := 6, ground := Go.Ground.chain }, { on := 0, ground := Go.Ground.phase }, { on := 1, ground := Go.Ground.phase }, { on := 2, ground := Go.Ground.phase }, { on := 3, ground := Go.Ground.phase }, { on := 4, ground := Go.Ground.phase }, { on := 5, ground := Go.Ground.phase }, { on := 6, ground := Go.Ground.phase }], guard := none }) (v := .agg #[.slice fa l.length fc, .int .i64 qu, .int .i64 st, .slice sa sl sc, .int .i64 si, .bool dn]) rfl rfl (by kernel_rfl) (by kernel_rfl) (by kernel_rfl) (by kernel_rfl) (fun _ _ _ h => h) (Or.inl ⟨by kernel_rfl, ?_⟩) HbX.out.drew ?_
      · (intro X hX; obtain ⟨z0, z1, z2, z3, z4, z5⟩ := HX.out X hX; have c0 := HNm.out _ hX k pn hpn <;> (go_simp; (try (with_reducible rfl)); (try omega)))
      (try simp only [Act.put, List.setIfInBounds_toArray, List.set_cons_zero, List.set_cons_succ])
      refine wpAnyN_take (i := 2) (oi := { dst := some 53, op := Go.Op.move (Go.Operand.tmp 6), type := 65, pos := "law.go:77", after := #[], guard := none }) (oL := { dst := some 8, op := Go.Op.assign (Go.Operand.tmp 57), type := 4, pos := "law.go:77", after := #[{ on := 6, ground := Go.Ground.data }, { on := 6, ground := Go.Ground.chain }, { on := 0, ground := Go.Ground.phase }, { on := 1, ground := Go.Ground.phase }, { on := 2, ground := Go.Ground.phase }, { on := 3, ground := Go.Ground.phase }, { on := 4, ground := Go.Ground.phase }, { on := 5, ground := Go.Ground.phase }, { on := 6, ground := Go.Ground.phase }], guard := none }) (v := .slice (some ⟨g, 0, none⟩) l.length cb) rfl rfl (by kernel_rfl) (by kernel_rfl) (by kernel_rfl) (by kernel_rfl) (fun _ _ _ h => h) (Or.inl ⟨by kernel_rfl, ?_⟩) HbX.out.drew ?_
      · (intro X hX; obtain ⟨z0, z1, z2, z3, z4, z5⟩ := HX.out X hX; have c0 := HNm.out _ hX k pn hpn <;> (go_simp; (try (with_reducible rfl)); (try omega)))
      (try simp only [Act.put, List.setIfInBounds_toArray, List.set_cons_zero, List.set_cons_succ])
      refine wpAnyN_take (i := 3) (oi := { dst := some 54, op := Go.Op.move (Go.Operand.tmp 7), type := 3, pos := "law.go:77", after := #[], guard := none }) (oL := { dst := some 8, op := Go.Op.assign (Go.Operand.tmp 57), type := 4, pos := "law.go:77", after := #[{ on := 6, ground := Go.Ground.data }, { on := 6, ground := Go.Ground.chain }, { on := 0, ground := Go.Ground.phase }, { on := 1, ground := Go.Ground.phase }, { on := 2, ground := Go.Ground.phase }, { on := 3, ground := Go.Ground.phase }, { on := 4, ground := Go.Ground.phase }, { on := 5, ground := Go.Ground.phase }, { on := 6, ground := Go.Ground.phase }], guard := none }) (v := .int .i64 (k : Int)) rfl rfl (by kernel_rfl) (by kernel_rfl) (by kernel_rfl) (by kernel_rfl) (fun _ _ _ h => h) (Or.inl ⟨by kernel_rfl, ?_⟩) HbX.out.drew ?_
      · (intro X hX; obtain ⟨z0, z1, z2, z3, z4, z5⟩ := HX.out X hX; have c0 := HNm.out _ hX k pn hpn <;> (go_simp; (try (with_reducible rfl)); (try omega)))
      (try simp only [Act.put, List.setIfInBounds_toArray, List.set_cons_zero, List.set_cons_succ])
      refine wpAnyN_take (i := 4) (oi := { dst := some 55, op := Go.Op.indexAddr 65 (Go.Operand.tmp 53) (Go.Operand.tmp 54), type := 0, pos := "law.go:77", after := #[{ on := 2, ground := Go.Ground.data }, { on := 3, ground := Go.Ground.data }], guard := none }) (oL := { dst := some 8, op := Go.Op.assign (Go.Operand.tmp 57), type := 4, pos := "law.go:77", after := #[{ on := 6, ground := Go.Ground.data }, { on := 6, ground := Go.Ground.chain }, { on := 0, ground := Go.Ground.phase }, { on := 1, ground := Go.Ground.phase }, { on := 2, ground := Go.Ground.phase }, { on := 3, ground := Go.Ground.phase }, { on := 4, ground := Go.Ground.phase }, { on := 5, ground := Go.Ground.phase }, { on := 6, ground := Go.Ground.phase }], guard := none }) (v := .pointer (some ⟨g, k, none⟩)) rfl rfl (by kernel_rfl) (by kernel_rfl) (by kernel_rfl) (by kernel_rfl) (fun _ _ _ h => h) (Or.inl ⟨by kernel_rfl, ?_⟩) HbX.out.drew ?_
      · (intro X hX; obtain ⟨z0, z1, z2, z3, z4, z5⟩ := HX.out X hX; have c0 := HNm.out _ hX k pn hpn <;> (go_simp; (try (with_reducible rfl)); (try omega)))
      (try simp only [Act.put, List.setIfInBounds_toArray, List.set_cons_zero, List.set_cons_succ])
      refine wpAnyN_take (i := 5) (oi := { dst := some 56, op := Go.Op.load 9 (Go.Operand.tmp 55), type := 9, pos := "law.go:77", after := #[{ on := 4, ground := Go.Ground.data }], guard := none }) (oL := { dst := some 8, op := Go.Op.assign (Go.Operand.tmp 57), type := 4, pos := "law.go:77", after := #[{ on := 6, ground := Go.Ground.data }, { on := 6, ground := Go.Ground.chain }, { on := 0, ground := Go.Ground.phase }, { on := 1, ground := Go.Ground.phase }, { on := 2, ground := Go.Ground.phase }, { on := 3, ground := Go.Ground.phase }, { on := 4, ground := Go.Ground.phase }, { on := 5, ground := Go.Ground.phase }, { on := 6, ground := Go.Ground.phase }], guard := none }) (v := .string pn) rfl rfl (by kernel_rfl) (by kernel_rfl) (by kernel_rfl) (by kernel_rfl) (fun _ _ _ h => h) (Or.inl ⟨by kernel_rfl, ?_⟩) HbX.out.drew ?_
      · (intro X hX; obtain ⟨z0, z1, z2, z3, z4, z5⟩ := HX.out X hX; have c0 := HNm.out _ hX k pn hpn <;> (go_simp; (try (with_reducible rfl)); (try omega)))
      (try simp only [Act.put, List.setIfInBounds_toArray, List.set_cons_zero, List.set_cons_succ])
      refine wpAnyN_one (i := 6) (o := { dst := some 57, op := Go.Op.call { callee := Go.Callee.value (Go.Operand.func 32), args := #[Go.Operand.tmp 51, Go.Operand.tmp 52, Go.Operand.tmp 56], argTypes := #[24, 32, 9] }, type := 4, pos := "law.go:77", after := #[{ on := 0, ground := Go.Ground.data }, { on := 1, ground := Go.Ground.data }, { on := 5, ground := Go.Ground.data }], guard := none }) (by kernel_rfl) rfl (fun K hK => ?_)
      go_simp
      refine (HPk.out _ _ HbX.out.drew).mono ?_
      rintro e w8 ⟨rfl, hw8⟩
      have Hw8 := Lib.hid hw8
      clear hw8
      refine hK.out _ _ (fun _ => Hw8.out) ?_
      clear hK K
      (try simp only [Act.put, List.setIfInBounds_toArray, List.set_cons_zero, List.set_cons_succ])
      refine wpAnyN_one (i := 7) (o := { dst := some 8, op := Go.Op.assign (Go.Operand.tmp 57), type := 4, pos := "law.go:77", after := #[{ on := 6, ground := Go.Ground.data }, { on := 6, ground := Go.Ground.chain }, { on := 0, ground := Go.Ground.phase }, { on := 1, ground := Go.Ground.phase }, { on := 2, ground := Go.Ground.phase }, { on := 3, ground := Go.Ground.phase }, { on := 4, ground := Go.Ground.phase }, { on := 5, ground := Go.Ground.phase }, { on := 6, ground := Go.Ground.phase }], guard := none }) (by kernel_rfl) rfl (fun K hK => ?_)
      go_simp
      refine hK.out _ _ (fun e => absurd (e.symm.trans (by kernel_rfl) : false = true) Bool.false_ne_true) ?_
      clear hK K
      (try simp only [Act.put, List.setIfInBounds_toArray, List.set_cons_zero, List.set_cons_succ])
      refine wpAnyN_of_H (S' := fun _ => True) _ _ _ _ (by kernel_rfl) ?_
      refine wpAnyH_done (by kernel_rfl) ?_ _
      go_wp2_with fail
      go_roundw
      case rel => exact ⟨k + 1, _, _, rfl, rfl, HLt.out, by go_num, Hw8.out⟩
      case measure => have := HLt.out; simp [Go.RowKit.intOf]; omega
    · have hli2 : ¬ (k : Int) < (l.length : Int) := by omega
      obtain ⟨x0, x1, x2, x3, x4, x5⟩ := HX.out X HbX.out
      go_wp2_with (go_at_call 32; first | (refine (HPk'.out _ _ HB9.out).mono ?_; rintro e w10 ⟨rfl, hb10⟩; have HB10 := Lib.hid hb10; clear hb10) | (refine (HPk'.out _ _ HB8.out).mono ?_; rintro e w9 ⟨rfl, hb9⟩; have HB9 := Lib.hid hb9; clear hb9 x0 x1 x2 x3 x4 x5; obtain ⟨x0, x1, x2, x3, x4, x5⟩ := HX.out w9 HB9.out) | (refine (HPk'.out _ _ HbX.out).mono ?_; rintro e w8 ⟨rfl, hb8⟩; have HB8 := Lib.hid hb8; clear hb8 x0 x1 x2 x3 x4 x5; obtain ⟨x0, x1, x2, x3, x4, x5⟩ := HX.out w8 HB8.out))
      go_ret
      exact ⟨rfl, HEE.out _ HB10.out⟩
end Go.Proofs.YtgafomknpdnfcaaGreatDoor
