/- lex: lists of words that are alike, as the document sees it. -/
import Derived.Test.YtliiapdakojomabDoorBr
import Derived.Test.YtliiapdakojomabDoorBt
import Derived.Deep.AppendLies
import Derived.Deep.Upon
import Derived.Test.YtliiapdakojomabDoorEt
namespace Go.Proofs.YtliiapdakojomabDoor
open Go.RowKit

/-- What is known while two words are compared. -/
abbrev SaS (g1 o1 g2 o2 k : Nat) (ck : Int) (ct : ByteArray) (cg : Bool) (va : Option Addr) (vn vc : Nat) (vb : Option Addr) (wn wc : Nat) (w W : World) : World → Prop := fun X =>
  X.cell? ⟨g1, o1 + k * 4, none⟩ = some (.int .i64 ck) ∧ X.cell? ⟨g1, o1 + k * 4 + 1, none⟩ = some (.string ct) ∧ X.cell? ⟨g1, o1 + k * 4 + 2, none⟩ = some (.slice va vn vc) ∧ X.cell? ⟨g1, o1 + k * 4 + 3, none⟩ = some (.bool cg) ∧
  X.cell? ⟨g2, o2 + k * 4, none⟩ = some (.int .i64 ck) ∧ X.cell? ⟨g2, o2 + k * 4 + 1, none⟩ = some (.string ct) ∧ X.cell? ⟨g2, o2 + k * 4 + 2, none⟩ = some (.slice vb wn wc) ∧ X.cell? ⟨g2, o2 + k * 4 + 3, none⟩ = some (.bool cg) ∧ Hid (Below w.heap.size w X) ∧ Hid (Below W.heap.size W X)
theorem SaS.on {g1 o1 g2 o2 k : Nat} {ck : Int} {ct : ByteArray} {cg : Bool} {va : Option Addr} {vn vc : Nat} {vb : Option Addr} {wn wc : Nat} {w W X Y : World} (h : SaS g1 o1 g2 o2 k ck ct cg va vn vc vb wn wc w W X) (hb : Below X.heap.size X Y) : SaS g1 o1 g2 o2 k ck ct cg va vn vc vb wn wc w W Y := by
  obtain ⟨p0, p1, p2, p3, r0, r1, r2, r3, h1, h2⟩ := h
  exact ⟨cellB p0 hb, cellB p1 hb, cellB p2 hb, cellB p3 hb, cellB r0 hb, cellB r1 hb, cellB r2 hb, cellB r3 hb, Lib.hid (h1.out.trans (hb.mono h1.out.size)), Lib.hid (h2.out.trans (hb.mono h2.out.size))⟩
set_option maxRecDepth 100000 in
set_option maxHeartbeats 4000000 in
theorem same_step (l : List Wd) (a1 a2 : Option Addr) (n1 c1 n2 c2 : Nat) (D1 D2 : Nat → Prop) (w : World) (h1 : Lies w D1 a1 n1 c1 l) (h2 : Lies w D2 a2 n2 c2 l)
    (ih : ∀ i, i < l.length → ∀ (va vb : Option Addr) (vn vc wn wc : Nat), Lies w D1 va vn vc (l.getD i wd0).kids → Lies w D2 vb wn wc (l.getD i wd0).kids → ∀ W, Below w.heap.size w W → Calls Tryd.prog 21 #[.slice va vn vc, .slice vb wn wc] W fun e w' => e = .returned (.bool true) ∧ Below W.heap.size W w') (W : World) (hW : Below w.heap.size w W) :
    Calls Tryd.prog 21 #[.slice a1 n1 c1, .slice a2 n2 c2] W fun e w' => e = .returned (.bool true) ∧ Below W.heap.size W w' := by
  obtain rfl := h1.len
  obtain rfl := h2.len
  have H1 := Lib.hid h1
  have H2 := Lib.hid h2
  have HIH := Lib.hid ih
  have HW := Lib.hid hW
  clear h1 h2 ih hW
  go_enter Tryd.func21, Tryd.ntmps21
  go_wp2_with fail
  go_loopg [5] l.length (fun gg s5 wr => ∃ (k : Nat) (X : World), X = wr ∧ k ≤ l.length ∧ l.length - k ≤ gg ∧ s5 = .int .i64 k ∧ Hid (Below W.heap.size W X))
  case atStart => exact ⟨0, _, rfl, Nat.zero_le _, by omega, rfl, Lib.hid (Below.refl _ _)⟩
  case round =>
    obtain ⟨k, X, hX, hk, hgg, rfl, HB⟩ := hrel
    subst hX
    by_cases hlt : k < l.length
    · have hbX : Below w.heap.size w X := HW.out.trans (HB.out.mono HW.out.size)
      obtain ⟨g1, o1, rfl, hm1, va, vn, vc, ⟨p0, p1, p2, p3⟩, hk1⟩ := H1.out.pick k hlt
      obtain ⟨g2, o2, rfl, hm2, vb, wn, wc', ⟨r0, r1, r2, r3⟩, hk2⟩ := H2.out.pick k hlt
      have HS := Lib.hid (HIH.out k hlt va vb vn vc wn wc' hk1 hk2)
      replace p0 := cellB p0 hbX
      replace p1 := cellB p1 hbX
      replace p2 := cellB p2 hbX
      replace p3 := cellB p3 hbX
      replace r0 := cellB r0 hbX
      replace r1 := cellB r1 hbX
      replace r2 := cellB r2 hbX
      replace r3 := cellB r3 hbX
      have hkz : (k : Int) < (l.length : Int) := by omega
      have hk0 : (0 : Int) ≤ (k : Int) := by omega
      have hml : l.length ≤ 9223372036854775807 := by unfold maxLen at hm1; omega
      have HBX := Lib.hid hbX
      clear hm1 hm2 hbX hk1 hk2 HIH
      generalize (l.getD k wd0).kind = ck at *
      generalize (l.getD k wd0).text = ct at *
      generalize (l.getD k wd0).glued = cg at *
      go_wp2_with fail
      have st0 : SaS g1 o1 g2 o2 k ck ct cg va vn vc vb wn wc' w W X := ⟨p0, p1, p2, p3, r0, r1, r2, r3, HBX, HB⟩
      have st := st0.on ((Below.refl _ _).drew)
      clear p0 p1 p2 p3 r0 r1 r2 r3 HB HBX H1 H2 HW st0
      refine wp_region_held_drew (S := SaS g1 o1 g2 o2 k ck ct cg va vn vc vb wn wc' w W) (by kernel_rfl) st (fun hHeld => ?_)
      clear hHeld
      refine wpAnyH_take (i := 0) (oi := { dst := some 17, op := Go.Op.move (Go.Operand.tmp 0), type := 24, pos := "ref.go:280", after := #[], guard := none }) (v := ?_) rfl (by kernel_rfl) (by kernel_rfl) (by kernel_rfl) (fun _ _ _ h => h) (Or.inl ⟨by kernel_rfl, ?_⟩) st ?_
      rotate_left
      · (intro X hX; (try dsimp only at hX); go_simp; try (with_reducible rfl))
      (try simp only [Act.put, List.setIfInBounds_toArray, List.set_cons_zero, List.set_cons_succ])
      refine wpAnyH_take (i := 1) (oi := { dst := some 18, op := Go.Op.move (Go.Operand.tmp 5), type := 3, pos := "ref.go:280", after := #[], guard := none }) (v := ?_) rfl (by kernel_rfl) (by kernel_rfl) (by kernel_rfl) (fun _ _ _ h => h) (Or.inl ⟨by kernel_rfl, ?_⟩) st ?_
      rotate_left
      · (intro X hX; (try dsimp only at hX); go_simp; try (with_reducible rfl))
      (try simp only [Act.put, List.setIfInBounds_toArray, List.set_cons_zero, List.set_cons_succ])
      refine wpAnyH_take (i := 2) (oi := { dst := some 19, op := Go.Op.indexAddr 24 (Go.Operand.tmp 17) (Go.Operand.tmp 18), type := 0, pos := "ref.go:280", after := #[{ on := 0, ground := Go.Ground.data }, { on := 1, ground := Go.Ground.data }], guard := none }) (v := ?_) rfl (by kernel_rfl) (by kernel_rfl) (by kernel_rfl) (fun _ _ _ h => h) (Or.inl ⟨by kernel_rfl, ?_⟩) st ?_
      rotate_left
      · (intro X hX; (try dsimp only at hX); go_simp; try (with_reducible rfl))
      (try simp only [Act.put, List.setIfInBounds_toArray, List.set_cons_zero, List.set_cons_succ])
      refine wpAnyH_take (i := 3) (oi := { dst := some 20, op := Go.Op.fieldAddr 33 (Go.Operand.tmp 19) 0, type := 0, pos := "ref.go:280", after := #[{ on := 2, ground := Go.Ground.data }], guard := none }) (v := ?_) rfl (by kernel_rfl) (by kernel_rfl) (by kernel_rfl) (fun _ _ _ h => h) (Or.inl ⟨by kernel_rfl, ?_⟩) st ?_
      rotate_left
      · (intro X hX; (try dsimp only at hX); go_simp; try (with_reducible rfl))
      (try simp only [Act.put, List.setIfInBounds_toArray, List.set_cons_zero, List.set_cons_succ])
      refine wpAnyH_take (i := 4) (oi := { dst := some 21, op := Go.Op.load 3 (Go.Operand.tmp 20), type := 3, pos := "ref.go:280", after := #[{ on := 3, ground := Go.Ground.data }], guard := none }) (v := ?_) rfl (by kernel_rfl) (by kernel_rfl) (by kernel_rfl) (fun _ _ _ h => h) (Or.inl ⟨by kernel_rfl, ?_⟩) st ?_
      rotate_left
      · (intro X hX; (try dsimp only at hX); go_simp; try (with_reducible rfl))
      (try simp only [Act.put, List.setIfInBounds_toArray, List.set_cons_zero, List.set_cons_succ])
      refine wpAnyH_take (i := 5) (oi := { dst := some 22, op := Go.Op.move (Go.Operand.tmp 1), type := 24, pos := "ref.go:280", after := #[], guard := none }) (v := ?_) rfl (by kernel_rfl) (by kernel_rfl) (by kernel_rfl) (fun _ _ _ h => h) (Or.inl ⟨by kernel_rfl, ?_⟩) st ?_
      rotate_left
      · (intro X hX; (try dsimp only at hX); go_simp; try (with_reducible rfl))
      (try simp only [Act.put, List.setIfInBounds_toArray, List.set_cons_zero, List.set_cons_succ])
      refine wpAnyH_take (i := 6) (oi := { dst := some 23, op := Go.Op.move (Go.Operand.tmp 5), type := 3, pos := "ref.go:280", after := #[], guard := none }) (v := ?_) rfl (by kernel_rfl) (by kernel_rfl) (by kernel_rfl) (fun _ _ _ h => h) (Or.inl ⟨by kernel_rfl, ?_⟩) st ?_
      rotate_left
      · (intro X hX; (try dsimp only at hX); go_simp; try (with_reducible rfl))
      (try simp only [Act.put, List.setIfInBounds_toArray, List.set_cons_zero, List.set_cons_succ])
      refine wpAnyH_take (i := 7) (oi := { dst := some 24, op := Go.Op.indexAddr 24 (Go.Operand.tmp 22) (Go.Operand.tmp 23), type := 0, pos := "ref.go:280", after := #[{ on := 5, ground := Go.Ground.data }, { on := 6, ground := Go.Ground.data }], guard := none }) (v := ?_) rfl (by kernel_rfl) (by kernel_rfl) (by kernel_rfl) (fun _ _ _ h => h) (Or.inl ⟨by kernel_rfl, ?_⟩) st ?_
      rotate_left
      · (intro X hX; (try dsimp only at hX); go_simp; try (with_reducible rfl))
      (try simp only [Act.put, List.setIfInBounds_toArray, List.set_cons_zero, List.set_cons_succ])
      refine wpAnyH_take (i := 8) (oi := { dst := some 25, op := Go.Op.fieldAddr 33 (Go.Operand.tmp 24) 0, type := 0, pos := "ref.go:280", after := #[{ on := 7, ground := Go.Ground.data }], guard := none }) (v := ?_) rfl (by kernel_rfl) (by kernel_rfl) (by kernel_rfl) (fun _ _ _ h => h) (Or.inl ⟨by kernel_rfl, ?_⟩) st ?_
      rotate_left
      · (intro X hX; (try dsimp only at hX); go_simp; try (with_reducible rfl))
      (try simp only [Act.put, List.setIfInBounds_toArray, List.set_cons_zero, List.set_cons_succ])
      refine wpAnyH_take (i := 9) (oi := { dst := some 26, op := Go.Op.load 3 (Go.Operand.tmp 25), type := 3, pos := "ref.go:280", after := #[{ on := 8, ground := Go.Ground.data }], guard := none }) (v := ?_) rfl (by kernel_rfl) (by kernel_rfl) (by kernel_rfl) (fun _ _ _ h => h) (Or.inl ⟨by kernel_rfl, ?_⟩) st ?_
      rotate_left
      · (intro X hX; (try dsimp only at hX); go_simp; try (with_reducible rfl))
      (try simp only [Act.put, List.setIfInBounds_toArray, List.set_cons_zero, List.set_cons_succ])
      refine wpAnyH_take (i := 10) (oi := { dst := some 27, op := Go.Op.binOp Go.BinOp.neq 3 (Go.Operand.tmp 21) (Go.Operand.tmp 26) 3, type := 4, pos := "ref.go:280", after := #[{ on := 4, ground := Go.Ground.data }, { on := 9, ground := Go.Ground.data }], guard := none }) (v := .bool false) rfl (by kernel_rfl) (by kernel_rfl) (by kernel_rfl) (fun _ _ _ h => h) (Or.inl ⟨by kernel_rfl, ?_⟩) st ?_
      · (intro X hX; (try dsimp only at hX); go_simp; try simp)
      (try simp only [Act.put, List.setIfInBounds_toArray, List.set_cons_zero, List.set_cons_succ])
      refine wpAnyH_take (i := 11) (oi := { dst := some 28, op := Go.Op.move (Go.Operand.tmp 27), type := 4, pos := "ref.go:280", after := #[{ on := 10, ground := Go.Ground.data }], guard := none }) (v := ?_) rfl (by kernel_rfl) (by kernel_rfl) (by kernel_rfl) (fun _ _ _ h => h) (Or.inl ⟨by kernel_rfl, ?_⟩) st ?_
      rotate_left
      · (intro X hX; (try dsimp only at hX); go_simp; try (with_reducible rfl))
      (try simp only [Act.put, List.setIfInBounds_toArray, List.set_cons_zero, List.set_cons_succ])
      refine wpAnyH_take (i := 12) (oi := { dst := some 29, op := Go.Op.move (Go.Operand.tmp 0), type := 24, pos := "ref.go:280", after := #[{ on := 11, ground := Go.Ground.guard }], guard := some (11, false) }) (v := ?_) rfl (by kernel_rfl) (by kernel_rfl) (by kernel_rfl) (fun _ _ _ h => h) (Or.inl ⟨by kernel_rfl, ?_⟩) st ?_
      rotate_left
      · (intro X hX; (try dsimp only at hX); go_simp; try (with_reducible rfl))
      (try simp only [Act.put, List.setIfInBounds_toArray, List.set_cons_zero, List.set_cons_succ])
      refine wpAnyH_take (i := 13) (oi := { dst := some 30, op := Go.Op.move (Go.Operand.tmp 5), type := 3, pos := "ref.go:280", after := #[{ on := 11, ground := Go.Ground.guard }], guard := some (11, false) }) (v := ?_) rfl (by kernel_rfl) (by kernel_rfl) (by kernel_rfl) (fun _ _ _ h => h) (Or.inl ⟨by kernel_rfl, ?_⟩) st ?_
      rotate_left
      · (intro X hX; (try dsimp only at hX); go_simp; try (with_reducible rfl))
      (try simp only [Act.put, List.setIfInBounds_toArray, List.set_cons_zero, List.set_cons_succ])
      refine wpAnyH_take (i := 14) (oi := { dst := some 31, op := Go.Op.indexAddr 24 (Go.Operand.tmp 29) (Go.Operand.tmp 30), type := 0, pos := "ref.go:280", after := #[{ on := 12, ground := Go.Ground.data }, { on := 13, ground := Go.Ground.data }, { on := 11, ground := Go.Ground.guard }], guard := some (11, false) }) (v := ?_) rfl (by kernel_rfl) (by kernel_rfl) (by kernel_rfl) (fun _ _ _ h => h) (Or.inl ⟨by kernel_rfl, ?_⟩) st ?_
      rotate_left
      · (intro X hX; (try dsimp only at hX); go_simp; try (with_reducible rfl))
      (try simp only [Act.put, List.setIfInBounds_toArray, List.set_cons_zero, List.set_cons_succ])
      refine wpAnyH_take (i := 15) (oi := { dst := some 32, op := Go.Op.fieldAddr 33 (Go.Operand.tmp 31) 1, type := 0, pos := "ref.go:280", after := #[{ on := 14, ground := Go.Ground.data }, { on := 11, ground := Go.Ground.guard }], guard := some (11, false) }) (v := ?_) rfl (by kernel_rfl) (by kernel_rfl) (by kernel_rfl) (fun _ _ _ h => h) (Or.inl ⟨by kernel_rfl, ?_⟩) st ?_
      rotate_left
      · (intro X hX; (try dsimp only at hX); go_simp; try (with_reducible rfl))
      (try simp only [Act.put, List.setIfInBounds_toArray, List.set_cons_zero, List.set_cons_succ])
      refine wpAnyH_take (i := 16) (oi := { dst := some 33, op := Go.Op.load 9 (Go.Operand.tmp 32), type := 9, pos := "ref.go:280", after := #[{ on := 15, ground := Go.Ground.data }, { on := 11, ground := Go.Ground.guard }], guard := some (11, false) }) (v := ?_) rfl (by kernel_rfl) (by kernel_rfl) (by kernel_rfl) (fun _ _ _ h => h) (Or.inl ⟨by kernel_rfl, ?_⟩) st ?_
      rotate_left
      · (intro X hX; (try dsimp only at hX); go_simp; try (with_reducible rfl))
      (try simp only [Act.put, List.setIfInBounds_toArray, List.set_cons_zero, List.set_cons_succ])
      refine wpAnyH_take (i := 17) (oi := { dst := some 34, op := Go.Op.move (Go.Operand.tmp 1), type := 24, pos := "ref.go:280", after := #[{ on := 11, ground := Go.Ground.guard }], guard := some (11, false) }) (v := ?_) rfl (by kernel_rfl) (by kernel_rfl) (by kernel_rfl) (fun _ _ _ h => h) (Or.inl ⟨by kernel_rfl, ?_⟩) st ?_
      rotate_left
      · (intro X hX; (try dsimp only at hX); go_simp; try (with_reducible rfl))
      (try simp only [Act.put, List.setIfInBounds_toArray, List.set_cons_zero, List.set_cons_succ])
      refine wpAnyH_take (i := 18) (oi := { dst := some 35, op := Go.Op.move (Go.Operand.tmp 5), type := 3, pos := "ref.go:280", after := #[{ on := 11, ground := Go.Ground.guard }], guard := some (11, false) }) (v := ?_) rfl (by kernel_rfl) (by kernel_rfl) (by kernel_rfl) (fun _ _ _ h => h) (Or.inl ⟨by kernel_rfl, ?_⟩) st ?_
      rotate_left
      · (intro X hX; (try dsimp only at hX); go_simp; try (with_reducible rfl))
      (try simp only [Act.put, List.setIfInBounds_toArray, List.set_cons_zero, List.set_cons_succ])
      refine wpAnyH_take (i := 19) (oi := { dst := some 36, op := Go.Op.indexAddr 24 (Go.Operand.tmp 34) (Go.Operand.tmp 35), type := 0, pos := "ref.go:280", after := #[{ on := 17, ground := Go.Ground.data }, { on := 18, ground := Go.Ground.data }, { on := 11, ground := Go.Ground.guard }], guard := some (11, false) }) (v := ?_) rfl (by kernel_rfl) (by kernel_rfl) (by kernel_rfl) (fun _ _ _ h => h) (Or.inl ⟨by kernel_rfl, ?_⟩) st ?_
      rotate_left
      · (intro X hX; (try dsimp only at hX); go_simp; try (with_reducible rfl))
      (try simp only [Act.put, List.setIfInBounds_toArray, List.set_cons_zero, List.set_cons_succ])
      refine wpAnyH_take (i := 20) (oi := { dst := some 37, op := Go.Op.fieldAddr 33 (Go.Operand.tmp 36) 1, type := 0, pos := "ref.go:280", after := #[{ on := 19, ground := Go.Ground.data }, { on := 11, ground := Go.Ground.guard }], guard := some (11, false) }) (v := ?_) rfl (by kernel_rfl) (by kernel_rfl) (by kernel_rfl) (fun _ _ _ h => h) (Or.inl ⟨by kernel_rfl, ?_⟩) st ?_
      rotate_left
      · (intro X hX; (try dsimp only at hX); go_simp; try (with_reducible rfl))
      (try simp only [Act.put, List.setIfInBounds_toArray, List.set_cons_zero, List.set_cons_succ])
      refine wpAnyH_take (i := 21) (oi := { dst := some 38, op := Go.Op.load 9 (Go.Operand.tmp 37), type := 9, pos := "ref.go:280", after := #[{ on := 20, ground := Go.Ground.data }, { on := 11, ground := Go.Ground.guard }], guard := some (11, false) }) (v := ?_) rfl (by kernel_rfl) (by kernel_rfl) (by kernel_rfl) (fun _ _ _ h => h) (Or.inl ⟨by kernel_rfl, ?_⟩) st ?_
      rotate_left
      · (intro X hX; (try dsimp only at hX); go_simp; try (with_reducible rfl))
      (try simp only [Act.put, List.setIfInBounds_toArray, List.set_cons_zero, List.set_cons_succ])
      refine wpAnyH_take (i := 22) (oi := { dst := some 39, op := Go.Op.binOp Go.BinOp.neq 9 (Go.Operand.tmp 33) (Go.Operand.tmp 38) 9, type := 4, pos := "ref.go:280", after := #[{ on := 16, ground := Go.Ground.data }, { on := 21, ground := Go.Ground.data }, { on := 11, ground := Go.Ground.guard }], guard := some (11, false) }) (v := .bool false) rfl (by kernel_rfl) (by kernel_rfl) (by kernel_rfl) (fun _ _ _ h => h) (Or.inl ⟨by kernel_rfl, ?_⟩) st ?_
      · (intro X hX; (try dsimp only at hX); go_simp; try simp)
      (try simp only [Act.put, List.setIfInBounds_toArray, List.set_cons_zero, List.set_cons_succ])
      refine wpAnyH_take (i := 23) (oi := { dst := some 40, op := Go.Op.pick (Go.Operand.tmp 28) (Go.Operand.const (Go.Value.bool true)) (Go.Operand.tmp 39), type := 4, pos := "ref.go:280", after := #[{ on := 11, ground := Go.Ground.data }, { on := 22, ground := Go.Ground.data }], guard := none }) (v := ?_) rfl (by kernel_rfl) (by kernel_rfl) (by kernel_rfl) (fun _ _ _ h => h) (Or.inl ⟨by kernel_rfl, ?_⟩) st ?_
      rotate_left
      · (intro X hX; (try dsimp only at hX); go_simp; try (with_reducible rfl))
      (try simp only [Act.put, List.setIfInBounds_toArray, List.set_cons_zero, List.set_cons_succ])
      refine wpAnyH_take (i := 24) (oi := { dst := some 41, op := Go.Op.move (Go.Operand.tmp 40), type := 4, pos := "ref.go:280", after := #[{ on := 23, ground := Go.Ground.data }, { on := 11, ground := Go.Ground.chain }], guard := none }) (v := ?_) rfl (by kernel_rfl) (by kernel_rfl) (by kernel_rfl) (fun _ _ _ h => h) (Or.inl ⟨by kernel_rfl, ?_⟩) st ?_
      rotate_left
      · (intro X hX; (try dsimp only at hX); go_simp; try (with_reducible rfl))
      (try simp only [Act.put, List.setIfInBounds_toArray, List.set_cons_zero, List.set_cons_succ])
      refine wpAnyH_take (i := 25) (oi := { dst := some 42, op := Go.Op.move (Go.Operand.tmp 0), type := 24, pos := "ref.go:280", after := #[{ on := 24, ground := Go.Ground.guard }], guard := some (24, false) }) (v := ?_) rfl (by kernel_rfl) (by kernel_rfl) (by kernel_rfl) (fun _ _ _ h => h) (Or.inl ⟨by kernel_rfl, ?_⟩) st ?_
      rotate_left
      · (intro X hX; (try dsimp only at hX); go_simp; try (with_reducible rfl))
      (try simp only [Act.put, List.setIfInBounds_toArray, List.set_cons_zero, List.set_cons_succ])
      refine wpAnyH_take (i := 26) (oi := { dst := some 43, op := Go.Op.move (Go.Operand.tmp 5), type := 3, pos := "ref.go:280", after := #[{ on := 24, ground := Go.Ground.guard }], guard := some (24, false) }) (v := ?_) rfl (by kernel_rfl) (by kernel_rfl) (by kernel_rfl) (fun _ _ _ h => h) (Or.inl ⟨by kernel_rfl, ?_⟩) st ?_
      rotate_left
      · (intro X hX; (try dsimp only at hX); go_simp; try (with_reducible rfl))
      (try simp only [Act.put, List.setIfInBounds_toArray, List.set_cons_zero, List.set_cons_succ])
      refine wpAnyH_take (i := 27) (oi := { dst := some 44, op := Go.Op.indexAddr 24 (Go.Operand.tmp 42) (Go.Operand.tmp 43), type := 0, pos := "ref.go:280", after := #[{ on := 25, ground := Go.Ground.data }, { on := 26, ground := Go.Ground.data }, { on := 24, ground := Go.Ground.guard }], guard := some (24, false) }) (v := ?_) rfl (by kernel_rfl) (by kernel_rfl) (by kernel_rfl) (fun _ _ _ h => h) (Or.inl ⟨by kernel_rfl, ?_⟩) st ?_
      rotate_left
      · (intro X hX; (try dsimp only at hX); go_simp; try (with_reducible rfl))
      (try simp only [Act.put, List.setIfInBounds_toArray, List.set_cons_zero, List.set_cons_succ])
      refine wpAnyH_take (i := 28) (oi := { dst := some 45, op := Go.Op.fieldAddr 33 (Go.Operand.tmp 44) 3, type := 0, pos := "ref.go:280", after := #[{ on := 27, ground := Go.Ground.data }, { on := 24, ground := Go.Ground.guard }], guard := some (24, false) }) (v := ?_) rfl (by kernel_rfl) (by kernel_rfl) (by kernel_rfl) (fun _ _ _ h => h) (Or.inl ⟨by kernel_rfl, ?_⟩) st ?_
      rotate_left
      · (intro X hX; (try dsimp only at hX); go_simp; try (with_reducible rfl))
      (try simp only [Act.put, List.setIfInBounds_toArray, List.set_cons_zero, List.set_cons_succ])
      refine wpAnyH_take (i := 29) (oi := { dst := some 46, op := Go.Op.load 4 (Go.Operand.tmp 45), type := 4, pos := "ref.go:280", after := #[{ on := 28, ground := Go.Ground.data }, { on := 24, ground := Go.Ground.guard }], guard := some (24, false) }) (v := ?_) rfl (by kernel_rfl) (by kernel_rfl) (by kernel_rfl) (fun _ _ _ h => h) (Or.inl ⟨by kernel_rfl, ?_⟩) st ?_
      rotate_left
      · (intro X hX; (try dsimp only at hX); go_simp; try (with_reducible rfl))
      (try simp only [Act.put, List.setIfInBounds_toArray, List.set_cons_zero, List.set_cons_succ])
      refine wpAnyH_take (i := 30) (oi := { dst := some 47, op := Go.Op.move (Go.Operand.tmp 1), type := 24, pos := "ref.go:280", after := #[{ on := 24, ground := Go.Ground.guard }], guard := some (24, false) }) (v := ?_) rfl (by kernel_rfl) (by kernel_rfl) (by kernel_rfl) (fun _ _ _ h => h) (Or.inl ⟨by kernel_rfl, ?_⟩) st ?_
      rotate_left
      · (intro X hX; (try dsimp only at hX); go_simp; try (with_reducible rfl))
      (try simp only [Act.put, List.setIfInBounds_toArray, List.set_cons_zero, List.set_cons_succ])
      refine wpAnyH_take (i := 31) (oi := { dst := some 48, op := Go.Op.move (Go.Operand.tmp 5), type := 3, pos := "ref.go:280", after := #[{ on := 24, ground := Go.Ground.guard }], guard := some (24, false) }) (v := ?_) rfl (by kernel_rfl) (by kernel_rfl) (by kernel_rfl) (fun _ _ _ h => h) (Or.inl ⟨by kernel_rfl, ?_⟩) st ?_
      rotate_left
      · (intro X hX; (try dsimp only at hX); go_simp; try (with_reducible rfl))
      (try simp only [Act.put, List.setIfInBounds_toArray, List.set_cons_zero, List.set_cons_succ])
      refine wpAnyH_take (i := 32) (oi := { dst := some 49, op := Go.Op.indexAddr 24 (Go.Operand.tmp 47) (Go.Operand.tmp 48), type := 0, pos := "ref.go:280", after := #[{ on := 30, ground := Go.Ground.data }, { on := 31, ground := Go.Ground.data }, { on := 24, ground := Go.Ground.guard }], guard := some (24, false) }) (v := ?_) rfl (by kernel_rfl) (by kernel_rfl) (by kernel_rfl) (fun _ _ _ h => h) (Or.inl ⟨by kernel_rfl, ?_⟩) st ?_
      rotate_left
      · (intro X hX; (try dsimp only at hX); go_simp; try (with_reducible rfl))
      (try simp only [Act.put, List.setIfInBounds_toArray, List.set_cons_zero, List.set_cons_succ])
      refine wpAnyH_take (i := 33) (oi := { dst := some 50, op := Go.Op.fieldAddr 33 (Go.Operand.tmp 49) 3, type := 0, pos := "ref.go:280", after := #[{ on := 32, ground := Go.Ground.data }, { on := 24, ground := Go.Ground.guard }], guard := some (24, false) }) (v := ?_) rfl (by kernel_rfl) (by kernel_rfl) (by kernel_rfl) (fun _ _ _ h => h) (Or.inl ⟨by kernel_rfl, ?_⟩) st ?_
      rotate_left
      · (intro X hX; (try dsimp only at hX); go_simp; try (with_reducible rfl))
      (try simp only [Act.put, List.setIfInBounds_toArray, List.set_cons_zero, List.set_cons_succ])
      refine wpAnyH_take (i := 34) (oi := { dst := some 51, op := Go.Op.load 4 (Go.Operand.tmp 50), type := 4, pos := "ref.go:280", after := #[{ on := 33, ground := Go.Ground.data }, { on := 24, ground := Go.Ground.guard }], guard := some (24, false) }) (v := ?_) rfl (by kernel_rfl) (by kernel_rfl) (by kernel_rfl) (fun _ _ _ h => h) (Or.inl ⟨by kernel_rfl, ?_⟩) st ?_
      rotate_left
      · (intro X hX; (try dsimp only at hX); go_simp; try (with_reducible rfl))
      (try simp only [Act.put, List.setIfInBounds_toArray, List.set_cons_zero, List.set_cons_succ])
      refine wpAnyH_take (i := 35) (oi := { dst := some 52, op := Go.Op.binOp Go.BinOp.neq 4 (Go.Operand.tmp 46) (Go.Operand.tmp 51) 4, type := 4, pos := "ref.go:280", after := #[{ on := 29, ground := Go.Ground.data }, { on := 34, ground := Go.Ground.data }, { on := 24, ground := Go.Ground.guard }], guard := some (24, false) }) (v := .bool false) rfl (by kernel_rfl) (by kernel_rfl) (by kernel_rfl) (fun _ _ _ h => h) (Or.inl ⟨by kernel_rfl, ?_⟩) st ?_
      · (intro X hX; (try dsimp only at hX); go_simp; try simp)
      (try simp only [Act.put, List.setIfInBounds_toArray, List.set_cons_zero, List.set_cons_succ])
      refine wpAnyH_take (i := 36) (oi := { dst := some 53, op := Go.Op.pick (Go.Operand.tmp 41) (Go.Operand.const (Go.Value.bool true)) (Go.Operand.tmp 52), type := 4, pos := "ref.go:280", after := #[{ on := 24, ground := Go.Ground.data }, { on := 35, ground := Go.Ground.data }], guard := none }) (v := ?_) rfl (by kernel_rfl) (by kernel_rfl) (by kernel_rfl) (fun _ _ _ h => h) (Or.inl ⟨by kernel_rfl, ?_⟩) st ?_
      rotate_left
      · (intro X hX; (try dsimp only at hX); go_simp; try (with_reducible rfl))
      (try simp only [Act.put, List.setIfInBounds_toArray, List.set_cons_zero, List.set_cons_succ])
      refine wpAnyH_take (i := 37) (oi := { dst := some 54, op := Go.Op.move (Go.Operand.tmp 53), type := 4, pos := "ref.go:280", after := #[{ on := 36, ground := Go.Ground.data }, { on := 24, ground := Go.Ground.chain }], guard := none }) (v := ?_) rfl (by kernel_rfl) (by kernel_rfl) (by kernel_rfl) (fun _ _ _ h => h) (Or.inl ⟨by kernel_rfl, ?_⟩) st ?_
      rotate_left
      · (intro X hX; (try dsimp only at hX); go_simp; try (with_reducible rfl))
      (try simp only [Act.put, List.setIfInBounds_toArray, List.set_cons_zero, List.set_cons_succ])
      refine wpAnyH_take (i := 38) (oi := { dst := some 55, op := Go.Op.move (Go.Operand.tmp 0), type := 24, pos := "ref.go:280", after := #[{ on := 37, ground := Go.Ground.guard }], guard := some (37, false) }) (v := ?_) rfl (by kernel_rfl) (by kernel_rfl) (by kernel_rfl) (fun _ _ _ h => h) (Or.inl ⟨by kernel_rfl, ?_⟩) st ?_
      rotate_left
      · (intro X hX; (try dsimp only at hX); go_simp; try (with_reducible rfl))
      (try simp only [Act.put, List.setIfInBounds_toArray, List.set_cons_zero, List.set_cons_succ])
      refine wpAnyH_take (i := 39) (oi := { dst := some 56, op := Go.Op.move (Go.Operand.tmp 5), type := 3, pos := "ref.go:280", after := #[{ on := 37, ground := Go.Ground.guard }], guard := some (37, false) }) (v := ?_) rfl (by kernel_rfl) (by kernel_rfl) (by kernel_rfl) (fun _ _ _ h => h) (Or.inl ⟨by kernel_rfl, ?_⟩) st ?_
      rotate_left
      · (intro X hX; (try dsimp only at hX); go_simp; try (with_reducible rfl))
      (try simp only [Act.put, List.setIfInBounds_toArray, List.set_cons_zero, List.set_cons_succ])
      refine wpAnyH_take (i := 40) (oi := { dst := some 57, op := Go.Op.indexAddr 24 (Go.Operand.tmp 55) (Go.Operand.tmp 56), type := 0, pos := "ref.go:280", after := #[{ on := 38, ground := Go.Ground.data }, { on := 39, ground := Go.Ground.data }, { on := 37, ground := Go.Ground.guard }], guard := some (37, false) }) (v := ?_) rfl (by kernel_rfl) (by kernel_rfl) (by kernel_rfl) (fun _ _ _ h => h) (Or.inl ⟨by kernel_rfl, ?_⟩) st ?_
      rotate_left
      · (intro X hX; (try dsimp only at hX); go_simp; try (with_reducible rfl))
      (try simp only [Act.put, List.setIfInBounds_toArray, List.set_cons_zero, List.set_cons_succ])
      refine wpAnyH_take (i := 41) (oi := { dst := some 58, op := Go.Op.fieldAddr 33 (Go.Operand.tmp 57) 2, type := 0, pos := "ref.go:280", after := #[{ on := 40, ground := Go.Ground.data }, { on := 37, ground := Go.Ground.guard }], guard := some (37, false) }) (v := ?_) rfl (by kernel_rfl) (by kernel_rfl) (by kernel_rfl) (fun _ _ _ h => h) (Or.inl ⟨by kernel_rfl, ?_⟩) st ?_
      rotate_left
      · (intro X hX; (try dsimp only at hX); go_simp; try (with_reducible rfl))
      (try simp only [Act.put, List.setIfInBounds_toArray, List.set_cons_zero, List.set_cons_succ])
      refine wpAnyH_take (i := 42) (oi := { dst := some 59, op := Go.Op.load 24 (Go.Operand.tmp 58), type := 24, pos := "ref.go:280", after := #[{ on := 41, ground := Go.Ground.data }, { on := 37, ground := Go.Ground.guard }], guard := some (37, false) }) (v := ?_) rfl (by kernel_rfl) (by kernel_rfl) (by kernel_rfl) (fun _ _ _ h => h) (Or.inl ⟨by kernel_rfl, ?_⟩) st ?_
      rotate_left
      · (intro X hX; (try dsimp only at hX); go_simp; try (with_reducible rfl))
      (try simp only [Act.put, List.setIfInBounds_toArray, List.set_cons_zero, List.set_cons_succ])
      refine wpAnyH_take (i := 43) (oi := { dst := some 60, op := Go.Op.move (Go.Operand.tmp 1), type := 24, pos := "ref.go:280", after := #[{ on := 37, ground := Go.Ground.guard }], guard := some (37, false) }) (v := ?_) rfl (by kernel_rfl) (by kernel_rfl) (by kernel_rfl) (fun _ _ _ h => h) (Or.inl ⟨by kernel_rfl, ?_⟩) st ?_
      rotate_left
      · (intro X hX; (try dsimp only at hX); go_simp; try (with_reducible rfl))
      (try simp only [Act.put, List.setIfInBounds_toArray, List.set_cons_zero, List.set_cons_succ])
      refine wpAnyH_take (i := 44) (oi := { dst := some 61, op := Go.Op.move (Go.Operand.tmp 5), type := 3, pos := "ref.go:280", after := #[{ on := 37, ground := Go.Ground.guard }], guard := some (37, false) }) (v := ?_) rfl (by kernel_rfl) (by kernel_rfl) (by kernel_rfl) (fun _ _ _ h => h) (Or.inl ⟨by kernel_rfl, ?_⟩) st ?_
      rotate_left
      · (intro X hX; (try dsimp only at hX); go_simp; try (with_reducible rfl))
      (try simp only [Act.put, List.setIfInBounds_toArray, List.set_cons_zero, List.set_cons_succ])
      refine wpAnyH_take (i := 45) (oi := { dst := some 62, op := Go.Op.indexAddr 24 (Go.Operand.tmp 60) (Go.Operand.tmp 61), type := 0, pos := "ref.go:280", after := #[{ on := 43, ground := Go.Ground.data }, { on := 44, ground := Go.Ground.data }, { on := 37, ground := Go.Ground.guard }], guard := some (37, false) }) (v := ?_) rfl (by kernel_rfl) (by kernel_rfl) (by kernel_rfl) (fun _ _ _ h => h) (Or.inl ⟨by kernel_rfl, ?_⟩) st ?_
      rotate_left
      · (intro X hX; (try dsimp only at hX); go_simp; try (with_reducible rfl))
      (try simp only [Act.put, List.setIfInBounds_toArray, List.set_cons_zero, List.set_cons_succ])
      refine wpAnyH_take (i := 46) (oi := { dst := some 63, op := Go.Op.fieldAddr 33 (Go.Operand.tmp 62) 2, type := 0, pos := "ref.go:280", after := #[{ on := 45, ground := Go.Ground.data }, { on := 37, ground := Go.Ground.guard }], guard := some (37, false) }) (v := ?_) rfl (by kernel_rfl) (by kernel_rfl) (by kernel_rfl) (fun _ _ _ h => h) (Or.inl ⟨by kernel_rfl, ?_⟩) st ?_
      rotate_left
      · (intro X hX; (try dsimp only at hX); go_simp; try (with_reducible rfl))
      (try simp only [Act.put, List.setIfInBounds_toArray, List.set_cons_zero, List.set_cons_succ])
      refine wpAnyH_take (i := 47) (oi := { dst := some 64, op := Go.Op.load 24 (Go.Operand.tmp 63), type := 24, pos := "ref.go:280", after := #[{ on := 46, ground := Go.Ground.data }, { on := 37, ground := Go.Ground.guard }], guard := some (37, false) }) (v := ?_) rfl (by kernel_rfl) (by kernel_rfl) (by kernel_rfl) (fun _ _ _ h => h) (Or.inl ⟨by kernel_rfl, ?_⟩) st ?_
      rotate_left
      · (intro X hX; (try dsimp only at hX); go_simp; try (with_reducible rfl))
      (try simp only [Act.put, List.setIfInBounds_toArray, List.set_cons_zero, List.set_cons_succ])
      refine wpAnyH_ready (rs := [48]) (by kernel_rfl) (by simp) ?_
      refine AllReadyH.cons (o := { dst := some 65, op := Go.Op.call { callee := Go.Callee.value (Go.Operand.func 21), args := #[Go.Operand.tmp 59, Go.Operand.tmp 64], argTypes := #[24, 24] }, type := 4, pos := "ref.go:280", after := #[{ on := 42, ground := Go.Ground.data }, { on := 47, ground := Go.Ground.data }, { on := 37, ground := Go.Ground.chain }, { on := 37, ground := Go.Ground.guard }], guard := some (37, false) }) rfl (fun K hK => ?_) AllReadyH.nil
      go_simp
      refine (HS.out _ st.2.2.2.2.2.2.2.2.1.out).mono ?_
      rintro e w3 ⟨rfl, hb3⟩
      have st2 := st.on hb3
      clear st HS
      dsimp only
      refine hK.out _ _ st2 (fun hHeld => ?_)
      clear hHeld hK K
      (try simp only [Act.put, List.setIfInBounds_toArray, List.set_cons_zero, List.set_cons_succ])
      refine wpAnyH_take (i := 49) (oi := { dst := some 66, op := Go.Op.unOp Go.UnOp.not 4 (Go.Operand.tmp 65), type := 4, pos := "ref.go:280", after := #[{ on := 48, ground := Go.Ground.data }, { on := 37, ground := Go.Ground.guard }], guard := some (37, false) }) (v := ?_) rfl (by kernel_rfl) (by kernel_rfl) (by kernel_rfl) (fun _ _ _ h => h) (Or.inl ⟨by kernel_rfl, ?_⟩) st2 ?_
      rotate_left
      · (intro X hX; (try dsimp only at hX); go_simp; try (with_reducible rfl))
      (try simp only [Act.put, List.setIfInBounds_toArray, List.set_cons_zero, List.set_cons_succ])
      refine wpAnyH_take (i := 50) (oi := { dst := some 67, op := Go.Op.pick (Go.Operand.tmp 54) (Go.Operand.const (Go.Value.bool true)) (Go.Operand.tmp 66), type := 4, pos := "ref.go:280", after := #[{ on := 37, ground := Go.Ground.data }, { on := 49, ground := Go.Ground.data }], guard := none }) (v := ?_) rfl (by kernel_rfl) (by kernel_rfl) (by kernel_rfl) (fun _ _ _ h => h) (Or.inl ⟨by kernel_rfl, ?_⟩) st2 ?_
      rotate_left
      · (intro X hX; (try dsimp only at hX); go_simp; try (with_reducible rfl))
      (try simp only [Act.put, List.setIfInBounds_toArray, List.set_cons_zero, List.set_cons_succ])
      refine wpAnyH_done (by kernel_rfl) ?_ _
      go_wp2_with fail
      go_roundg (l.length - (k + 1))
      case measure => omega
      case rel => exact ⟨k + 1, _, rfl, hlt, Nat.le_refl _, by go_num, st2.2.2.2.2.2.2.2.2.2⟩
    · have hkz : ¬ (k : Int) < (l.length : Int) := by omega
      go_wp2_with fail
      go_ret
      exact ⟨rfl, HB.out⟩
theorem same_any (N : Nat) : ∀ (l : List Wd), SizeOf.sizeOf l < N → ∀ (w : World) (D1 D2 : Nat → Prop) (a1 a2 : Option Addr) (n1 c1 n2 c2 : Nat), Lies w D1 a1 n1 c1 l → Lies w D2 a2 n2 c2 l → ∀ W, Below w.heap.size w W →
    Calls Tryd.prog 21 #[.slice a1 n1 c1, .slice a2 n2 c2] W fun e w' => e = .returned (.bool true) ∧ Below W.heap.size W w' := by
  induction N with
  | zero => intro l h; omega
  | succ N ih =>
    intro l hN w D1 D2 a1 a2 n1 c1 n2 c2 h1 h2 W hW
    exact same_step l a1 a2 n1 c1 n2 c2 D1 D2 w h1 h2 (fun i hi va vb vn vc wn wc' k1 k2 W' hW' => ih _ (by have := kids_lt l i hi; omega) w D1 D2 va vb vn vc wn wc' k1 k2 W' hW') W hW
end Go.Proofs.YtliiapdakojomabDoor

/- lex: room: a row of texts with two more behind. -/
namespace Go.Proofs.YtliiapdakojomabDoor
open Go.RowKit

/-- Nothing is appended to nothing. -/
theorem app_nothing {ops : Array Oper} {rest : List Oper} {o : Oper} {a : Act} {Q : Exit → Act → World → Prop} (hgd : o.guard = none) (s x : Operand) {w : World}
    (ho : o.op = .call { callee := .builtin .append, args := #[s, x], argTypes := #[22, 22] }) (hs : a.eval s = .slice none 0 0) (ao : Option Addr) (cap : Nat) (hx : a.eval x = .slice ao 0 cap)
    (h : wpList Tryd.prog ops Q rest (a.put o.dst (.slice none 0 0)) w) : wpList Tryd.prog ops Q (o :: rest) a w := by
  obtain ⟨i0, hi, hz0, hz1, hz2⟩ := info_parts Tryd.infoStr
  refine wpList_plain hgd fun K hK => ?_
  have hrun : (Builtin.append_ #[22, 22] o.type #[.slice none 0 0, .slice ao 0 cap]).run Tryd.prog w = .ok (.slice none 0 0) w := by
    refine run_append_nothing w _ _ _ _ i0 Tryd.underlying22 hi none 0 0 (Nat.le_refl _) _ ?_
    cases ao with
    | none => exact Src.ofNil w Tryd.underlying22 cap
    | some ad => exact Src.ofSlice w Tryd.underlying22 ad 0 cap [] (by simp) (fun j u hj => by simp at hj) (fun u hu => by cases hu)
  unfold Oper.wp
  simp [execOp, ho, resolve, invoke, builtin, hs, hx, hrun, Result.andThen]
  exact hK _ _ h
def room1 : ByteArray := ⟨#[114, 111, 111, 109, 32, 111, 110, 101]⟩
def room2 : ByteArray := ⟨#[114, 111, 111, 109, 32, 116, 119, 111]⟩
theorem map_at (ss : List ByteArray) (i : Nat) (hi : i < ss.length) : (ss.map Value.string)[i]? = some (.string (ss.getD i ByteArray.empty)) := by
  rw [List.getElem?_map, List.getElem?_eq_getElem hi, List.getD_eq_getElem?_getD, List.getElem?_eq_getElem hi]
  rfl
/-- What room answers: a row of its own. -/
structure Room (w : World) (ss : List ByteArray) (g cap : Nat) (w' : World) : Prop where
  new : w.heap.size ≤ g
  lt : g < w'.heap.size
  cap : ss.length + 2 ≤ cap
  cells : ∀ i, i < ss.length → w'.cell? ⟨g, i, none⟩ = some (.string (ss.getD i ByteArray.empty))
  one : w'.cell? ⟨g, ss.length, none⟩ = some (.string room1)
  two : w'.cell? ⟨g, ss.length + 1, none⟩ = some (.string room2)
  below : Below w.heap.size w w'
theorem Room.of {w w1 w' : World} {ss : List ByteArray} {v : Value} {g cap : Nat} (hr : w1.ownsRow w.heap.size 9 1 v ss.length (ss.map Value.string)) (hb : Below w.heap.size w w1)
    (h : w'.ownsRow w.heap.size 9 1 (.slice (some ⟨g, 0, none⟩) (ss.length + 2) cap) (ss.length + 2) (ss.map Value.string ++ [.string room1, .string room2])) (hgr : (w1.alloc (.cells #[.string room1, .string room2] 9)).grownBy w' v.ownBlock) : Room w ss g cap w' := by
  have hlt := h.lt g rfl
  have hA := (Below.refl w1.heap.size w1).alloc (Nat.le_refl _) (.cells #[.string room1, .string room2] 9)
  have at_ : ∀ j u, (ss.map Value.string ++ [.string room1, .string room2])[j]? = some u → w'.cell? ⟨g, j, none⟩ = some u := fun j u hj => by
    have := h.cells (g := g) rfl j u hj
    rw [Addr.add_lit, Nat.zero_add] at this
    exact this
  have hcap : ss.length + 2 ≤ cap := by
    rcases h.2 with ⟨hn, _⟩ | ⟨g', cap', cur, he, _, _, h1, _⟩
    · cases hn
    · injection he with _ _ e3
      omega
  refine ⟨hlt.1, hlt.2, hcap, fun i hi => at_ i _ ?_, at_ _ _ ?_, at_ _ _ ?_, ?_⟩
  · rw [List.getElem?_append_left (by simpa using hi)]
    exact map_at ss i hi
  · rw [List.getElem?_append_right (by simp)]
    simp
  · rw [List.getElem?_append_right (by simp)]
    simp
  · exact (hb.trans (hA.mono hb.size)).grown hgr (Nat.le_trans hb.size hA.size) (fun k hk => (row_lt hr hk).1)
theorem room_src (X : World) : ∀ j u, ([.string room1, .string room2] : List Value)[j]? = some u → (X.alloc (.cells #[.string room1, .string room2] 9)).cell? ((⟨X.heap.size, 0, none⟩ : Addr).add j) = some u := by
  have hYx := heap_alloc_new X (.cells #[.string room1, .string room2] 9)
  intro k u hk
  match k, hk with
  | 0, hk => simp at hk; subst hk; exact cell_of_row _ _ 0 _ _ _ hYx
  | 1, hk => simp at hk; subst hk; exact cell_of_row _ _ 1 _ _ _ hYx
  | (k + 2), hk => simp at hk
set_option maxRecDepth 100000 in
set_option maxHeartbeats 2000000 in
theorem room_any (v : Value) (ss : List ByteArray) (w : World) (hl : Strs w v ss) (hz : ss.length ≤ 8796093021952) :
    Calls Tryd.prog 20 #[v] w fun e w' => ∃ g cap, e = .returned (.slice (some ⟨g, 0, none⟩) (ss.length + 2) cap) ∧ Room w ss g cap w' := by
  obtain ⟨ao, cp, rfl, _, hcell⟩ := hl.shape
  clear hl
  obtain ⟨i0, hi, hz0, hz1, hz2⟩ := info_parts Tryd.infoStr
  have H1 : Hid (∀ (v1 : Value) (w1 : World), w1.ownsRow w.heap.size 9 1 v1 ss.length (ss.map Value.string) → Below w.heap.size w w1 → ∀ (ops : Array Oper) (rest : List Oper) (o : Oper) (a : Act) (Q : Exit → Act → World → Prop) (s x : Operand), o.guard = none → o.op = .call { callee := .builtin .append, args := #[s, x], argTypes := #[22, 22] } → a.eval s = v1 → a.eval x = .slice (some ⟨w1.heap.size, 0, none⟩) 2 2 →
      (∀ g cap w', Room w ss g cap w' → wpList Tryd.prog ops Q rest (a.put o.dst (.slice (some ⟨g, 0, none⟩) (ss.length + 2) cap)) w') → wpList Tryd.prog ops Q (o :: rest) a (w1.alloc (.cells #[.string room1, .string room2] 9))) := Lib.hid (by
    intro v1 w1 hr hb ops rest o a Q s x hgd ho hs hx hk
    have hA := (Below.refl w1.heap.size w1).alloc (Nat.le_refl _) (.cells #[.string room1, .string room2] 9)
    have hr2 := row_block (w' := w1.alloc (.cells #[.string room1, .string room2] 9)) hr (fun g hg => hA.block g (row_lt hr hg).2)
    refine wpList_append_lies _ hgd s x 22 ho w.heap.size 9 i0 (.string ⟨#[]⟩) 1 16 Tryd.underlying22 hi hz0 hz1 hz2 rfl (by decide) v1 ss.length (ss.map Value.string) hs hr2 ⟨w1.heap.size, 0, none⟩ 2 2 [.string room1, .string room2] hx rfl (room_src w1) (by intro u hu; simp at hu; rcases hu with rfl | rfl <;> rfl) (by decide) (by unfold maxLen; omega) (by omega) (Nat.le_trans hb.size hA.size) _ rfl ?_
    intro g cap w' h2 h3 _ _
    exact hk g cap w' (Room.of hr hb h2 h3))
  by_cases h0 : ss.length = 0
  · have hss : ss = [] := List.eq_nil_of_length_eq_zero h0
    subst hss
    clear hcell
    have HN := Lib.hid (World.ownsRow_nil w w.heap.size 9 1)
    go_enter Tryd.func20, Tryd.ntmps20
    go_upto_region 3 with (at_builtin; refine app_nothing rfl _ _ rfl rfl _ _ rfl ?_)
    go_wp2_with (at_builtin; refine H1.out (.slice none 0 0) _ HN.out (Below.refl _ _) _ _ _ _ _ _ _ rfl rfl rfl rfl ?_; intro g cap w5 h5; have HR := Lib.hid h5; clear h5)
    go_ret
    exact ⟨g, cap, rfl, HR.out⟩
  · obtain ⟨b, off, rfl, hb, hcl⟩ := hcell (by omega)
    have HN := Lib.hid (World.ownsRow_nil w w.heap.size 9 1)
    have hsrc : ∀ j u, (ss.map Value.string)[j]? = some u → w.cell? ((⟨b, off, none⟩ : Addr).add j) = some u := fun j u hj => by
      have hjl : j < ss.length := by
        have := (List.getElem?_eq_some_iff.1 hj).1
        simpa using this
      rw [map_at ss j hjl] at hj
      rw [Addr.add_lit, ← hj]
      exact hcl j hjl
    have H2 : Hid (∀ (ops : Array Oper) (rest : List Oper) (o : Oper) (a : Act) (Q : Exit → Act → World → Prop) (s x : Operand), o.guard = none → o.op = .call { callee := .builtin .append, args := #[s, x], argTypes := #[22, 22] } → a.eval s = .slice none 0 0 → a.eval x = .slice (some ⟨b, off, none⟩) ss.length cp →
      (∀ a1 n1 c1 w1, w1.ownsRow w.heap.size 9 1 (.slice a1 n1 c1) ss.length (ss.map Value.string) → Below w.heap.size w w1 → wpList Tryd.prog ops Q rest (a.put o.dst (.slice a1 n1 c1)) w1) → wpList Tryd.prog ops Q (o :: rest) a w) := Lib.hid (by
      intro ops rest o a Q s x hgd ho hs hx hk
      refine wpList_append_lies _ hgd s x 22 ho w.heap.size 9 i0 (.string ⟨#[]⟩) 1 16 Tryd.underlying22 hi hz0 hz1 hz2 rfl (by decide) (.slice none 0 0) 0 [] hs HN.out ⟨b, off, none⟩ ss.length cp (ss.map Value.string) hx (by simp) hsrc (by intro u hu; simp at hu; obtain ⟨y, _, rfl⟩ := hu; rfl) (by omega) (by unfold maxLen; omega) (by omega) (Nat.le_refl _) _ rfl ?_
      intro g cap w' h2 h3 h4 h5
      rw [Nat.zero_add, List.nil_append] at h2
      rw [Nat.zero_add]
      exact hk _ _ _ w' h2 ((Below.refl _ _).grown h3 (Nat.le_refl _) (fun k hk' => by cases hk')))
    clear hsrc hcl hcell HN
    go_enter Tryd.func20, Tryd.ntmps20
    go_upto_region 3 with (at_builtin; refine H2.out _ _ _ _ _ _ _ rfl rfl rfl rfl ?_; intro a1 n1 c1 w1 hr1 hb1; have HR1 := Lib.hid hr1; have HB1 := Lib.hid hb1; clear hr1 hb1)
    go_wp2_with (at_builtin; refine H1.out (.slice a1 n1 c1) _ HR1.out HB1.out _ _ _ _ _ _ _ rfl rfl rfl rfl ?_; intro g cap w5 h5; have HR := Lib.hid h5; clear h5)
    go_ret
    exact ⟨g, cap, rfl, HR.out⟩
end Go.Proofs.YtliiapdakojomabDoor

/- The statement LexScans: the walk. -/
namespace Go.Proofs.YtliiapdakojomabDoor
open Go.RowKit

theorem below_sx {w a b : World} (h : Below w.heap.size w a) (h2 : Below a.heap.size a b) : Below w.heap.size w b := h.trans (h2.mono h.size)
theorem Room.strs {w w' W : World} {ss : List ByteArray} {g cap : Nat} (h : Room w ss g cap w') (hb : Below w'.heap.size w' W) (hl : ss.length ≤ 140737488355328) : Strs W (.slice (some ⟨g, 0, none⟩) ss.length cap) ss := by
  have : Strs w' (.slice (some ⟨g, 0, none⟩) ss.length cap) ss := .inr ⟨g, 0, cap, rfl, by have := h.cap; omega, hl, h.lt, fun i hi => by rw [Nat.zero_add]; exact h.cells i hi⟩
  exact this.on hb
theorem Room.behind {w w' W : World} {ss : List ByteArray} {g cap : Nat} (h : Room w ss g cap w') (hb : Below w'.heap.size w' W) : W.cell? ⟨g, ss.length, none⟩ = some (.string ⟨#[114, 111, 111, 109, 32, 111, 110, 101]⟩) ∧ W.cell? ⟨g, ss.length + 1, none⟩ = some (.string ⟨#[114, 111, 111, 109, 32, 116, 119, 111]⟩) :=
  ⟨cellB h.one hb, cellB h.two hb⟩
set_option maxRecDepth 100000 in
set_option maxHeartbeats 4000000 in
theorem LexScans_walk (line : ByteArray) (vl : Value) (lits : List ByteArray) (w : World) (he : Env w) (hl : Strs w vl lits) (hs : line.size ≤ 140737488355328) (hz : (∀ i, i < lits.length → (lits.getD i ByteArray.empty).size ≤ 140737488355328) ∧ lits.length ≤ 8796093021952) :
    Calls Tryd.prog 6 #[.string line, vl] w fun e w' => e = .returned (.bool true) ∧ Below w.heap.size w w' := by
  obtain ⟨ao, cap, rfl, hlen, _⟩ := hl.shape
  obtain ⟨hzs, hzl⟩ := hz
  obtain ⟨hE, hW⟩ := ref_scan (L line) lits
  have HK := Lib.hid (known_any w he)
  have HREF := Lib.hid (fun W (h : Strs W (.slice ao lits.length cap) lits) => rScan_any line (.slice ao lits.length cap) lits W h hs hzs)
  rw [hE, hW] at HREF
  have HSC := Lib.hid (fun W v (h : Strs W v lits) => Scan_any line v lits W h hs hzs)
  generalize scanE (L line) lits = sE at *
  generalize scanW (L line) lits = sW at *
  have HRO := Lib.hid (fun W (h : Strs W (.slice ao lits.length cap) lits) => room_any (.slice ao lits.length cap) lits W h hzl)
  have HSM := Lib.hid (same_any (SizeOf.sizeOf sW + 1) sW (Nat.lt_succ_self _))
  have HT : Hid (∀ v1 v2 W, Strs W v1 lits → Strs W v2 lits → Calls Tryd.prog 22 #[v1, v2] W fun e w' => e = .returned (.bool true) ∧ Below W.heap.size W w') := Lib.hid (fun v1 v2 W h1 h2 => (texts_any v1 v2 lits lits W h1 h2).mono (fun e w' h => ⟨by rw [h.1, decide_eq_true rfl], h.2⟩))
  have HN := Lib.hid num_any
  have HL := Lib.hid hl
  have hn0 : (0 : Int) ≤ (lits.length : Int) := by omega
  clear he hl hzs hE hW
  go_enter Tryd.func6, Tryd.ntmps6
  go_upto_region 4 with (go_at_call 9; refine HK.out.mono ?_; rintro e w1 ⟨rfl, hb1⟩; have HB1 := Lib.hid hb1; clear hb1)
  go_upto_region 5 with (go_at_call 19; refine (HREF.out _ (HL.out.on HB1.out)).mono ?_; rintro e w2 ⟨a2, n2, c2, rfl, hl2, hb2⟩; have HB2 := Lib.hid (below_sx HB1.out hb2); have HL2 := Lib.hid hl2; clear hb2 hl2)
  go_upto_region 6 with (go_at_call 20; refine (HRO.out _ (HL.out.on HB2.out)).mono ?_; rintro e w3 ⟨g, cp, rfl, hr⟩; have hcp := hr.cap; have HR := Lib.hid hr; have HB3 := Lib.hid (below_sx HB2.out hr.below); clear hr)
  have hcz : (lits.length : Int) ≤ (cp : Int) := by omega
  have hcz2 : (lits.length : Int) ≤ (lits.length : Int) + 2 := by omega
  go_upto_region 7 with (go_at_call 10; refine (HSC.out _ _ (HR.out.strs (Below.refl _ _) hlen)).mono ?_; rintro e w4 ⟨a4, n4, c4, D4, rfl, hl4, _, hb4⟩; have HL4 := Lib.hid hl4; have HB34 := Lib.hid hb4; have HB4 := Lib.hid (below_sx HB3.out hb4); have HL24 := Lib.hid ((HL2.out.on HR.out.below).on hb4); clear hl4 hb4)
  go_upto_region 9 with (first | (go_at_call 11; refine (HN.out _ _).mono ?_; rintro e w7 ⟨rfl, hw7⟩; subst w7) | (go_at_call 21; refine (HSM.out w4 _ _ _ _ _ _ _ _ HL4.out HL24.out w4 (Below.refl _ _)).mono ?_; rintro e w5 ⟨rfl, hb5⟩; have HB35 := Lib.hid (below_sx HB34.out hb5); have HB5 := Lib.hid (below_sx HB4.out hb5); clear hb5))
  go_wp2_with (go_at_call 22; refine (HT.out _ _ _ (HR.out.strs HB35.out hlen) (HL.out.on HB5.out)).mono ?_; rintro e w6 ⟨rfl, hb6⟩; obtain ⟨r1, r2⟩ := HR.out.behind (below_sx HB35.out hb6); have HB6 := Lib.hid (below_sx HB5.out hb6); clear hb6)
  go_ret
  exact ⟨rfl, HB6.out⟩
end Go.Proofs.YtliiapdakojomabDoor
