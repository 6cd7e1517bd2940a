/- A desk's stand. -/
import Derived.Test.YtkclcjnfjielfabDoorZh
import Derived.Test.YtkclcjnfjielfabDoorWy
namespace Go.Proofs.YtkclcjnfjielfabDoor
open Go.RowKit

abbrev stS (w : World) (D gi gs i b o : Nat) (u1 u0 u2 u4 u3 : Value) : World → Prop := fun X => X.cell? ⟨D, 2, none⟩ = some u1 ∧ X.cell? ⟨D, 3, none⟩ = some u0 ∧ X.cell? ⟨gi, i, none⟩ = some u2 ∧ X.cell? ⟨gs, i, none⟩ = some u4 ∧ X.cell? ⟨b, o, none⟩ = some u3 ∧ Below w.heap.size w X
theorem stS.on {w : World} {D gi gs i b o : Nat} {u1 u0 u2 u4 u3 : Value} {X Y : World} (h : stS w D gi gs i b o u1 u0 u2 u4 u3 X) (hb : Below X.heap.size X Y) : stS w D gi gs i b o u1 u0 u2 u4 u3 Y := ⟨cellOn h.1 hb, cellOn h.2.1 hb, cellOn h.2.2.1 hb, cellOn h.2.2.2.1 hb, cellOn h.2.2.2.2.1 hb, belThen h.2.2.2.2.2 hb⟩
abbrev snS (D gs i : Nat) (u0 u4 : Value) : World → Prop := fun X => X.cell? ⟨D, 3, none⟩ = some u0 ∧ X.cell? ⟨gs, i, none⟩ = some u4
theorem neq_nil {P : Program} (w : World) (t e : TypeId) (a : Option Addr) (n c : Nat) (h : P.underlying t = some (.slice e)) : (binOp .neq t (.slice a n c) (.slice none 0 0)).run P w = .ok (.bool (!a.isNone)) w := by
  simp only [binOp]
  simp [Op.equal, Op.maxDepth, Lib.run_equalIn_slice_nil w 9999 t e a n c 0 0 h]
/-- What lies at the places. -/
theorem SevEnd.at_ {D : Nat} {Pl : Nat → Prop} {w0 : World} {ll : List (List Rg)} {vin : Value} {gs ns cs : Nat} {I : List Value} {M : List (List Rg)} {Sx : List Value} {W0 w : World} (h : SevEnd D Pl w0 ll vin gs ns cs I M Sx W0 w) (i : Nat) (hi : i < ll.length) :
    ∃ g n cap, I.getD i nilV = .slice (some ⟨g, 0, none⟩) n cap ∧ Sx.getD i nilV = .slice (some ⟨g, 0, none⟩) (ll.getD i []).length cap ∧ (ll.getD i []).length + 4 ≤ n ∧ n ≤ cap ∧ n ≤ 3000000 ∧ Rgs w (.slice (some ⟨g, 0, none⟩) n cap) (laidG markR (ll.getD i []) n) ∧ Rgs w (.slice (some ⟨g, 0, none⟩) (ll.getD i []).length cap) (ll.getD i []) := by
  obtain ⟨g, n, cap, h1, h2, h3, h4, h5, h6⟩ := h.done.1 i hi
  have hr := (h.sev.desk.pls i (Nat.lt_of_lt_of_le hi h.lI)).1
  rw [h1, h2] at hr
  have hlg : (laidG markR (ll.getD i []) n).length = n := laidG_length markR (by omega)
  rw [hlg] at hr
  have r1 := row_rgs hr hlg.symm (by omega)
  have r2 := r1.upto (k := (ll.getD i []).length) (by omega) cap (fun h => by cases h)
  rw [laidG_take] at r2
  exact ⟨g, n, cap, h1, h3, h4, h5, h6, r1, r2⟩
theorem SevEnd.sets {D : Nat} {Pl : Nat → Prop} {w0 : World} {ll : List (List Rg)} {vin : Value} {gs ns cs : Nat} {I : List Value} {M : List (List Rg)} {Sx : List Value} {W0 w : World} (h : SevEnd D Pl w0 ll vin gs ns cs I M Sx W0 w) (hll : ll.length ≤ 100000) : Sets w (.slice (some ⟨gs, 0, none⟩) ll.length cs) ll := by
  have hr := h.sev.desk.rset
  rw [h.lS] at hr
  have hn := h.nS
  have hl := h.lS
  refine .inr ⟨gs, 0, cs, fun i => Sx.getD i nilV, rfl, by omega, (hr.lt gs rfl).2, fun i hi => ?_⟩
  show w.cell? ⟨gs, 0 + i, none⟩ = some (Sx.getD i nilV) ∧ Rgs w (Sx.getD i nilV) (ll.getD i [])
  obtain ⟨g, n, cap, _, h3, _, _, _, _, r2⟩ := h.at_ i hi
  refine ⟨?_, by rw [h3]; exact r2⟩
  rw [Nat.zero_add, hr.cellAt i (by omega), List.getD_eq_getElem?_getD, List.getElem?_eq_getElem (by omega)]
  rfl
set_option maxRecDepth 100000 in
set_option maxHeartbeats 8000000 in
theorem stand_yes {D : Nat} {Pl : Nat → Prop} {w0 : World} {ll : List (List Rg)} {vin vl : Value} {gs ns cs : Nat} {I : List Value} {M : List (List Rg)} {Sx : List Value} {W0 w : World} (h : SevEnd D Pl w0 ll vin gs ns cs I M Sx W0 w) (hl : Sets w vl ll) (hle : ∀ i, i < ll.length → (ll.getD i []).length ≤ 1000000) :
    Calls Tryd.prog 27 #[.pointer (some ⟨D, 0, none⟩), vl] w fun e w' => e = .returned (.bool true) ∧ Below w.heap.size w w' := by
  obtain ⟨al, cl, hvl, hcl⟩ := hl.form
  subst hvl
  have HL := Lib.hid hcl
  have HLE := Lib.hid hle
  have HE := Lib.hid h
  have hbS := h.bS
  have hnS := h.nS
  have hlI := h.lI
  have hbI := h.bI
  obtain ⟨ai, ci, hvi, hgi0⟩ := rin_form h.sev.desk.rin
  have HGI := Lib.hid hgi0
  have HC2 := Lib.hid h.sev.desk.c2
  have HC3 := Lib.hid h.sev.desk.c3
  have HNE : ∀ (w : World) (a : Option Addr) (n c : Nat), (binOp .neq 25 (.slice a n c) (.slice none 0 0)).run Tryd.prog w = .ok (.bool (!a.isNone)) w := fun w a n c => neq_nil w _ _ a n c Tryd.underlying25
  subst hvi
  clear h hl hcl hle hgi0
  go_enter Tryd.func27, Tryd.ntmps27
  go_wp2_with fail
  go_loopg [5] ns (fun gg s5 wr => ∃ (i : Nat) (Y : World), Y = wr ∧ i ≤ ns ∧ ns - i ≤ gg ∧ s5 = .int .i64 i ∧ Below w.heap.size w Y)
  case atStart => exact ⟨0, _, rfl, Nat.zero_le _, by omega, rfl, Below.refl _ _⟩
  case round =>
    obtain ⟨i, Y, hY, hi, hgg, rfl, hbw⟩ := hrel
    subst hY
    have HBW := Lib.hid hbw
    clear hbw
    have d3 := cellOn HC3.out HBW.out
    by_cases hin : i < ns
    · have hinz : (i : Int) < (ns : Int) := by omega
      have hi0 : (0 : Int) ≤ (i : Int) := by omega
      have hme : ns - (i + 1) < ns - i := by omega
      have hr := HE.out.sev.desk.rset
      rw [HE.out.lS] at hr
      have cs1 : w.cell? ⟨gs, i, none⟩ = some (Sx.getD i nilV) := by
        rw [hr.cellAt i (by omega), List.getD_eq_getElem?_getD, List.getElem?_eq_getElem (by rw [HE.out.lS]; exact hin)]; rfl
      have d4 := cellOn cs1 HBW.out
      clear hr cs1
      by_cases hil : i < ll.length
      · have hilz : (i : Int) < (ll.length : Int) := by omega
        have hilg : ¬ (ll.length : Int) ≤ (i : Int) := by omega
        have hiI : (i : Int) < (I.length : Int) := by omega
        obtain ⟨gi, hgi⟩ := HGI.out (by omega)
        subst hgi
        obtain ⟨b, off, f, hal, hfl⟩ := HL.out (by omega)
        subst hal
        obtain ⟨fc, fr⟩ := hfl i hil
        have d5 := cellOn fc HBW.out
        have HFR := Lib.hid (fr.on HBW.out)
        have hrI := HE.out.sev.desk.rin
        have ci1 : w.cell? ⟨gi, i, none⟩ = some (I.getD i nilV) := by
          rw [hrI.cellAt i (by omega), List.getD_eq_getElem?_getD, List.getElem?_eq_getElem (by omega)]; rfl
        have d6 := cellOn ci1 HBW.out
        have d2 := cellOn HC2.out HBW.out
        obtain ⟨g, n, cap, e1, e2, e3, e4, e5, r1, r2⟩ := HE.out.at_ i hil
        rw [e1] at d6
        rw [e2] at d4
        have HR1 := Lib.hid (r1.on HBW.out)
        have HR2 := Lib.hid (r2.on HBW.out)
        have hlk := HLE.out i hil
        clear hfl fc fr hrI ci1 e1 e2 r1 r2
        generalize ll.getD i [] = l at *
        generalize f i = fi at *
        have st : stS Y D gi gs i b (off + i) (.slice (some ⟨gi, 0, none⟩) I.length ci) (.slice (some ⟨gs, 0, none⟩) ns cs) (.slice (some ⟨g, 0, none⟩) n cap) (.slice (some ⟨g, 0, none⟩) l.length cap) fi Y.drew := ⟨d2, d3, d6, d4, d5, (Below.refl _ _).drew⟩
        clear d2 d4 d5 d6
        go_wp2_with fail
        clear d3
        have hgeN : ¬ ll.length ≤ i := by omega
        have hgeB : decide ((ll.length : Int) ≤ (i : Int)) = false := by simp; omega
        have hltB : decide ((i : Int) < (ll.length : Int)) = true := by simp; omega
        clear hilz hilg
        refine wp_region_held_drew (S := (stS Y D gi gs i b (off + i) (.slice (some ⟨gi, 0, none⟩) I.length ci) (.slice (some ⟨gs, 0, none⟩) ns cs) (.slice (some ⟨g, 0, none⟩) n cap) (.slice (some ⟨g, 0, none⟩) l.length cap) fi)) (by kernel_rfl) st (fun hHeld => ?_)
        clear hHeld
        refine wpAnyH_take (i := 0) (oi := { dst := some 15, op := Go.Op.move (Go.Operand.tmp 5), type := 3, pos := "law.go:165", after := #[], guard := none }) (v := ?_) rfl (by kernel_rfl) (by kernel_rfl) (by kernel_rfl) (fun _ _ _ h => h) (Or.inl ⟨by kernel_rfl, ?_⟩) st ?_
        rotate_left
        · (intro X hX; (try dsimp only at hX); go_simp; try (with_reducible rfl))
        (try simp only [Act.put, List.setIfInBounds_toArray, List.set_cons_zero, List.set_cons_succ])
        refine wpAnyH_take (i := 1) (oi := { dst := some 16, op := Go.Op.move (Go.Operand.tmp 1), type := 27, pos := "law.go:165", after := #[], guard := none }) (v := ?_) rfl (by kernel_rfl) (by kernel_rfl) (by kernel_rfl) (fun _ _ _ h => h) (Or.inl ⟨by kernel_rfl, ?_⟩) st ?_
        rotate_left
        · (intro X hX; (try dsimp only at hX); go_simp; try (with_reducible rfl))
        (try simp only [Act.put, List.setIfInBounds_toArray, List.set_cons_zero, List.set_cons_succ])
        refine wpAnyH_take (i := 2) (oi := { dst := some 17, op := Go.Op.call { callee := Go.Callee.builtin Go.Builtin.len, args := #[Go.Operand.tmp 16], argTypes := #[27] }, type := 3, pos := "law.go:165", after := #[{ on := 1, ground := Go.Ground.data }], guard := none }) (v := ?_) rfl (by kernel_rfl) (by kernel_rfl) (by kernel_rfl) (fun _ _ _ h => h) (Or.inl ⟨by kernel_rfl, ?_⟩) st ?_
        rotate_left
        · (intro X hX; (try dsimp only at hX); go_simp; try (with_reducible rfl))
        (try simp only [Act.put, List.setIfInBounds_toArray, List.set_cons_zero, List.set_cons_succ])
        refine wpAnyH_take (i := 3) (oi := { dst := some 18, op := Go.Op.binOp Go.BinOp.geq 3 (Go.Operand.tmp 15) (Go.Operand.tmp 17) 3, type := 4, pos := "law.go:165", after := #[{ on := 0, ground := Go.Ground.data }, { on := 2, ground := Go.Ground.data }], guard := none }) (v := ?_) rfl (by kernel_rfl) (by kernel_rfl) (by kernel_rfl) (fun _ _ _ h => h) (Or.inl ⟨by kernel_rfl, ?_⟩) st ?_
        rotate_left
        · (intro X hX; (try dsimp only at hX); go_simp; try (with_reducible rfl))
        (try simp only [Act.put, List.setIfInBounds_toArray, List.set_cons_zero, List.set_cons_succ])
        refine wpAnyH_take (i := 4) (oi := { dst := some 19, op := Go.Op.move (Go.Operand.tmp 18), type := 4, pos := "law.go:165", after := #[{ on := 3, ground := Go.Ground.data }], guard := none }) (v := ?_) rfl (by kernel_rfl) (by kernel_rfl) (by kernel_rfl) (fun _ _ _ h => h) (Or.inl ⟨by kernel_rfl, ?_⟩) st ?_
        rotate_left
        · (intro X hX; (try dsimp only at hX); go_simp; try (with_reducible rfl))
        (try simp only [Act.put, List.setIfInBounds_toArray, List.set_cons_zero, List.set_cons_succ])
        refine wpAnyH_take (i := 5) (oi := { dst := some 20, op := Go.Op.move (Go.Operand.tmp 0), type := 24, pos := "law.go:165", after := #[{ on := 4, ground := Go.Ground.guard }], guard := some (4, true) }) (v := undef) rfl (by kernel_rfl) (by kernel_rfl) (by kernel_rfl) (fun _ _ _ h => h) (Or.inr ⟨by kernel_rfl, rfl⟩) st ?_
        (try simp only [Act.put, List.setIfInBounds_toArray, List.set_cons_zero, List.set_cons_succ])
        refine wpAnyH_take (i := 6) (oi := { dst := some 21, op := Go.Op.nilCheck (Go.Operand.tmp 20), type := 0, pos := "law.go:165", after := #[{ on := 5, ground := Go.Ground.data }, { on := 4, ground := Go.Ground.guard }], guard := some (4, true) }) (v := undef) rfl (by kernel_rfl) (by kernel_rfl) (by kernel_rfl) (fun _ _ _ h => h) (Or.inr ⟨by kernel_rfl, rfl⟩) st ?_
        (try simp only [Act.put, List.setIfInBounds_toArray, List.set_cons_zero, List.set_cons_succ])
        refine wpAnyH_take (i := 7) (oi := { dst := some 22, op := Go.Op.fieldAddr 29 (Go.Operand.tmp 21) 3, type := 0, pos := "law.go:165", after := #[{ on := 6, ground := Go.Ground.data }, { on := 4, ground := Go.Ground.guard }], guard := some (4, true) }) (v := undef) rfl (by kernel_rfl) (by kernel_rfl) (by kernel_rfl) (fun _ _ _ h => h) (Or.inr ⟨by kernel_rfl, rfl⟩) st ?_
        (try simp only [Act.put, List.setIfInBounds_toArray, List.set_cons_zero, List.set_cons_succ])
        refine wpAnyH_take (i := 8) (oi := { dst := some 23, op := Go.Op.load 27 (Go.Operand.tmp 22), type := 27, pos := "law.go:165", after := #[{ on := 7, ground := Go.Ground.data }, { on := 4, ground := Go.Ground.guard }], guard := some (4, true) }) (v := undef) rfl (by kernel_rfl) (by kernel_rfl) (by kernel_rfl) (fun _ _ _ h => h) (Or.inr ⟨by kernel_rfl, rfl⟩) st ?_
        (try simp only [Act.put, List.setIfInBounds_toArray, List.set_cons_zero, List.set_cons_succ])
        refine wpAnyH_take (i := 9) (oi := { dst := some 24, op := Go.Op.move (Go.Operand.tmp 5), type := 3, pos := "law.go:165", after := #[{ on := 4, ground := Go.Ground.guard }], guard := some (4, true) }) (v := undef) rfl (by kernel_rfl) (by kernel_rfl) (by kernel_rfl) (fun _ _ _ h => h) (Or.inr ⟨by kernel_rfl, rfl⟩) st ?_
        (try simp only [Act.put, List.setIfInBounds_toArray, List.set_cons_zero, List.set_cons_succ])
        refine wpAnyH_take (i := 10) (oi := { dst := some 25, op := Go.Op.indexAddr 27 (Go.Operand.tmp 23) (Go.Operand.tmp 24), type := 0, pos := "law.go:165", after := #[{ on := 8, ground := Go.Ground.data }, { on := 9, ground := Go.Ground.data }, { on := 4, ground := Go.Ground.guard }], guard := some (4, true) }) (v := undef) rfl (by kernel_rfl) (by kernel_rfl) (by kernel_rfl) (fun _ _ _ h => h) (Or.inr ⟨by kernel_rfl, rfl⟩) st ?_
        (try simp only [Act.put, List.setIfInBounds_toArray, List.set_cons_zero, List.set_cons_succ])
        refine wpAnyH_take (i := 11) (oi := { dst := some 26, op := Go.Op.load 25 (Go.Operand.tmp 25), type := 25, pos := "law.go:165", after := #[{ on := 10, ground := Go.Ground.data }, { on := 4, ground := Go.Ground.guard }], guard := some (4, true) }) (v := undef) rfl (by kernel_rfl) (by kernel_rfl) (by kernel_rfl) (fun _ _ _ h => h) (Or.inr ⟨by kernel_rfl, rfl⟩) st ?_
        (try simp only [Act.put, List.setIfInBounds_toArray, List.set_cons_zero, List.set_cons_succ])
        refine wpAnyH_take (i := 12) (oi := { dst := some 27, op := Go.Op.binOp Go.BinOp.neq 25 (Go.Operand.tmp 26) (Go.Operand.const (Go.Value.slice none 0 0)) 25, type := 4, pos := "law.go:165", after := #[{ on := 11, ground := Go.Ground.data }, { on := 4, ground := Go.Ground.guard }], guard := some (4, true) }) (v := undef) rfl (by kernel_rfl) (by kernel_rfl) (by kernel_rfl) (fun _ _ _ h => h) (Or.inr ⟨by kernel_rfl, rfl⟩) st ?_
        (try simp only [Act.put, List.setIfInBounds_toArray, List.set_cons_zero, List.set_cons_succ])
        refine wpAnyH_take (i := 13) (oi := { dst := some 28, op := Go.Op.pick (Go.Operand.tmp 19) (Go.Operand.tmp 27) (Go.Operand.const (Go.Value.bool false)), type := 4, pos := "law.go:165", after := #[{ on := 4, ground := Go.Ground.data }, { on := 12, ground := Go.Ground.data }], guard := none }) (v := ?_) rfl (by kernel_rfl) (by kernel_rfl) (by kernel_rfl) (fun _ _ _ h => h) (Or.inl ⟨by kernel_rfl, ?_⟩) st ?_
        rotate_left
        · (intro X hX; (try dsimp only at hX); go_simp; try (with_reducible rfl))
        (try simp only [Act.put, List.setIfInBounds_toArray, List.set_cons_zero, List.set_cons_succ])
        refine wpAnyH_take (i := 14) (oi := { dst := some 29, op := Go.Op.move (Go.Operand.tmp 28), type := 4, pos := "law.go:165", after := #[{ on := 13, ground := Go.Ground.data }, { on := 4, ground := Go.Ground.chain }], guard := none }) (v := ?_) rfl (by kernel_rfl) (by kernel_rfl) (by kernel_rfl) (fun _ _ _ h => h) (Or.inl ⟨by kernel_rfl, ?_⟩) st ?_
        rotate_left
        · (intro X hX; (try dsimp only at hX); go_simp; try (with_reducible rfl))
        (try simp only [Act.put, List.setIfInBounds_toArray, List.set_cons_zero, List.set_cons_succ])
        refine wpAnyH_take (i := 15) (oi := { dst := some 30, op := Go.Op.move (Go.Operand.tmp 5), type := 3, pos := "law.go:165", after := #[{ on := 14, ground := Go.Ground.guard }], guard := some (14, false) }) (v := ?_) rfl (by kernel_rfl) (by kernel_rfl) (by kernel_rfl) (fun _ _ _ h => h) (Or.inl ⟨by kernel_rfl, ?_⟩) st ?_
        rotate_left
        · (intro X hX; (try dsimp only at hX); go_simp; try (with_reducible rfl))
        (try simp only [Act.put, List.setIfInBounds_toArray, List.set_cons_zero, List.set_cons_succ])
        refine wpAnyH_take (i := 16) (oi := { dst := some 31, op := Go.Op.move (Go.Operand.tmp 1), type := 27, pos := "law.go:165", after := #[{ on := 14, ground := Go.Ground.guard }], guard := some (14, false) }) (v := ?_) rfl (by kernel_rfl) (by kernel_rfl) (by kernel_rfl) (fun _ _ _ h => h) (Or.inl ⟨by kernel_rfl, ?_⟩) st ?_
        rotate_left
        · (intro X hX; (try dsimp only at hX); go_simp; try (with_reducible rfl))
        (try simp only [Act.put, List.setIfInBounds_toArray, List.set_cons_zero, List.set_cons_succ])
        refine wpAnyH_take (i := 17) (oi := { dst := some 32, op := Go.Op.call { callee := Go.Callee.builtin Go.Builtin.len, args := #[Go.Operand.tmp 31], argTypes := #[27] }, type := 3, pos := "law.go:165", after := #[{ on := 16, ground := Go.Ground.data }, { on := 14, ground := Go.Ground.guard }], guard := some (14, false) }) (v := ?_) rfl (by kernel_rfl) (by kernel_rfl) (by kernel_rfl) (fun _ _ _ h => h) (Or.inl ⟨by kernel_rfl, ?_⟩) st ?_
        rotate_left
        · (intro X hX; (try dsimp only at hX); go_simp; try (with_reducible rfl))
        (try simp only [Act.put, List.setIfInBounds_toArray, List.set_cons_zero, List.set_cons_succ])
        refine wpAnyH_take (i := 18) (oi := { dst := some 33, op := Go.Op.binOp Go.BinOp.lss 3 (Go.Operand.tmp 30) (Go.Operand.tmp 32) 3, type := 4, pos := "law.go:165", after := #[{ on := 15, ground := Go.Ground.data }, { on := 17, ground := Go.Ground.data }, { on := 14, ground := Go.Ground.guard }], guard := some (14, false) }) (v := ?_) rfl (by kernel_rfl) (by kernel_rfl) (by kernel_rfl) (fun _ _ _ h => h) (Or.inl ⟨by kernel_rfl, ?_⟩) st ?_
        rotate_left
        · (intro X hX; (try dsimp only at hX); go_simp; try (with_reducible rfl))
        (try simp only [Act.put, List.setIfInBounds_toArray, List.set_cons_zero, List.set_cons_succ])
        refine wpAnyH_take (i := 19) (oi := { dst := some 34, op := Go.Op.move (Go.Operand.tmp 33), type := 4, pos := "law.go:165", after := #[{ on := 18, ground := Go.Ground.data }, { on := 14, ground := Go.Ground.chain }, { on := 14, ground := Go.Ground.guard }], guard := some (14, false) }) (v := ?_) rfl (by kernel_rfl) (by kernel_rfl) (by kernel_rfl) (fun _ _ _ h => h) (Or.inl ⟨by kernel_rfl, ?_⟩) st ?_
        rotate_left
        · (intro X hX; (try dsimp only at hX); go_simp; try (with_reducible rfl))
        (try simp only [Act.put, List.setIfInBounds_toArray, List.set_cons_zero, List.set_cons_succ])
        refine wpAnyH_take (i := 20) (oi := { dst := some 35, op := Go.Op.move (Go.Operand.tmp 0), type := 24, pos := "law.go:165", after := #[{ on := 19, ground := Go.Ground.guard }], guard := some (19, true) }) (v := ?_) rfl (by kernel_rfl) (by kernel_rfl) (by kernel_rfl) (fun _ _ _ h => h) (Or.inl ⟨by kernel_rfl, ?_⟩) st ?_
        rotate_left
        · (intro X hX; (try dsimp only at hX); go_simp; try (with_reducible rfl))
        (try simp only [Act.put, List.setIfInBounds_toArray, List.set_cons_zero, List.set_cons_succ])
        refine wpAnyH_take (i := 21) (oi := { dst := some 36, op := Go.Op.nilCheck (Go.Operand.tmp 35), type := 0, pos := "law.go:165", after := #[{ on := 20, ground := Go.Ground.data }, { on := 19, ground := Go.Ground.guard }], guard := some (19, true) }) (v := ?_) rfl (by kernel_rfl) (by kernel_rfl) (by kernel_rfl) (fun _ _ _ h => h) (Or.inl ⟨by kernel_rfl, ?_⟩) st ?_
        rotate_left
        · (intro X hX; (try dsimp only at hX); go_simp; try (with_reducible rfl))
        (try simp only [Act.put, List.setIfInBounds_toArray, List.set_cons_zero, List.set_cons_succ])
        refine wpAnyH_take (i := 22) (oi := { dst := some 37, op := Go.Op.fieldAddr 29 (Go.Operand.tmp 36) 3, type := 0, pos := "law.go:165", after := #[{ on := 21, ground := Go.Ground.data }, { on := 19, ground := Go.Ground.guard }], guard := some (19, true) }) (v := ?_) rfl (by kernel_rfl) (by kernel_rfl) (by kernel_rfl) (fun _ _ _ h => h) (Or.inl ⟨by kernel_rfl, ?_⟩) st ?_
        rotate_left
        · (intro X hX; (try dsimp only at hX); go_simp; try (with_reducible rfl))
        (try simp only [Act.put, List.setIfInBounds_toArray, List.set_cons_zero, List.set_cons_succ])
        refine wpAnyH_take (i := 23) (oi := { dst := some 38, op := Go.Op.load 27 (Go.Operand.tmp 37), type := 27, pos := "law.go:165", after := #[{ on := 22, ground := Go.Ground.data }, { on := 19, ground := Go.Ground.guard }], guard := some (19, true) }) (v := ?_) rfl (by kernel_rfl) (by kernel_rfl) (by kernel_rfl) (fun _ _ _ h => h) (Or.inl ⟨by kernel_rfl, ?_⟩) st ?_
        rotate_left
        · (intro X hX; (try dsimp only at hX); go_simp; try (with_reducible rfl))
        (try simp only [Act.put, List.setIfInBounds_toArray, List.set_cons_zero, List.set_cons_succ])
        refine wpAnyH_take (i := 24) (oi := { dst := some 39, op := Go.Op.move (Go.Operand.tmp 5), type := 3, pos := "law.go:165", after := #[{ on := 19, ground := Go.Ground.guard }], guard := some (19, true) }) (v := ?_) rfl (by kernel_rfl) (by kernel_rfl) (by kernel_rfl) (fun _ _ _ h => h) (Or.inl ⟨by kernel_rfl, ?_⟩) st ?_
        rotate_left
        · (intro X hX; (try dsimp only at hX); go_simp; try (with_reducible rfl))
        (try simp only [Act.put, List.setIfInBounds_toArray, List.set_cons_zero, List.set_cons_succ])
        refine wpAnyH_take (i := 25) (oi := { dst := some 40, op := Go.Op.indexAddr 27 (Go.Operand.tmp 38) (Go.Operand.tmp 39), type := 0, pos := "law.go:165", after := #[{ on := 23, ground := Go.Ground.data }, { on := 24, ground := Go.Ground.data }, { on := 19, ground := Go.Ground.guard }], guard := some (19, true) }) (v := ?_) rfl (by kernel_rfl) (by kernel_rfl) (by kernel_rfl) (fun _ _ _ h => h) (Or.inl ⟨by kernel_rfl, ?_⟩) st ?_
        rotate_left
        · (intro X hX; (try dsimp only at hX); go_simp; try (with_reducible rfl))
        (try simp only [Act.put, List.setIfInBounds_toArray, List.set_cons_zero, List.set_cons_succ])
        refine wpAnyH_take (i := 26) (oi := { dst := some 41, op := Go.Op.load 25 (Go.Operand.tmp 40), type := 25, pos := "law.go:165", after := #[{ on := 25, ground := Go.Ground.data }, { on := 19, ground := Go.Ground.guard }], guard := some (19, true) }) (v := ?_) rfl (by kernel_rfl) (by kernel_rfl) (by kernel_rfl) (fun _ _ _ h => h) (Or.inl ⟨by kernel_rfl, ?_⟩) st ?_
        rotate_left
        · (intro X hX; (try dsimp only at hX); go_simp; try (with_reducible rfl))
        (try simp only [Act.put, List.setIfInBounds_toArray, List.set_cons_zero, List.set_cons_succ])
        refine wpAnyH_take (i := 27) (oi := { dst := some 42, op := Go.Op.move (Go.Operand.tmp 1), type := 27, pos := "law.go:165", after := #[{ on := 19, ground := Go.Ground.guard }], guard := some (19, true) }) (v := ?_) rfl (by kernel_rfl) (by kernel_rfl) (by kernel_rfl) (fun _ _ _ h => h) (Or.inl ⟨by kernel_rfl, ?_⟩) st ?_
        rotate_left
        · (intro X hX; (try dsimp only at hX); go_simp; try (with_reducible rfl))
        (try simp only [Act.put, List.setIfInBounds_toArray, List.set_cons_zero, List.set_cons_succ])
        refine wpAnyH_take (i := 28) (oi := { dst := some 43, op := Go.Op.move (Go.Operand.tmp 5), type := 3, pos := "law.go:165", after := #[{ on := 19, ground := Go.Ground.guard }], guard := some (19, true) }) (v := ?_) rfl (by kernel_rfl) (by kernel_rfl) (by kernel_rfl) (fun _ _ _ h => h) (Or.inl ⟨by kernel_rfl, ?_⟩) st ?_
        rotate_left
        · (intro X hX; (try dsimp only at hX); go_simp; try (with_reducible rfl))
        (try simp only [Act.put, List.setIfInBounds_toArray, List.set_cons_zero, List.set_cons_succ])
        refine wpAnyH_take (i := 29) (oi := { dst := some 44, op := Go.Op.indexAddr 27 (Go.Operand.tmp 42) (Go.Operand.tmp 43), type := 0, pos := "law.go:165", after := #[{ on := 27, ground := Go.Ground.data }, { on := 28, ground := Go.Ground.data }, { on := 19, ground := Go.Ground.guard }], guard := some (19, true) }) (v := ?_) rfl (by kernel_rfl) (by kernel_rfl) (by kernel_rfl) (fun _ _ _ h => h) (Or.inl ⟨by kernel_rfl, ?_⟩) st ?_
        rotate_left
        · (intro X hX; (try dsimp only at hX); go_simp; try (with_reducible rfl))
        (try simp only [Act.put, List.setIfInBounds_toArray, List.set_cons_zero, List.set_cons_succ])
        refine wpAnyH_take (i := 30) (oi := { dst := some 45, op := Go.Op.load 25 (Go.Operand.tmp 44), type := 25, pos := "law.go:165", after := #[{ on := 29, ground := Go.Ground.data }, { on := 19, ground := Go.Ground.guard }], guard := some (19, true) }) (v := ?_) rfl (by kernel_rfl) (by kernel_rfl) (by kernel_rfl) (fun _ _ _ h => h) (Or.inl ⟨by kernel_rfl, ?_⟩) st ?_
        rotate_left
        · (intro X hX; (try dsimp only at hX); go_simp; try (with_reducible rfl))
        (try simp only [Act.put, List.setIfInBounds_toArray, List.set_cons_zero, List.set_cons_succ])
        refine wpAnyH_ready (rs := [31]) (by kernel_rfl) (by simp) ?_
        refine AllReadyH.cons (o := { dst := some 46, op := Go.Op.call { callee := Go.Callee.value (Go.Operand.func 14), args := #[Go.Operand.tmp 41, Go.Operand.tmp 45], argTypes := #[25, 25] }, type := 4, pos := "law.go:165", after := #[{ on := 26, ground := Go.Ground.data }, { on := 30, ground := Go.Ground.data }, { on := 19, ground := Go.Ground.chain }, { on := 19, ground := Go.Ground.guard }], guard := some (19, true) }) rfl (fun K hK => ?_) AllReadyH.nil
        go_simp
        refine (same_yes (HR2.out.on st.2.2.2.2.2) (HFR.out.on st.2.2.2.2.2) (by omega)).mono ?_
        rintro e w6 ⟨rfl, hb6⟩
        have st6 := stS.on st hb6
        dsimp only
        refine hK.out _ _ st6 (fun hHeld => ?_)
        clear hHeld hK K
        (try simp only [Act.put, List.setIfInBounds_toArray, List.set_cons_zero, List.set_cons_succ])
        refine wpAnyH_take (i := 32) (oi := { dst := some 47, op := Go.Op.unOp Go.UnOp.not 4 (Go.Operand.tmp 46), type := 4, pos := "law.go:165", after := #[{ on := 31, ground := Go.Ground.data }, { on := 19, ground := Go.Ground.guard }], guard := some (19, true) }) (v := ?_) rfl (by kernel_rfl) (by kernel_rfl) (by kernel_rfl) (fun _ _ _ h => h) (Or.inl ⟨by kernel_rfl, ?_⟩) st6 ?_
        rotate_left
        · (intro X hX; (try dsimp only at hX); go_simp; try (with_reducible rfl))
        (try simp only [Act.put, List.setIfInBounds_toArray, List.set_cons_zero, List.set_cons_succ])
        refine wpAnyH_take (i := 33) (oi := { dst := some 48, op := Go.Op.move (Go.Operand.tmp 47), type := 4, pos := "law.go:165", after := #[{ on := 32, ground := Go.Ground.data }, { on := 31, ground := Go.Ground.chain }, { on := 19, ground := Go.Ground.guard }], guard := some (19, true) }) (v := ?_) rfl (by kernel_rfl) (by kernel_rfl) (by kernel_rfl) (fun _ _ _ h => h) (Or.inl ⟨by kernel_rfl, ?_⟩) st6 ?_
        rotate_left
        · (intro X hX; (try dsimp only at hX); go_simp; try (with_reducible rfl))
        (try simp only [Act.put, List.setIfInBounds_toArray, List.set_cons_zero, List.set_cons_succ])
        refine wpAnyH_take (i := 34) (oi := { dst := some 49, op := Go.Op.move (Go.Operand.tmp 0), type := 24, pos := "law.go:165", after := #[{ on := 33, ground := Go.Ground.guard }], guard := some (33, false) }) (v := ?_) rfl (by kernel_rfl) (by kernel_rfl) (by kernel_rfl) (fun _ _ _ h => h) (Or.inl ⟨by kernel_rfl, ?_⟩) st6 ?_
        rotate_left
        · (intro X hX; (try dsimp only at hX); go_simp; try (with_reducible rfl))
        (try simp only [Act.put, List.setIfInBounds_toArray, List.set_cons_zero, List.set_cons_succ])
        refine wpAnyH_take (i := 35) (oi := { dst := some 50, op := Go.Op.nilCheck (Go.Operand.tmp 49), type := 0, pos := "law.go:165", after := #[{ on := 34, ground := Go.Ground.data }, { on := 33, ground := Go.Ground.guard }], guard := some (33, false) }) (v := ?_) rfl (by kernel_rfl) (by kernel_rfl) (by kernel_rfl) (fun _ _ _ h => h) (Or.inl ⟨by kernel_rfl, ?_⟩) st6 ?_
        rotate_left
        · (intro X hX; (try dsimp only at hX); go_simp; try (with_reducible rfl))
        (try simp only [Act.put, List.setIfInBounds_toArray, List.set_cons_zero, List.set_cons_succ])
        refine wpAnyH_take (i := 36) (oi := { dst := some 51, op := Go.Op.fieldAddr 29 (Go.Operand.tmp 50) 2, type := 0, pos := "law.go:165", after := #[{ on := 35, ground := Go.Ground.data }, { on := 33, ground := Go.Ground.guard }], guard := some (33, false) }) (v := ?_) rfl (by kernel_rfl) (by kernel_rfl) (by kernel_rfl) (fun _ _ _ h => h) (Or.inl ⟨by kernel_rfl, ?_⟩) st6 ?_
        rotate_left
        · (intro X hX; (try dsimp only at hX); go_simp; try (with_reducible rfl))
        (try simp only [Act.put, List.setIfInBounds_toArray, List.set_cons_zero, List.set_cons_succ])
        refine wpAnyH_take (i := 37) (oi := { dst := some 52, op := Go.Op.load 27 (Go.Operand.tmp 51), type := 27, pos := "law.go:165", after := #[{ on := 36, ground := Go.Ground.data }, { on := 33, ground := Go.Ground.guard }], guard := some (33, false) }) (v := ?_) rfl (by kernel_rfl) (by kernel_rfl) (by kernel_rfl) (fun _ _ _ h => h) (Or.inl ⟨by kernel_rfl, ?_⟩) st6 ?_
        rotate_left
        · (intro X hX; (try dsimp only at hX); go_simp; try (with_reducible rfl))
        (try simp only [Act.put, List.setIfInBounds_toArray, List.set_cons_zero, List.set_cons_succ])
        refine wpAnyH_take (i := 38) (oi := { dst := some 53, op := Go.Op.move (Go.Operand.tmp 5), type := 3, pos := "law.go:165", after := #[{ on := 33, ground := Go.Ground.guard }], guard := some (33, false) }) (v := ?_) rfl (by kernel_rfl) (by kernel_rfl) (by kernel_rfl) (fun _ _ _ h => h) (Or.inl ⟨by kernel_rfl, ?_⟩) st6 ?_
        rotate_left
        · (intro X hX; (try dsimp only at hX); go_simp; try (with_reducible rfl))
        (try simp only [Act.put, List.setIfInBounds_toArray, List.set_cons_zero, List.set_cons_succ])
        refine wpAnyH_take (i := 39) (oi := { dst := some 54, op := Go.Op.indexAddr 27 (Go.Operand.tmp 52) (Go.Operand.tmp 53), type := 0, pos := "law.go:165", after := #[{ on := 37, ground := Go.Ground.data }, { on := 38, ground := Go.Ground.data }, { on := 33, ground := Go.Ground.guard }], guard := some (33, false) }) (v := ?_) rfl (by kernel_rfl) (by kernel_rfl) (by kernel_rfl) (fun _ _ _ h => h) (Or.inl ⟨by kernel_rfl, ?_⟩) st6 ?_
        rotate_left
        · (intro X hX; (try dsimp only at hX); go_simp; try (with_reducible rfl))
        (try simp only [Act.put, List.setIfInBounds_toArray, List.set_cons_zero, List.set_cons_succ])
        refine wpAnyH_take (i := 40) (oi := { dst := some 55, op := Go.Op.load 25 (Go.Operand.tmp 54), type := 25, pos := "law.go:165", after := #[{ on := 39, ground := Go.Ground.data }, { on := 33, ground := Go.Ground.guard }], guard := some (33, false) }) (v := ?_) rfl (by kernel_rfl) (by kernel_rfl) (by kernel_rfl) (fun _ _ _ h => h) (Or.inl ⟨by kernel_rfl, ?_⟩) st6 ?_
        rotate_left
        · (intro X hX; (try dsimp only at hX); go_simp; try (with_reducible rfl))
        (try simp only [Act.put, List.setIfInBounds_toArray, List.set_cons_zero, List.set_cons_succ])
        refine wpAnyH_take (i := 41) (oi := { dst := some 56, op := Go.Op.move (Go.Operand.tmp 1), type := 27, pos := "law.go:165", after := #[{ on := 33, ground := Go.Ground.guard }], guard := some (33, false) }) (v := ?_) rfl (by kernel_rfl) (by kernel_rfl) (by kernel_rfl) (fun _ _ _ h => h) (Or.inl ⟨by kernel_rfl, ?_⟩) st6 ?_
        rotate_left
        · (intro X hX; (try dsimp only at hX); go_simp; try (with_reducible rfl))
        (try simp only [Act.put, List.setIfInBounds_toArray, List.set_cons_zero, List.set_cons_succ])
        refine wpAnyH_take (i := 42) (oi := { dst := some 57, op := Go.Op.move (Go.Operand.tmp 5), type := 3, pos := "law.go:165", after := #[{ on := 33, ground := Go.Ground.guard }], guard := some (33, false) }) (v := ?_) rfl (by kernel_rfl) (by kernel_rfl) (by kernel_rfl) (fun _ _ _ h => h) (Or.inl ⟨by kernel_rfl, ?_⟩) st6 ?_
        rotate_left
        · (intro X hX; (try dsimp only at hX); go_simp; try (with_reducible rfl))
        (try simp only [Act.put, List.setIfInBounds_toArray, List.set_cons_zero, List.set_cons_succ])
        refine wpAnyH_take (i := 43) (oi := { dst := some 58, op := Go.Op.indexAddr 27 (Go.Operand.tmp 56) (Go.Operand.tmp 57), type := 0, pos := "law.go:165", after := #[{ on := 41, ground := Go.Ground.data }, { on := 42, ground := Go.Ground.data }, { on := 33, ground := Go.Ground.guard }], guard := some (33, false) }) (v := ?_) rfl (by kernel_rfl) (by kernel_rfl) (by kernel_rfl) (fun _ _ _ h => h) (Or.inl ⟨by kernel_rfl, ?_⟩) st6 ?_
        rotate_left
        · (intro X hX; (try dsimp only at hX); go_simp; try (with_reducible rfl))
        (try simp only [Act.put, List.setIfInBounds_toArray, List.set_cons_zero, List.set_cons_succ])
        refine wpAnyH_take (i := 44) (oi := { dst := some 59, op := Go.Op.load 25 (Go.Operand.tmp 58), type := 25, pos := "law.go:165", after := #[{ on := 43, ground := Go.Ground.data }, { on := 33, ground := Go.Ground.guard }], guard := some (33, false) }) (v := ?_) rfl (by kernel_rfl) (by kernel_rfl) (by kernel_rfl) (fun _ _ _ h => h) (Or.inl ⟨by kernel_rfl, ?_⟩) st6 ?_
        rotate_left
        · (intro X hX; (try dsimp only at hX); go_simp; try (with_reducible rfl))
        (try simp only [Act.put, List.setIfInBounds_toArray, List.set_cons_zero, List.set_cons_succ])
        refine wpAnyH_ready (rs := [45]) (by kernel_rfl) (by simp) ?_
        refine AllReadyH.cons (o := { dst := some 60, op := Go.Op.call { callee := Go.Callee.value (Go.Operand.func 21), args := #[Go.Operand.tmp 55, Go.Operand.tmp 59], argTypes := #[25, 25] }, type := 4, pos := "law.go:165", after := #[{ on := 40, ground := Go.Ground.data }, { on := 44, ground := Go.Ground.data }, { on := 33, ground := Go.Ground.chain }, { on := 33, ground := Go.Ground.guard }], guard := some (33, false) }) rfl (fun K hK => ?_) AllReadyH.nil
        go_simp
        refine (lies_yes (HR1.out.on st6.2.2.2.2.2) (HFR.out.on st6.2.2.2.2.2) e3 (by omega) e5 e4).mono ?_
        rintro e w7 ⟨rfl, hb7⟩
        have st7 := stS.on st6 hb7
        dsimp only
        refine hK.out _ _ st7 (fun hHeld => ?_)
        clear hHeld hK K
        (try simp only [Act.put, List.setIfInBounds_toArray, List.set_cons_zero, List.set_cons_succ])
        refine wpAnyH_take (i := 46) (oi := { dst := some 61, op := Go.Op.unOp Go.UnOp.not 4 (Go.Operand.tmp 60), type := 4, pos := "law.go:165", after := #[{ on := 45, ground := Go.Ground.data }, { on := 33, ground := Go.Ground.guard }], guard := some (33, false) }) (v := ?_) rfl (by kernel_rfl) (by kernel_rfl) (by kernel_rfl) (fun _ _ _ h => h) (Or.inl ⟨by kernel_rfl, ?_⟩) st7 ?_
        rotate_left
        · (intro X hX; (try dsimp only at hX); go_simp; try (with_reducible rfl))
        (try simp only [Act.put, List.setIfInBounds_toArray, List.set_cons_zero, List.set_cons_succ])
        refine wpAnyH_take (i := 47) (oi := { dst := some 62, op := Go.Op.pick (Go.Operand.tmp 48) (Go.Operand.const (Go.Value.bool true)) (Go.Operand.tmp 61), type := 4, pos := "law.go:165", after := #[{ on := 33, ground := Go.Ground.data }, { on := 46, ground := Go.Ground.data }, { on := 19, ground := Go.Ground.guard }], guard := some (19, true) }) (v := ?_) rfl (by kernel_rfl) (by kernel_rfl) (by kernel_rfl) (fun _ _ _ h => h) (Or.inl ⟨by kernel_rfl, ?_⟩) st7 ?_
        rotate_left
        · (intro X hX; (try dsimp only at hX); go_simp; try (with_reducible rfl))
        (try simp only [Act.put, List.setIfInBounds_toArray, List.set_cons_zero, List.set_cons_succ])
        refine wpAnyH_take (i := 48) (oi := { dst := some 63, op := Go.Op.pick (Go.Operand.tmp 34) (Go.Operand.tmp 62) (Go.Operand.const (Go.Value.bool false)), type := 4, pos := "law.go:165", after := #[{ on := 19, ground := Go.Ground.data }, { on := 47, ground := Go.Ground.data }, { on := 14, ground := Go.Ground.guard }], guard := some (14, false) }) (v := ?_) rfl (by kernel_rfl) (by kernel_rfl) (by kernel_rfl) (fun _ _ _ h => h) (Or.inl ⟨by kernel_rfl, ?_⟩) st7 ?_
        rotate_left
        · (intro X hX; (try dsimp only at hX); go_simp; try (with_reducible rfl))
        (try simp only [Act.put, List.setIfInBounds_toArray, List.set_cons_zero, List.set_cons_succ])
        refine wpAnyH_take (i := 49) (oi := { dst := some 64, op := Go.Op.pick (Go.Operand.tmp 29) (Go.Operand.const (Go.Value.bool true)) (Go.Operand.tmp 63), type := 4, pos := "law.go:165", after := #[{ on := 14, ground := Go.Ground.data }, { on := 48, ground := Go.Ground.data }], guard := none }) (v := ?_) rfl (by kernel_rfl) (by kernel_rfl) (by kernel_rfl) (fun _ _ _ h => h) (Or.inl ⟨by kernel_rfl, ?_⟩) st7 ?_
        rotate_left
        · (intro X hX; (try dsimp only at hX); go_simp; try (with_reducible rfl))
        (try simp only [Act.put, List.setIfInBounds_toArray, List.set_cons_zero, List.set_cons_succ])
        refine wpAnyH_done (by kernel_rfl) ?_ _
        go_wp2_with fail
        go_roundg (ns - (i + 1))
        case measure => exact Nat.lt_of_lt_of_le hme hgg
        case rel => exact ⟨i + 1, _, rfl, by omega, by omega, by go_num, belThen HBW.out st7.2.2.2.2.2⟩
      · have hilz : ¬ (i : Int) < (ll.length : Int) := by omega
        have hilg : (ll.length : Int) ≤ (i : Int) := by omega
        have e2 := HE.out.done.2 i (by omega)
        rw [e2] at d4
        clear e2
        have st : snS D gs i (.slice (some ⟨gs, 0, none⟩) ns cs) (.slice none 0 0) Y.drew := ⟨d3, d4⟩
        clear d4
        go_wp2_with fail
        clear d3
        have hgeN : ll.length ≤ i := by omega
        have hltN : ¬ i < ll.length := by omega
        have hgeB : decide ((ll.length : Int) ≤ (i : Int)) = true := by simp; omega
        have hltB : decide ((i : Int) < (ll.length : Int)) = false := by simp; omega
        clear hilz hilg
        refine wp_region_held_drew (S := (snS D gs i (.slice (some ⟨gs, 0, none⟩) ns cs) (.slice none 0 0))) (by kernel_rfl) st (fun hHeld => ?_)
        clear hHeld
        refine wpAnyH_take (i := 0) (oi := { dst := some 15, op := Go.Op.move (Go.Operand.tmp 5), type := 3, pos := "law.go:165", after := #[], guard := none }) (v := ?_) rfl (by kernel_rfl) (by kernel_rfl) (by kernel_rfl) (fun _ _ _ h => h) (Or.inl ⟨by kernel_rfl, ?_⟩) st ?_
        rotate_left
        · (intro X hX; (try dsimp only at hX); go_simp; try (with_reducible rfl))
        (try simp only [Act.put, List.setIfInBounds_toArray, List.set_cons_zero, List.set_cons_succ])
        refine wpAnyH_take (i := 1) (oi := { dst := some 16, op := Go.Op.move (Go.Operand.tmp 1), type := 27, pos := "law.go:165", after := #[], guard := none }) (v := ?_) rfl (by kernel_rfl) (by kernel_rfl) (by kernel_rfl) (fun _ _ _ h => h) (Or.inl ⟨by kernel_rfl, ?_⟩) st ?_
        rotate_left
        · (intro X hX; (try dsimp only at hX); go_simp; try (with_reducible rfl))
        (try simp only [Act.put, List.setIfInBounds_toArray, List.set_cons_zero, List.set_cons_succ])
        refine wpAnyH_take (i := 2) (oi := { dst := some 17, op := Go.Op.call { callee := Go.Callee.builtin Go.Builtin.len, args := #[Go.Operand.tmp 16], argTypes := #[27] }, type := 3, pos := "law.go:165", after := #[{ on := 1, ground := Go.Ground.data }], guard := none }) (v := ?_) rfl (by kernel_rfl) (by kernel_rfl) (by kernel_rfl) (fun _ _ _ h => h) (Or.inl ⟨by kernel_rfl, ?_⟩) st ?_
        rotate_left
        · (intro X hX; (try dsimp only at hX); go_simp; try (with_reducible rfl))
        (try simp only [Act.put, List.setIfInBounds_toArray, List.set_cons_zero, List.set_cons_succ])
        refine wpAnyH_take (i := 3) (oi := { dst := some 18, op := Go.Op.binOp Go.BinOp.geq 3 (Go.Operand.tmp 15) (Go.Operand.tmp 17) 3, type := 4, pos := "law.go:165", after := #[{ on := 0, ground := Go.Ground.data }, { on := 2, ground := Go.Ground.data }], guard := none }) (v := ?_) rfl (by kernel_rfl) (by kernel_rfl) (by kernel_rfl) (fun _ _ _ h => h) (Or.inl ⟨by kernel_rfl, ?_⟩) st ?_
        rotate_left
        · (intro X hX; (try dsimp only at hX); go_simp; try (with_reducible rfl))
        (try simp only [Act.put, List.setIfInBounds_toArray, List.set_cons_zero, List.set_cons_succ])
        refine wpAnyH_take (i := 4) (oi := { dst := some 19, op := Go.Op.move (Go.Operand.tmp 18), type := 4, pos := "law.go:165", after := #[{ on := 3, ground := Go.Ground.data }], guard := none }) (v := ?_) rfl (by kernel_rfl) (by kernel_rfl) (by kernel_rfl) (fun _ _ _ h => h) (Or.inl ⟨by kernel_rfl, ?_⟩) st ?_
        rotate_left
        · (intro X hX; (try dsimp only at hX); go_simp; try (with_reducible rfl))
        (try simp only [Act.put, List.setIfInBounds_toArray, List.set_cons_zero, List.set_cons_succ])
        refine wpAnyH_take (i := 5) (oi := { dst := some 20, op := Go.Op.move (Go.Operand.tmp 0), type := 24, pos := "law.go:165", after := #[{ on := 4, ground := Go.Ground.guard }], guard := some (4, true) }) (v := ?_) rfl (by kernel_rfl) (by kernel_rfl) (by kernel_rfl) (fun _ _ _ h => h) (Or.inl ⟨by kernel_rfl, ?_⟩) st ?_
        rotate_left
        · (intro X hX; (try dsimp only at hX); go_simp; try (with_reducible rfl))
        (try simp only [Act.put, List.setIfInBounds_toArray, List.set_cons_zero, List.set_cons_succ])
        refine wpAnyH_take (i := 6) (oi := { dst := some 21, op := Go.Op.nilCheck (Go.Operand.tmp 20), type := 0, pos := "law.go:165", after := #[{ on := 5, ground := Go.Ground.data }, { on := 4, ground := Go.Ground.guard }], guard := some (4, true) }) (v := ?_) rfl (by kernel_rfl) (by kernel_rfl) (by kernel_rfl) (fun _ _ _ h => h) (Or.inl ⟨by kernel_rfl, ?_⟩) st ?_
        rotate_left
        · (intro X hX; (try dsimp only at hX); go_simp; try (with_reducible rfl))
        (try simp only [Act.put, List.setIfInBounds_toArray, List.set_cons_zero, List.set_cons_succ])
        refine wpAnyH_take (i := 7) (oi := { dst := some 22, op := Go.Op.fieldAddr 29 (Go.Operand.tmp 21) 3, type := 0, pos := "law.go:165", after := #[{ on := 6, ground := Go.Ground.data }, { on := 4, ground := Go.Ground.guard }], guard := some (4, true) }) (v := ?_) rfl (by kernel_rfl) (by kernel_rfl) (by kernel_rfl) (fun _ _ _ h => h) (Or.inl ⟨by kernel_rfl, ?_⟩) st ?_
        rotate_left
        · (intro X hX; (try dsimp only at hX); go_simp; try (with_reducible rfl))
        (try simp only [Act.put, List.setIfInBounds_toArray, List.set_cons_zero, List.set_cons_succ])
        refine wpAnyH_take (i := 8) (oi := { dst := some 23, op := Go.Op.load 27 (Go.Operand.tmp 22), type := 27, pos := "law.go:165", after := #[{ on := 7, ground := Go.Ground.data }, { on := 4, ground := Go.Ground.guard }], guard := some (4, true) }) (v := ?_) rfl (by kernel_rfl) (by kernel_rfl) (by kernel_rfl) (fun _ _ _ h => h) (Or.inl ⟨by kernel_rfl, ?_⟩) st ?_
        rotate_left
        · (intro X hX; (try dsimp only at hX); go_simp; try (with_reducible rfl))
        (try simp only [Act.put, List.setIfInBounds_toArray, List.set_cons_zero, List.set_cons_succ])
        refine wpAnyH_take (i := 9) (oi := { dst := some 24, op := Go.Op.move (Go.Operand.tmp 5), type := 3, pos := "law.go:165", after := #[{ on := 4, ground := Go.Ground.guard }], guard := some (4, true) }) (v := ?_) rfl (by kernel_rfl) (by kernel_rfl) (by kernel_rfl) (fun _ _ _ h => h) (Or.inl ⟨by kernel_rfl, ?_⟩) st ?_
        rotate_left
        · (intro X hX; (try dsimp only at hX); go_simp; try (with_reducible rfl))
        (try simp only [Act.put, List.setIfInBounds_toArray, List.set_cons_zero, List.set_cons_succ])
        refine wpAnyH_take (i := 10) (oi := { dst := some 25, op := Go.Op.indexAddr 27 (Go.Operand.tmp 23) (Go.Operand.tmp 24), type := 0, pos := "law.go:165", after := #[{ on := 8, ground := Go.Ground.data }, { on := 9, ground := Go.Ground.data }, { on := 4, ground := Go.Ground.guard }], guard := some (4, true) }) (v := ?_) rfl (by kernel_rfl) (by kernel_rfl) (by kernel_rfl) (fun _ _ _ h => h) (Or.inl ⟨by kernel_rfl, ?_⟩) st ?_
        rotate_left
        · (intro X hX; (try dsimp only at hX); go_simp; try (with_reducible rfl))
        (try simp only [Act.put, List.setIfInBounds_toArray, List.set_cons_zero, List.set_cons_succ])
        refine wpAnyH_take (i := 11) (oi := { dst := some 26, op := Go.Op.load 25 (Go.Operand.tmp 25), type := 25, pos := "law.go:165", after := #[{ on := 10, ground := Go.Ground.data }, { on := 4, ground := Go.Ground.guard }], guard := some (4, true) }) (v := ?_) rfl (by kernel_rfl) (by kernel_rfl) (by kernel_rfl) (fun _ _ _ h => h) (Or.inl ⟨by kernel_rfl, ?_⟩) st ?_
        rotate_left
        · (intro X hX; (try dsimp only at hX); go_simp; try (with_reducible rfl))
        (try simp only [Act.put, List.setIfInBounds_toArray, List.set_cons_zero, List.set_cons_succ])
        refine wpAnyH_take (i := 12) (oi := { dst := some 27, op := Go.Op.binOp Go.BinOp.neq 25 (Go.Operand.tmp 26) (Go.Operand.const (Go.Value.slice none 0 0)) 25, type := 4, pos := "law.go:165", after := #[{ on := 11, ground := Go.Ground.data }, { on := 4, ground := Go.Ground.guard }], guard := some (4, true) }) (v := ?_) rfl (by kernel_rfl) (by kernel_rfl) (by kernel_rfl) (fun _ _ _ h => h) (Or.inl ⟨by kernel_rfl, ?_⟩) st ?_
        rotate_left
        · (intro X hX; (try dsimp only at hX); go_simp; try (with_reducible rfl))
        (try simp only [Act.put, List.setIfInBounds_toArray, List.set_cons_zero, List.set_cons_succ])
        refine wpAnyH_take (i := 13) (oi := { dst := some 28, op := Go.Op.pick (Go.Operand.tmp 19) (Go.Operand.tmp 27) (Go.Operand.const (Go.Value.bool false)), type := 4, pos := "law.go:165", after := #[{ on := 4, ground := Go.Ground.data }, { on := 12, ground := Go.Ground.data }], guard := none }) (v := ?_) rfl (by kernel_rfl) (by kernel_rfl) (by kernel_rfl) (fun _ _ _ h => h) (Or.inl ⟨by kernel_rfl, ?_⟩) st ?_
        rotate_left
        · (intro X hX; (try dsimp only at hX); go_simp; try (with_reducible rfl))
        (try simp only [Act.put, List.setIfInBounds_toArray, List.set_cons_zero, List.set_cons_succ])
        refine wpAnyH_take (i := 14) (oi := { dst := some 29, op := Go.Op.move (Go.Operand.tmp 28), type := 4, pos := "law.go:165", after := #[{ on := 13, ground := Go.Ground.data }, { on := 4, ground := Go.Ground.chain }], guard := none }) (v := ?_) rfl (by kernel_rfl) (by kernel_rfl) (by kernel_rfl) (fun _ _ _ h => h) (Or.inl ⟨by kernel_rfl, ?_⟩) st ?_
        rotate_left
        · (intro X hX; (try dsimp only at hX); go_simp; try (with_reducible rfl))
        (try simp only [Act.put, List.setIfInBounds_toArray, List.set_cons_zero, List.set_cons_succ])
        refine wpAnyH_take (i := 15) (oi := { dst := some 30, op := Go.Op.move (Go.Operand.tmp 5), type := 3, pos := "law.go:165", after := #[{ on := 14, ground := Go.Ground.guard }], guard := some (14, false) }) (v := ?_) rfl (by kernel_rfl) (by kernel_rfl) (by kernel_rfl) (fun _ _ _ h => h) (Or.inl ⟨by kernel_rfl, ?_⟩) st ?_
        rotate_left
        · (intro X hX; (try dsimp only at hX); go_simp; try (with_reducible rfl))
        (try simp only [Act.put, List.setIfInBounds_toArray, List.set_cons_zero, List.set_cons_succ])
        refine wpAnyH_take (i := 16) (oi := { dst := some 31, op := Go.Op.move (Go.Operand.tmp 1), type := 27, pos := "law.go:165", after := #[{ on := 14, ground := Go.Ground.guard }], guard := some (14, false) }) (v := ?_) rfl (by kernel_rfl) (by kernel_rfl) (by kernel_rfl) (fun _ _ _ h => h) (Or.inl ⟨by kernel_rfl, ?_⟩) st ?_
        rotate_left
        · (intro X hX; (try dsimp only at hX); go_simp; try (with_reducible rfl))
        (try simp only [Act.put, List.setIfInBounds_toArray, List.set_cons_zero, List.set_cons_succ])
        refine wpAnyH_take (i := 17) (oi := { dst := some 32, op := Go.Op.call { callee := Go.Callee.builtin Go.Builtin.len, args := #[Go.Operand.tmp 31], argTypes := #[27] }, type := 3, pos := "law.go:165", after := #[{ on := 16, ground := Go.Ground.data }, { on := 14, ground := Go.Ground.guard }], guard := some (14, false) }) (v := ?_) rfl (by kernel_rfl) (by kernel_rfl) (by kernel_rfl) (fun _ _ _ h => h) (Or.inl ⟨by kernel_rfl, ?_⟩) st ?_
        rotate_left
        · (intro X hX; (try dsimp only at hX); go_simp; try (with_reducible rfl))
        (try simp only [Act.put, List.setIfInBounds_toArray, List.set_cons_zero, List.set_cons_succ])
        refine wpAnyH_take (i := 18) (oi := { dst := some 33, op := Go.Op.binOp Go.BinOp.lss 3 (Go.Operand.tmp 30) (Go.Operand.tmp 32) 3, type := 4, pos := "law.go:165", after := #[{ on := 15, ground := Go.Ground.data }, { on := 17, ground := Go.Ground.data }, { on := 14, ground := Go.Ground.guard }], guard := some (14, false) }) (v := ?_) rfl (by kernel_rfl) (by kernel_rfl) (by kernel_rfl) (fun _ _ _ h => h) (Or.inl ⟨by kernel_rfl, ?_⟩) st ?_
        rotate_left
        · (intro X hX; (try dsimp only at hX); go_simp; try (with_reducible rfl))
        (try simp only [Act.put, List.setIfInBounds_toArray, List.set_cons_zero, List.set_cons_succ])
        refine wpAnyH_take (i := 19) (oi := { dst := some 34, op := Go.Op.move (Go.Operand.tmp 33), type := 4, pos := "law.go:165", after := #[{ on := 18, ground := Go.Ground.data }, { on := 14, ground := Go.Ground.chain }, { on := 14, ground := Go.Ground.guard }], guard := some (14, false) }) (v := ?_) rfl (by kernel_rfl) (by kernel_rfl) (by kernel_rfl) (fun _ _ _ h => h) (Or.inl ⟨by kernel_rfl, ?_⟩) st ?_
        rotate_left
        · (intro X hX; (try dsimp only at hX); go_simp; try (with_reducible rfl))
        (try simp only [Act.put, List.setIfInBounds_toArray, List.set_cons_zero, List.set_cons_succ])
        refine wpAnyH_take (i := 20) (oi := { dst := some 35, op := Go.Op.move (Go.Operand.tmp 0), type := 24, pos := "law.go:165", after := #[{ on := 19, ground := Go.Ground.guard }], guard := some (19, true) }) (v := undef) rfl (by kernel_rfl) (by kernel_rfl) (by kernel_rfl) (fun _ _ _ h => h) (Or.inr ⟨by kernel_rfl, rfl⟩) st ?_
        (try simp only [Act.put, List.setIfInBounds_toArray, List.set_cons_zero, List.set_cons_succ])
        refine wpAnyH_take (i := 21) (oi := { dst := some 36, op := Go.Op.nilCheck (Go.Operand.tmp 35), type := 0, pos := "law.go:165", after := #[{ on := 20, ground := Go.Ground.data }, { on := 19, ground := Go.Ground.guard }], guard := some (19, true) }) (v := undef) rfl (by kernel_rfl) (by kernel_rfl) (by kernel_rfl) (fun _ _ _ h => h) (Or.inr ⟨by kernel_rfl, rfl⟩) st ?_
        (try simp only [Act.put, List.setIfInBounds_toArray, List.set_cons_zero, List.set_cons_succ])
        refine wpAnyH_take (i := 22) (oi := { dst := some 37, op := Go.Op.fieldAddr 29 (Go.Operand.tmp 36) 3, type := 0, pos := "law.go:165", after := #[{ on := 21, ground := Go.Ground.data }, { on := 19, ground := Go.Ground.guard }], guard := some (19, true) }) (v := undef) rfl (by kernel_rfl) (by kernel_rfl) (by kernel_rfl) (fun _ _ _ h => h) (Or.inr ⟨by kernel_rfl, rfl⟩) st ?_
        (try simp only [Act.put, List.setIfInBounds_toArray, List.set_cons_zero, List.set_cons_succ])
        refine wpAnyH_take (i := 23) (oi := { dst := some 38, op := Go.Op.load 27 (Go.Operand.tmp 37), type := 27, pos := "law.go:165", after := #[{ on := 22, ground := Go.Ground.data }, { on := 19, ground := Go.Ground.guard }], guard := some (19, true) }) (v := undef) rfl (by kernel_rfl) (by kernel_rfl) (by kernel_rfl) (fun _ _ _ h => h) (Or.inr ⟨by kernel_rfl, rfl⟩) st ?_
        (try simp only [Act.put, List.setIfInBounds_toArray, List.set_cons_zero, List.set_cons_succ])
        refine wpAnyH_take (i := 24) (oi := { dst := some 39, op := Go.Op.move (Go.Operand.tmp 5), type := 3, pos := "law.go:165", after := #[{ on := 19, ground := Go.Ground.guard }], guard := some (19, true) }) (v := undef) rfl (by kernel_rfl) (by kernel_rfl) (by kernel_rfl) (fun _ _ _ h => h) (Or.inr ⟨by kernel_rfl, rfl⟩) st ?_
        (try simp only [Act.put, List.setIfInBounds_toArray, List.set_cons_zero, List.set_cons_succ])
        refine wpAnyH_take (i := 25) (oi := { dst := some 40, op := Go.Op.indexAddr 27 (Go.Operand.tmp 38) (Go.Operand.tmp 39), type := 0, pos := "law.go:165", after := #[{ on := 23, ground := Go.Ground.data }, { on := 24, ground := Go.Ground.data }, { on := 19, ground := Go.Ground.guard }], guard := some (19, true) }) (v := undef) rfl (by kernel_rfl) (by kernel_rfl) (by kernel_rfl) (fun _ _ _ h => h) (Or.inr ⟨by kernel_rfl, rfl⟩) st ?_
        (try simp only [Act.put, List.setIfInBounds_toArray, List.set_cons_zero, List.set_cons_succ])
        refine wpAnyH_take (i := 26) (oi := { dst := some 41, op := Go.Op.load 25 (Go.Operand.tmp 40), type := 25, pos := "law.go:165", after := #[{ on := 25, ground := Go.Ground.data }, { on := 19, ground := Go.Ground.guard }], guard := some (19, true) }) (v := undef) rfl (by kernel_rfl) (by kernel_rfl) (by kernel_rfl) (fun _ _ _ h => h) (Or.inr ⟨by kernel_rfl, rfl⟩) st ?_
        (try simp only [Act.put, List.setIfInBounds_toArray, List.set_cons_zero, List.set_cons_succ])
        refine wpAnyH_take (i := 27) (oi := { dst := some 42, op := Go.Op.move (Go.Operand.tmp 1), type := 27, pos := "law.go:165", after := #[{ on := 19, ground := Go.Ground.guard }], guard := some (19, true) }) (v := undef) rfl (by kernel_rfl) (by kernel_rfl) (by kernel_rfl) (fun _ _ _ h => h) (Or.inr ⟨by kernel_rfl, rfl⟩) st ?_
        (try simp only [Act.put, List.setIfInBounds_toArray, List.set_cons_zero, List.set_cons_succ])
        refine wpAnyH_take (i := 28) (oi := { dst := some 43, op := Go.Op.move (Go.Operand.tmp 5), type := 3, pos := "law.go:165", after := #[{ on := 19, ground := Go.Ground.guard }], guard := some (19, true) }) (v := undef) rfl (by kernel_rfl) (by kernel_rfl) (by kernel_rfl) (fun _ _ _ h => h) (Or.inr ⟨by kernel_rfl, rfl⟩) st ?_
        (try simp only [Act.put, List.setIfInBounds_toArray, List.set_cons_zero, List.set_cons_succ])
        refine wpAnyH_take (i := 29) (oi := { dst := some 44, op := Go.Op.indexAddr 27 (Go.Operand.tmp 42) (Go.Operand.tmp 43), type := 0, pos := "law.go:165", after := #[{ on := 27, ground := Go.Ground.data }, { on := 28, ground := Go.Ground.data }, { on := 19, ground := Go.Ground.guard }], guard := some (19, true) }) (v := undef) rfl (by kernel_rfl) (by kernel_rfl) (by kernel_rfl) (fun _ _ _ h => h) (Or.inr ⟨by kernel_rfl, rfl⟩) st ?_
        (try simp only [Act.put, List.setIfInBounds_toArray, List.set_cons_zero, List.set_cons_succ])
        refine wpAnyH_take (i := 30) (oi := { dst := some 45, op := Go.Op.load 25 (Go.Operand.tmp 44), type := 25, pos := "law.go:165", after := #[{ on := 29, ground := Go.Ground.data }, { on := 19, ground := Go.Ground.guard }], guard := some (19, true) }) (v := undef) rfl (by kernel_rfl) (by kernel_rfl) (by kernel_rfl) (fun _ _ _ h => h) (Or.inr ⟨by kernel_rfl, rfl⟩) st ?_
        (try simp only [Act.put, List.setIfInBounds_toArray, List.set_cons_zero, List.set_cons_succ])
        refine wpAnyH_take (i := 31) (oi := { dst := some 46, op := Go.Op.call { callee := Go.Callee.value (Go.Operand.func 14), args := #[Go.Operand.tmp 41, Go.Operand.tmp 45], argTypes := #[25, 25] }, type := 4, pos := "law.go:165", after := #[{ on := 26, ground := Go.Ground.data }, { on := 30, ground := Go.Ground.data }, { on := 19, ground := Go.Ground.chain }, { on := 19, ground := Go.Ground.guard }], guard := some (19, true) }) (v := undef) rfl (by kernel_rfl) (by kernel_rfl) (by kernel_rfl) (fun _ _ _ h => h) (Or.inr ⟨by kernel_rfl, rfl⟩) st ?_
        (try simp only [Act.put, List.setIfInBounds_toArray, List.set_cons_zero, List.set_cons_succ])
        refine wpAnyH_take (i := 32) (oi := { dst := some 47, op := Go.Op.unOp Go.UnOp.not 4 (Go.Operand.tmp 46), type := 4, pos := "law.go:165", after := #[{ on := 31, ground := Go.Ground.data }, { on := 19, ground := Go.Ground.guard }], guard := some (19, true) }) (v := undef) rfl (by kernel_rfl) (by kernel_rfl) (by kernel_rfl) (fun _ _ _ h => h) (Or.inr ⟨by kernel_rfl, rfl⟩) st ?_
        (try simp only [Act.put, List.setIfInBounds_toArray, List.set_cons_zero, List.set_cons_succ])
        refine wpAnyH_take (i := 33) (oi := { dst := some 48, op := Go.Op.move (Go.Operand.tmp 47), type := 4, pos := "law.go:165", after := #[{ on := 32, ground := Go.Ground.data }, { on := 31, ground := Go.Ground.chain }, { on := 19, ground := Go.Ground.guard }], guard := some (19, true) }) (v := undef) rfl (by kernel_rfl) (by kernel_rfl) (by kernel_rfl) (fun _ _ _ h => h) (Or.inr ⟨by kernel_rfl, rfl⟩) st ?_
        (try simp only [Act.put, List.setIfInBounds_toArray, List.set_cons_zero, List.set_cons_succ])
        refine wpAnyH_take (i := 34) (oi := { dst := some 49, op := Go.Op.move (Go.Operand.tmp 0), type := 24, pos := "law.go:165", after := #[{ on := 33, ground := Go.Ground.guard }], guard := some (33, false) }) (v := undef) rfl (by kernel_rfl) (by kernel_rfl) (by kernel_rfl) (fun _ _ _ h => h) (Or.inr ⟨by kernel_rfl, rfl⟩) st ?_
        (try simp only [Act.put, List.setIfInBounds_toArray, List.set_cons_zero, List.set_cons_succ])
        refine wpAnyH_take (i := 35) (oi := { dst := some 50, op := Go.Op.nilCheck (Go.Operand.tmp 49), type := 0, pos := "law.go:165", after := #[{ on := 34, ground := Go.Ground.data }, { on := 33, ground := Go.Ground.guard }], guard := some (33, false) }) (v := undef) rfl (by kernel_rfl) (by kernel_rfl) (by kernel_rfl) (fun _ _ _ h => h) (Or.inr ⟨by kernel_rfl, rfl⟩) st ?_
        (try simp only [Act.put, List.setIfInBounds_toArray, List.set_cons_zero, List.set_cons_succ])
        refine wpAnyH_take (i := 36) (oi := { dst := some 51, op := Go.Op.fieldAddr 29 (Go.Operand.tmp 50) 2, type := 0, pos := "law.go:165", after := #[{ on := 35, ground := Go.Ground.data }, { on := 33, ground := Go.Ground.guard }], guard := some (33, false) }) (v := undef) rfl (by kernel_rfl) (by kernel_rfl) (by kernel_rfl) (fun _ _ _ h => h) (Or.inr ⟨by kernel_rfl, rfl⟩) st ?_
        (try simp only [Act.put, List.setIfInBounds_toArray, List.set_cons_zero, List.set_cons_succ])
        refine wpAnyH_take (i := 37) (oi := { dst := some 52, op := Go.Op.load 27 (Go.Operand.tmp 51), type := 27, pos := "law.go:165", after := #[{ on := 36, ground := Go.Ground.data }, { on := 33, ground := Go.Ground.guard }], guard := some (33, false) }) (v := undef) rfl (by kernel_rfl) (by kernel_rfl) (by kernel_rfl) (fun _ _ _ h => h) (Or.inr ⟨by kernel_rfl, rfl⟩) st ?_
        (try simp only [Act.put, List.setIfInBounds_toArray, List.set_cons_zero, List.set_cons_succ])
        refine wpAnyH_take (i := 38) (oi := { dst := some 53, op := Go.Op.move (Go.Operand.tmp 5), type := 3, pos := "law.go:165", after := #[{ on := 33, ground := Go.Ground.guard }], guard := some (33, false) }) (v := undef) rfl (by kernel_rfl) (by kernel_rfl) (by kernel_rfl) (fun _ _ _ h => h) (Or.inr ⟨by kernel_rfl, rfl⟩) st ?_
        (try simp only [Act.put, List.setIfInBounds_toArray, List.set_cons_zero, List.set_cons_succ])
        refine wpAnyH_take (i := 39) (oi := { dst := some 54, op := Go.Op.indexAddr 27 (Go.Operand.tmp 52) (Go.Operand.tmp 53), type := 0, pos := "law.go:165", after := #[{ on := 37, ground := Go.Ground.data }, { on := 38, ground := Go.Ground.data }, { on := 33, ground := Go.Ground.guard }], guard := some (33, false) }) (v := undef) rfl (by kernel_rfl) (by kernel_rfl) (by kernel_rfl) (fun _ _ _ h => h) (Or.inr ⟨by kernel_rfl, rfl⟩) st ?_
        (try simp only [Act.put, List.setIfInBounds_toArray, List.set_cons_zero, List.set_cons_succ])
        refine wpAnyH_take (i := 40) (oi := { dst := some 55, op := Go.Op.load 25 (Go.Operand.tmp 54), type := 25, pos := "law.go:165", after := #[{ on := 39, ground := Go.Ground.data }, { on := 33, ground := Go.Ground.guard }], guard := some (33, false) }) (v := undef) rfl (by kernel_rfl) (by kernel_rfl) (by kernel_rfl) (fun _ _ _ h => h) (Or.inr ⟨by kernel_rfl, rfl⟩) st ?_
        (try simp only [Act.put, List.setIfInBounds_toArray, List.set_cons_zero, List.set_cons_succ])
        refine wpAnyH_take (i := 41) (oi := { dst := some 56, op := Go.Op.move (Go.Operand.tmp 1), type := 27, pos := "law.go:165", after := #[{ on := 33, ground := Go.Ground.guard }], guard := some (33, false) }) (v := undef) rfl (by kernel_rfl) (by kernel_rfl) (by kernel_rfl) (fun _ _ _ h => h) (Or.inr ⟨by kernel_rfl, rfl⟩) st ?_
        (try simp only [Act.put, List.setIfInBounds_toArray, List.set_cons_zero, List.set_cons_succ])
        refine wpAnyH_take (i := 42) (oi := { dst := some 57, op := Go.Op.move (Go.Operand.tmp 5), type := 3, pos := "law.go:165", after := #[{ on := 33, ground := Go.Ground.guard }], guard := some (33, false) }) (v := undef) rfl (by kernel_rfl) (by kernel_rfl) (by kernel_rfl) (fun _ _ _ h => h) (Or.inr ⟨by kernel_rfl, rfl⟩) st ?_
        (try simp only [Act.put, List.setIfInBounds_toArray, List.set_cons_zero, List.set_cons_succ])
        refine wpAnyH_take (i := 43) (oi := { dst := some 58, op := Go.Op.indexAddr 27 (Go.Operand.tmp 56) (Go.Operand.tmp 57), type := 0, pos := "law.go:165", after := #[{ on := 41, ground := Go.Ground.data }, { on := 42, ground := Go.Ground.data }, { on := 33, ground := Go.Ground.guard }], guard := some (33, false) }) (v := undef) rfl (by kernel_rfl) (by kernel_rfl) (by kernel_rfl) (fun _ _ _ h => h) (Or.inr ⟨by kernel_rfl, rfl⟩) st ?_
        (try simp only [Act.put, List.setIfInBounds_toArray, List.set_cons_zero, List.set_cons_succ])
        refine wpAnyH_take (i := 44) (oi := { dst := some 59, op := Go.Op.load 25 (Go.Operand.tmp 58), type := 25, pos := "law.go:165", after := #[{ on := 43, ground := Go.Ground.data }, { on := 33, ground := Go.Ground.guard }], guard := some (33, false) }) (v := undef) rfl (by kernel_rfl) (by kernel_rfl) (by kernel_rfl) (fun _ _ _ h => h) (Or.inr ⟨by kernel_rfl, rfl⟩) st ?_
        (try simp only [Act.put, List.setIfInBounds_toArray, List.set_cons_zero, List.set_cons_succ])
        refine wpAnyH_take (i := 45) (oi := { dst := some 60, op := Go.Op.call { callee := Go.Callee.value (Go.Operand.func 21), args := #[Go.Operand.tmp 55, Go.Operand.tmp 59], argTypes := #[25, 25] }, type := 4, pos := "law.go:165", after := #[{ on := 40, ground := Go.Ground.data }, { on := 44, ground := Go.Ground.data }, { on := 33, ground := Go.Ground.chain }, { on := 33, ground := Go.Ground.guard }], guard := some (33, false) }) (v := undef) rfl (by kernel_rfl) (by kernel_rfl) (by kernel_rfl) (fun _ _ _ h => h) (Or.inr ⟨by kernel_rfl, rfl⟩) st ?_
        (try simp only [Act.put, List.setIfInBounds_toArray, List.set_cons_zero, List.set_cons_succ])
        refine wpAnyH_take (i := 46) (oi := { dst := some 61, op := Go.Op.unOp Go.UnOp.not 4 (Go.Operand.tmp 60), type := 4, pos := "law.go:165", after := #[{ on := 45, ground := Go.Ground.data }, { on := 33, ground := Go.Ground.guard }], guard := some (33, false) }) (v := undef) rfl (by kernel_rfl) (by kernel_rfl) (by kernel_rfl) (fun _ _ _ h => h) (Or.inr ⟨by kernel_rfl, rfl⟩) st ?_
        (try simp only [Act.put, List.setIfInBounds_toArray, List.set_cons_zero, List.set_cons_succ])
        refine wpAnyH_take (i := 47) (oi := { dst := some 62, op := Go.Op.pick (Go.Operand.tmp 48) (Go.Operand.const (Go.Value.bool true)) (Go.Operand.tmp 61), type := 4, pos := "law.go:165", after := #[{ on := 33, ground := Go.Ground.data }, { on := 46, ground := Go.Ground.data }, { on := 19, ground := Go.Ground.guard }], guard := some (19, true) }) (v := undef) rfl (by kernel_rfl) (by kernel_rfl) (by kernel_rfl) (fun _ _ _ h => h) (Or.inr ⟨by kernel_rfl, rfl⟩) st ?_
        (try simp only [Act.put, List.setIfInBounds_toArray, List.set_cons_zero, List.set_cons_succ])
        refine wpAnyH_take (i := 48) (oi := { dst := some 63, op := Go.Op.pick (Go.Operand.tmp 34) (Go.Operand.tmp 62) (Go.Operand.const (Go.Value.bool false)), type := 4, pos := "law.go:165", after := #[{ on := 19, ground := Go.Ground.data }, { on := 47, ground := Go.Ground.data }, { on := 14, ground := Go.Ground.guard }], guard := some (14, false) }) (v := ?_) rfl (by kernel_rfl) (by kernel_rfl) (by kernel_rfl) (fun _ _ _ h => h) (Or.inl ⟨by kernel_rfl, ?_⟩) st ?_
        rotate_left
        · (intro X hX; (try dsimp only at hX); go_simp; try (with_reducible rfl))
        (try simp only [Act.put, List.setIfInBounds_toArray, List.set_cons_zero, List.set_cons_succ])
        refine wpAnyH_take (i := 49) (oi := { dst := some 64, op := Go.Op.pick (Go.Operand.tmp 29) (Go.Operand.const (Go.Value.bool true)) (Go.Operand.tmp 63), type := 4, pos := "law.go:165", after := #[{ on := 14, ground := Go.Ground.data }, { on := 48, ground := Go.Ground.data }], guard := none }) (v := ?_) rfl (by kernel_rfl) (by kernel_rfl) (by kernel_rfl) (fun _ _ _ h => h) (Or.inl ⟨by kernel_rfl, ?_⟩) st ?_
        rotate_left
        · (intro X hX; (try dsimp only at hX); go_simp; try (with_reducible rfl))
        (try simp only [Act.put, List.setIfInBounds_toArray, List.set_cons_zero, List.set_cons_succ])
        refine wpAnyH_done (by kernel_rfl) ?_ _
        go_wp2_with fail
        go_roundg (ns - (i + 1))
        case measure => exact Nat.lt_of_lt_of_le hme hgg
        case rel => exact ⟨i + 1, _, rfl, by omega, by omega, by go_num, HBW.out.drew⟩
    · have hinz : ¬ (i : Int) < (ns : Int) := by omega
      go_wp2_with fail
      go_ret
      exact ⟨rfl, HBW.out⟩
end Go.Proofs.YtkclcjnfjielfabDoor
