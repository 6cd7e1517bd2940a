/- lex: the scanner's scan. -/
import Derived.Test.YtliiapdakojomabDoorAr
import Derived.WalkMore
namespace Go.Proofs.YtliiapdakojomabDoor
open Go.RowKit

/-- What the memory is while a text in quotes is read. -/
structure QM (B P : Nat) (line : ByteArray) (vl : Value) (s : Sc) (ob oc : Nat) (fs : List Wc) (D : Nat → Prop) (W0 w7 : World) (wb : Bool) (j : Nat) (v : Value) (acc : List UInt8) (X : World) : Prop where
  sm7 : SmX B P line vl { s with begun := s.begun + 1 } ob oc fs D W0 w7
  but : But P w7 X
  below : Below B W0 X
  blk : X.heap[P]? = some (.cells #[.string line, .int .i64 j, vl, .int .i64 (s.begun + 1 : Nat), .slice (some ⟨ob, 0, none⟩) fs.length oc] 67 (0, 0))
  wrd : X.heap[w7.heap.size]? = some (.cells #[.int .i64 2, .string ⟨#[]⟩, .slice none 0 0, .bool wb] 33 (0, 0))
  row : X.ownsRow (w7.heap.size + 1) 5 1 v acc.length (bc acc)
  sz : w7.heap.size + 1 ≤ X.heap.size
theorem QM.sm {B P : Nat} {line : ByteArray} {vl : Value} {s : Sc} {ob oc : Nat} {fs : List Wc} {D : Nat → Prop} {W0 w7 : World} {wb : Bool} {j : Nat} {v : Value} {acc : List UInt8} {X : World} (h : QM B P line vl s ob oc fs D W0 w7 wb j v acc X) : SmX B P line vl { s with begun := s.begun + 1, pos := j } ob oc fs D W0 X :=
  h.sm7.put h.but.size h.but.blk h.below rfl rfl h.sm7.lits h.blk
theorem QM.pos {B P : Nat} {line : ByteArray} {vl : Value} {s : Sc} {ob oc : Nat} {fs : List Wc} {D : Nat → Prop} {W0 w7 : World} {wb : Bool} {j : Nat} {v : Value} {acc : List UInt8} {X : World} (h : QM B P line vl s ob oc fs D W0 w7 wb j v acc X) (k : Nat) : QM B P line vl s ob oc fs D W0 w7 wb k v acc (X.setCell ⟨P, 1, none⟩ (.int .i64 k)) := by
  have hp := h.sm7.plt
  refine ⟨h.sm7, h.but.then (But.set P 1 _ X), h.below.setCell (p := ⟨P, 1, none⟩) h.sm7.bP _, ?_, ?_, ownsRow_setCell_other h.row (fun e => ?_) _, by simpa using h.sz⟩
  · have := heap_setCell_same X P 1 _ _ (.int .i64 k) h.blk
    simpa using this
  · rw [heap_setCell_other X ⟨P, 1, none⟩ w7.heap.size _ (by show w7.heap.size ≠ P; omega)]
    exact h.wrd
  · have := (h.row.lt P e).1
    omega
theorem QM.drew {B P : Nat} {line : ByteArray} {vl : Value} {s : Sc} {ob oc : Nat} {fs : List Wc} {D : Nat → Prop} {W0 w7 : World} {wb : Bool} {j : Nat} {v : Value} {acc : List UInt8} {X : World} (h : QM B P line vl s ob oc fs D W0 w7 wb j v acc X) : QM B P line vl s ob oc fs D W0 w7 wb j v acc X.drew :=
  ⟨h.sm7, ⟨h.but.size, h.but.blk⟩, h.below.drew, h.blk, h.wrd, h.row.drew, h.sz⟩
theorem QM.own {B P : Nat} {line : ByteArray} {vl : Value} {s : Sc} {ob oc : Nat} {fs : List Wc} {D : Nat → Prop} {W0 w7 : World} {wb : Bool} {j : Nat} {v : Value} {acc : List UInt8} {X : World} (h : QM B P line vl s ob oc fs D W0 w7 wb j v acc X) : Own (w7.heap.size + 1) v acc X X := ⟨h.row, Below.refl _ _, h.sz⟩
theorem QM.grown {B P : Nat} {line : ByteArray} {vl : Value} {s : Sc} {ob oc : Nat} {fs : List Wc} {D : Nat → Prop} {W0 w7 : World} {wb : Bool} {j : Nat} {v v' : Value} {acc acc' : List UInt8} {X X' : World} (h : QM B P line vl s ob oc fs D W0 w7 wb j v acc X) (ho : Own (w7.heap.size + 1) v' acc' X X') : QM B P line vl s ob oc fs D W0 w7 wb j v' acc' X' := by
  have hp := h.sm7.plt
  have hb := h.sm7.bP
  refine ⟨h.sm7, ⟨Nat.le_trans h.but.size ho.below.size, fun g hg hne => (ho.below.block g (by omega)).trans (h.but.blk g hg hne)⟩, h.below.trans (ho.below.mono (by omega)), (ho.below.block P (by omega)).trans h.blk, (ho.below.block w7.heap.size (by omega)).trans h.wrd, ho.row, ho.base⟩
/-- The word has its text. -/
theorem QM.text {B P : Nat} {line : ByteArray} {vl : Value} {s : Sc} {ob oc : Nat} {fs : List Wc} {D : Nat → Prop} {W0 w7 : World} {wb : Bool} {j : Nat} {v : Value} {acc : List UInt8} {X : World} (h : QM B P line vl s ob oc fs D W0 w7 wb j v acc X) (t : ByteArray) : SmX B P line vl { s with begun := s.begun + 1, pos := j } ob oc fs D W0 (X.setCell ⟨w7.heap.size, 1, none⟩ (.string t)) ∧ (X.setCell ⟨w7.heap.size, 1, none⟩ (.string t)).heap[w7.heap.size]? = some (.cells #[.int .i64 2, .string t, .slice none 0 0, .bool wb] 33 (0, 0)) := by
  have hp := h.sm7.plt
  have hb := h.sm7.bP
  have hbt := But.set w7.heap.size 1 (.string t) X
  refine ⟨h.sm7.put (Nat.le_trans h.but.size hbt.size) (fun g hg hne => (hbt.blk g (by have := h.but.size; omega) (by omega)).trans (h.but.blk g hg hne)) (h.below.setCell (p := ⟨w7.heap.size, 1, none⟩) (by show B ≤ w7.heap.size; omega) _) rfl rfl h.sm7.lits ((hbt.blk P (by have := h.but.size; omega) (by omega)).trans h.blk), ?_⟩
  have := heap_setCell_same X w7.heap.size 1 _ _ (.string t) h.wrd
  simpa using this
theorem quo_cons (c : UInt8) (r : List UInt8) (esc : Bool) (acc : List UInt8) (n : Nat) : quo (c :: r) esc acc n = if !(quotC c && (!esc || slashB c)) then .bad else if c == 34 && !esc then .done acc (n + 1) else if c == 92 && !esc then quo r true acc (n + 1) else quo r false (acc ++ [c]) (n + 1) := rfl
theorem byte_is (c : UInt8) : (c == 34) = ((c.toNat : Int) == 34) ∧ (c == 92) = ((c.toNat : Int) == 92) := all_bytes (p := fun c => (c == 34) = ((c.toNat : Int) == 34) ∧ (c == 92) = ((c.toNat : Int) == 92)) (by decide +kernel) c
theorem byte_not (c : UInt8) : ((c == 34) && (c == 92)) = false := all_bytes (p := fun c => ((c == 34) && (c == 92)) = false) (by decide +kernel) c
def quoR (l : List UInt8) (s : Sc) : Qr → Rd
  | .bad => .err 31
  | .cut => .cut { s with pos := l.length, begun := s.begun + 1 }
  | .done t n => .go ({ s with pos := s.pos + 1 + n, begun := s.begun + 1 }.add (Wd.mk 2 (S t) [] (s.word l)))
theorem drop_cons {l : List UInt8} {k : Nat} (h : k < l.length) : l.drop k = bt l k :: l.drop (k + 1) := by
  rw [List.drop_eq_getElem_cons h]
  unfold bt
  simp [List.getElem?_eq_getElem h]
set_option maxRecDepth 100000 in
set_option maxHeartbeats 16000000 in
theorem scan_any {B P : Nat} {line : ByteArray} {W0 w : World} (s0 : Sc) (n0 : Nat) (R : Int × List Wd) (h : ∃ vl ob oc fs D, SmX B P line vl s0 ob oc fs D W0 w) (hinv : SInv line.size s0) (hs : line.size ≤ 140737488355328) (hR : s0.run (L line) n0 = R) (hn0 : line.size - s0.pos ≤ n0) :
    Calls Tryd.prog 36 #[.pointer (some ⟨P, 0, none⟩)] w fun e w' => e = .returned (.int .i64 R.1) ∧ Below B W0 w' ∧ (R.1 = 0 → ∃ s vl ob oc fs D, SmX B P line vl s ob oc fs D W0 w' ∧ s.under = [] ∧ s.top.kids = R.2) := by
  have hll := L_length line
  have HR := Lib.hid hR
  have HI := Lib.hid hinv
  have HS := Lib.hid h
  clear h hR hinv
  go_enter Tryd.func36, Tryd.ntmps36
  go_wp2
  go_step3
  go_wp2
  go_step3
  go_wp2
  go_loopg [3] n0 (fun gg s3 wr => ∃ (n : Nat) (s : Sc) (X : World), X = wr ∧ line.size - s.pos ≤ n ∧ n ≤ gg ∧ s3 = .bool false ∧ Hid (s.run (L line) n = R) ∧ Hid (SInv line.size s) ∧ Hid (∃ vl ob oc fs D, SmX B P line vl s ob oc fs D W0 X))
  case atStart => exact ⟨n0, s0, _, rfl, hn0, Nat.le_refl _, rfl, HR, HI, HS⟩
  case round =>
    clear HR HI HS
    obtain ⟨n, s, X, hX, hpn, hgg, rfl, HR, HI, HS⟩ := hrel
    subst hX
    obtain ⟨vl, ob, oc, fs, D, hsm⟩ := HS.out
    have hi := HI.out
    have hun : s.under.length ≤ 100 := by have := hi.under; omega
    have hbg : s.begun ≤ 1000 := by have := hi.begun; omega
    have hpz := hi.pos
    have st := (hsm.on ((Below.refl _ _).drew)).sv
    have H0 := Lib.hid (hsm.on ((Below.refl _ _).drew))
    clear hsm HS hi
    go_upto_region 2 with fail
    by_cases hlt : s.pos < line.size
    · have hq1 : (s.pos : Int) < (line.size : Int) := by omega
      have hq0 : (0 : Int) ≤ (s.pos : Int) := by omega
      refine wp_region_held_drew (S := Sv P line s.pos vl s.begun (.slice (some ⟨ob, 0, none⟩) (s.under.length + 1) oc)) (by kernel_rfl) st (fun hHeld => ?_)
      clear hHeld
      refine wpAnyH_take (i := 0) (oi := { dst := some 10, op := Go.Op.move (Go.Operand.tmp 0), type := 87, pos := "scan.go:41", after := #[], guard := none }) (v := ?_) rfl (by kernel_rfl) (by kernel_rfl) (by kernel_rfl) (fun _ _ _ h => h) (Or.inl ⟨by kernel_rfl, ?_⟩) st ?_
      rotate_left
      · (intro X hX; (try dsimp only at hX); go_simp; try (with_reducible rfl))
      (try simp only [Act.put, List.setIfInBounds_toArray, List.set_cons_zero, List.set_cons_succ])
      refine wpAnyH_take (i := 1) (oi := { dst := some 11, op := Go.Op.nilCheck (Go.Operand.tmp 10), type := 0, pos := "scan.go:41", after := #[{ on := 0, ground := Go.Ground.data }], guard := none }) (v := ?_) rfl (by kernel_rfl) (by kernel_rfl) (by kernel_rfl) (fun _ _ _ h => h) (Or.inl ⟨by kernel_rfl, ?_⟩) st ?_
      rotate_left
      · (intro X hX; (try dsimp only at hX); go_simp; try (with_reducible rfl))
      (try simp only [Act.put, List.setIfInBounds_toArray, List.set_cons_zero, List.set_cons_succ])
      refine wpAnyH_take (i := 2) (oi := { dst := some 12, op := Go.Op.fieldAddr 67 (Go.Operand.tmp 11) 1, type := 0, pos := "scan.go:41", after := #[{ on := 1, ground := Go.Ground.data }], guard := none }) (v := ?_) rfl (by kernel_rfl) (by kernel_rfl) (by kernel_rfl) (fun _ _ _ h => h) (Or.inl ⟨by kernel_rfl, ?_⟩) st ?_
      rotate_left
      · (intro X hX; (try dsimp only at hX); go_simp; try (with_reducible rfl))
      (try simp only [Act.put, List.setIfInBounds_toArray, List.set_cons_zero, List.set_cons_succ])
      refine wpAnyH_take (i := 3) (oi := { dst := some 13, op := Go.Op.load 3 (Go.Operand.tmp 12), type := 3, pos := "scan.go:41", after := #[{ on := 2, ground := Go.Ground.data }], guard := none }) (v := ?_) rfl (by kernel_rfl) (by kernel_rfl) (by kernel_rfl) (fun _ _ _ h => h) (Or.inl ⟨by kernel_rfl, ?_⟩) st ?_
      rotate_left
      · (intro X hX; (try dsimp only at hX); go_simp; try (with_reducible rfl))
      (try simp only [Act.put, List.setIfInBounds_toArray, List.set_cons_zero, List.set_cons_succ])
      refine wpAnyH_take (i := 4) (oi := { dst := some 14, op := Go.Op.move (Go.Operand.tmp 0), type := 87, pos := "scan.go:41", after := #[], guard := none }) (v := ?_) rfl (by kernel_rfl) (by kernel_rfl) (by kernel_rfl) (fun _ _ _ h => h) (Or.inl ⟨by kernel_rfl, ?_⟩) st ?_
      rotate_left
      · (intro X hX; (try dsimp only at hX); go_simp; try (with_reducible rfl))
      (try simp only [Act.put, List.setIfInBounds_toArray, List.set_cons_zero, List.set_cons_succ])
      refine wpAnyH_take (i := 5) (oi := { dst := some 15, op := Go.Op.nilCheck (Go.Operand.tmp 14), type := 0, pos := "scan.go:41", after := #[{ on := 4, ground := Go.Ground.data }], guard := none }) (v := ?_) rfl (by kernel_rfl) (by kernel_rfl) (by kernel_rfl) (fun _ _ _ h => h) (Or.inl ⟨by kernel_rfl, ?_⟩) st ?_
      rotate_left
      · (intro X hX; (try dsimp only at hX); go_simp; try (with_reducible rfl))
      (try simp only [Act.put, List.setIfInBounds_toArray, List.set_cons_zero, List.set_cons_succ])
      refine wpAnyH_take (i := 6) (oi := { dst := some 16, op := Go.Op.fieldAddr 67 (Go.Operand.tmp 15) 0, type := 0, pos := "scan.go:41", after := #[{ on := 5, ground := Go.Ground.data }], guard := none }) (v := ?_) rfl (by kernel_rfl) (by kernel_rfl) (by kernel_rfl) (fun _ _ _ h => h) (Or.inl ⟨by kernel_rfl, ?_⟩) st ?_
      rotate_left
      · (intro X hX; (try dsimp only at hX); go_simp; try (with_reducible rfl))
      (try simp only [Act.put, List.setIfInBounds_toArray, List.set_cons_zero, List.set_cons_succ])
      refine wpAnyH_take (i := 7) (oi := { dst := some 17, op := Go.Op.load 9 (Go.Operand.tmp 16), type := 9, pos := "scan.go:41", after := #[{ on := 6, ground := Go.Ground.data }], guard := none }) (v := ?_) rfl (by kernel_rfl) (by kernel_rfl) (by kernel_rfl) (fun _ _ _ h => h) (Or.inl ⟨by kernel_rfl, ?_⟩) st ?_
      rotate_left
      · (intro X hX; (try dsimp only at hX); go_simp; try (with_reducible rfl))
      (try simp only [Act.put, List.setIfInBounds_toArray, List.set_cons_zero, List.set_cons_succ])
      refine wpAnyH_take (i := 8) (oi := { dst := some 18, op := Go.Op.call { callee := Go.Callee.builtin Go.Builtin.len, args := #[Go.Operand.tmp 17], argTypes := #[9] }, type := 3, pos := "scan.go:41", after := #[{ on := 7, ground := Go.Ground.data }], guard := none }) (v := ?_) rfl (by kernel_rfl) (by kernel_rfl) (by kernel_rfl) (fun _ _ _ h => h) (Or.inl ⟨by kernel_rfl, ?_⟩) st ?_
      rotate_left
      · (intro X hX; (try dsimp only at hX); go_simp; try (with_reducible rfl))
      (try simp only [Act.put, List.setIfInBounds_toArray, List.set_cons_zero, List.set_cons_succ])
      refine wpAnyH_take (i := 9) (oi := { dst := some 19, op := Go.Op.binOp Go.BinOp.lss 3 (Go.Operand.tmp 13) (Go.Operand.tmp 18) 3, type := 4, pos := "scan.go:41", after := #[{ on := 3, ground := Go.Ground.data }, { on := 8, ground := Go.Ground.data }], guard := none }) (v := ?_) rfl (by kernel_rfl) (by kernel_rfl) (by kernel_rfl) (fun _ _ _ h => h) (Or.inl ⟨by kernel_rfl, ?_⟩) st ?_
      rotate_left
      · (intro X hX; (try dsimp only at hX); go_simp; try (with_reducible rfl))
      (try simp only [Act.put, List.setIfInBounds_toArray, List.set_cons_zero, List.set_cons_succ])
      refine wpAnyH_done (by kernel_rfl) ?_ _
      generalize X.drew = X0 at *
      have HFT := Lib.hid (H0.out.fault hun hlt hs hbg)
      obtain ⟨n, rfl⟩ : ∃ n', n = n' + 1 := ⟨n - 1, by omega⟩
      have HF0 := Lib.hid (Sc.run_fault (R := R) HR.out (by rw [hll]; exact hlt))
      go_wp2_with fail
      refine HFT.out.mono ?_
      rintro e w1 ⟨rfl, hb1⟩
      have h1 := H0.out.on hb1
      by_cases hf : s.fault (L line) = 0
      · have HF := Lib.hid hf
        rw [hf]
        clear hf HF0 HFT
        have st6 := (h1.on ((Below.refl _ _).drew)).sv
        have H6 := Lib.hid (h1.on ((Below.refl _ _).drew))
        have hi := HI.out
        have hnf := no_fault ((Sc.fault_eq (L line) s).symm.trans HF.out)
        obtain ⟨g1, g2, g3, g4, g5⟩ := hnf
        have ea := get_btx line s.pos hlt
        have h256 : (bt (L line) s.pos).toNat < 256 := bt_lt _ _
        have hbeg : begB (L line) s.pos = if bt (L line) s.pos == 123 then annB ((L line).drop s.pos) else bt (L line) s.pos == 34 || openerB (bt (L line) s.pos) || wordC (bt (L line) s.pos) := rfl
        have hcls := step_class (bt (L line) s.pos)
        have hstep : s.step (L line) = s.step (L line) := rfl
        conv at hstep => rhs; unfold Sc.step
        have hkids := hi.kids
        have HST0 := Lib.hid hstep
        have HG := Lib.hid (And.intro g1 (And.intro g2 (And.intro g3 (And.intro g4 (And.intro g5 hbeg)))))
        have HK := Lib.hid hkids
        obtain ⟨c, hc⟩ : ∃ c, c = bt (L line) s.pos := ⟨_, rfl⟩
        rw [← hc] at ea h256 hcls
        have HC := Lib.hid hc
        clear hc hstep g1 g2 g3 g4 g5 hbeg hkids hi h1 hb1 H0 st
        go_upto_region 6 with fail
        refine wp_region_held_drew (S := Sv P line s.pos vl s.begun (.slice (some ⟨ob, 0, none⟩) (s.under.length + 1) oc)) (by kernel_rfl) st6 (fun hHeld => ?_)
        clear hHeld
        refine wpAnyH_take (i := 0) (oi := { dst := some 25, op := Go.Op.move (Go.Operand.tmp 0), type := 87, pos := "scan.go:45", after := #[], guard := none }) (v := ?_) rfl (by kernel_rfl) (by kernel_rfl) (by kernel_rfl) (fun _ _ _ h => h) (Or.inl ⟨by kernel_rfl, ?_⟩) st6 ?_
        rotate_left
        · (intro X hX; (try dsimp only at hX); go_simp; try (with_reducible rfl))
        (try simp only [Act.put, List.setIfInBounds_toArray, List.set_cons_zero, List.set_cons_succ])
        refine wpAnyH_take (i := 1) (oi := { dst := some 26, op := Go.Op.nilCheck (Go.Operand.tmp 25), type := 0, pos := "scan.go:45", after := #[{ on := 0, ground := Go.Ground.data }], guard := none }) (v := ?_) rfl (by kernel_rfl) (by kernel_rfl) (by kernel_rfl) (fun _ _ _ h => h) (Or.inl ⟨by kernel_rfl, ?_⟩) st6 ?_
        rotate_left
        · (intro X hX; (try dsimp only at hX); go_simp; try (with_reducible rfl))
        (try simp only [Act.put, List.setIfInBounds_toArray, List.set_cons_zero, List.set_cons_succ])
        refine wpAnyH_take (i := 2) (oi := { dst := some 27, op := Go.Op.fieldAddr 67 (Go.Operand.tmp 26) 0, type := 0, pos := "scan.go:45", after := #[{ on := 1, ground := Go.Ground.data }], guard := none }) (v := ?_) rfl (by kernel_rfl) (by kernel_rfl) (by kernel_rfl) (fun _ _ _ h => h) (Or.inl ⟨by kernel_rfl, ?_⟩) st6 ?_
        rotate_left
        · (intro X hX; (try dsimp only at hX); go_simp; try (with_reducible rfl))
        (try simp only [Act.put, List.setIfInBounds_toArray, List.set_cons_zero, List.set_cons_succ])
        refine wpAnyH_take (i := 3) (oi := { dst := some 28, op := Go.Op.load 9 (Go.Operand.tmp 27), type := 9, pos := "scan.go:45", after := #[{ on := 2, ground := Go.Ground.data }], guard := none }) (v := ?_) rfl (by kernel_rfl) (by kernel_rfl) (by kernel_rfl) (fun _ _ _ h => h) (Or.inl ⟨by kernel_rfl, ?_⟩) st6 ?_
        rotate_left
        · (intro X hX; (try dsimp only at hX); go_simp; try (with_reducible rfl))
        (try simp only [Act.put, List.setIfInBounds_toArray, List.set_cons_zero, List.set_cons_succ])
        refine wpAnyH_take (i := 4) (oi := { dst := some 29, op := Go.Op.move (Go.Operand.tmp 0), type := 87, pos := "scan.go:45", after := #[], guard := none }) (v := ?_) rfl (by kernel_rfl) (by kernel_rfl) (by kernel_rfl) (fun _ _ _ h => h) (Or.inl ⟨by kernel_rfl, ?_⟩) st6 ?_
        rotate_left
        · (intro X hX; (try dsimp only at hX); go_simp; try (with_reducible rfl))
        (try simp only [Act.put, List.setIfInBounds_toArray, List.set_cons_zero, List.set_cons_succ])
        refine wpAnyH_take (i := 5) (oi := { dst := some 30, op := Go.Op.nilCheck (Go.Operand.tmp 29), type := 0, pos := "scan.go:45", after := #[{ on := 4, ground := Go.Ground.data }], guard := none }) (v := ?_) rfl (by kernel_rfl) (by kernel_rfl) (by kernel_rfl) (fun _ _ _ h => h) (Or.inl ⟨by kernel_rfl, ?_⟩) st6 ?_
        rotate_left
        · (intro X hX; (try dsimp only at hX); go_simp; try (with_reducible rfl))
        (try simp only [Act.put, List.setIfInBounds_toArray, List.set_cons_zero, List.set_cons_succ])
        refine wpAnyH_take (i := 6) (oi := { dst := some 31, op := Go.Op.fieldAddr 67 (Go.Operand.tmp 30) 1, type := 0, pos := "scan.go:45", after := #[{ on := 5, ground := Go.Ground.data }], guard := none }) (v := ?_) rfl (by kernel_rfl) (by kernel_rfl) (by kernel_rfl) (fun _ _ _ h => h) (Or.inl ⟨by kernel_rfl, ?_⟩) st6 ?_
        rotate_left
        · (intro X hX; (try dsimp only at hX); go_simp; try (with_reducible rfl))
        (try simp only [Act.put, List.setIfInBounds_toArray, List.set_cons_zero, List.set_cons_succ])
        refine wpAnyH_take (i := 7) (oi := { dst := some 32, op := Go.Op.load 3 (Go.Operand.tmp 31), type := 3, pos := "scan.go:45", after := #[{ on := 6, ground := Go.Ground.data }], guard := none }) (v := ?_) rfl (by kernel_rfl) (by kernel_rfl) (by kernel_rfl) (fun _ _ _ h => h) (Or.inl ⟨by kernel_rfl, ?_⟩) st6 ?_
        rotate_left
        · (intro X hX; (try dsimp only at hX); go_simp; try (with_reducible rfl))
        (try simp only [Act.put, List.setIfInBounds_toArray, List.set_cons_zero, List.set_cons_succ])
        refine wpAnyH_take (i := 8) (oi := { dst := some 33, op := Go.Op.index 9 (Go.Operand.tmp 28) (Go.Operand.tmp 32), type := 5, pos := "scan.go:45", after := #[{ on := 3, ground := Go.Ground.data }, { on := 7, ground := Go.Ground.data }], guard := none }) (v := .int .u8 (c.toNat : Int)) rfl (by kernel_rfl) (by kernel_rfl) (by kernel_rfl) (fun _ _ _ h => h) (Or.inl ⟨by kernel_rfl, ?_⟩) st6 ?_
        · (intro X hX; (try dsimp only at hX); go_simp; try simp [ea])
        (try simp only [Act.put, List.setIfInBounds_toArray, List.set_cons_zero, List.set_cons_succ])
        refine wpAnyH_take (i := 9) (oi := { dst := some 5, op := Go.Op.assign (Go.Operand.tmp 33), type := 5, pos := "scan.go:45", after := #[{ on := 8, ground := Go.Ground.data }, { on := 0, ground := Go.Ground.phase }, { on := 1, ground := Go.Ground.phase }, { on := 2, ground := Go.Ground.phase }, { on := 3, ground := Go.Ground.phase }, { on := 4, ground := Go.Ground.phase }, { on := 5, ground := Go.Ground.phase }, { on := 6, ground := Go.Ground.phase }, { on := 7, ground := Go.Ground.phase }, { on := 8, ground := Go.Ground.phase }], guard := none }) (v := ?_) rfl (by kernel_rfl) (by kernel_rfl) (by kernel_rfl) (fun _ _ _ h => h) (Or.inl ⟨by kernel_rfl, ?_⟩) st6 ?_
        rotate_left
        · (intro X hX; (try dsimp only at hX); go_simp; try (with_reducible rfl))
        (try simp only [Act.put, List.setIfInBounds_toArray, List.set_cons_zero, List.set_cons_succ])
        refine wpAnyH_done (by kernel_rfl) ?_ _
        generalize w1.drew = X6 at *
        obtain ⟨d0, d1, d2, d3, d4⟩ := st6
        rcases hcls with ⟨e1, e1', e2, e3⟩ | ⟨e1, e1', e2, e3, e4, e5, e6⟩ | ⟨e1, e1', e2, e3, e4, e4', e6⟩ | ⟨e1, e1', e2, e3, e4, e4', e5, e5', e6, e6'⟩ | ⟨e1, e1', e2, e3, e4, e4', e5, e5', e6, e6', e7, e7'⟩ | ⟨e1, e1', e2, e3, e4, e4', e5, e5', e6, e6', e7, e7'⟩
        · have HST : Hid (s.step (L line) = .go { s with pos := s.pos + 1 }) := Lib.hid (by rw [HST0.out]; simp only [← HC.out, e1, if_true])
          have hfz := H6.out.free 1
          have h7 := H6.out.setPos (s.pos + 1)
          rw [show ((s.pos + 1 : Nat) : Int) = (s.pos : Int) + 1 by omega] at h7
          have H7 := Lib.hid h7
          clear h7 H6
          go_wp2_with fail
          go_roundg n
          case measure => omega
          case rel => exact ⟨n, _, _, rfl, (by show line.size - (s.pos + 1) ≤ n; omega), Nat.le_refl _, rfl, Lib.hid (Sc.run_go HR.out (by rw [hll]; exact hlt) HF.out HST.out), Lib.hid (HI.out.at _ (by omega)), Lib.hid ⟨_, _, _, _, _, H7.out⟩⟩
        · have hb : begB (L line) s.pos = true := by rw [HG.out.2.2.2.2.2, ← HC.out, e4]; simpa using e5
          have hnb : s.begun < 512 := by have h1 := HG.out.1 hb; have h2 := HI.out.begun; simp at h1; omega
          have hdp : s.under.length < 12 := by have h1 := HG.out.2.1 (by rw [← HC.out]; exact e2); simp at h1; omega
          have HST : Hid (s.step (L line) = .go { s with pos := s.pos + 1, begun := s.begun + 1, under := s.under ++ [s.top], top := ⟨kindC c, s.word (L line), []⟩ }) := Lib.hid (by rw [HST0.out]; simp only [← HC.out, e1, e2]; rfl)
          have HP := Lib.hid (push_any c H6.out hun hlt hs hbg)
          clear d0 d1 d2 d3 d4 H6 e5 hb
          rcases e6 with e6 | ⟨e6, e6'⟩
          all_goals (
            go_wp2_with fail
            refine HP.out.mono ?_
            rintro e w2 ⟨rfl, ob2, oc2, fs2, hsm2⟩
            have H7 := Lib.hid hsm2
            clear hsm2
            go_wp2_with fail
            go_roundg n
            case measure => omega
            case rel => exact ⟨n, _, _, rfl, (by show line.size - (s.pos + 1) ≤ n; omega), Nat.le_refl _, rfl, Lib.hid (Sc.run_go HR.out (by rw [hll]; exact hlt) HF.out HST.out), Lib.hid (HI.out.push _ (by omega) _ _ hnb hdp), Lib.hid ⟨_, _, _, _, _, H7.out⟩⟩)
        · have hkd : s.top.kind = kindC c := by have h1 := HG.out.2.2.1 (by rw [← HC.out]; exact e3); rw [← HC.out] at h1; simpa using h1
          obtain ⟨u, f, hu⟩ := HI.out.open hkd
          have HST : Hid (s.step (L line) = .go { s with pos := s.pos + 1, under := u, top := { f with kids := f.kids ++ [Wd.mk s.top.kind (S []) s.top.kids s.top.glued] } }) := Lib.hid (by rw [HST0.out]; simp only [← HC.out, e1, e2, e3, hu]; simp)
          have HP := Lib.hid (pop_any u f H6.out hu hun (HK.out.2 u f hu) (by omega))
          have HU := Lib.hid hu
          clear d0 d1 d2 d3 d4 H6 hkd hu
          rcases e6 with e6 | ⟨e6, e6'⟩
          all_goals (
            go_wp2_with fail
            refine HP.out.mono ?_
            rintro e w2 ⟨rfl, fs2, D2, hsm2⟩
            have H7 := Lib.hid hsm2
            clear hsm2
            go_wp2_with fail
            go_roundg n
            case measure => omega
            case rel => exact ⟨n, _, _, rfl, (by show line.size - (s.pos + 1) ≤ n; omega), Nat.le_refl _, rfl, Lib.hid (Sc.run_go HR.out (by rw [hll]; exact hlt) HF.out HST.out), Lib.hid (HI.out.pop _ (by omega) u f HU.out _), Lib.hid ⟨_, _, _, _, _, H7.out⟩⟩)
        · have hb : begB (L line) s.pos = true := by
            rcases HG.out.2.2.2.2.1 with h1 | h1 | h1
            · exact h1
            · rw [← HC.out, e3] at h1; cases h1
            · rw [← HC.out, e1] at h1; cases h1.1
          have hnb : s.begun < 512 := by have h1 := HG.out.1 hb; have h2 := HI.out.begun; simp at h1; omega
          have hft := HG.out.2.2.2.1 (by rw [← HC.out]; exact e6) hb
          have hab : annB ((L line).drop s.pos) = true := by have h1 := HG.out.2.2.2.2.2; rw [hb, ← HC.out, e6, if_pos rfl] at h1; exact h1.symm
          have hal := annS_le ((L line).drop s.pos) (by rw [List.length_drop, hll]; omega)
          have hap : 0 < annS ((L line).drop s.pos) := by have := annS_pos ((L line).drop s.pos); rw [hab] at this; simpa using this
          rw [List.length_drop, hll] at hal
          obtain ⟨x, r, hl⟩ : ∃ x r, s.lits = x :: r := by
            cases hl : s.lits with
            | nil => rw [hl] at hft; simp [fitB] at hft
            | cons x r => exact ⟨x, r, rfl⟩
          have HST : Hid (s.step (L line) = .go ({ s with pos := s.pos + annS ((L line).drop s.pos), begun := s.begun + 1, lits := r }.add (Wd.mk 3 x [] (s.word (L line))))) := Lib.hid (by rw [HST0.out]; simp only [← HC.out, e1, e2, e3, e6, hl]; rfl)
          have HP := Lib.hid (takeLiteral_any x r H6.out hl hun hlt hs hbg HK.out.1)
          clear d0 d1 d2 d3 d4 H6 hft hl hb hab
          go_wp2_with fail
          refine HP.out.mono ?_
          rintro e w2 ⟨rfl, vl2, fs2, hsm2⟩
          have H7 := Lib.hid hsm2
          clear hsm2
          go_wp2_with fail
          go_roundg n
          case measure => omega
          case rel => exact ⟨n, _, _, rfl, (by show line.size - (s.pos + annS ((L line).drop s.pos)) ≤ n; omega), Nat.le_refl _, rfl, Lib.hid (Sc.run_go HR.out (by rw [hll]; exact hlt) HF.out HST.out), Lib.hid (HI.out.word _ (by omega) r _ hnb), Lib.hid ⟨_, _, _, _, _, H7.out⟩⟩
        · have hb : begB (L line) s.pos = true := by rw [HG.out.2.2.2.2.2, ← HC.out, e6, if_neg (by simp), e7, Bool.true_or, Bool.true_or]
          have hnb : s.begun < 512 := by have h1 := HG.out.1 hb; have h2 := HI.out.begun; simp at h1; omega
          have HSQ : Hid (∀ q, quo ((L line).drop (s.pos + 1)) false [] 0 = q → s.step (L line) = quoR (L line) s q) := Lib.hid (fun q hq => by rw [HST0.out]; simp only [← HC.out, e1, e2, e3, e6, e7]; rw [hq]; cases q <;> rfl)
          obtain ⟨q0, hq0'⟩ : ∃ q, quo ((L line).drop (s.pos + 1)) false [] 0 = q := ⟨_, rfl⟩
          have HSP := Lib.hid (HSQ.out q0 hq0')
          have HQ0 := Lib.hid hq0'
          obtain ⟨wb, hwb⟩ : ∃ b, b = s.word (L line) := ⟨_, rfl⟩
          have HB := Lib.hid (begin_any 2 H6.out hun hpz hs hbg)
          rw [← hwb] at HB
          have HWB := Lib.hid hwb
          clear hwb hq0' d0 d1 d2 d3 d4 H6 hb HSQ
          go_wp2_with fail
          refine HB.out.mono ?_
          rintro e w7 ⟨rfl, hsm7, _⟩
          have hQM : QM B P line vl s ob oc fs D W0 w7 wb s.pos (.slice none 0 0) [] (w7.alloc (.cells #[.int .i64 2, .string ⟨#[]⟩, .slice none 0 0, .bool wb] 33)) := by
            have hb7 : Below w7.heap.size w7 (w7.alloc (.cells #[.int .i64 2, .string ⟨#[]⟩, .slice none 0 0, .bool wb] 33)) := (Below.refl _ _).alloc (Nat.le_refl _) _
            have h7 := hsm7.on hb7
            exact ⟨hsm7, But.of hb7, h7.below, h7.blk, heap_alloc_new w7 _, World.ownsRow_nil _ _ _ _, by simp⟩
          have HQM := Lib.hid hQM
          have HP7 : Hid (P ≠ w7.heap.size) := Lib.hid (by have := hsm7.plt; omega)
          clear hQM hsm7 HB
          go_wp2_with fail
          go_loopg [3, 7, 8] (line.size - s.pos) (fun gg2 s3 s7 s8 wr => ∃ (j : Nat) (esc : Bool) (acc : List UInt8) (v : Value) (X : World), X = wr ∧ s3 = .bool false ∧ s7 = v ∧ s8 = .bool esc ∧ s.pos ≤ j ∧ j < line.size ∧ line.size - j ≤ gg2 ∧ acc.length ≤ j ∧ Hid (quo ((L line).drop (j + 1)) esc acc (j - s.pos) = q0) ∧ Hid (QM B P line vl s ob oc fs D W0 w7 wb j v acc X))
          case atStart => exact ⟨s.pos, false, [], _, _, rfl, rfl, rfl, rfl, Nat.le_refl _, hlt, Nat.le_refl _, Nat.zero_le _, by rw [Nat.sub_self]; exact HQ0, HQM⟩
          case round =>
            clear HQM HQ0
            obtain ⟨j, esc, acc, v, X', hX', rfl, hv7, rfl, hj0, hj1, hgg2, hacc, HQJ, HQX⟩ := hrel
            subst hX' hv7
            obtain ⟨x0, x1, x2, x3, x4⟩ := HQX.out.sm.sv
            have hfz := HQX.out.sm.free 1
            have HQ1 := Lib.hid ((HQX.out.pos (j + 1)))
            have HE1 : ((j + 1 : Nat) : Int) = (j : Int) + 1 := by omega
            rw [HE1] at HQ1
            clear HE1 HQX
            go_upto_region 24 with fail
            clear x0 x1 x2 x3 x4 hfz
            generalize X'.setCell ⟨P, 1, none⟩ (.int .i64 ((j : Int) + 1)) = X1 at *
            have HQ2 := Lib.hid HQ1.out.drew
            have stq : Sv P line (j + 1) vl (s.begun + 1) (.slice (some ⟨ob, 0, none⟩) (s.under.length + 1) oc) X1.drew := HQ2.out.sm.sv
            have hla : ((j : Int) + 1 == (line.size : Int)) = decide (j + 1 = line.size) := by
              by_cases e : j + 1 = line.size
              · rw [decide_eq_true e]; exact beq_iff_eq.2 (by omega)
              · rw [decide_eq_false e]; exact beq_eq_false_iff_ne.2 (by omega)
            by_cases hlast : j + 1 = line.size
            · rw [decide_eq_true hlast] at hla
              obtain ⟨last, hl1⟩ : ∃ l : Bool, l = true := ⟨_, rfl⟩
              rw [← hl1] at hla
              have hjq : quo ((L line).drop (j + 1)) esc acc (j - s.pos) = .cut := by rw [List.drop_eq_nil_of_le (by rw [hll]; omega)]; rfl
              have hq0e : q0 = .cut := HQJ.out.symm.trans hjq
              have HRC := Lib.hid (Sc.run_cut HR.out (by rw [hll]; exact hlt) HF.out (by rw [HSP.out, hq0e]; rfl))
              have HE2 := Lib.hid (HQ2.out.sm.endFault true hun (by show j + 1 ≤ line.size; omega) hs)
              have HJL : Hid (j + 1 = (L line).length) := Lib.hid (by rw [hll]; exact hlast)
              clear hlast hjq hq0e
              refine wp_region_held_drew (S := Sv P line (j + 1) vl (s.begun + 1) (.slice (some ⟨ob, 0, none⟩) (s.under.length + 1) oc)) (by kernel_rfl) stq (fun hHeld => ?_)
              clear hHeld
              refine wpAnyH_take (i := 0) (oi := { dst := some 72, op := Go.Op.move (Go.Operand.tmp 0), type := 87, pos := "scan.go:60", after := #[], guard := none }) (v := ?_) rfl (by kernel_rfl) (by kernel_rfl) (by kernel_rfl) (fun _ _ _ h => h) (Or.inl ⟨by kernel_rfl, ?_⟩) stq ?_
              rotate_left
              · (intro X hX; (try dsimp only at hX); go_simp; try (with_reducible rfl))
              (try simp only [Act.put, List.setIfInBounds_toArray, List.set_cons_zero, List.set_cons_succ])
              refine wpAnyH_take (i := 1) (oi := { dst := some 73, op := Go.Op.nilCheck (Go.Operand.tmp 72), type := 0, pos := "scan.go:60", after := #[{ on := 0, ground := Go.Ground.data }], guard := none }) (v := ?_) rfl (by kernel_rfl) (by kernel_rfl) (by kernel_rfl) (fun _ _ _ h => h) (Or.inl ⟨by kernel_rfl, ?_⟩) stq ?_
              rotate_left
              · (intro X hX; (try dsimp only at hX); go_simp; try (with_reducible rfl))
              (try simp only [Act.put, List.setIfInBounds_toArray, List.set_cons_zero, List.set_cons_succ])
              refine wpAnyH_take (i := 2) (oi := { dst := some 74, op := Go.Op.fieldAddr 67 (Go.Operand.tmp 73) 1, type := 0, pos := "scan.go:60", after := #[{ on := 1, ground := Go.Ground.data }], guard := none }) (v := ?_) rfl (by kernel_rfl) (by kernel_rfl) (by kernel_rfl) (fun _ _ _ h => h) (Or.inl ⟨by kernel_rfl, ?_⟩) stq ?_
              rotate_left
              · (intro X hX; (try dsimp only at hX); go_simp; try (with_reducible rfl))
              (try simp only [Act.put, List.setIfInBounds_toArray, List.set_cons_zero, List.set_cons_succ])
              refine wpAnyH_take (i := 3) (oi := { dst := some 75, op := Go.Op.load 3 (Go.Operand.tmp 74), type := 3, pos := "scan.go:60", after := #[{ on := 2, ground := Go.Ground.data }], guard := none }) (v := ?_) rfl (by kernel_rfl) (by kernel_rfl) (by kernel_rfl) (fun _ _ _ h => h) (Or.inl ⟨by kernel_rfl, ?_⟩) stq ?_
              rotate_left
              · (intro X hX; (try dsimp only at hX); go_simp; try (with_reducible rfl))
              (try simp only [Act.put, List.setIfInBounds_toArray, List.set_cons_zero, List.set_cons_succ])
              refine wpAnyH_take (i := 4) (oi := { dst := some 76, op := Go.Op.move (Go.Operand.tmp 0), type := 87, pos := "scan.go:60", after := #[], guard := none }) (v := ?_) rfl (by kernel_rfl) (by kernel_rfl) (by kernel_rfl) (fun _ _ _ h => h) (Or.inl ⟨by kernel_rfl, ?_⟩) stq ?_
              rotate_left
              · (intro X hX; (try dsimp only at hX); go_simp; try (with_reducible rfl))
              (try simp only [Act.put, List.setIfInBounds_toArray, List.set_cons_zero, List.set_cons_succ])
              refine wpAnyH_take (i := 5) (oi := { dst := some 77, op := Go.Op.nilCheck (Go.Operand.tmp 76), type := 0, pos := "scan.go:60", after := #[{ on := 4, ground := Go.Ground.data }], guard := none }) (v := ?_) rfl (by kernel_rfl) (by kernel_rfl) (by kernel_rfl) (fun _ _ _ h => h) (Or.inl ⟨by kernel_rfl, ?_⟩) stq ?_
              rotate_left
              · (intro X hX; (try dsimp only at hX); go_simp; try (with_reducible rfl))
              (try simp only [Act.put, List.setIfInBounds_toArray, List.set_cons_zero, List.set_cons_succ])
              refine wpAnyH_take (i := 6) (oi := { dst := some 78, op := Go.Op.fieldAddr 67 (Go.Operand.tmp 77) 0, type := 0, pos := "scan.go:60", after := #[{ on := 5, ground := Go.Ground.data }], guard := none }) (v := ?_) rfl (by kernel_rfl) (by kernel_rfl) (by kernel_rfl) (fun _ _ _ h => h) (Or.inl ⟨by kernel_rfl, ?_⟩) stq ?_
              rotate_left
              · (intro X hX; (try dsimp only at hX); go_simp; try (with_reducible rfl))
              (try simp only [Act.put, List.setIfInBounds_toArray, List.set_cons_zero, List.set_cons_succ])
              refine wpAnyH_take (i := 7) (oi := { dst := some 79, op := Go.Op.load 9 (Go.Operand.tmp 78), type := 9, pos := "scan.go:60", after := #[{ on := 6, ground := Go.Ground.data }], guard := none }) (v := ?_) rfl (by kernel_rfl) (by kernel_rfl) (by kernel_rfl) (fun _ _ _ h => h) (Or.inl ⟨by kernel_rfl, ?_⟩) stq ?_
              rotate_left
              · (intro X hX; (try dsimp only at hX); go_simp; try (with_reducible rfl))
              (try simp only [Act.put, List.setIfInBounds_toArray, List.set_cons_zero, List.set_cons_succ])
              refine wpAnyH_take (i := 8) (oi := { dst := some 80, op := Go.Op.call { callee := Go.Callee.builtin Go.Builtin.len, args := #[Go.Operand.tmp 79], argTypes := #[9] }, type := 3, pos := "scan.go:60", after := #[{ on := 7, ground := Go.Ground.data }], guard := none }) (v := ?_) rfl (by kernel_rfl) (by kernel_rfl) (by kernel_rfl) (fun _ _ _ h => h) (Or.inl ⟨by kernel_rfl, ?_⟩) stq ?_
              rotate_left
              · (intro X hX; (try dsimp only at hX); go_simp; try (with_reducible rfl))
              (try simp only [Act.put, List.setIfInBounds_toArray, List.set_cons_zero, List.set_cons_succ])
              refine wpAnyH_take (i := 9) (oi := { dst := some 81, op := Go.Op.binOp Go.BinOp.eql 3 (Go.Operand.tmp 75) (Go.Operand.tmp 80) 3, type := 4, pos := "scan.go:60", after := #[{ on := 3, ground := Go.Ground.data }, { on := 8, ground := Go.Ground.data }], guard := none }) (v := .bool last) rfl (by kernel_rfl) (by kernel_rfl) (by kernel_rfl) (fun _ _ _ h => h) (Or.inl ⟨by kernel_rfl, ?_⟩) stq ?_
              · (intro X hX; (try dsimp only at hX); go_simp; try exact hla)
              (try simp only [Act.put, List.setIfInBounds_toArray, List.set_cons_zero, List.set_cons_succ])
              refine wpAnyH_done (by kernel_rfl) ?_ _
              generalize X1.drew = X2 at *
              subst hl1
              go_wp2_with fail
              refine HE2.out.mono ?_
              rintro e w9 ⟨rfl, hb9⟩
              have hbl := (HQ2.out.sm.on hb9).below
              have hres : ({ s with begun := s.begun + 1, pos := j + 1 } : Sc).endE (L line) true = R.1 := by rw [HRC.out, HJL.out]
              have hnz : R.1 ≠ 0 := by rw [← hres]; unfold Sc.endE; simp only; split <;> simp
              clear hb9
              go_wp2_with fail
              (try rw [Exit.noGoto_ret])
              go_ret
              exact ⟨by rw [← hres]; rfl, hbl, fun hz => absurd hz hnz⟩
            · rw [decide_eq_false hlast] at hla
              obtain ⟨last, hl1⟩ : ∃ l : Bool, l = false := ⟨_, rfl⟩
              rw [← hl1] at hla
              have hj2 : j + 1 < line.size := by omega
              clear hlast
              refine wp_region_held_drew (S := Sv P line (j + 1) vl (s.begun + 1) (.slice (some ⟨ob, 0, none⟩) (s.under.length + 1) oc)) (by kernel_rfl) stq (fun hHeld => ?_)
              clear hHeld
              refine wpAnyH_take (i := 0) (oi := { dst := some 72, op := Go.Op.move (Go.Operand.tmp 0), type := 87, pos := "scan.go:60", after := #[], guard := none }) (v := ?_) rfl (by kernel_rfl) (by kernel_rfl) (by kernel_rfl) (fun _ _ _ h => h) (Or.inl ⟨by kernel_rfl, ?_⟩) stq ?_
              rotate_left
              · (intro X hX; (try dsimp only at hX); go_simp; try (with_reducible rfl))
              (try simp only [Act.put, List.setIfInBounds_toArray, List.set_cons_zero, List.set_cons_succ])
              refine wpAnyH_take (i := 1) (oi := { dst := some 73, op := Go.Op.nilCheck (Go.Operand.tmp 72), type := 0, pos := "scan.go:60", after := #[{ on := 0, ground := Go.Ground.data }], guard := none }) (v := ?_) rfl (by kernel_rfl) (by kernel_rfl) (by kernel_rfl) (fun _ _ _ h => h) (Or.inl ⟨by kernel_rfl, ?_⟩) stq ?_
              rotate_left
              · (intro X hX; (try dsimp only at hX); go_simp; try (with_reducible rfl))
              (try simp only [Act.put, List.setIfInBounds_toArray, List.set_cons_zero, List.set_cons_succ])
              refine wpAnyH_take (i := 2) (oi := { dst := some 74, op := Go.Op.fieldAddr 67 (Go.Operand.tmp 73) 1, type := 0, pos := "scan.go:60", after := #[{ on := 1, ground := Go.Ground.data }], guard := none }) (v := ?_) rfl (by kernel_rfl) (by kernel_rfl) (by kernel_rfl) (fun _ _ _ h => h) (Or.inl ⟨by kernel_rfl, ?_⟩) stq ?_
              rotate_left
              · (intro X hX; (try dsimp only at hX); go_simp; try (with_reducible rfl))
              (try simp only [Act.put, List.setIfInBounds_toArray, List.set_cons_zero, List.set_cons_succ])
              refine wpAnyH_take (i := 3) (oi := { dst := some 75, op := Go.Op.load 3 (Go.Operand.tmp 74), type := 3, pos := "scan.go:60", after := #[{ on := 2, ground := Go.Ground.data }], guard := none }) (v := ?_) rfl (by kernel_rfl) (by kernel_rfl) (by kernel_rfl) (fun _ _ _ h => h) (Or.inl ⟨by kernel_rfl, ?_⟩) stq ?_
              rotate_left
              · (intro X hX; (try dsimp only at hX); go_simp; try (with_reducible rfl))
              (try simp only [Act.put, List.setIfInBounds_toArray, List.set_cons_zero, List.set_cons_succ])
              refine wpAnyH_take (i := 4) (oi := { dst := some 76, op := Go.Op.move (Go.Operand.tmp 0), type := 87, pos := "scan.go:60", after := #[], guard := none }) (v := ?_) rfl (by kernel_rfl) (by kernel_rfl) (by kernel_rfl) (fun _ _ _ h => h) (Or.inl ⟨by kernel_rfl, ?_⟩) stq ?_
              rotate_left
              · (intro X hX; (try dsimp only at hX); go_simp; try (with_reducible rfl))
              (try simp only [Act.put, List.setIfInBounds_toArray, List.set_cons_zero, List.set_cons_succ])
              refine wpAnyH_take (i := 5) (oi := { dst := some 77, op := Go.Op.nilCheck (Go.Operand.tmp 76), type := 0, pos := "scan.go:60", after := #[{ on := 4, ground := Go.Ground.data }], guard := none }) (v := ?_) rfl (by kernel_rfl) (by kernel_rfl) (by kernel_rfl) (fun _ _ _ h => h) (Or.inl ⟨by kernel_rfl, ?_⟩) stq ?_
              rotate_left
              · (intro X hX; (try dsimp only at hX); go_simp; try (with_reducible rfl))
              (try simp only [Act.put, List.setIfInBounds_toArray, List.set_cons_zero, List.set_cons_succ])
              refine wpAnyH_take (i := 6) (oi := { dst := some 78, op := Go.Op.fieldAddr 67 (Go.Operand.tmp 77) 0, type := 0, pos := "scan.go:60", after := #[{ on := 5, ground := Go.Ground.data }], guard := none }) (v := ?_) rfl (by kernel_rfl) (by kernel_rfl) (by kernel_rfl) (fun _ _ _ h => h) (Or.inl ⟨by kernel_rfl, ?_⟩) stq ?_
              rotate_left
              · (intro X hX; (try dsimp only at hX); go_simp; try (with_reducible rfl))
              (try simp only [Act.put, List.setIfInBounds_toArray, List.set_cons_zero, List.set_cons_succ])
              refine wpAnyH_take (i := 7) (oi := { dst := some 79, op := Go.Op.load 9 (Go.Operand.tmp 78), type := 9, pos := "scan.go:60", after := #[{ on := 6, ground := Go.Ground.data }], guard := none }) (v := ?_) rfl (by kernel_rfl) (by kernel_rfl) (by kernel_rfl) (fun _ _ _ h => h) (Or.inl ⟨by kernel_rfl, ?_⟩) stq ?_
              rotate_left
              · (intro X hX; (try dsimp only at hX); go_simp; try (with_reducible rfl))
              (try simp only [Act.put, List.setIfInBounds_toArray, List.set_cons_zero, List.set_cons_succ])
              refine wpAnyH_take (i := 8) (oi := { dst := some 80, op := Go.Op.call { callee := Go.Callee.builtin Go.Builtin.len, args := #[Go.Operand.tmp 79], argTypes := #[9] }, type := 3, pos := "scan.go:60", after := #[{ on := 7, ground := Go.Ground.data }], guard := none }) (v := ?_) rfl (by kernel_rfl) (by kernel_rfl) (by kernel_rfl) (fun _ _ _ h => h) (Or.inl ⟨by kernel_rfl, ?_⟩) stq ?_
              rotate_left
              · (intro X hX; (try dsimp only at hX); go_simp; try (with_reducible rfl))
              (try simp only [Act.put, List.setIfInBounds_toArray, List.set_cons_zero, List.set_cons_succ])
              refine wpAnyH_take (i := 9) (oi := { dst := some 81, op := Go.Op.binOp Go.BinOp.eql 3 (Go.Operand.tmp 75) (Go.Operand.tmp 80) 3, type := 4, pos := "scan.go:60", after := #[{ on := 3, ground := Go.Ground.data }, { on := 8, ground := Go.Ground.data }], guard := none }) (v := .bool last) rfl (by kernel_rfl) (by kernel_rfl) (by kernel_rfl) (fun _ _ _ h => h) (Or.inl ⟨by kernel_rfl, ?_⟩) stq ?_
              · (intro X hX; (try dsimp only at hX); go_simp; try exact hla)
              (try simp only [Act.put, List.setIfInBounds_toArray, List.set_cons_zero, List.set_cons_succ])
              refine wpAnyH_done (by kernel_rfl) ?_ _
              generalize X1.drew = X2 at *
              subst hl1
              have ea2 := get_btx line (j + 1) hj2
              have hq1' : (j : Int) + 1 < (line.size : Int) := by omega
              have hq0' : (0 : Int) ≤ (j : Int) + 1 := by omega
              have hdc := drop_cons (l := L line) (k := j + 1) (by rw [hll]; exact hj2)
              have HQJ2 : Hid (quo (bt (L line) (j + 1) :: (L line).drop (j + 1 + 1)) esc acc (j - s.pos) = q0) := Lib.hid (by rw [← hdc]; exact HQJ.out)
              have h256' : (bt (L line) (j + 1)).toNat < 256 := bt_lt _ _
              have HMB := Lib.hid (fun W => mayBeQuoted_any (bt (L line) (j + 1)) esc W)
              have hbi := byte_is (bt (L line) (j + 1))
              generalize bt (L line) (j + 1) = c2 at *
              have HQ3 := Lib.hid HQ2.out.drew
              have st26 : Sv P line (j + 1) vl (s.begun + 1) (.slice (some ⟨ob, 0, none⟩) (s.under.length + 1) oc) X2.drew := HQ3.out.sm.sv
              clear hdc HQJ HQ1 HQ2 stq hla
              go_upto_region 26 with fail
              refine wp_region_held_drew (S := Sv P line (j + 1) vl (s.begun + 1) (.slice (some ⟨ob, 0, none⟩) (s.under.length + 1) oc)) (by kernel_rfl) st26 (fun hHeld => ?_)
              clear hHeld
              refine wpAnyH_take (i := 0) (oi := { dst := some 82, op := Go.Op.move (Go.Operand.tmp 0), type := 87, pos := "scan.go:64", after := #[], guard := none }) (v := ?_) rfl (by kernel_rfl) (by kernel_rfl) (by kernel_rfl) (fun _ _ _ h => h) (Or.inl ⟨by kernel_rfl, ?_⟩) st26 ?_
              rotate_left
              · (intro X hX; (try dsimp only at hX); go_simp; try (with_reducible rfl))
              (try simp only [Act.put, List.setIfInBounds_toArray, List.set_cons_zero, List.set_cons_succ])
              refine wpAnyH_take (i := 1) (oi := { dst := some 83, op := Go.Op.nilCheck (Go.Operand.tmp 82), type := 0, pos := "scan.go:64", after := #[{ on := 0, ground := Go.Ground.data }], guard := none }) (v := ?_) rfl (by kernel_rfl) (by kernel_rfl) (by kernel_rfl) (fun _ _ _ h => h) (Or.inl ⟨by kernel_rfl, ?_⟩) st26 ?_
              rotate_left
              · (intro X hX; (try dsimp only at hX); go_simp; try (with_reducible rfl))
              (try simp only [Act.put, List.setIfInBounds_toArray, List.set_cons_zero, List.set_cons_succ])
              refine wpAnyH_take (i := 2) (oi := { dst := some 84, op := Go.Op.fieldAddr 67 (Go.Operand.tmp 83) 0, type := 0, pos := "scan.go:64", after := #[{ on := 1, ground := Go.Ground.data }], guard := none }) (v := ?_) rfl (by kernel_rfl) (by kernel_rfl) (by kernel_rfl) (fun _ _ _ h => h) (Or.inl ⟨by kernel_rfl, ?_⟩) st26 ?_
              rotate_left
              · (intro X hX; (try dsimp only at hX); go_simp; try (with_reducible rfl))
              (try simp only [Act.put, List.setIfInBounds_toArray, List.set_cons_zero, List.set_cons_succ])
              refine wpAnyH_take (i := 3) (oi := { dst := some 85, op := Go.Op.load 9 (Go.Operand.tmp 84), type := 9, pos := "scan.go:64", after := #[{ on := 2, ground := Go.Ground.data }], guard := none }) (v := ?_) rfl (by kernel_rfl) (by kernel_rfl) (by kernel_rfl) (fun _ _ _ h => h) (Or.inl ⟨by kernel_rfl, ?_⟩) st26 ?_
              rotate_left
              · (intro X hX; (try dsimp only at hX); go_simp; try (with_reducible rfl))
              (try simp only [Act.put, List.setIfInBounds_toArray, List.set_cons_zero, List.set_cons_succ])
              refine wpAnyH_take (i := 4) (oi := { dst := some 86, op := Go.Op.move (Go.Operand.tmp 0), type := 87, pos := "scan.go:64", after := #[], guard := none }) (v := ?_) rfl (by kernel_rfl) (by kernel_rfl) (by kernel_rfl) (fun _ _ _ h => h) (Or.inl ⟨by kernel_rfl, ?_⟩) st26 ?_
              rotate_left
              · (intro X hX; (try dsimp only at hX); go_simp; try (with_reducible rfl))
              (try simp only [Act.put, List.setIfInBounds_toArray, List.set_cons_zero, List.set_cons_succ])
              refine wpAnyH_take (i := 5) (oi := { dst := some 87, op := Go.Op.nilCheck (Go.Operand.tmp 86), type := 0, pos := "scan.go:64", after := #[{ on := 4, ground := Go.Ground.data }], guard := none }) (v := ?_) rfl (by kernel_rfl) (by kernel_rfl) (by kernel_rfl) (fun _ _ _ h => h) (Or.inl ⟨by kernel_rfl, ?_⟩) st26 ?_
              rotate_left
              · (intro X hX; (try dsimp only at hX); go_simp; try (with_reducible rfl))
              (try simp only [Act.put, List.setIfInBounds_toArray, List.set_cons_zero, List.set_cons_succ])
              refine wpAnyH_take (i := 6) (oi := { dst := some 88, op := Go.Op.fieldAddr 67 (Go.Operand.tmp 87) 1, type := 0, pos := "scan.go:64", after := #[{ on := 5, ground := Go.Ground.data }], guard := none }) (v := ?_) rfl (by kernel_rfl) (by kernel_rfl) (by kernel_rfl) (fun _ _ _ h => h) (Or.inl ⟨by kernel_rfl, ?_⟩) st26 ?_
              rotate_left
              · (intro X hX; (try dsimp only at hX); go_simp; try (with_reducible rfl))
              (try simp only [Act.put, List.setIfInBounds_toArray, List.set_cons_zero, List.set_cons_succ])
              refine wpAnyH_take (i := 7) (oi := { dst := some 89, op := Go.Op.load 3 (Go.Operand.tmp 88), type := 3, pos := "scan.go:64", after := #[{ on := 6, ground := Go.Ground.data }], guard := none }) (v := ?_) rfl (by kernel_rfl) (by kernel_rfl) (by kernel_rfl) (fun _ _ _ h => h) (Or.inl ⟨by kernel_rfl, ?_⟩) st26 ?_
              rotate_left
              · (intro X hX; (try dsimp only at hX); go_simp; try (with_reducible rfl))
              (try simp only [Act.put, List.setIfInBounds_toArray, List.set_cons_zero, List.set_cons_succ])
              refine wpAnyH_take (i := 8) (oi := { dst := some 90, op := Go.Op.index 9 (Go.Operand.tmp 85) (Go.Operand.tmp 89), type := 5, pos := "scan.go:64", after := #[{ on := 3, ground := Go.Ground.data }, { on := 7, ground := Go.Ground.data }], guard := none }) (v := .int .u8 (c2.toNat : Int)) rfl (by kernel_rfl) (by kernel_rfl) (by kernel_rfl) (fun _ _ _ h => h) (Or.inl ⟨by kernel_rfl, ?_⟩) st26 ?_
              · (intro X hX; (try dsimp only at hX); go_simp; try simp [ea2])
              (try simp only [Act.put, List.setIfInBounds_toArray, List.set_cons_zero, List.set_cons_succ])
              refine wpAnyH_take (i := 9) (oi := { dst := some 9, op := Go.Op.assign (Go.Operand.tmp 90), type := 5, pos := "scan.go:64", after := #[{ on := 8, ground := Go.Ground.data }, { on := 0, ground := Go.Ground.phase }, { on := 1, ground := Go.Ground.phase }, { on := 2, ground := Go.Ground.phase }, { on := 3, ground := Go.Ground.phase }, { on := 4, ground := Go.Ground.phase }, { on := 5, ground := Go.Ground.phase }, { on := 6, ground := Go.Ground.phase }, { on := 7, ground := Go.Ground.phase }, { on := 8, ground := Go.Ground.phase }], guard := none }) (v := ?_) rfl (by kernel_rfl) (by kernel_rfl) (by kernel_rfl) (fun _ _ _ h => h) (Or.inl ⟨by kernel_rfl, ?_⟩) st26 ?_
              rotate_left
              · (intro X hX; (try dsimp only at hX); go_simp; try (with_reducible rfl))
              (try simp only [Act.put, List.setIfInBounds_toArray, List.set_cons_zero, List.set_cons_succ])
              refine wpAnyH_done (by kernel_rfl) ?_ _
              generalize X2.drew = X3 at *
              obtain ⟨x0, x1, x2, x3, x4⟩ := st26
              obtain ⟨bi1, bi2⟩ := hbi
              rw [quo_cons] at HQJ2
              obtain ⟨mb, hmb⟩ : ∃ b, b = (quotC c2 && (!esc || slashB c2)) := ⟨_, rfl⟩
              rw [← hmb] at HMB HQJ2
              clear hmb
              have hbn := byte_not c2
              obtain ⟨b34, hb34⟩ : ∃ b, b = (c2 == 34) := ⟨_, rfl⟩
              obtain ⟨b92, hb92⟩ : ∃ b, b = (c2 == 92) := ⟨_, rfl⟩
              rw [← hb34] at bi1 HQJ2 hbn
              rw [← hb92] at bi2 HQJ2 hbn
              clear hb34 hb92
              cases mb with
              | false =>
                have hq0e : q0 = .bad := HQJ2.out.symm
                have HRC := Lib.hid (Sc.run_err HR.out (by rw [hll]; exact hlt) HF.out (by rw [HSP.out, hq0e]; rfl))
                have hbl := HQ3.out.below
                clear hq0e
                go_wp2_with (go_at_call 58; refine (HMB.out _).mono ?_; rintro e w' ⟨rfl, rfl⟩)
                (try rw [Exit.noGoto_ret])
                go_ret
                exact ⟨by rw [HRC.out]; rfl, hbl, fun hz => by rw [HRC.out] at hz; cases hz⟩
              | true =>
                simp only [Bool.not_true, Bool.false_eq_true, if_false] at HQJ2
                cases b34 with
                | true =>
                  obtain rfl : b92 = false := by simpa using hbn
                  cases esc with
                  | false =>
                    have hq0e : q0 = .done acc (j - s.pos + 1) := HQJ2.out.symm
                    have HST : Hid (s.step (L line) = .go ({ s with pos := j + 2, begun := s.begun + 1 }.add (Wd.mk 2 (S acc) [] (s.word (L line))))) := Lib.hid (by rw [HSP.out, hq0e]; unfold quoR; simp only; rw [show s.pos + 1 + (j - s.pos + 1) = j + 2 by omega])
                    clear hq0e
                    have hz34 : ((c2.toNat : Int) == 34) = true := bi1.symm
                    clear bi1 bi2 hbn
                    have hfz := HQ3.out.sm.free 1
                    have HQ4 := Lib.hid (HQ3.out.pos (j + 2))
                    rw [show ((j + 2 : Nat) : Int) = (j : Int) + 1 + 1 by omega] at HQ4
                    go_wp2_with fail
                    refine (HMB.out _).mono ?_
                    rintro e w' ⟨rfl, hw'⟩
                    obtain rfl : X3 = w' := hw'.symm
                    go_upto_region 33 with fail
                    clear x0 x1 x2 x3 x4 hfz HQ3
                    generalize X3.setCell ⟨P, 1, none⟩ (.int .i64 ((j : Int) + 1 + 1)) = X4 at *
                    have hcv := HQ4.out.own.back
                    have y1 : X4.cell? ⟨w7.heap.size, 1, none⟩ = some (.string ⟨#[]⟩) := cell_of_row _ _ 1 _ _ _ HQ4.out.wrd
                    have yf : X4.frozen? ⟨w7.heap.size, 1, none⟩ = false := frozen_of_row _ _ 1 _ _ HQ4.out.wrd
                    have HT5 := Lib.hid (HQ4.out.text (S acc))
                    obtain ⟨tx, htx⟩ : ∃ t, t = S acc := ⟨_, rfl⟩
                    rw [← htx] at hcv HT5 HST
                    clear htx HQ4
                    go_upto_region 34 with fail
                    clear y1 yf hcv
                    generalize X4.setCell ⟨w7.heap.size, 1, none⟩ (.string tx) = X5 at *
                    have z0 : X5.cell? ⟨w7.heap.size, 0, none⟩ = some (.int .i64 2) := cell_of_row _ _ 0 _ _ _ HT5.out.2
                    have z1 : X5.cell? ⟨w7.heap.size, 1, none⟩ = some (.string tx) := cell_of_row _ _ 1 _ _ _ HT5.out.2
                    have z2 : X5.cell? ⟨w7.heap.size, 2, none⟩ = some (.slice none 0 0) := cell_of_row _ _ 2 _ _ _ HT5.out.2
                    have z3 : X5.cell? ⟨w7.heap.size, 3, none⟩ = some (.bool wb) := cell_of_row _ _ 3 _ _ _ HT5.out.2
                    go_wp2_with fail
                    refine (add_any ⟨2, tx, none, 0, 0, wb⟩ (Wd.mk 2 tx [] wb) HT5.out.1 ⟨rfl, rfl, rfl, .nil⟩ hun HK.out.1).mono ?_
                    rintro e w5 ⟨rfl, ⟨fs5, hsm5⟩, _⟩
                    have H7 := Lib.hid hsm5
                    rw [HWB.out] at H7
                    clear hsm5 HT5 z0 z1 z2 z3
                    go_wp2_with fail
                    go_roundg n
                    case measure => omega
                    case rel => exact ⟨n, _, _, rfl, (by show line.size - (j + 2) ≤ n; omega), Nat.le_refl _, rfl, Lib.hid (Sc.run_go HR.out (by rw [hll]; exact hlt) HF.out HST.out), Lib.hid (HI.out.word _ (by omega) s.lits _ hnb), Lib.hid ⟨_, _, _, _, _, H7.out⟩⟩
                  | true =>
                    have hz92 : ((c2.toNat : Int) == 92) = false := bi2.symm
                    have hz34 : ((c2.toNat : Int) == 34) = true := bi1.symm
                    clear bi1 bi2 hbn
                    go_wp2_with fail
                    refine (HMB.out _).mono ?_
                    rintro e w' ⟨rfl, hw'⟩
                    obtain rfl : X3 = w' := hw'.symm
                    have hfit : acc.length + 1 ≤ 140737488355328 := by omega
                    go_wp2_with (at_builtin; refine app1 rfl _ _ rfl _ c2 HQ3.out.own rfl rfl rfl hfit ?_; intro v4 w4 hown4)
                    have HQ4 := Lib.hid (HQ3.out.grown hown4)
                    clear hown4
                    go_roundg (line.size - (j + 1))
                    case measure => omega
                    case rel => exact ⟨j + 1, false, acc ++ [c2], _, _, rfl, rfl, rfl, rfl, by omega, hj2, Nat.le_refl _, by simp; omega, Lib.hid (by rw [show j + 1 - s.pos = j - s.pos + 1 by omega]; exact HQJ2.out), HQ4⟩
                | false =>
                  cases b92 with
                  | true =>
                    cases esc with
                    | false =>
                      have hz92 : ((c2.toNat : Int) == 92) = true := bi2.symm
                      have hz34 : ((c2.toNat : Int) == 34) = false := bi1.symm
                      clear bi1 bi2 hbn
                      go_wp2_with fail
                      refine (HMB.out _).mono ?_
                      rintro e w' ⟨rfl, hw'⟩
                      obtain rfl : X3 = w' := hw'.symm
                      go_wp2_with fail
                      go_roundg (line.size - (j + 1))
                      case measure => omega
                      case rel => exact ⟨j + 1, true, acc, _, _, rfl, rfl, rfl, rfl, by omega, hj2, Nat.le_refl _, by omega, Lib.hid (by rw [show j + 1 - s.pos = j - s.pos + 1 by omega]; exact HQJ2.out), HQ3⟩
                    | true =>
                      have hz92 : ((c2.toNat : Int) == 92) = true := bi2.symm
                      have hz34 : ((c2.toNat : Int) == 34) = false := bi1.symm
                      clear bi1 bi2 hbn
                      go_wp2_with fail
                      refine (HMB.out _).mono ?_
                      rintro e w' ⟨rfl, hw'⟩
                      obtain rfl : X3 = w' := hw'.symm
                      have hfit : acc.length + 1 ≤ 140737488355328 := by omega
                      go_wp2_with (at_builtin; refine app1 rfl _ _ rfl _ c2 HQ3.out.own rfl rfl rfl hfit ?_; intro v4 w4 hown4)
                      have HQ4 := Lib.hid (HQ3.out.grown hown4)
                      clear hown4
                      go_roundg (line.size - (j + 1))
                      case measure => omega
                      case rel => exact ⟨j + 1, false, acc ++ [c2], _, _, rfl, rfl, rfl, rfl, by omega, hj2, Nat.le_refl _, by simp; omega, Lib.hid (by rw [show j + 1 - s.pos = j - s.pos + 1 by omega]; exact HQJ2.out), HQ4⟩
                  | false =>
                    have hz92 : ((c2.toNat : Int) == 92) = false := bi2.symm
                    have hz34 : ((c2.toNat : Int) == 34) = false := bi1.symm
                    clear bi1 bi2 hbn
                    go_wp2_with fail
                    refine (HMB.out _).mono ?_
                    rintro e w' ⟨rfl, hw'⟩
                    obtain rfl : X3 = w' := hw'.symm
                    have hfit : acc.length + 1 ≤ 140737488355328 := by omega
                    go_wp2_with (at_builtin; refine app1 rfl _ _ rfl _ c2 HQ3.out.own rfl rfl rfl hfit ?_; intro v4 w4 hown4)
                    have HQ4 := Lib.hid (HQ3.out.grown hown4)
                    clear hown4
                    go_roundg (line.size - (j + 1))
                    case measure => omega
                    case rel => exact ⟨j + 1, false, acc ++ [c2], _, _, rfl, rfl, rfl, rfl, by omega, hj2, Nat.le_refl _, by simp; omega, Lib.hid (by rw [show j + 1 - s.pos = j - s.pos + 1 by omega]; exact HQJ2.out), HQ4⟩
        · have hb : begB (L line) s.pos = true := by
            rcases HG.out.2.2.2.2.1 with h1 | h1 | h1
            · exact h1
            · rw [← HC.out, e3] at h1; cases h1
            · rw [← HC.out, e1] at h1; cases h1.1
          have hnb : s.begun < 512 := by have h1 := HG.out.1 hb; have h2 := HI.out.begun; simp at h1; omega
          have hwc : wordC c = true := by have h1 := HG.out.2.2.2.2.2; rw [hb, ← HC.out, e6, if_neg (by simp), e7, e2] at h1; simpa using h1.symm
          have hap : 0 < (atomL (L line) s.pos).length := by
            unfold atomL
            have hd : (L line).drop s.pos = bt (L line) s.pos :: (L line).drop (s.pos + 1) := drop_cons (by rw [hll]; exact hlt)
            rw [hd, List.takeWhile_cons_of_pos (by rw [← HC.out]; exact hwc)]
            simp
          have hal : (atomL (L line) s.pos).length ≤ line.size - s.pos := by
            have := tw_le wordC ((L line).drop s.pos)
            rw [List.length_drop, hll] at this
            exact this
          have HST : Hid (s.step (L line) = .go ({ s with pos := s.pos + (atomL (L line) s.pos).length, begun := s.begun + 1 }.add (Wd.mk 1 (S (atomL (L line) s.pos)) [] (s.word (L line))))) := Lib.hid (by rw [HST0.out]; simp only [← HC.out, e1, e2, e3, e6, e7]; rfl)
          have HP := Lib.hid (takeAtom_any H6.out hun hpz hs hbg HK.out.1)
          clear d0 d1 d2 d3 d4 H6 hb hwc
          go_wp2_with fail
          refine HP.out.mono ?_
          rintro e w2 ⟨rfl, fs2, hsm2⟩
          have H7 := Lib.hid hsm2
          clear hsm2
          go_wp2_with fail
          go_roundg n
          case measure => omega
          case rel => exact ⟨n, _, _, rfl, (by show line.size - (s.pos + (atomL (L line) s.pos).length) ≤ n; omega), Nat.le_refl _, rfl, Lib.hid (Sc.run_go HR.out (by rw [hll]; exact hlt) HF.out HST.out), Lib.hid (HI.out.word _ (by omega) s.lits _ hnb), Lib.hid ⟨_, _, _, _, _, H7.out⟩⟩
      · have HF1 := Lib.hid (HF0.out hf)
        have hbl := h1.below
        have hne : ((s.fault (L line)) != 0) = true := by simpa using hf
        clear h1 hb1 HFT
        go_wp2_with fail
        (try rw [Exit.noGoto_ret])
        go_ret
        exact ⟨by rw [HF1.out]; rfl, hbl, fun hz => by rw [HF1.out] at hz; exact absurd hz hf⟩
    · have hq1 : ¬ (s.pos : Int) < (line.size : Int) := by omega
      refine wp_region_held_drew (S := Sv P line s.pos vl s.begun (.slice (some ⟨ob, 0, none⟩) (s.under.length + 1) oc)) (by kernel_rfl) st (fun hHeld => ?_)
      clear hHeld
      refine wpAnyH_take (i := 0) (oi := { dst := some 10, op := Go.Op.move (Go.Operand.tmp 0), type := 87, pos := "scan.go:41", after := #[], guard := none }) (v := ?_) rfl (by kernel_rfl) (by kernel_rfl) (by kernel_rfl) (fun _ _ _ h => h) (Or.inl ⟨by kernel_rfl, ?_⟩) st ?_
      rotate_left
      · (intro X hX; (try dsimp only at hX); go_simp; try (with_reducible rfl))
      (try simp only [Act.put, List.setIfInBounds_toArray, List.set_cons_zero, List.set_cons_succ])
      refine wpAnyH_take (i := 1) (oi := { dst := some 11, op := Go.Op.nilCheck (Go.Operand.tmp 10), type := 0, pos := "scan.go:41", after := #[{ on := 0, ground := Go.Ground.data }], guard := none }) (v := ?_) rfl (by kernel_rfl) (by kernel_rfl) (by kernel_rfl) (fun _ _ _ h => h) (Or.inl ⟨by kernel_rfl, ?_⟩) st ?_
      rotate_left
      · (intro X hX; (try dsimp only at hX); go_simp; try (with_reducible rfl))
      (try simp only [Act.put, List.setIfInBounds_toArray, List.set_cons_zero, List.set_cons_succ])
      refine wpAnyH_take (i := 2) (oi := { dst := some 12, op := Go.Op.fieldAddr 67 (Go.Operand.tmp 11) 1, type := 0, pos := "scan.go:41", after := #[{ on := 1, ground := Go.Ground.data }], guard := none }) (v := ?_) rfl (by kernel_rfl) (by kernel_rfl) (by kernel_rfl) (fun _ _ _ h => h) (Or.inl ⟨by kernel_rfl, ?_⟩) st ?_
      rotate_left
      · (intro X hX; (try dsimp only at hX); go_simp; try (with_reducible rfl))
      (try simp only [Act.put, List.setIfInBounds_toArray, List.set_cons_zero, List.set_cons_succ])
      refine wpAnyH_take (i := 3) (oi := { dst := some 13, op := Go.Op.load 3 (Go.Operand.tmp 12), type := 3, pos := "scan.go:41", after := #[{ on := 2, ground := Go.Ground.data }], guard := none }) (v := ?_) rfl (by kernel_rfl) (by kernel_rfl) (by kernel_rfl) (fun _ _ _ h => h) (Or.inl ⟨by kernel_rfl, ?_⟩) st ?_
      rotate_left
      · (intro X hX; (try dsimp only at hX); go_simp; try (with_reducible rfl))
      (try simp only [Act.put, List.setIfInBounds_toArray, List.set_cons_zero, List.set_cons_succ])
      refine wpAnyH_take (i := 4) (oi := { dst := some 14, op := Go.Op.move (Go.Operand.tmp 0), type := 87, pos := "scan.go:41", after := #[], guard := none }) (v := ?_) rfl (by kernel_rfl) (by kernel_rfl) (by kernel_rfl) (fun _ _ _ h => h) (Or.inl ⟨by kernel_rfl, ?_⟩) st ?_
      rotate_left
      · (intro X hX; (try dsimp only at hX); go_simp; try (with_reducible rfl))
      (try simp only [Act.put, List.setIfInBounds_toArray, List.set_cons_zero, List.set_cons_succ])
      refine wpAnyH_take (i := 5) (oi := { dst := some 15, op := Go.Op.nilCheck (Go.Operand.tmp 14), type := 0, pos := "scan.go:41", after := #[{ on := 4, ground := Go.Ground.data }], guard := none }) (v := ?_) rfl (by kernel_rfl) (by kernel_rfl) (by kernel_rfl) (fun _ _ _ h => h) (Or.inl ⟨by kernel_rfl, ?_⟩) st ?_
      rotate_left
      · (intro X hX; (try dsimp only at hX); go_simp; try (with_reducible rfl))
      (try simp only [Act.put, List.setIfInBounds_toArray, List.set_cons_zero, List.set_cons_succ])
      refine wpAnyH_take (i := 6) (oi := { dst := some 16, op := Go.Op.fieldAddr 67 (Go.Operand.tmp 15) 0, type := 0, pos := "scan.go:41", after := #[{ on := 5, ground := Go.Ground.data }], guard := none }) (v := ?_) rfl (by kernel_rfl) (by kernel_rfl) (by kernel_rfl) (fun _ _ _ h => h) (Or.inl ⟨by kernel_rfl, ?_⟩) st ?_
      rotate_left
      · (intro X hX; (try dsimp only at hX); go_simp; try (with_reducible rfl))
      (try simp only [Act.put, List.setIfInBounds_toArray, List.set_cons_zero, List.set_cons_succ])
      refine wpAnyH_take (i := 7) (oi := { dst := some 17, op := Go.Op.load 9 (Go.Operand.tmp 16), type := 9, pos := "scan.go:41", after := #[{ on := 6, ground := Go.Ground.data }], guard := none }) (v := ?_) rfl (by kernel_rfl) (by kernel_rfl) (by kernel_rfl) (fun _ _ _ h => h) (Or.inl ⟨by kernel_rfl, ?_⟩) st ?_
      rotate_left
      · (intro X hX; (try dsimp only at hX); go_simp; try (with_reducible rfl))
      (try simp only [Act.put, List.setIfInBounds_toArray, List.set_cons_zero, List.set_cons_succ])
      refine wpAnyH_take (i := 8) (oi := { dst := some 18, op := Go.Op.call { callee := Go.Callee.builtin Go.Builtin.len, args := #[Go.Operand.tmp 17], argTypes := #[9] }, type := 3, pos := "scan.go:41", after := #[{ on := 7, ground := Go.Ground.data }], guard := none }) (v := ?_) rfl (by kernel_rfl) (by kernel_rfl) (by kernel_rfl) (fun _ _ _ h => h) (Or.inl ⟨by kernel_rfl, ?_⟩) st ?_
      rotate_left
      · (intro X hX; (try dsimp only at hX); go_simp; try (with_reducible rfl))
      (try simp only [Act.put, List.setIfInBounds_toArray, List.set_cons_zero, List.set_cons_succ])
      refine wpAnyH_take (i := 9) (oi := { dst := some 19, op := Go.Op.binOp Go.BinOp.lss 3 (Go.Operand.tmp 13) (Go.Operand.tmp 18) 3, type := 4, pos := "scan.go:41", after := #[{ on := 3, ground := Go.Ground.data }, { on := 8, ground := Go.Ground.data }], guard := none }) (v := ?_) rfl (by kernel_rfl) (by kernel_rfl) (by kernel_rfl) (fun _ _ _ h => h) (Or.inl ⟨by kernel_rfl, ?_⟩) st ?_
      rotate_left
      · (intro X hX; (try dsimp only at hX); go_simp; try (with_reducible rfl))
      (try simp only [Act.put, List.setIfInBounds_toArray, List.set_cons_zero, List.set_cons_succ])
      refine wpAnyH_done (by kernel_rfl) ?_ _
      generalize X.drew = X0 at *
      have HEF := Lib.hid (H0.out.endFault false hun hpz hs)
      have hend := Sc.run_end HR.out (by rw [hll]; exact hlt)
      have HEND := Lib.hid hend
      clear hend
      go_wp2_with fail
      refine HEF.out.mono ?_
      rintro e w1 ⟨rfl, hb1⟩
      have h1 := H0.out.on hb1
      have HFIN : Hid (Below B W0 w1 ∧ (R.1 = 0 → ∃ s vl ob oc fs D, SmX B P line vl s ob oc fs D W0 w1 ∧ s.under = [] ∧ s.top.kids = R.2)) := Lib.hid ⟨h1.below, fun hz => by
        rw [HEND.out] at hz ⊢
        refine ⟨s, vl, ob, oc, fs, D, h1, ?_, rfl⟩
        simp only [Sc.endE] at hz
        cases hu : s.under with
        | nil => rfl
        | cons a r => rw [hu] at hz; simp at hz⟩
      clear h1 hb1
      go_wp2_with fail
      (try rw [Exit.noGoto_ret])
      go_ret
      exact ⟨by rw [HEND.out]; rfl, HFIN.out⟩
end Go.Proofs.YtliiapdakojomabDoor
