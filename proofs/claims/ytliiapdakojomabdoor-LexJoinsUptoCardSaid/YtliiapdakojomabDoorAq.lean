/- lex: the scanner's takeAtom. -/
import Derived.Test.YtliiapdakojomabDoorAp
import Derived.Deep.LoopGhost
namespace Go.Proofs.YtliiapdakojomabDoor
open Go.RowKit

theorem S_mid (s : ByteArray) (a b : Nat) : s.extract a b = S (((L s).drop a).take (b - a)) := by
  apply ByteArray.ext
  unfold S L
  simp only [ByteArray.data_extract]
  apply Array.ext'
  simp [List.extract_eq_take_drop]
theorem tw_take (p : UInt8 → Bool) (r : List UInt8) : r.take (r.takeWhile p).length = r.takeWhile p := (List.prefix_iff_eq_take.1 (List.takeWhile_prefix p)).symm
/-- A local block is written over; all else is as it was but for the scanner's own block. -/
theorem sm_local {B P : Nat} {line : ByteArray} {vl : Value} {s s' : Sc} {ob oc : Nat} {fs : List Wc} {D : Nat → Prop} {W0 w7 Y X V : World} {i : Nat} {v : Value} (h7 : SmX B P line vl s ob oc fs D W0 w7) (hb7 : Below w7.heap.size w7 Y) (hX : SmX B P line vl s' ob oc fs D W0 X) (hbt : But P Y X) (hu : s'.under = s.under) (ht : s'.top = s.top) (hV : V = X.setCell ⟨w7.heap.size, i, none⟩ v) : SmX B P line vl s' ob oc fs D W0 V := by
  have hp := h7.plt
  have hb := h7.bP
  have hbV : But w7.heap.size X V := by rw [hV]; exact But.set _ _ _ _
  refine h7.put (by have := hb7.size; have := hbt.size; have := hbV.size; omega) (fun g hg hne => ?_) (by rw [hV]; exact hX.below.setCell (p := ⟨w7.heap.size, i, none⟩) (by show B ≤ w7.heap.size; omega) _) hu ht hX.lits ?_
  · rw [hbV.blk g (by have := hb7.size; have := hbt.size; omega) (by omega), hbt.blk g (by have := hb7.size; omega) hne, hb7.block g hg]
  · rw [hbV.blk P hX.plt (by omega)]
    exact hX.blk
set_option maxRecDepth 100000 in
set_option maxHeartbeats 8000000 in
theorem takeAtom_any {B P : Nat} {line : ByteArray} {vl : Value} {s : Sc} {ob oc : Nat} {fs : List Wc} {D : Nat → Prop} {W0 w : World} (h : SmX B P line vl s ob oc fs D W0 w) (hn : s.under.length ≤ 100) (hp : s.pos ≤ line.size) (hs : line.size ≤ 140737488355328) (hbg : s.begun ≤ 1000) (hk : s.top.kids.length ≤ 1000) :
    Calls Tryd.prog 60 #[.pointer (some ⟨P, 0, none⟩)] w fun e w' => e = .returned (.tuple #[]) ∧ ∃ fs', SmX B P line vl ({ s with pos := s.pos + (atomL (L line) s.pos).length, begun := s.begun + 1 }.add (Wd.mk 1 (S (atomL (L line) s.pos)) [] (s.word (L line)))) ob oc fs' D W0 w' := by
  obtain ⟨en, hen⟩ : ∃ n, n = s.pos + (atomL (L line) s.pos).length := ⟨_, rfl⟩
  have hle : en ≤ line.size := by
    have := tw_le wordC ((L line).drop s.pos)
    rw [List.length_drop, L_length] at this
    rw [hen]; unfold atomL; omega
  have hpe : s.pos ≤ en := by omega
  obtain ⟨tx, htx⟩ : ∃ tx, tx = S (atomL (L line) s.pos) := ⟨_, rfl⟩
  have hex : line.extract s.pos en = tx := by
    rw [htx, S_mid, hen, show s.pos + (atomL (L line) s.pos).length - s.pos = (atomL (L line) s.pos).length by omega]
    unfold atomL
    rw [tw_take]
  have HI : Hid (∀ j, s.pos ≤ j → j < en → j < line.size ∧ wordC (bt (L line) j) = true) := Lib.hid (fun j h1 hk => by
    have := tw_in (p := wordC) (r := (L line).drop s.pos) (k := j - s.pos) (by rw [hen] at hk; unfold atomL at hk; omega)
    rw [List.length_drop, L_length, bt_drop, show s.pos + (j - s.pos) = j by omega] at this
    exact ⟨by omega, this.2⟩)
  have HO : Hid (en < line.size → wordC (bt (L line) en) = false) := Lib.hid (fun hlt => by
    unfold atomL at hen
    have := tw_out (p := wordC) (r := (L line).drop s.pos) (by rw [List.length_drop, L_length]; omega)
    rw [bt_drop, ← hen] at this
    exact this)
  obtain ⟨wb, hwb⟩ : ∃ b, b = s.word (L line) := ⟨_, rfl⟩
  have HB := Lib.hid (begin_any 1 h hn hp hs hbg)
  rw [← hwb] at HB
  have HWB := Lib.hid hwb
  have HN := Lib.hid hen
  have HTX := Lib.hid htx
  have HEX := Lib.hid hex
  clear hwb hen htx h hex
  go_enter Tryd.func60, Tryd.ntmps60
  go_wp2_with fail
  refine HB.out.mono ?_
  rintro e w7 ⟨rfl, hsm7, _⟩
  have hPR : P ≠ w7.heap.size := by have := hsm7.plt; omega
  go_upto_region 1 with fail
  have hb7 : Below w7.heap.size w7 (w7.alloc (.cells #[.int .i64 1, .string ⟨#[]⟩, .slice none 0 0, .bool wb] 33)) := (Below.refl _ _).alloc (Nat.le_refl _) _
  have hR7 : (w7.alloc (.cells #[.int .i64 1, .string ⟨#[]⟩, .slice none 0 0, .bool wb] 33)).heap[w7.heap.size]? = some (.cells #[.int .i64 1, .string ⟨#[]⟩, .slice none 0 0, .bool wb] 33 (0, 0)) := heap_alloc_new w7 _
  generalize w7.alloc (.cells #[.int .i64 1, .string ⟨#[]⟩, .slice none 0 0, .bool wb] 33) = Y at *
  have hY := hsm7.on hb7
  obtain ⟨c0, c1, c2, c3, c4⟩ := hY.sv
  have HY := Lib.hid hY
  have HW7 := Lib.hid hsm7
  have HB7 := Lib.hid hb7
  have HR := Lib.hid hR7
  clear hY hR7 hb7 hsm7 HB
  go_wp2_with fail
  clear c0 c1 c2 c3 c4
  go_loopg [10] (en - s.pos) (fun gg _ wr => ∃ (j : Nat) (X : World), X = wr ∧ s.pos ≤ j ∧ j ≤ en ∧ en - j ≤ gg ∧ Hid (SmX B P line vl { s with begun := s.begun + 1, pos := j } ob oc fs D W0 X) ∧ Hid (But P Y X) ∧ Hid (X.heap[w7.heap.size]? = some (.cells #[.int .i64 1, .string ⟨#[]⟩, .slice none 0 0, .bool wb] 33 (0, 0))))
  case atStart => exact ⟨s.pos, _, rfl, Nat.le_refl _, hpe, Nat.le_refl _, HY, Lib.hid ⟨Nat.le_refl _, fun _ _ _ => rfl⟩, HR⟩
  case round =>
    clear HY HR
    obtain ⟨j, X, hX, hj0, hjn, hgg, HX, HBX, HRX⟩ := hrel
    subst hX
    have st : Sv P line j vl (s.begun + 1) (.slice (some ⟨ob, 0, none⟩) (s.under.length + 1) oc) X.drew := (HX.out.on ((Below.refl _ _).drew)).sv
    have HXD := Lib.hid (HX.out.on ((Below.refl _ _).drew))
    have HRD : Hid (X.drew.heap[w7.heap.size]? = some (.cells #[.int .i64 1, .string ⟨#[]⟩, .slice none 0 0, .bool wb] 33 (0, 0))) := HRX
    have HBD : Hid (But P Y X.drew) := Lib.hid ⟨HBX.out.size, HBX.out.blk⟩
    by_cases hlt : j < en
    · obtain ⟨hkl, hwd⟩ := HI.out j hj0 hlt
      have ea := get_btx line j hkl
      have hq1 : (j : Int) < (line.size : Int) := by omega
      have hq0 : (0 : Int) ≤ (j : Int) := by omega
      have h256 : (bt (L line) j).toNat < 256 := bt_lt _ _
      have HD := Lib.hid (fun W => bitsOf_any (bt (L line) j) W)
      have h6 := bits_six (bt (L line) j)
      have hbw := bits_word (bt (L line) j)
      rw [hwd] at hbw
      clear hwd
      generalize hB : bitsN (bt (L line) j) = Bn at *
      clear hB
      generalize bt (L line) j = c at *
      rcases h6 with rfl | rfl | rfl | rfl | rfl | rfl
      all_goals first
        | (exfalso; revert hbw; decide)
        | (clear hbw
           go_upto_region 2 with fail
           refine wp_region_held_drew (S := Sv P line j vl (s.begun + 1) (.slice (some ⟨ob, 0, none⟩) (s.under.length + 1) oc)) (by kernel_rfl) st (fun hHeld => ?_)
           clear hHeld
           refine wpAnyH_take (i := 0) (oi := { dst := some 10, op := Go.Op.move (Go.Operand.tmp 0), type := 87, pos := "scan.go:178", after := #[], guard := none }) (v := ?_) rfl (by kernel_rfl) (by kernel_rfl) (by kernel_rfl) (fun _ _ _ h => h) (Or.inl ⟨by kernel_rfl, ?_⟩) st ?_
           rotate_left
           · (intro X hX; (try dsimp only at hX); go_simp; try (with_reducible rfl))
           (try simp only [Act.put, List.setIfInBounds_toArray, List.set_cons_zero, List.set_cons_succ])
           refine wpAnyH_take (i := 1) (oi := { dst := some 11, op := Go.Op.nilCheck (Go.Operand.tmp 10), type := 0, pos := "scan.go:178", after := #[{ on := 0, ground := Go.Ground.data }], guard := none }) (v := ?_) rfl (by kernel_rfl) (by kernel_rfl) (by kernel_rfl) (fun _ _ _ h => h) (Or.inl ⟨by kernel_rfl, ?_⟩) st ?_
           rotate_left
           · (intro X hX; (try dsimp only at hX); go_simp; try (with_reducible rfl))
           (try simp only [Act.put, List.setIfInBounds_toArray, List.set_cons_zero, List.set_cons_succ])
           refine wpAnyH_take (i := 2) (oi := { dst := some 12, op := Go.Op.fieldAddr 67 (Go.Operand.tmp 11) 1, type := 0, pos := "scan.go:178", after := #[{ on := 1, ground := Go.Ground.data }], guard := none }) (v := ?_) rfl (by kernel_rfl) (by kernel_rfl) (by kernel_rfl) (fun _ _ _ h => h) (Or.inl ⟨by kernel_rfl, ?_⟩) st ?_
           rotate_left
           · (intro X hX; (try dsimp only at hX); go_simp; try (with_reducible rfl))
           (try simp only [Act.put, List.setIfInBounds_toArray, List.set_cons_zero, List.set_cons_succ])
           refine wpAnyH_take (i := 3) (oi := { dst := some 13, op := Go.Op.load 3 (Go.Operand.tmp 12), type := 3, pos := "scan.go:178", after := #[{ on := 2, ground := Go.Ground.data }], guard := none }) (v := ?_) rfl (by kernel_rfl) (by kernel_rfl) (by kernel_rfl) (fun _ _ _ h => h) (Or.inl ⟨by kernel_rfl, ?_⟩) st ?_
           rotate_left
           · (intro X hX; (try dsimp only at hX); go_simp; try (with_reducible rfl))
           (try simp only [Act.put, List.setIfInBounds_toArray, List.set_cons_zero, List.set_cons_succ])
           refine wpAnyH_take (i := 4) (oi := { dst := some 14, op := Go.Op.move (Go.Operand.tmp 0), type := 87, pos := "scan.go:178", after := #[], guard := none }) (v := ?_) rfl (by kernel_rfl) (by kernel_rfl) (by kernel_rfl) (fun _ _ _ h => h) (Or.inl ⟨by kernel_rfl, ?_⟩) st ?_
           rotate_left
           · (intro X hX; (try dsimp only at hX); go_simp; try (with_reducible rfl))
           (try simp only [Act.put, List.setIfInBounds_toArray, List.set_cons_zero, List.set_cons_succ])
           refine wpAnyH_take (i := 5) (oi := { dst := some 15, op := Go.Op.nilCheck (Go.Operand.tmp 14), type := 0, pos := "scan.go:178", after := #[{ on := 4, ground := Go.Ground.data }], guard := none }) (v := ?_) rfl (by kernel_rfl) (by kernel_rfl) (by kernel_rfl) (fun _ _ _ h => h) (Or.inl ⟨by kernel_rfl, ?_⟩) st ?_
           rotate_left
           · (intro X hX; (try dsimp only at hX); go_simp; try (with_reducible rfl))
           (try simp only [Act.put, List.setIfInBounds_toArray, List.set_cons_zero, List.set_cons_succ])
           refine wpAnyH_take (i := 6) (oi := { dst := some 16, op := Go.Op.fieldAddr 67 (Go.Operand.tmp 15) 0, type := 0, pos := "scan.go:178", after := #[{ on := 5, ground := Go.Ground.data }], guard := none }) (v := ?_) rfl (by kernel_rfl) (by kernel_rfl) (by kernel_rfl) (fun _ _ _ h => h) (Or.inl ⟨by kernel_rfl, ?_⟩) st ?_
           rotate_left
           · (intro X hX; (try dsimp only at hX); go_simp; try (with_reducible rfl))
           (try simp only [Act.put, List.setIfInBounds_toArray, List.set_cons_zero, List.set_cons_succ])
           refine wpAnyH_take (i := 7) (oi := { dst := some 17, op := Go.Op.load 9 (Go.Operand.tmp 16), type := 9, pos := "scan.go:178", after := #[{ on := 6, ground := Go.Ground.data }], guard := none }) (v := ?_) rfl (by kernel_rfl) (by kernel_rfl) (by kernel_rfl) (fun _ _ _ h => h) (Or.inl ⟨by kernel_rfl, ?_⟩) st ?_
           rotate_left
           · (intro X hX; (try dsimp only at hX); go_simp; try (with_reducible rfl))
           (try simp only [Act.put, List.setIfInBounds_toArray, List.set_cons_zero, List.set_cons_succ])
           refine wpAnyH_take (i := 8) (oi := { dst := some 18, op := Go.Op.call { callee := Go.Callee.builtin Go.Builtin.len, args := #[Go.Operand.tmp 17], argTypes := #[9] }, type := 3, pos := "scan.go:178", after := #[{ on := 7, ground := Go.Ground.data }], guard := none }) (v := ?_) rfl (by kernel_rfl) (by kernel_rfl) (by kernel_rfl) (fun _ _ _ h => h) (Or.inl ⟨by kernel_rfl, ?_⟩) st ?_
           rotate_left
           · (intro X hX; (try dsimp only at hX); go_simp; try (with_reducible rfl))
           (try simp only [Act.put, List.setIfInBounds_toArray, List.set_cons_zero, List.set_cons_succ])
           refine wpAnyH_take (i := 9) (oi := { dst := some 19, op := Go.Op.binOp Go.BinOp.lss 3 (Go.Operand.tmp 13) (Go.Operand.tmp 18) 3, type := 4, pos := "scan.go:178", after := #[{ on := 3, ground := Go.Ground.data }, { on := 8, ground := Go.Ground.data }], guard := none }) (v := ?_) rfl (by kernel_rfl) (by kernel_rfl) (by kernel_rfl) (fun _ _ _ h => h) (Or.inl ⟨by kernel_rfl, ?_⟩) st ?_
           rotate_left
           · (intro X hX; (try dsimp only at hX); go_simp; try (with_reducible rfl))
           (try simp only [Act.put, List.setIfInBounds_toArray, List.set_cons_zero, List.set_cons_succ])
           refine wpAnyH_take (i := 10) (oi := { dst := some 20, op := Go.Op.move (Go.Operand.tmp 19), type := 4, pos := "scan.go:178", after := #[{ on := 9, ground := Go.Ground.data }], guard := none }) (v := ?_) rfl (by kernel_rfl) (by kernel_rfl) (by kernel_rfl) (fun _ _ _ h => h) (Or.inl ⟨by kernel_rfl, ?_⟩) st ?_
           rotate_left
           · (intro X hX; (try dsimp only at hX); go_simp; try (with_reducible rfl))
           (try simp only [Act.put, List.setIfInBounds_toArray, List.set_cons_zero, List.set_cons_succ])
           refine wpAnyH_take (i := 11) (oi := { dst := some 21, op := Go.Op.move (Go.Operand.tmp 0), type := 87, pos := "scan.go:178", after := #[{ on := 10, ground := Go.Ground.guard }], guard := some (10, true) }) (v := ?_) rfl (by kernel_rfl) (by kernel_rfl) (by kernel_rfl) (fun _ _ _ h => h) (Or.inl ⟨by kernel_rfl, ?_⟩) st ?_
           rotate_left
           · (intro X hX; (try dsimp only at hX); go_simp; try (with_reducible rfl))
           (try simp only [Act.put, List.setIfInBounds_toArray, List.set_cons_zero, List.set_cons_succ])
           refine wpAnyH_take (i := 12) (oi := { dst := some 22, op := Go.Op.nilCheck (Go.Operand.tmp 21), type := 0, pos := "scan.go:178", after := #[{ on := 11, ground := Go.Ground.data }, { on := 10, ground := Go.Ground.guard }], guard := some (10, true) }) (v := ?_) rfl (by kernel_rfl) (by kernel_rfl) (by kernel_rfl) (fun _ _ _ h => h) (Or.inl ⟨by kernel_rfl, ?_⟩) st ?_
           rotate_left
           · (intro X hX; (try dsimp only at hX); go_simp; try (with_reducible rfl))
           (try simp only [Act.put, List.setIfInBounds_toArray, List.set_cons_zero, List.set_cons_succ])
           refine wpAnyH_take (i := 13) (oi := { dst := some 23, op := Go.Op.fieldAddr 67 (Go.Operand.tmp 22) 0, type := 0, pos := "scan.go:178", after := #[{ on := 12, ground := Go.Ground.data }, { on := 10, ground := Go.Ground.guard }], guard := some (10, true) }) (v := ?_) rfl (by kernel_rfl) (by kernel_rfl) (by kernel_rfl) (fun _ _ _ h => h) (Or.inl ⟨by kernel_rfl, ?_⟩) st ?_
           rotate_left
           · (intro X hX; (try dsimp only at hX); go_simp; try (with_reducible rfl))
           (try simp only [Act.put, List.setIfInBounds_toArray, List.set_cons_zero, List.set_cons_succ])
           refine wpAnyH_take (i := 14) (oi := { dst := some 24, op := Go.Op.load 9 (Go.Operand.tmp 23), type := 9, pos := "scan.go:178", after := #[{ on := 13, ground := Go.Ground.data }, { on := 10, ground := Go.Ground.guard }], guard := some (10, true) }) (v := ?_) rfl (by kernel_rfl) (by kernel_rfl) (by kernel_rfl) (fun _ _ _ h => h) (Or.inl ⟨by kernel_rfl, ?_⟩) st ?_
           rotate_left
           · (intro X hX; (try dsimp only at hX); go_simp; try (with_reducible rfl))
           (try simp only [Act.put, List.setIfInBounds_toArray, List.set_cons_zero, List.set_cons_succ])
           refine wpAnyH_take (i := 15) (oi := { dst := some 25, op := Go.Op.move (Go.Operand.tmp 0), type := 87, pos := "scan.go:178", after := #[{ on := 10, ground := Go.Ground.guard }], guard := some (10, true) }) (v := ?_) rfl (by kernel_rfl) (by kernel_rfl) (by kernel_rfl) (fun _ _ _ h => h) (Or.inl ⟨by kernel_rfl, ?_⟩) st ?_
           rotate_left
           · (intro X hX; (try dsimp only at hX); go_simp; try (with_reducible rfl))
           (try simp only [Act.put, List.setIfInBounds_toArray, List.set_cons_zero, List.set_cons_succ])
           refine wpAnyH_take (i := 16) (oi := { dst := some 26, op := Go.Op.nilCheck (Go.Operand.tmp 25), type := 0, pos := "scan.go:178", after := #[{ on := 15, ground := Go.Ground.data }, { on := 10, ground := Go.Ground.guard }], guard := some (10, true) }) (v := ?_) rfl (by kernel_rfl) (by kernel_rfl) (by kernel_rfl) (fun _ _ _ h => h) (Or.inl ⟨by kernel_rfl, ?_⟩) st ?_
           rotate_left
           · (intro X hX; (try dsimp only at hX); go_simp; try (with_reducible rfl))
           (try simp only [Act.put, List.setIfInBounds_toArray, List.set_cons_zero, List.set_cons_succ])
           refine wpAnyH_take (i := 17) (oi := { dst := some 27, op := Go.Op.fieldAddr 67 (Go.Operand.tmp 26) 1, type := 0, pos := "scan.go:178", after := #[{ on := 16, ground := Go.Ground.data }, { on := 10, ground := Go.Ground.guard }], guard := some (10, true) }) (v := ?_) rfl (by kernel_rfl) (by kernel_rfl) (by kernel_rfl) (fun _ _ _ h => h) (Or.inl ⟨by kernel_rfl, ?_⟩) st ?_
           rotate_left
           · (intro X hX; (try dsimp only at hX); go_simp; try (with_reducible rfl))
           (try simp only [Act.put, List.setIfInBounds_toArray, List.set_cons_zero, List.set_cons_succ])
           refine wpAnyH_take (i := 18) (oi := { dst := some 28, op := Go.Op.load 3 (Go.Operand.tmp 27), type := 3, pos := "scan.go:178", after := #[{ on := 17, ground := Go.Ground.data }, { on := 10, ground := Go.Ground.guard }], guard := some (10, true) }) (v := ?_) rfl (by kernel_rfl) (by kernel_rfl) (by kernel_rfl) (fun _ _ _ h => h) (Or.inl ⟨by kernel_rfl, ?_⟩) st ?_
           rotate_left
           · (intro X hX; (try dsimp only at hX); go_simp; try (with_reducible rfl))
           (try simp only [Act.put, List.setIfInBounds_toArray, List.set_cons_zero, List.set_cons_succ])
           refine wpAnyH_take (i := 19) (oi := { dst := some 29, op := Go.Op.index 9 (Go.Operand.tmp 24) (Go.Operand.tmp 28), type := 5, pos := "scan.go:178", after := #[{ on := 14, ground := Go.Ground.data }, { on := 18, ground := Go.Ground.data }, { on := 10, ground := Go.Ground.guard }], guard := some (10, true) }) (v := .int .u8 (c.toNat : Int)) rfl (by kernel_rfl) (by kernel_rfl) (by kernel_rfl) (fun _ _ _ h => h) (Or.inl ⟨by kernel_rfl, ?_⟩) st ?_
           · (intro X hX; (try dsimp only at hX); go_simp; try simp [ea])
           (try simp only [Act.put, List.setIfInBounds_toArray, List.set_cons_zero, List.set_cons_succ])
           refine wpAnyH_ready (rs := [20]) (by kernel_rfl) (by simp) ?_
           refine AllReadyH.cons (o := { dst := some 30, op := Go.Op.call { callee := Go.Callee.value (Go.Operand.func 67), args := #[Go.Operand.tmp 29], argTypes := #[5] }, type := 3, pos := "scan.go:178", after := #[{ on := 19, ground := Go.Ground.data }, { on := 10, ground := Go.Ground.chain }, { on := 10, ground := Go.Ground.guard }], guard := some (10, true) }) rfl (fun K hK => ?_) AllReadyH.nil
           go_simp
           refine (HD.out _).mono ?_
           rintro e w2 ⟨rfl, hw2⟩
           subst hw2
           dsimp only
           refine hK.out _ _ st (fun hHeld => ?_)
           clear hHeld hK K
           (try simp only [Act.put, List.setIfInBounds_toArray, List.set_cons_zero, List.set_cons_succ])
           refine wpAnyH_take (i := 21) (oi := { dst := some 31, op := Go.Op.binOp Go.BinOp.and 3 (Go.Operand.tmp 30) (Go.Operand.const (Go.Value.int Go.IntKind.i64 8)) 3, type := 3, pos := "scan.go:178", after := #[{ on := 20, ground := Go.Ground.data }, { on := 10, ground := Go.Ground.guard }], guard := some (10, true) }) (v := ?_) rfl (by kernel_rfl) (by kernel_rfl) (by kernel_rfl) (fun _ _ _ h => h) (Or.inl ⟨by kernel_rfl, ?_⟩) st ?_
           rotate_left
           · (intro X hX; (try dsimp only at hX); go_simp; try (with_reducible rfl))
           (try simp only [Act.put, List.setIfInBounds_toArray, List.set_cons_zero, List.set_cons_succ])
           refine wpAnyH_take (i := 22) (oi := { dst := some 32, op := Go.Op.binOp Go.BinOp.neq 3 (Go.Operand.tmp 31) (Go.Operand.const (Go.Value.int Go.IntKind.i64 0)) 3, type := 4, pos := "scan.go:178", after := #[{ on := 21, ground := Go.Ground.data }, { on := 10, ground := Go.Ground.guard }], guard := some (10, true) }) (v := ?_) rfl (by kernel_rfl) (by kernel_rfl) (by kernel_rfl) (fun _ _ _ h => h) (Or.inl ⟨by kernel_rfl, ?_⟩) st ?_
           rotate_left
           · (intro X hX; (try dsimp only at hX); go_simp; try (with_reducible rfl))
           (try simp only [Act.put, List.setIfInBounds_toArray, List.set_cons_zero, List.set_cons_succ])
           refine wpAnyH_take (i := 23) (oi := { dst := some 33, op := Go.Op.pick (Go.Operand.tmp 20) (Go.Operand.tmp 32) (Go.Operand.const (Go.Value.bool false)), type := 4, pos := "scan.go:178", after := #[{ on := 10, ground := Go.Ground.data }, { on := 22, ground := Go.Ground.data }], guard := none }) (v := ?_) rfl (by kernel_rfl) (by kernel_rfl) (by kernel_rfl) (fun _ _ _ h => h) (Or.inl ⟨by kernel_rfl, ?_⟩) st ?_
           rotate_left
           · (intro X hX; (try dsimp only at hX); go_simp; try (with_reducible rfl))
           (try simp only [Act.put, List.setIfInBounds_toArray, List.set_cons_zero, List.set_cons_succ])
           refine wpAnyH_done (by kernel_rfl) ?_ _
           generalize X.drew = X2 at *
           obtain ⟨c0, c1, c2, c3, c4⟩ := st
           have f1 := HXD.out.free 1
           have h4 := HXD.out.setPos (j + 1)
           have hb4 := HBD.out.then (But.set P 1 (.int .i64 (j + 1 : Nat)) X2)
           rw [show ((j + 1 : Nat) : Int) = (j : Int) + 1 by omega] at h4 hb4
           have hR4 : (X2.setCell ⟨P, 1, none⟩ (.int .i64 ((j : Int) + 1))).heap[w7.heap.size]? = some (.cells #[.int .i64 1, .string ⟨#[]⟩, .slice none 0 0, .bool wb] 33 (0, 0)) := (heap_setCell_other X2 ⟨P, 1, none⟩ w7.heap.size _ (by simpa using hPR.symm)).trans HRD.out
           have H4 := Lib.hid h4
           have HR4 := Lib.hid hR4
           have HB4 := Lib.hid hb4
           clear h4 hR4 hb4 HXD HRD HX HRX HBD HBX
           go_wp2_with fail
           go_roundg (en - (j + 1))
           case measure => omega
           case rel => exact ⟨j + 1, _, rfl, by omega, by omega, Nat.le_refl _, H4, HB4, HR4⟩)
    · obtain rfl : en = j := by omega
      by_cases hz : en < line.size
      · have hwd := HO.out hz
        have ea := get_btx line en hz
        have hq1 : (en : Int) < (line.size : Int) := by omega
        have hq0 : (0 : Int) ≤ (en : Int) := by omega
        have h256 : (bt (L line) en).toNat < 256 := bt_lt _ _
        have HD := Lib.hid (fun W => bitsOf_any (bt (L line) en) W)
        have h6 := bits_six (bt (L line) en)
        have hbw := bits_word (bt (L line) en)
        rw [hwd] at hbw
        clear hwd
        generalize hB : bitsN (bt (L line) en) = Bn at *
        clear hB
        generalize bt (L line) en = c at *
        rcases h6 with rfl | rfl | rfl | rfl | rfl | rfl
        all_goals first
          | (exfalso; revert hbw; decide)
          | (clear hbw
             go_upto_region 2 with fail
             refine wp_region_held_drew (S := Sv P line en vl (s.begun + 1) (.slice (some ⟨ob, 0, none⟩) (s.under.length + 1) oc)) (by kernel_rfl) st (fun hHeld => ?_)
             clear hHeld
             refine wpAnyH_take (i := 0) (oi := { dst := some 10, op := Go.Op.move (Go.Operand.tmp 0), type := 87, pos := "scan.go:178", after := #[], guard := none }) (v := ?_) rfl (by kernel_rfl) (by kernel_rfl) (by kernel_rfl) (fun _ _ _ h => h) (Or.inl ⟨by kernel_rfl, ?_⟩) st ?_
             rotate_left
             · (intro X hX; (try dsimp only at hX); go_simp; try (with_reducible rfl))
             (try simp only [Act.put, List.setIfInBounds_toArray, List.set_cons_zero, List.set_cons_succ])
             refine wpAnyH_take (i := 1) (oi := { dst := some 11, op := Go.Op.nilCheck (Go.Operand.tmp 10), type := 0, pos := "scan.go:178", after := #[{ on := 0, ground := Go.Ground.data }], guard := none }) (v := ?_) rfl (by kernel_rfl) (by kernel_rfl) (by kernel_rfl) (fun _ _ _ h => h) (Or.inl ⟨by kernel_rfl, ?_⟩) st ?_
             rotate_left
             · (intro X hX; (try dsimp only at hX); go_simp; try (with_reducible rfl))
             (try simp only [Act.put, List.setIfInBounds_toArray, List.set_cons_zero, List.set_cons_succ])
             refine wpAnyH_take (i := 2) (oi := { dst := some 12, op := Go.Op.fieldAddr 67 (Go.Operand.tmp 11) 1, type := 0, pos := "scan.go:178", after := #[{ on := 1, ground := Go.Ground.data }], guard := none }) (v := ?_) rfl (by kernel_rfl) (by kernel_rfl) (by kernel_rfl) (fun _ _ _ h => h) (Or.inl ⟨by kernel_rfl, ?_⟩) st ?_
             rotate_left
             · (intro X hX; (try dsimp only at hX); go_simp; try (with_reducible rfl))
             (try simp only [Act.put, List.setIfInBounds_toArray, List.set_cons_zero, List.set_cons_succ])
             refine wpAnyH_take (i := 3) (oi := { dst := some 13, op := Go.Op.load 3 (Go.Operand.tmp 12), type := 3, pos := "scan.go:178", after := #[{ on := 2, ground := Go.Ground.data }], guard := none }) (v := ?_) rfl (by kernel_rfl) (by kernel_rfl) (by kernel_rfl) (fun _ _ _ h => h) (Or.inl ⟨by kernel_rfl, ?_⟩) st ?_
             rotate_left
             · (intro X hX; (try dsimp only at hX); go_simp; try (with_reducible rfl))
             (try simp only [Act.put, List.setIfInBounds_toArray, List.set_cons_zero, List.set_cons_succ])
             refine wpAnyH_take (i := 4) (oi := { dst := some 14, op := Go.Op.move (Go.Operand.tmp 0), type := 87, pos := "scan.go:178", after := #[], guard := none }) (v := ?_) rfl (by kernel_rfl) (by kernel_rfl) (by kernel_rfl) (fun _ _ _ h => h) (Or.inl ⟨by kernel_rfl, ?_⟩) st ?_
             rotate_left
             · (intro X hX; (try dsimp only at hX); go_simp; try (with_reducible rfl))
             (try simp only [Act.put, List.setIfInBounds_toArray, List.set_cons_zero, List.set_cons_succ])
             refine wpAnyH_take (i := 5) (oi := { dst := some 15, op := Go.Op.nilCheck (Go.Operand.tmp 14), type := 0, pos := "scan.go:178", after := #[{ on := 4, ground := Go.Ground.data }], guard := none }) (v := ?_) rfl (by kernel_rfl) (by kernel_rfl) (by kernel_rfl) (fun _ _ _ h => h) (Or.inl ⟨by kernel_rfl, ?_⟩) st ?_
             rotate_left
             · (intro X hX; (try dsimp only at hX); go_simp; try (with_reducible rfl))
             (try simp only [Act.put, List.setIfInBounds_toArray, List.set_cons_zero, List.set_cons_succ])
             refine wpAnyH_take (i := 6) (oi := { dst := some 16, op := Go.Op.fieldAddr 67 (Go.Operand.tmp 15) 0, type := 0, pos := "scan.go:178", after := #[{ on := 5, ground := Go.Ground.data }], guard := none }) (v := ?_) rfl (by kernel_rfl) (by kernel_rfl) (by kernel_rfl) (fun _ _ _ h => h) (Or.inl ⟨by kernel_rfl, ?_⟩) st ?_
             rotate_left
             · (intro X hX; (try dsimp only at hX); go_simp; try (with_reducible rfl))
             (try simp only [Act.put, List.setIfInBounds_toArray, List.set_cons_zero, List.set_cons_succ])
             refine wpAnyH_take (i := 7) (oi := { dst := some 17, op := Go.Op.load 9 (Go.Operand.tmp 16), type := 9, pos := "scan.go:178", after := #[{ on := 6, ground := Go.Ground.data }], guard := none }) (v := ?_) rfl (by kernel_rfl) (by kernel_rfl) (by kernel_rfl) (fun _ _ _ h => h) (Or.inl ⟨by kernel_rfl, ?_⟩) st ?_
             rotate_left
             · (intro X hX; (try dsimp only at hX); go_simp; try (with_reducible rfl))
             (try simp only [Act.put, List.setIfInBounds_toArray, List.set_cons_zero, List.set_cons_succ])
             refine wpAnyH_take (i := 8) (oi := { dst := some 18, op := Go.Op.call { callee := Go.Callee.builtin Go.Builtin.len, args := #[Go.Operand.tmp 17], argTypes := #[9] }, type := 3, pos := "scan.go:178", after := #[{ on := 7, ground := Go.Ground.data }], guard := none }) (v := ?_) rfl (by kernel_rfl) (by kernel_rfl) (by kernel_rfl) (fun _ _ _ h => h) (Or.inl ⟨by kernel_rfl, ?_⟩) st ?_
             rotate_left
             · (intro X hX; (try dsimp only at hX); go_simp; try (with_reducible rfl))
             (try simp only [Act.put, List.setIfInBounds_toArray, List.set_cons_zero, List.set_cons_succ])
             refine wpAnyH_take (i := 9) (oi := { dst := some 19, op := Go.Op.binOp Go.BinOp.lss 3 (Go.Operand.tmp 13) (Go.Operand.tmp 18) 3, type := 4, pos := "scan.go:178", after := #[{ on := 3, ground := Go.Ground.data }, { on := 8, ground := Go.Ground.data }], guard := none }) (v := ?_) rfl (by kernel_rfl) (by kernel_rfl) (by kernel_rfl) (fun _ _ _ h => h) (Or.inl ⟨by kernel_rfl, ?_⟩) st ?_
             rotate_left
             · (intro X hX; (try dsimp only at hX); go_simp; try (with_reducible rfl))
             (try simp only [Act.put, List.setIfInBounds_toArray, List.set_cons_zero, List.set_cons_succ])
             refine wpAnyH_take (i := 10) (oi := { dst := some 20, op := Go.Op.move (Go.Operand.tmp 19), type := 4, pos := "scan.go:178", after := #[{ on := 9, ground := Go.Ground.data }], guard := none }) (v := ?_) rfl (by kernel_rfl) (by kernel_rfl) (by kernel_rfl) (fun _ _ _ h => h) (Or.inl ⟨by kernel_rfl, ?_⟩) st ?_
             rotate_left
             · (intro X hX; (try dsimp only at hX); go_simp; try (with_reducible rfl))
             (try simp only [Act.put, List.setIfInBounds_toArray, List.set_cons_zero, List.set_cons_succ])
             refine wpAnyH_take (i := 11) (oi := { dst := some 21, op := Go.Op.move (Go.Operand.tmp 0), type := 87, pos := "scan.go:178", after := #[{ on := 10, ground := Go.Ground.guard }], guard := some (10, true) }) (v := ?_) rfl (by kernel_rfl) (by kernel_rfl) (by kernel_rfl) (fun _ _ _ h => h) (Or.inl ⟨by kernel_rfl, ?_⟩) st ?_
             rotate_left
             · (intro X hX; (try dsimp only at hX); go_simp; try (with_reducible rfl))
             (try simp only [Act.put, List.setIfInBounds_toArray, List.set_cons_zero, List.set_cons_succ])
             refine wpAnyH_take (i := 12) (oi := { dst := some 22, op := Go.Op.nilCheck (Go.Operand.tmp 21), type := 0, pos := "scan.go:178", after := #[{ on := 11, ground := Go.Ground.data }, { on := 10, ground := Go.Ground.guard }], guard := some (10, true) }) (v := ?_) rfl (by kernel_rfl) (by kernel_rfl) (by kernel_rfl) (fun _ _ _ h => h) (Or.inl ⟨by kernel_rfl, ?_⟩) st ?_
             rotate_left
             · (intro X hX; (try dsimp only at hX); go_simp; try (with_reducible rfl))
             (try simp only [Act.put, List.setIfInBounds_toArray, List.set_cons_zero, List.set_cons_succ])
             refine wpAnyH_take (i := 13) (oi := { dst := some 23, op := Go.Op.fieldAddr 67 (Go.Operand.tmp 22) 0, type := 0, pos := "scan.go:178", after := #[{ on := 12, ground := Go.Ground.data }, { on := 10, ground := Go.Ground.guard }], guard := some (10, true) }) (v := ?_) rfl (by kernel_rfl) (by kernel_rfl) (by kernel_rfl) (fun _ _ _ h => h) (Or.inl ⟨by kernel_rfl, ?_⟩) st ?_
             rotate_left
             · (intro X hX; (try dsimp only at hX); go_simp; try (with_reducible rfl))
             (try simp only [Act.put, List.setIfInBounds_toArray, List.set_cons_zero, List.set_cons_succ])
             refine wpAnyH_take (i := 14) (oi := { dst := some 24, op := Go.Op.load 9 (Go.Operand.tmp 23), type := 9, pos := "scan.go:178", after := #[{ on := 13, ground := Go.Ground.data }, { on := 10, ground := Go.Ground.guard }], guard := some (10, true) }) (v := ?_) rfl (by kernel_rfl) (by kernel_rfl) (by kernel_rfl) (fun _ _ _ h => h) (Or.inl ⟨by kernel_rfl, ?_⟩) st ?_
             rotate_left
             · (intro X hX; (try dsimp only at hX); go_simp; try (with_reducible rfl))
             (try simp only [Act.put, List.setIfInBounds_toArray, List.set_cons_zero, List.set_cons_succ])
             refine wpAnyH_take (i := 15) (oi := { dst := some 25, op := Go.Op.move (Go.Operand.tmp 0), type := 87, pos := "scan.go:178", after := #[{ on := 10, ground := Go.Ground.guard }], guard := some (10, true) }) (v := ?_) rfl (by kernel_rfl) (by kernel_rfl) (by kernel_rfl) (fun _ _ _ h => h) (Or.inl ⟨by kernel_rfl, ?_⟩) st ?_
             rotate_left
             · (intro X hX; (try dsimp only at hX); go_simp; try (with_reducible rfl))
             (try simp only [Act.put, List.setIfInBounds_toArray, List.set_cons_zero, List.set_cons_succ])
             refine wpAnyH_take (i := 16) (oi := { dst := some 26, op := Go.Op.nilCheck (Go.Operand.tmp 25), type := 0, pos := "scan.go:178", after := #[{ on := 15, ground := Go.Ground.data }, { on := 10, ground := Go.Ground.guard }], guard := some (10, true) }) (v := ?_) rfl (by kernel_rfl) (by kernel_rfl) (by kernel_rfl) (fun _ _ _ h => h) (Or.inl ⟨by kernel_rfl, ?_⟩) st ?_
             rotate_left
             · (intro X hX; (try dsimp only at hX); go_simp; try (with_reducible rfl))
             (try simp only [Act.put, List.setIfInBounds_toArray, List.set_cons_zero, List.set_cons_succ])
             refine wpAnyH_take (i := 17) (oi := { dst := some 27, op := Go.Op.fieldAddr 67 (Go.Operand.tmp 26) 1, type := 0, pos := "scan.go:178", after := #[{ on := 16, ground := Go.Ground.data }, { on := 10, ground := Go.Ground.guard }], guard := some (10, true) }) (v := ?_) rfl (by kernel_rfl) (by kernel_rfl) (by kernel_rfl) (fun _ _ _ h => h) (Or.inl ⟨by kernel_rfl, ?_⟩) st ?_
             rotate_left
             · (intro X hX; (try dsimp only at hX); go_simp; try (with_reducible rfl))
             (try simp only [Act.put, List.setIfInBounds_toArray, List.set_cons_zero, List.set_cons_succ])
             refine wpAnyH_take (i := 18) (oi := { dst := some 28, op := Go.Op.load 3 (Go.Operand.tmp 27), type := 3, pos := "scan.go:178", after := #[{ on := 17, ground := Go.Ground.data }, { on := 10, ground := Go.Ground.guard }], guard := some (10, true) }) (v := ?_) rfl (by kernel_rfl) (by kernel_rfl) (by kernel_rfl) (fun _ _ _ h => h) (Or.inl ⟨by kernel_rfl, ?_⟩) st ?_
             rotate_left
             · (intro X hX; (try dsimp only at hX); go_simp; try (with_reducible rfl))
             (try simp only [Act.put, List.setIfInBounds_toArray, List.set_cons_zero, List.set_cons_succ])
             refine wpAnyH_take (i := 19) (oi := { dst := some 29, op := Go.Op.index 9 (Go.Operand.tmp 24) (Go.Operand.tmp 28), type := 5, pos := "scan.go:178", after := #[{ on := 14, ground := Go.Ground.data }, { on := 18, ground := Go.Ground.data }, { on := 10, ground := Go.Ground.guard }], guard := some (10, true) }) (v := .int .u8 (c.toNat : Int)) rfl (by kernel_rfl) (by kernel_rfl) (by kernel_rfl) (fun _ _ _ h => h) (Or.inl ⟨by kernel_rfl, ?_⟩) st ?_
             · (intro X hX; (try dsimp only at hX); go_simp; try simp [ea])
             (try simp only [Act.put, List.setIfInBounds_toArray, List.set_cons_zero, List.set_cons_succ])
             refine wpAnyH_ready (rs := [20]) (by kernel_rfl) (by simp) ?_
             refine AllReadyH.cons (o := { dst := some 30, op := Go.Op.call { callee := Go.Callee.value (Go.Operand.func 67), args := #[Go.Operand.tmp 29], argTypes := #[5] }, type := 3, pos := "scan.go:178", after := #[{ on := 19, ground := Go.Ground.data }, { on := 10, ground := Go.Ground.chain }, { on := 10, ground := Go.Ground.guard }], guard := some (10, true) }) rfl (fun K hK => ?_) AllReadyH.nil
             go_simp
             refine (HD.out _).mono ?_
             rintro e w2 ⟨rfl, hw2⟩
             subst hw2
             dsimp only
             refine hK.out _ _ st (fun hHeld => ?_)
             clear hHeld hK K
             (try simp only [Act.put, List.setIfInBounds_toArray, List.set_cons_zero, List.set_cons_succ])
             refine wpAnyH_take (i := 21) (oi := { dst := some 31, op := Go.Op.binOp Go.BinOp.and 3 (Go.Operand.tmp 30) (Go.Operand.const (Go.Value.int Go.IntKind.i64 8)) 3, type := 3, pos := "scan.go:178", after := #[{ on := 20, ground := Go.Ground.data }, { on := 10, ground := Go.Ground.guard }], guard := some (10, true) }) (v := ?_) rfl (by kernel_rfl) (by kernel_rfl) (by kernel_rfl) (fun _ _ _ h => h) (Or.inl ⟨by kernel_rfl, ?_⟩) st ?_
             rotate_left
             · (intro X hX; (try dsimp only at hX); go_simp; try (with_reducible rfl))
             (try simp only [Act.put, List.setIfInBounds_toArray, List.set_cons_zero, List.set_cons_succ])
             refine wpAnyH_take (i := 22) (oi := { dst := some 32, op := Go.Op.binOp Go.BinOp.neq 3 (Go.Operand.tmp 31) (Go.Operand.const (Go.Value.int Go.IntKind.i64 0)) 3, type := 4, pos := "scan.go:178", after := #[{ on := 21, ground := Go.Ground.data }, { on := 10, ground := Go.Ground.guard }], guard := some (10, true) }) (v := ?_) rfl (by kernel_rfl) (by kernel_rfl) (by kernel_rfl) (fun _ _ _ h => h) (Or.inl ⟨by kernel_rfl, ?_⟩) st ?_
             rotate_left
             · (intro X hX; (try dsimp only at hX); go_simp; try (with_reducible rfl))
             (try simp only [Act.put, List.setIfInBounds_toArray, List.set_cons_zero, List.set_cons_succ])
             refine wpAnyH_take (i := 23) (oi := { dst := some 33, op := Go.Op.pick (Go.Operand.tmp 20) (Go.Operand.tmp 32) (Go.Operand.const (Go.Value.bool false)), type := 4, pos := "scan.go:178", after := #[{ on := 10, ground := Go.Ground.data }, { on := 22, ground := Go.Ground.data }], guard := none }) (v := ?_) rfl (by kernel_rfl) (by kernel_rfl) (by kernel_rfl) (fun _ _ _ h => h) (Or.inl ⟨by kernel_rfl, ?_⟩) st ?_
             rotate_left
             · (intro X hX; (try dsimp only at hX); go_simp; try (with_reducible rfl))
             (try simp only [Act.put, List.setIfInBounds_toArray, List.set_cons_zero, List.set_cons_succ])
             refine wpAnyH_done (by kernel_rfl) ?_ _
             generalize X.drew = X2 at *
             have st4 : Sv P line en vl (s.begun + 1) (.slice (some ⟨ob, 0, none⟩) (s.under.length + 1) oc) X2.drew := (HXD.out.on ((Below.refl _ _).drew)).sv
             have H5 := Lib.hid (HXD.out.on ((Below.refl _ _).drew))
             have q1 : X2.drew.cell? ⟨w7.heap.size, 1, none⟩ = some (.string ⟨#[]⟩) := cell_of_row _ _ 1 _ _ _ HRD.out
             have f1 : X2.drew.frozen? ⟨w7.heap.size, 1, none⟩ = false := frozen_of_row _ _ 1 _ _ HRD.out
             have hex := HEX.out
             have hz1 : (s.pos : Int) ≤ (en : Int) := by omega
             have hz2 : (en : Int) ≤ (line.size : Int) := by omega
             have hz0 : (0 : Int) ≤ (s.pos : Int) := by omega
             have hR6 : (X2.drew.setCell ⟨w7.heap.size, 1, none⟩ (.string tx)).heap[w7.heap.size]? = some (.cells #[.int .i64 1, .string tx, .slice none 0 0, .bool wb] 33 (0, 0)) := by
               have := heap_setCell_same X2.drew w7.heap.size 1 _ _ (.string tx) HRD.out
               simpa using this
             have h6 : SmX B P line vl { s with begun := s.begun + 1, pos := en } ob oc fs D W0 (X2.drew.setCell ⟨w7.heap.size, 1, none⟩ (.string tx)) := sm_local HW7.out HB7.out H5.out ⟨HBD.out.size, HBD.out.blk⟩ rfl rfl rfl
             have HR6 := Lib.hid hR6
             have H6 := Lib.hid h6
             clear h6 hR6 HXD HRD HX HRX H5 st HBD HBX HB7 HW7
             have st := st4
             clear st4
             go_upto_region 4 with fail
             refine wp_region_N 11 (Sv P line en vl (s.begun + 1) (.slice (some ⟨ob, 0, none⟩) (s.under.length + 1) oc)) (by kernel_rfl) ?_
             refine wpAnyN_take (i := 0) (oi := { dst := some 41, op := Go.Op.move (Go.Operand.tmp 0), type := 87, pos := "scan.go:181", after := #[], guard := none }) (oL := { dst := none, op := Go.Op.store 9 (Go.Operand.tmp 51) (Go.Operand.tmp 50), type := 0, pos := "scan.go:181", after := #[{ on := 10, ground := Go.Ground.data }, { on := 9, ground := Go.Ground.data }, { on := 0, ground := Go.Ground.phase }, { on := 1, ground := Go.Ground.phase }, { on := 2, ground := Go.Ground.phase }, { on := 3, ground := Go.Ground.phase }, { on := 4, ground := Go.Ground.phase }, { on := 5, ground := Go.Ground.phase }, { on := 6, ground := Go.Ground.phase }, { on := 7, ground := Go.Ground.phase }, { on := 8, ground := Go.Ground.phase }, { on := 9, ground := Go.Ground.phase }], guard := none }) (v := ?_) rfl rfl (by kernel_rfl) (by kernel_rfl) (by kernel_rfl) (by kernel_rfl) (fun _ _ _ h => h) (Or.inl ⟨by kernel_rfl, ?_⟩) st ?_
             rotate_left
             · (intro X hX; (try dsimp only at hX); go_simp; try (with_reducible rfl))
             (try simp only [Act.put, List.setIfInBounds_toArray, List.set_cons_zero, List.set_cons_succ])
             refine wpAnyN_take (i := 1) (oi := { dst := some 42, op := Go.Op.nilCheck (Go.Operand.tmp 41), type := 0, pos := "scan.go:181", after := #[{ on := 0, ground := Go.Ground.data }], guard := none }) (oL := { dst := none, op := Go.Op.store 9 (Go.Operand.tmp 51) (Go.Operand.tmp 50), type := 0, pos := "scan.go:181", after := #[{ on := 10, ground := Go.Ground.data }, { on := 9, ground := Go.Ground.data }, { on := 0, ground := Go.Ground.phase }, { on := 1, ground := Go.Ground.phase }, { on := 2, ground := Go.Ground.phase }, { on := 3, ground := Go.Ground.phase }, { on := 4, ground := Go.Ground.phase }, { on := 5, ground := Go.Ground.phase }, { on := 6, ground := Go.Ground.phase }, { on := 7, ground := Go.Ground.phase }, { on := 8, ground := Go.Ground.phase }, { on := 9, ground := Go.Ground.phase }], guard := none }) (v := ?_) rfl rfl (by kernel_rfl) (by kernel_rfl) (by kernel_rfl) (by kernel_rfl) (fun _ _ _ h => h) (Or.inl ⟨by kernel_rfl, ?_⟩) st ?_
             rotate_left
             · (intro X hX; (try dsimp only at hX); go_simp; try (with_reducible rfl))
             (try simp only [Act.put, List.setIfInBounds_toArray, List.set_cons_zero, List.set_cons_succ])
             refine wpAnyN_take (i := 2) (oi := { dst := some 43, op := Go.Op.fieldAddr 67 (Go.Operand.tmp 42) 0, type := 0, pos := "scan.go:181", after := #[{ on := 1, ground := Go.Ground.data }], guard := none }) (oL := { dst := none, op := Go.Op.store 9 (Go.Operand.tmp 51) (Go.Operand.tmp 50), type := 0, pos := "scan.go:181", after := #[{ on := 10, ground := Go.Ground.data }, { on := 9, ground := Go.Ground.data }, { on := 0, ground := Go.Ground.phase }, { on := 1, ground := Go.Ground.phase }, { on := 2, ground := Go.Ground.phase }, { on := 3, ground := Go.Ground.phase }, { on := 4, ground := Go.Ground.phase }, { on := 5, ground := Go.Ground.phase }, { on := 6, ground := Go.Ground.phase }, { on := 7, ground := Go.Ground.phase }, { on := 8, ground := Go.Ground.phase }, { on := 9, ground := Go.Ground.phase }], guard := none }) (v := ?_) rfl rfl (by kernel_rfl) (by kernel_rfl) (by kernel_rfl) (by kernel_rfl) (fun _ _ _ h => h) (Or.inl ⟨by kernel_rfl, ?_⟩) st ?_
             rotate_left
             · (intro X hX; (try dsimp only at hX); go_simp; try (with_reducible rfl))
             (try simp only [Act.put, List.setIfInBounds_toArray, List.set_cons_zero, List.set_cons_succ])
             refine wpAnyN_take (i := 3) (oi := { dst := some 44, op := Go.Op.load 9 (Go.Operand.tmp 43), type := 9, pos := "scan.go:181", after := #[{ on := 2, ground := Go.Ground.data }], guard := none }) (oL := { dst := none, op := Go.Op.store 9 (Go.Operand.tmp 51) (Go.Operand.tmp 50), type := 0, pos := "scan.go:181", after := #[{ on := 10, ground := Go.Ground.data }, { on := 9, ground := Go.Ground.data }, { on := 0, ground := Go.Ground.phase }, { on := 1, ground := Go.Ground.phase }, { on := 2, ground := Go.Ground.phase }, { on := 3, ground := Go.Ground.phase }, { on := 4, ground := Go.Ground.phase }, { on := 5, ground := Go.Ground.phase }, { on := 6, ground := Go.Ground.phase }, { on := 7, ground := Go.Ground.phase }, { on := 8, ground := Go.Ground.phase }, { on := 9, ground := Go.Ground.phase }], guard := none }) (v := ?_) rfl rfl (by kernel_rfl) (by kernel_rfl) (by kernel_rfl) (by kernel_rfl) (fun _ _ _ h => h) (Or.inl ⟨by kernel_rfl, ?_⟩) st ?_
             rotate_left
             · (intro X hX; (try dsimp only at hX); go_simp; try (with_reducible rfl))
             (try simp only [Act.put, List.setIfInBounds_toArray, List.set_cons_zero, List.set_cons_succ])
             refine wpAnyN_take (i := 4) (oi := { dst := some 45, op := Go.Op.move (Go.Operand.tmp 3), type := 3, pos := "scan.go:181", after := #[], guard := none }) (oL := { dst := none, op := Go.Op.store 9 (Go.Operand.tmp 51) (Go.Operand.tmp 50), type := 0, pos := "scan.go:181", after := #[{ on := 10, ground := Go.Ground.data }, { on := 9, ground := Go.Ground.data }, { on := 0, ground := Go.Ground.phase }, { on := 1, ground := Go.Ground.phase }, { on := 2, ground := Go.Ground.phase }, { on := 3, ground := Go.Ground.phase }, { on := 4, ground := Go.Ground.phase }, { on := 5, ground := Go.Ground.phase }, { on := 6, ground := Go.Ground.phase }, { on := 7, ground := Go.Ground.phase }, { on := 8, ground := Go.Ground.phase }, { on := 9, ground := Go.Ground.phase }], guard := none }) (v := ?_) rfl rfl (by kernel_rfl) (by kernel_rfl) (by kernel_rfl) (by kernel_rfl) (fun _ _ _ h => h) (Or.inl ⟨by kernel_rfl, ?_⟩) st ?_
             rotate_left
             · (intro X hX; (try dsimp only at hX); go_simp; try (with_reducible rfl))
             (try simp only [Act.put, List.setIfInBounds_toArray, List.set_cons_zero, List.set_cons_succ])
             refine wpAnyN_take (i := 5) (oi := { dst := some 46, op := Go.Op.move (Go.Operand.tmp 0), type := 87, pos := "scan.go:181", after := #[], guard := none }) (oL := { dst := none, op := Go.Op.store 9 (Go.Operand.tmp 51) (Go.Operand.tmp 50), type := 0, pos := "scan.go:181", after := #[{ on := 10, ground := Go.Ground.data }, { on := 9, ground := Go.Ground.data }, { on := 0, ground := Go.Ground.phase }, { on := 1, ground := Go.Ground.phase }, { on := 2, ground := Go.Ground.phase }, { on := 3, ground := Go.Ground.phase }, { on := 4, ground := Go.Ground.phase }, { on := 5, ground := Go.Ground.phase }, { on := 6, ground := Go.Ground.phase }, { on := 7, ground := Go.Ground.phase }, { on := 8, ground := Go.Ground.phase }, { on := 9, ground := Go.Ground.phase }], guard := none }) (v := ?_) rfl rfl (by kernel_rfl) (by kernel_rfl) (by kernel_rfl) (by kernel_rfl) (fun _ _ _ h => h) (Or.inl ⟨by kernel_rfl, ?_⟩) st ?_
             rotate_left
             · (intro X hX; (try dsimp only at hX); go_simp; try (with_reducible rfl))
             (try simp only [Act.put, List.setIfInBounds_toArray, List.set_cons_zero, List.set_cons_succ])
             refine wpAnyN_take (i := 6) (oi := { dst := some 47, op := Go.Op.nilCheck (Go.Operand.tmp 46), type := 0, pos := "scan.go:181", after := #[{ on := 5, ground := Go.Ground.data }], guard := none }) (oL := { dst := none, op := Go.Op.store 9 (Go.Operand.tmp 51) (Go.Operand.tmp 50), type := 0, pos := "scan.go:181", after := #[{ on := 10, ground := Go.Ground.data }, { on := 9, ground := Go.Ground.data }, { on := 0, ground := Go.Ground.phase }, { on := 1, ground := Go.Ground.phase }, { on := 2, ground := Go.Ground.phase }, { on := 3, ground := Go.Ground.phase }, { on := 4, ground := Go.Ground.phase }, { on := 5, ground := Go.Ground.phase }, { on := 6, ground := Go.Ground.phase }, { on := 7, ground := Go.Ground.phase }, { on := 8, ground := Go.Ground.phase }, { on := 9, ground := Go.Ground.phase }], guard := none }) (v := ?_) rfl rfl (by kernel_rfl) (by kernel_rfl) (by kernel_rfl) (by kernel_rfl) (fun _ _ _ h => h) (Or.inl ⟨by kernel_rfl, ?_⟩) st ?_
             rotate_left
             · (intro X hX; (try dsimp only at hX); go_simp; try (with_reducible rfl))
             (try simp only [Act.put, List.setIfInBounds_toArray, List.set_cons_zero, List.set_cons_succ])
             refine wpAnyN_take (i := 7) (oi := { dst := some 48, op := Go.Op.fieldAddr 67 (Go.Operand.tmp 47) 1, type := 0, pos := "scan.go:181", after := #[{ on := 6, ground := Go.Ground.data }], guard := none }) (oL := { dst := none, op := Go.Op.store 9 (Go.Operand.tmp 51) (Go.Operand.tmp 50), type := 0, pos := "scan.go:181", after := #[{ on := 10, ground := Go.Ground.data }, { on := 9, ground := Go.Ground.data }, { on := 0, ground := Go.Ground.phase }, { on := 1, ground := Go.Ground.phase }, { on := 2, ground := Go.Ground.phase }, { on := 3, ground := Go.Ground.phase }, { on := 4, ground := Go.Ground.phase }, { on := 5, ground := Go.Ground.phase }, { on := 6, ground := Go.Ground.phase }, { on := 7, ground := Go.Ground.phase }, { on := 8, ground := Go.Ground.phase }, { on := 9, ground := Go.Ground.phase }], guard := none }) (v := ?_) rfl rfl (by kernel_rfl) (by kernel_rfl) (by kernel_rfl) (by kernel_rfl) (fun _ _ _ h => h) (Or.inl ⟨by kernel_rfl, ?_⟩) st ?_
             rotate_left
             · (intro X hX; (try dsimp only at hX); go_simp; try (with_reducible rfl))
             (try simp only [Act.put, List.setIfInBounds_toArray, List.set_cons_zero, List.set_cons_succ])
             refine wpAnyN_take (i := 8) (oi := { dst := some 49, op := Go.Op.load 3 (Go.Operand.tmp 48), type := 3, pos := "scan.go:181", after := #[{ on := 7, ground := Go.Ground.data }], guard := none }) (oL := { dst := none, op := Go.Op.store 9 (Go.Operand.tmp 51) (Go.Operand.tmp 50), type := 0, pos := "scan.go:181", after := #[{ on := 10, ground := Go.Ground.data }, { on := 9, ground := Go.Ground.data }, { on := 0, ground := Go.Ground.phase }, { on := 1, ground := Go.Ground.phase }, { on := 2, ground := Go.Ground.phase }, { on := 3, ground := Go.Ground.phase }, { on := 4, ground := Go.Ground.phase }, { on := 5, ground := Go.Ground.phase }, { on := 6, ground := Go.Ground.phase }, { on := 7, ground := Go.Ground.phase }, { on := 8, ground := Go.Ground.phase }, { on := 9, ground := Go.Ground.phase }], guard := none }) (v := ?_) rfl rfl (by kernel_rfl) (by kernel_rfl) (by kernel_rfl) (by kernel_rfl) (fun _ _ _ h => h) (Or.inl ⟨by kernel_rfl, ?_⟩) st ?_
             rotate_left
             · (intro X hX; (try dsimp only at hX); go_simp; try (with_reducible rfl))
             (try simp only [Act.put, List.setIfInBounds_toArray, List.set_cons_zero, List.set_cons_succ])
             refine wpAnyN_take (i := 9) (oi := { dst := some 50, op := Go.Op.slice 9 (Go.Operand.tmp 44) (some (Go.Operand.tmp 45)) (some (Go.Operand.tmp 49)) none, type := 9, pos := "scan.go:181", after := #[{ on := 3, ground := Go.Ground.data }, { on := 4, ground := Go.Ground.data }, { on := 8, ground := Go.Ground.data }], guard := none }) (oL := { dst := none, op := Go.Op.store 9 (Go.Operand.tmp 51) (Go.Operand.tmp 50), type := 0, pos := "scan.go:181", after := #[{ on := 10, ground := Go.Ground.data }, { on := 9, ground := Go.Ground.data }, { on := 0, ground := Go.Ground.phase }, { on := 1, ground := Go.Ground.phase }, { on := 2, ground := Go.Ground.phase }, { on := 3, ground := Go.Ground.phase }, { on := 4, ground := Go.Ground.phase }, { on := 5, ground := Go.Ground.phase }, { on := 6, ground := Go.Ground.phase }, { on := 7, ground := Go.Ground.phase }, { on := 8, ground := Go.Ground.phase }, { on := 9, ground := Go.Ground.phase }], guard := none }) (v := .string tx) rfl rfl (by kernel_rfl) (by kernel_rfl) (by kernel_rfl) (by kernel_rfl) (fun _ _ _ h => h) (Or.inl ⟨by kernel_rfl, ?_⟩) st ?_
             · (intro X hX; (try dsimp only at hX); go_simp; try exact hex)
             (try simp only [Act.put, List.setIfInBounds_toArray, List.set_cons_zero, List.set_cons_succ])
             refine wpAnyN_take (i := 10) (oi := { dst := some 51, op := Go.Op.fieldAddr 33 (Go.Operand.tmp 2) 1, type := 0, pos := "scan.go:181", after := #[{ on := 0, ground := Go.Ground.phase }, { on := 1, ground := Go.Ground.phase }, { on := 2, ground := Go.Ground.phase }, { on := 3, ground := Go.Ground.phase }, { on := 4, ground := Go.Ground.phase }, { on := 5, ground := Go.Ground.phase }, { on := 6, ground := Go.Ground.phase }, { on := 7, ground := Go.Ground.phase }, { on := 8, ground := Go.Ground.phase }, { on := 9, ground := Go.Ground.phase }], guard := none }) (oL := { dst := none, op := Go.Op.store 9 (Go.Operand.tmp 51) (Go.Operand.tmp 50), type := 0, pos := "scan.go:181", after := #[{ on := 10, ground := Go.Ground.data }, { on := 9, ground := Go.Ground.data }, { on := 0, ground := Go.Ground.phase }, { on := 1, ground := Go.Ground.phase }, { on := 2, ground := Go.Ground.phase }, { on := 3, ground := Go.Ground.phase }, { on := 4, ground := Go.Ground.phase }, { on := 5, ground := Go.Ground.phase }, { on := 6, ground := Go.Ground.phase }, { on := 7, ground := Go.Ground.phase }, { on := 8, ground := Go.Ground.phase }, { on := 9, ground := Go.Ground.phase }], guard := none }) (v := ?_) rfl rfl (by kernel_rfl) (by kernel_rfl) (by kernel_rfl) (by kernel_rfl) (fun _ _ _ h => h) (Or.inl ⟨by kernel_rfl, ?_⟩) st ?_
             rotate_left
             · (intro X hX; (try dsimp only at hX); go_simp; try (with_reducible rfl))
             (try simp only [Act.put, List.setIfInBounds_toArray, List.set_cons_zero, List.set_cons_succ])
             refine wpAnyN_one (i := 11) (o := { dst := none, op := Go.Op.store 9 (Go.Operand.tmp 51) (Go.Operand.tmp 50), type := 0, pos := "scan.go:181", after := #[{ on := 10, ground := Go.Ground.data }, { on := 9, ground := Go.Ground.data }, { on := 0, ground := Go.Ground.phase }, { on := 1, ground := Go.Ground.phase }, { on := 2, ground := Go.Ground.phase }, { on := 3, ground := Go.Ground.phase }, { on := 4, ground := Go.Ground.phase }, { on := 5, ground := Go.Ground.phase }, { on := 6, ground := Go.Ground.phase }, { on := 7, ground := Go.Ground.phase }, { on := 8, ground := Go.Ground.phase }, { on := 9, ground := Go.Ground.phase }], guard := none }) (by kernel_rfl) rfl (fun K hK => ?_)
             go_simp
             refine hK.out _ _ (fun e => absurd (e.symm.trans (by kernel_rfl) : false = true) Bool.false_ne_true) ?_
             clear hK K
             (try simp only [Act.put, List.setIfInBounds_toArray, List.set_cons_zero, List.set_cons_succ])
             refine wpAnyN_of_H (S' := fun _ => True) _ _ _ _ (by kernel_rfl) ?_
             refine wpAnyH_done (by kernel_rfl) ?_ _
             have hVe : X2.drew.setCell ⟨w7.heap.size, 1, none⟩ (.string tx) = (X2.setCell ⟨w7.heap.size, 1, none⟩ (.string tx)).drew := rfl
             rw [hVe] at H6 HR6
             clear hVe st q1 f1
             generalize (X2.setCell ⟨w7.heap.size, 1, none⟩ (.string tx)).drew = V at *
             have x0 : V.cell? ⟨w7.heap.size, 0, none⟩ = some (.int .i64 1) := cell_of_row _ _ 0 _ _ _ HR6.out
             have x1 : V.cell? ⟨w7.heap.size, 1, none⟩ = some (.string tx) := cell_of_row _ _ 1 _ _ _ HR6.out
             have x2 : V.cell? ⟨w7.heap.size, 2, none⟩ = some (.slice none 0 0) := cell_of_row _ _ 2 _ _ _ HR6.out
             have x3 : V.cell? ⟨w7.heap.size, 3, none⟩ = some (.bool wb) := cell_of_row _ _ 3 _ _ _ HR6.out
             go_wp2_with fail
             refine (add_any ⟨1, tx, none, 0, 0, wb⟩ (Wd.mk 1 tx [] wb) H6.out ⟨rfl, rfl, rfl, .nil⟩ hn hk).mono ?_
             rintro e w5 ⟨rfl, ⟨fs5, hsm5⟩, _⟩
             have HS5 := Lib.hid hsm5
             clear hsm5 H6 HR6
             go_wp2_with fail
             go_end0
             exact ⟨rfl, fs5, by rw [← HN.out, ← HTX.out, ← HWB.out]; exact HS5.out⟩)
      · have hq1 : ¬ (en : Int) < (line.size : Int) := by omega
        go_upto_region 2 with fail
        refine wp_region_held_drew (S := Sv P line en vl (s.begun + 1) (.slice (some ⟨ob, 0, none⟩) (s.under.length + 1) oc)) (by kernel_rfl) st (fun hHeld => ?_)
        clear hHeld
        refine wpAnyH_take (i := 0) (oi := { dst := some 10, op := Go.Op.move (Go.Operand.tmp 0), type := 87, pos := "scan.go:178", after := #[], guard := none }) (v := ?_) rfl (by kernel_rfl) (by kernel_rfl) (by kernel_rfl) (fun _ _ _ h => h) (Or.inl ⟨by kernel_rfl, ?_⟩) st ?_
        rotate_left
        · (intro X hX; (try dsimp only at hX); go_simp; try (with_reducible rfl))
        (try simp only [Act.put, List.setIfInBounds_toArray, List.set_cons_zero, List.set_cons_succ])
        refine wpAnyH_take (i := 1) (oi := { dst := some 11, op := Go.Op.nilCheck (Go.Operand.tmp 10), type := 0, pos := "scan.go:178", after := #[{ on := 0, ground := Go.Ground.data }], guard := none }) (v := ?_) rfl (by kernel_rfl) (by kernel_rfl) (by kernel_rfl) (fun _ _ _ h => h) (Or.inl ⟨by kernel_rfl, ?_⟩) st ?_
        rotate_left
        · (intro X hX; (try dsimp only at hX); go_simp; try (with_reducible rfl))
        (try simp only [Act.put, List.setIfInBounds_toArray, List.set_cons_zero, List.set_cons_succ])
        refine wpAnyH_take (i := 2) (oi := { dst := some 12, op := Go.Op.fieldAddr 67 (Go.Operand.tmp 11) 1, type := 0, pos := "scan.go:178", after := #[{ on := 1, ground := Go.Ground.data }], guard := none }) (v := ?_) rfl (by kernel_rfl) (by kernel_rfl) (by kernel_rfl) (fun _ _ _ h => h) (Or.inl ⟨by kernel_rfl, ?_⟩) st ?_
        rotate_left
        · (intro X hX; (try dsimp only at hX); go_simp; try (with_reducible rfl))
        (try simp only [Act.put, List.setIfInBounds_toArray, List.set_cons_zero, List.set_cons_succ])
        refine wpAnyH_take (i := 3) (oi := { dst := some 13, op := Go.Op.load 3 (Go.Operand.tmp 12), type := 3, pos := "scan.go:178", after := #[{ on := 2, ground := Go.Ground.data }], guard := none }) (v := ?_) rfl (by kernel_rfl) (by kernel_rfl) (by kernel_rfl) (fun _ _ _ h => h) (Or.inl ⟨by kernel_rfl, ?_⟩) st ?_
        rotate_left
        · (intro X hX; (try dsimp only at hX); go_simp; try (with_reducible rfl))
        (try simp only [Act.put, List.setIfInBounds_toArray, List.set_cons_zero, List.set_cons_succ])
        refine wpAnyH_take (i := 4) (oi := { dst := some 14, op := Go.Op.move (Go.Operand.tmp 0), type := 87, pos := "scan.go:178", after := #[], guard := none }) (v := ?_) rfl (by kernel_rfl) (by kernel_rfl) (by kernel_rfl) (fun _ _ _ h => h) (Or.inl ⟨by kernel_rfl, ?_⟩) st ?_
        rotate_left
        · (intro X hX; (try dsimp only at hX); go_simp; try (with_reducible rfl))
        (try simp only [Act.put, List.setIfInBounds_toArray, List.set_cons_zero, List.set_cons_succ])
        refine wpAnyH_take (i := 5) (oi := { dst := some 15, op := Go.Op.nilCheck (Go.Operand.tmp 14), type := 0, pos := "scan.go:178", after := #[{ on := 4, ground := Go.Ground.data }], guard := none }) (v := ?_) rfl (by kernel_rfl) (by kernel_rfl) (by kernel_rfl) (fun _ _ _ h => h) (Or.inl ⟨by kernel_rfl, ?_⟩) st ?_
        rotate_left
        · (intro X hX; (try dsimp only at hX); go_simp; try (with_reducible rfl))
        (try simp only [Act.put, List.setIfInBounds_toArray, List.set_cons_zero, List.set_cons_succ])
        refine wpAnyH_take (i := 6) (oi := { dst := some 16, op := Go.Op.fieldAddr 67 (Go.Operand.tmp 15) 0, type := 0, pos := "scan.go:178", after := #[{ on := 5, ground := Go.Ground.data }], guard := none }) (v := ?_) rfl (by kernel_rfl) (by kernel_rfl) (by kernel_rfl) (fun _ _ _ h => h) (Or.inl ⟨by kernel_rfl, ?_⟩) st ?_
        rotate_left
        · (intro X hX; (try dsimp only at hX); go_simp; try (with_reducible rfl))
        (try simp only [Act.put, List.setIfInBounds_toArray, List.set_cons_zero, List.set_cons_succ])
        refine wpAnyH_take (i := 7) (oi := { dst := some 17, op := Go.Op.load 9 (Go.Operand.tmp 16), type := 9, pos := "scan.go:178", after := #[{ on := 6, ground := Go.Ground.data }], guard := none }) (v := ?_) rfl (by kernel_rfl) (by kernel_rfl) (by kernel_rfl) (fun _ _ _ h => h) (Or.inl ⟨by kernel_rfl, ?_⟩) st ?_
        rotate_left
        · (intro X hX; (try dsimp only at hX); go_simp; try (with_reducible rfl))
        (try simp only [Act.put, List.setIfInBounds_toArray, List.set_cons_zero, List.set_cons_succ])
        refine wpAnyH_take (i := 8) (oi := { dst := some 18, op := Go.Op.call { callee := Go.Callee.builtin Go.Builtin.len, args := #[Go.Operand.tmp 17], argTypes := #[9] }, type := 3, pos := "scan.go:178", after := #[{ on := 7, ground := Go.Ground.data }], guard := none }) (v := ?_) rfl (by kernel_rfl) (by kernel_rfl) (by kernel_rfl) (fun _ _ _ h => h) (Or.inl ⟨by kernel_rfl, ?_⟩) st ?_
        rotate_left
        · (intro X hX; (try dsimp only at hX); go_simp; try (with_reducible rfl))
        (try simp only [Act.put, List.setIfInBounds_toArray, List.set_cons_zero, List.set_cons_succ])
        refine wpAnyH_take (i := 9) (oi := { dst := some 19, op := Go.Op.binOp Go.BinOp.lss 3 (Go.Operand.tmp 13) (Go.Operand.tmp 18) 3, type := 4, pos := "scan.go:178", after := #[{ on := 3, ground := Go.Ground.data }, { on := 8, ground := Go.Ground.data }], guard := none }) (v := ?_) rfl (by kernel_rfl) (by kernel_rfl) (by kernel_rfl) (fun _ _ _ h => h) (Or.inl ⟨by kernel_rfl, ?_⟩) st ?_
        rotate_left
        · (intro X hX; (try dsimp only at hX); go_simp; try (with_reducible rfl))
        (try simp only [Act.put, List.setIfInBounds_toArray, List.set_cons_zero, List.set_cons_succ])
        refine wpAnyH_take (i := 10) (oi := { dst := some 20, op := Go.Op.move (Go.Operand.tmp 19), type := 4, pos := "scan.go:178", after := #[{ on := 9, ground := Go.Ground.data }], guard := none }) (v := ?_) rfl (by kernel_rfl) (by kernel_rfl) (by kernel_rfl) (fun _ _ _ h => h) (Or.inl ⟨by kernel_rfl, ?_⟩) st ?_
        rotate_left
        · (intro X hX; (try dsimp only at hX); go_simp; try (with_reducible rfl))
        (try simp only [Act.put, List.setIfInBounds_toArray, List.set_cons_zero, List.set_cons_succ])
        refine wpAnyH_take (i := 11) (oi := { dst := some 21, op := Go.Op.move (Go.Operand.tmp 0), type := 87, pos := "scan.go:178", after := #[{ on := 10, ground := Go.Ground.guard }], guard := some (10, true) }) (v := undef) rfl (by kernel_rfl) (by kernel_rfl) (by kernel_rfl) (fun _ _ _ h => h) (Or.inr ⟨by kernel_rfl, rfl⟩) st ?_
        (try simp only [Act.put, List.setIfInBounds_toArray, List.set_cons_zero, List.set_cons_succ])
        refine wpAnyH_take (i := 12) (oi := { dst := some 22, op := Go.Op.nilCheck (Go.Operand.tmp 21), type := 0, pos := "scan.go:178", after := #[{ on := 11, ground := Go.Ground.data }, { on := 10, ground := Go.Ground.guard }], guard := some (10, true) }) (v := undef) rfl (by kernel_rfl) (by kernel_rfl) (by kernel_rfl) (fun _ _ _ h => h) (Or.inr ⟨by kernel_rfl, rfl⟩) st ?_
        (try simp only [Act.put, List.setIfInBounds_toArray, List.set_cons_zero, List.set_cons_succ])
        refine wpAnyH_take (i := 13) (oi := { dst := some 23, op := Go.Op.fieldAddr 67 (Go.Operand.tmp 22) 0, type := 0, pos := "scan.go:178", after := #[{ on := 12, ground := Go.Ground.data }, { on := 10, ground := Go.Ground.guard }], guard := some (10, true) }) (v := undef) rfl (by kernel_rfl) (by kernel_rfl) (by kernel_rfl) (fun _ _ _ h => h) (Or.inr ⟨by kernel_rfl, rfl⟩) st ?_
        (try simp only [Act.put, List.setIfInBounds_toArray, List.set_cons_zero, List.set_cons_succ])
        refine wpAnyH_take (i := 14) (oi := { dst := some 24, op := Go.Op.load 9 (Go.Operand.tmp 23), type := 9, pos := "scan.go:178", after := #[{ on := 13, ground := Go.Ground.data }, { on := 10, ground := Go.Ground.guard }], guard := some (10, true) }) (v := undef) rfl (by kernel_rfl) (by kernel_rfl) (by kernel_rfl) (fun _ _ _ h => h) (Or.inr ⟨by kernel_rfl, rfl⟩) st ?_
        (try simp only [Act.put, List.setIfInBounds_toArray, List.set_cons_zero, List.set_cons_succ])
        refine wpAnyH_take (i := 15) (oi := { dst := some 25, op := Go.Op.move (Go.Operand.tmp 0), type := 87, pos := "scan.go:178", after := #[{ on := 10, ground := Go.Ground.guard }], guard := some (10, true) }) (v := undef) rfl (by kernel_rfl) (by kernel_rfl) (by kernel_rfl) (fun _ _ _ h => h) (Or.inr ⟨by kernel_rfl, rfl⟩) st ?_
        (try simp only [Act.put, List.setIfInBounds_toArray, List.set_cons_zero, List.set_cons_succ])
        refine wpAnyH_take (i := 16) (oi := { dst := some 26, op := Go.Op.nilCheck (Go.Operand.tmp 25), type := 0, pos := "scan.go:178", after := #[{ on := 15, ground := Go.Ground.data }, { on := 10, ground := Go.Ground.guard }], guard := some (10, true) }) (v := undef) rfl (by kernel_rfl) (by kernel_rfl) (by kernel_rfl) (fun _ _ _ h => h) (Or.inr ⟨by kernel_rfl, rfl⟩) st ?_
        (try simp only [Act.put, List.setIfInBounds_toArray, List.set_cons_zero, List.set_cons_succ])
        refine wpAnyH_take (i := 17) (oi := { dst := some 27, op := Go.Op.fieldAddr 67 (Go.Operand.tmp 26) 1, type := 0, pos := "scan.go:178", after := #[{ on := 16, ground := Go.Ground.data }, { on := 10, ground := Go.Ground.guard }], guard := some (10, true) }) (v := undef) rfl (by kernel_rfl) (by kernel_rfl) (by kernel_rfl) (fun _ _ _ h => h) (Or.inr ⟨by kernel_rfl, rfl⟩) st ?_
        (try simp only [Act.put, List.setIfInBounds_toArray, List.set_cons_zero, List.set_cons_succ])
        refine wpAnyH_take (i := 18) (oi := { dst := some 28, op := Go.Op.load 3 (Go.Operand.tmp 27), type := 3, pos := "scan.go:178", after := #[{ on := 17, ground := Go.Ground.data }, { on := 10, ground := Go.Ground.guard }], guard := some (10, true) }) (v := undef) rfl (by kernel_rfl) (by kernel_rfl) (by kernel_rfl) (fun _ _ _ h => h) (Or.inr ⟨by kernel_rfl, rfl⟩) st ?_
        (try simp only [Act.put, List.setIfInBounds_toArray, List.set_cons_zero, List.set_cons_succ])
        refine wpAnyH_take (i := 19) (oi := { dst := some 29, op := Go.Op.index 9 (Go.Operand.tmp 24) (Go.Operand.tmp 28), type := 5, pos := "scan.go:178", after := #[{ on := 14, ground := Go.Ground.data }, { on := 18, ground := Go.Ground.data }, { on := 10, ground := Go.Ground.guard }], guard := some (10, true) }) (v := undef) rfl (by kernel_rfl) (by kernel_rfl) (by kernel_rfl) (fun _ _ _ h => h) (Or.inr ⟨by kernel_rfl, rfl⟩) st ?_
        (try simp only [Act.put, List.setIfInBounds_toArray, List.set_cons_zero, List.set_cons_succ])
        refine wpAnyH_take (i := 20) (oi := { dst := some 30, op := Go.Op.call { callee := Go.Callee.value (Go.Operand.func 67), args := #[Go.Operand.tmp 29], argTypes := #[5] }, type := 3, pos := "scan.go:178", after := #[{ on := 19, ground := Go.Ground.data }, { on := 10, ground := Go.Ground.chain }, { on := 10, ground := Go.Ground.guard }], guard := some (10, true) }) (v := undef) rfl (by kernel_rfl) (by kernel_rfl) (by kernel_rfl) (fun _ _ _ h => h) (Or.inr ⟨by kernel_rfl, rfl⟩) st ?_
        (try simp only [Act.put, List.setIfInBounds_toArray, List.set_cons_zero, List.set_cons_succ])
        refine wpAnyH_take (i := 21) (oi := { dst := some 31, op := Go.Op.binOp Go.BinOp.and 3 (Go.Operand.tmp 30) (Go.Operand.const (Go.Value.int Go.IntKind.i64 8)) 3, type := 3, pos := "scan.go:178", after := #[{ on := 20, ground := Go.Ground.data }, { on := 10, ground := Go.Ground.guard }], guard := some (10, true) }) (v := undef) rfl (by kernel_rfl) (by kernel_rfl) (by kernel_rfl) (fun _ _ _ h => h) (Or.inr ⟨by kernel_rfl, rfl⟩) st ?_
        (try simp only [Act.put, List.setIfInBounds_toArray, List.set_cons_zero, List.set_cons_succ])
        refine wpAnyH_take (i := 22) (oi := { dst := some 32, op := Go.Op.binOp Go.BinOp.neq 3 (Go.Operand.tmp 31) (Go.Operand.const (Go.Value.int Go.IntKind.i64 0)) 3, type := 4, pos := "scan.go:178", after := #[{ on := 21, ground := Go.Ground.data }, { on := 10, ground := Go.Ground.guard }], guard := some (10, true) }) (v := undef) rfl (by kernel_rfl) (by kernel_rfl) (by kernel_rfl) (fun _ _ _ h => h) (Or.inr ⟨by kernel_rfl, rfl⟩) st ?_
        (try simp only [Act.put, List.setIfInBounds_toArray, List.set_cons_zero, List.set_cons_succ])
        refine wpAnyH_take (i := 23) (oi := { dst := some 33, op := Go.Op.pick (Go.Operand.tmp 20) (Go.Operand.tmp 32) (Go.Operand.const (Go.Value.bool false)), type := 4, pos := "scan.go:178", after := #[{ on := 10, ground := Go.Ground.data }, { on := 22, ground := Go.Ground.data }], guard := none }) (v := ?_) rfl (by kernel_rfl) (by kernel_rfl) (by kernel_rfl) (fun _ _ _ h => h) (Or.inl ⟨by kernel_rfl, ?_⟩) st ?_
        rotate_left
        · (intro X hX; (try dsimp only at hX); go_simp; try (with_reducible rfl))
        (try simp only [Act.put, List.setIfInBounds_toArray, List.set_cons_zero, List.set_cons_succ])
        refine wpAnyH_done (by kernel_rfl) ?_ _
        generalize X.drew = X2 at *
        have st4 : Sv P line en vl (s.begun + 1) (.slice (some ⟨ob, 0, none⟩) (s.under.length + 1) oc) X2.drew := (HXD.out.on ((Below.refl _ _).drew)).sv
        have H5 := Lib.hid (HXD.out.on ((Below.refl _ _).drew))
        have q1 : X2.drew.cell? ⟨w7.heap.size, 1, none⟩ = some (.string ⟨#[]⟩) := cell_of_row _ _ 1 _ _ _ HRD.out
        have f1 : X2.drew.frozen? ⟨w7.heap.size, 1, none⟩ = false := frozen_of_row _ _ 1 _ _ HRD.out
        have hex := HEX.out
        have hz1 : (s.pos : Int) ≤ (en : Int) := by omega
        have hz2 : (en : Int) ≤ (line.size : Int) := by omega
        have hz0 : (0 : Int) ≤ (s.pos : Int) := by omega
        have hR6 : (X2.drew.setCell ⟨w7.heap.size, 1, none⟩ (.string tx)).heap[w7.heap.size]? = some (.cells #[.int .i64 1, .string tx, .slice none 0 0, .bool wb] 33 (0, 0)) := by
          have := heap_setCell_same X2.drew w7.heap.size 1 _ _ (.string tx) HRD.out
          simpa using this
        have h6 : SmX B P line vl { s with begun := s.begun + 1, pos := en } ob oc fs D W0 (X2.drew.setCell ⟨w7.heap.size, 1, none⟩ (.string tx)) := sm_local HW7.out HB7.out H5.out ⟨HBD.out.size, HBD.out.blk⟩ rfl rfl rfl
        have HR6 := Lib.hid hR6
        have H6 := Lib.hid h6
        clear h6 hR6 HXD HRD HX HRX H5 st HBD HBX HB7 HW7
        have st := st4
        clear st4
        go_upto_region 4 with fail
        refine wp_region_N 11 (Sv P line en vl (s.begun + 1) (.slice (some ⟨ob, 0, none⟩) (s.under.length + 1) oc)) (by kernel_rfl) ?_
        refine wpAnyN_take (i := 0) (oi := { dst := some 41, op := Go.Op.move (Go.Operand.tmp 0), type := 87, pos := "scan.go:181", after := #[], guard := none }) (oL := { dst := none, op := Go.Op.store 9 (Go.Operand.tmp 51) (Go.Operand.tmp 50), type := 0, pos := "scan.go:181", after := #[{ on := 10, ground := Go.Ground.data }, { on := 9, ground := Go.Ground.data }, { on := 0, ground := Go.Ground.phase }, { on := 1, ground := Go.Ground.phase }, { on := 2, ground := Go.Ground.phase }, { on := 3, ground := Go.Ground.phase }, { on := 4, ground := Go.Ground.phase }, { on := 5, ground := Go.Ground.phase }, { on := 6, ground := Go.Ground.phase }, { on := 7, ground := Go.Ground.phase }, { on := 8, ground := Go.Ground.phase }, { on := 9, ground := Go.Ground.phase }], guard := none }) (v := ?_) rfl rfl (by kernel_rfl) (by kernel_rfl) (by kernel_rfl) (by kernel_rfl) (fun _ _ _ h => h) (Or.inl ⟨by kernel_rfl, ?_⟩) st ?_
        rotate_left
        · (intro X hX; (try dsimp only at hX); go_simp; try (with_reducible rfl))
        (try simp only [Act.put, List.setIfInBounds_toArray, List.set_cons_zero, List.set_cons_succ])
        refine wpAnyN_take (i := 1) (oi := { dst := some 42, op := Go.Op.nilCheck (Go.Operand.tmp 41), type := 0, pos := "scan.go:181", after := #[{ on := 0, ground := Go.Ground.data }], guard := none }) (oL := { dst := none, op := Go.Op.store 9 (Go.Operand.tmp 51) (Go.Operand.tmp 50), type := 0, pos := "scan.go:181", after := #[{ on := 10, ground := Go.Ground.data }, { on := 9, ground := Go.Ground.data }, { on := 0, ground := Go.Ground.phase }, { on := 1, ground := Go.Ground.phase }, { on := 2, ground := Go.Ground.phase }, { on := 3, ground := Go.Ground.phase }, { on := 4, ground := Go.Ground.phase }, { on := 5, ground := Go.Ground.phase }, { on := 6, ground := Go.Ground.phase }, { on := 7, ground := Go.Ground.phase }, { on := 8, ground := Go.Ground.phase }, { on := 9, ground := Go.Ground.phase }], guard := none }) (v := ?_) rfl rfl (by kernel_rfl) (by kernel_rfl) (by kernel_rfl) (by kernel_rfl) (fun _ _ _ h => h) (Or.inl ⟨by kernel_rfl, ?_⟩) st ?_
        rotate_left
        · (intro X hX; (try dsimp only at hX); go_simp; try (with_reducible rfl))
        (try simp only [Act.put, List.setIfInBounds_toArray, List.set_cons_zero, List.set_cons_succ])
        refine wpAnyN_take (i := 2) (oi := { dst := some 43, op := Go.Op.fieldAddr 67 (Go.Operand.tmp 42) 0, type := 0, pos := "scan.go:181", after := #[{ on := 1, ground := Go.Ground.data }], guard := none }) (oL := { dst := none, op := Go.Op.store 9 (Go.Operand.tmp 51) (Go.Operand.tmp 50), type := 0, pos := "scan.go:181", after := #[{ on := 10, ground := Go.Ground.data }, { on := 9, ground := Go.Ground.data }, { on := 0, ground := Go.Ground.phase }, { on := 1, ground := Go.Ground.phase }, { on := 2, ground := Go.Ground.phase }, { on := 3, ground := Go.Ground.phase }, { on := 4, ground := Go.Ground.phase }, { on := 5, ground := Go.Ground.phase }, { on := 6, ground := Go.Ground.phase }, { on := 7, ground := Go.Ground.phase }, { on := 8, ground := Go.Ground.phase }, { on := 9, ground := Go.Ground.phase }], guard := none }) (v := ?_) rfl rfl (by kernel_rfl) (by kernel_rfl) (by kernel_rfl) (by kernel_rfl) (fun _ _ _ h => h) (Or.inl ⟨by kernel_rfl, ?_⟩) st ?_
        rotate_left
        · (intro X hX; (try dsimp only at hX); go_simp; try (with_reducible rfl))
        (try simp only [Act.put, List.setIfInBounds_toArray, List.set_cons_zero, List.set_cons_succ])
        refine wpAnyN_take (i := 3) (oi := { dst := some 44, op := Go.Op.load 9 (Go.Operand.tmp 43), type := 9, pos := "scan.go:181", after := #[{ on := 2, ground := Go.Ground.data }], guard := none }) (oL := { dst := none, op := Go.Op.store 9 (Go.Operand.tmp 51) (Go.Operand.tmp 50), type := 0, pos := "scan.go:181", after := #[{ on := 10, ground := Go.Ground.data }, { on := 9, ground := Go.Ground.data }, { on := 0, ground := Go.Ground.phase }, { on := 1, ground := Go.Ground.phase }, { on := 2, ground := Go.Ground.phase }, { on := 3, ground := Go.Ground.phase }, { on := 4, ground := Go.Ground.phase }, { on := 5, ground := Go.Ground.phase }, { on := 6, ground := Go.Ground.phase }, { on := 7, ground := Go.Ground.phase }, { on := 8, ground := Go.Ground.phase }, { on := 9, ground := Go.Ground.phase }], guard := none }) (v := ?_) rfl rfl (by kernel_rfl) (by kernel_rfl) (by kernel_rfl) (by kernel_rfl) (fun _ _ _ h => h) (Or.inl ⟨by kernel_rfl, ?_⟩) st ?_
        rotate_left
        · (intro X hX; (try dsimp only at hX); go_simp; try (with_reducible rfl))
        (try simp only [Act.put, List.setIfInBounds_toArray, List.set_cons_zero, List.set_cons_succ])
        refine wpAnyN_take (i := 4) (oi := { dst := some 45, op := Go.Op.move (Go.Operand.tmp 3), type := 3, pos := "scan.go:181", after := #[], guard := none }) (oL := { dst := none, op := Go.Op.store 9 (Go.Operand.tmp 51) (Go.Operand.tmp 50), type := 0, pos := "scan.go:181", after := #[{ on := 10, ground := Go.Ground.data }, { on := 9, ground := Go.Ground.data }, { on := 0, ground := Go.Ground.phase }, { on := 1, ground := Go.Ground.phase }, { on := 2, ground := Go.Ground.phase }, { on := 3, ground := Go.Ground.phase }, { on := 4, ground := Go.Ground.phase }, { on := 5, ground := Go.Ground.phase }, { on := 6, ground := Go.Ground.phase }, { on := 7, ground := Go.Ground.phase }, { on := 8, ground := Go.Ground.phase }, { on := 9, ground := Go.Ground.phase }], guard := none }) (v := ?_) rfl rfl (by kernel_rfl) (by kernel_rfl) (by kernel_rfl) (by kernel_rfl) (fun _ _ _ h => h) (Or.inl ⟨by kernel_rfl, ?_⟩) st ?_
        rotate_left
        · (intro X hX; (try dsimp only at hX); go_simp; try (with_reducible rfl))
        (try simp only [Act.put, List.setIfInBounds_toArray, List.set_cons_zero, List.set_cons_succ])
        refine wpAnyN_take (i := 5) (oi := { dst := some 46, op := Go.Op.move (Go.Operand.tmp 0), type := 87, pos := "scan.go:181", after := #[], guard := none }) (oL := { dst := none, op := Go.Op.store 9 (Go.Operand.tmp 51) (Go.Operand.tmp 50), type := 0, pos := "scan.go:181", after := #[{ on := 10, ground := Go.Ground.data }, { on := 9, ground := Go.Ground.data }, { on := 0, ground := Go.Ground.phase }, { on := 1, ground := Go.Ground.phase }, { on := 2, ground := Go.Ground.phase }, { on := 3, ground := Go.Ground.phase }, { on := 4, ground := Go.Ground.phase }, { on := 5, ground := Go.Ground.phase }, { on := 6, ground := Go.Ground.phase }, { on := 7, ground := Go.Ground.phase }, { on := 8, ground := Go.Ground.phase }, { on := 9, ground := Go.Ground.phase }], guard := none }) (v := ?_) rfl rfl (by kernel_rfl) (by kernel_rfl) (by kernel_rfl) (by kernel_rfl) (fun _ _ _ h => h) (Or.inl ⟨by kernel_rfl, ?_⟩) st ?_
        rotate_left
        · (intro X hX; (try dsimp only at hX); go_simp; try (with_reducible rfl))
        (try simp only [Act.put, List.setIfInBounds_toArray, List.set_cons_zero, List.set_cons_succ])
        refine wpAnyN_take (i := 6) (oi := { dst := some 47, op := Go.Op.nilCheck (Go.Operand.tmp 46), type := 0, pos := "scan.go:181", after := #[{ on := 5, ground := Go.Ground.data }], guard := none }) (oL := { dst := none, op := Go.Op.store 9 (Go.Operand.tmp 51) (Go.Operand.tmp 50), type := 0, pos := "scan.go:181", after := #[{ on := 10, ground := Go.Ground.data }, { on := 9, ground := Go.Ground.data }, { on := 0, ground := Go.Ground.phase }, { on := 1, ground := Go.Ground.phase }, { on := 2, ground := Go.Ground.phase }, { on := 3, ground := Go.Ground.phase }, { on := 4, ground := Go.Ground.phase }, { on := 5, ground := Go.Ground.phase }, { on := 6, ground := Go.Ground.phase }, { on := 7, ground := Go.Ground.phase }, { on := 8, ground := Go.Ground.phase }, { on := 9, ground := Go.Ground.phase }], guard := none }) (v := ?_) rfl rfl (by kernel_rfl) (by kernel_rfl) (by kernel_rfl) (by kernel_rfl) (fun _ _ _ h => h) (Or.inl ⟨by kernel_rfl, ?_⟩) st ?_
        rotate_left
        · (intro X hX; (try dsimp only at hX); go_simp; try (with_reducible rfl))
        (try simp only [Act.put, List.setIfInBounds_toArray, List.set_cons_zero, List.set_cons_succ])
        refine wpAnyN_take (i := 7) (oi := { dst := some 48, op := Go.Op.fieldAddr 67 (Go.Operand.tmp 47) 1, type := 0, pos := "scan.go:181", after := #[{ on := 6, ground := Go.Ground.data }], guard := none }) (oL := { dst := none, op := Go.Op.store 9 (Go.Operand.tmp 51) (Go.Operand.tmp 50), type := 0, pos := "scan.go:181", after := #[{ on := 10, ground := Go.Ground.data }, { on := 9, ground := Go.Ground.data }, { on := 0, ground := Go.Ground.phase }, { on := 1, ground := Go.Ground.phase }, { on := 2, ground := Go.Ground.phase }, { on := 3, ground := Go.Ground.phase }, { on := 4, ground := Go.Ground.phase }, { on := 5, ground := Go.Ground.phase }, { on := 6, ground := Go.Ground.phase }, { on := 7, ground := Go.Ground.phase }, { on := 8, ground := Go.Ground.phase }, { on := 9, ground := Go.Ground.phase }], guard := none }) (v := ?_) rfl rfl (by kernel_rfl) (by kernel_rfl) (by kernel_rfl) (by kernel_rfl) (fun _ _ _ h => h) (Or.inl ⟨by kernel_rfl, ?_⟩) st ?_
        rotate_left
        · (intro X hX; (try dsimp only at hX); go_simp; try (with_reducible rfl))
        (try simp only [Act.put, List.setIfInBounds_toArray, List.set_cons_zero, List.set_cons_succ])
        refine wpAnyN_take (i := 8) (oi := { dst := some 49, op := Go.Op.load 3 (Go.Operand.tmp 48), type := 3, pos := "scan.go:181", after := #[{ on := 7, ground := Go.Ground.data }], guard := none }) (oL := { dst := none, op := Go.Op.store 9 (Go.Operand.tmp 51) (Go.Operand.tmp 50), type := 0, pos := "scan.go:181", after := #[{ on := 10, ground := Go.Ground.data }, { on := 9, ground := Go.Ground.data }, { on := 0, ground := Go.Ground.phase }, { on := 1, ground := Go.Ground.phase }, { on := 2, ground := Go.Ground.phase }, { on := 3, ground := Go.Ground.phase }, { on := 4, ground := Go.Ground.phase }, { on := 5, ground := Go.Ground.phase }, { on := 6, ground := Go.Ground.phase }, { on := 7, ground := Go.Ground.phase }, { on := 8, ground := Go.Ground.phase }, { on := 9, ground := Go.Ground.phase }], guard := none }) (v := ?_) rfl rfl (by kernel_rfl) (by kernel_rfl) (by kernel_rfl) (by kernel_rfl) (fun _ _ _ h => h) (Or.inl ⟨by kernel_rfl, ?_⟩) st ?_
        rotate_left
        · (intro X hX; (try dsimp only at hX); go_simp; try (with_reducible rfl))
        (try simp only [Act.put, List.setIfInBounds_toArray, List.set_cons_zero, List.set_cons_succ])
        refine wpAnyN_take (i := 9) (oi := { dst := some 50, op := Go.Op.slice 9 (Go.Operand.tmp 44) (some (Go.Operand.tmp 45)) (some (Go.Operand.tmp 49)) none, type := 9, pos := "scan.go:181", after := #[{ on := 3, ground := Go.Ground.data }, { on := 4, ground := Go.Ground.data }, { on := 8, ground := Go.Ground.data }], guard := none }) (oL := { dst := none, op := Go.Op.store 9 (Go.Operand.tmp 51) (Go.Operand.tmp 50), type := 0, pos := "scan.go:181", after := #[{ on := 10, ground := Go.Ground.data }, { on := 9, ground := Go.Ground.data }, { on := 0, ground := Go.Ground.phase }, { on := 1, ground := Go.Ground.phase }, { on := 2, ground := Go.Ground.phase }, { on := 3, ground := Go.Ground.phase }, { on := 4, ground := Go.Ground.phase }, { on := 5, ground := Go.Ground.phase }, { on := 6, ground := Go.Ground.phase }, { on := 7, ground := Go.Ground.phase }, { on := 8, ground := Go.Ground.phase }, { on := 9, ground := Go.Ground.phase }], guard := none }) (v := .string tx) rfl rfl (by kernel_rfl) (by kernel_rfl) (by kernel_rfl) (by kernel_rfl) (fun _ _ _ h => h) (Or.inl ⟨by kernel_rfl, ?_⟩) st ?_
        · (intro X hX; (try dsimp only at hX); go_simp; try exact hex)
        (try simp only [Act.put, List.setIfInBounds_toArray, List.set_cons_zero, List.set_cons_succ])
        refine wpAnyN_take (i := 10) (oi := { dst := some 51, op := Go.Op.fieldAddr 33 (Go.Operand.tmp 2) 1, type := 0, pos := "scan.go:181", after := #[{ on := 0, ground := Go.Ground.phase }, { on := 1, ground := Go.Ground.phase }, { on := 2, ground := Go.Ground.phase }, { on := 3, ground := Go.Ground.phase }, { on := 4, ground := Go.Ground.phase }, { on := 5, ground := Go.Ground.phase }, { on := 6, ground := Go.Ground.phase }, { on := 7, ground := Go.Ground.phase }, { on := 8, ground := Go.Ground.phase }, { on := 9, ground := Go.Ground.phase }], guard := none }) (oL := { dst := none, op := Go.Op.store 9 (Go.Operand.tmp 51) (Go.Operand.tmp 50), type := 0, pos := "scan.go:181", after := #[{ on := 10, ground := Go.Ground.data }, { on := 9, ground := Go.Ground.data }, { on := 0, ground := Go.Ground.phase }, { on := 1, ground := Go.Ground.phase }, { on := 2, ground := Go.Ground.phase }, { on := 3, ground := Go.Ground.phase }, { on := 4, ground := Go.Ground.phase }, { on := 5, ground := Go.Ground.phase }, { on := 6, ground := Go.Ground.phase }, { on := 7, ground := Go.Ground.phase }, { on := 8, ground := Go.Ground.phase }, { on := 9, ground := Go.Ground.phase }], guard := none }) (v := ?_) rfl rfl (by kernel_rfl) (by kernel_rfl) (by kernel_rfl) (by kernel_rfl) (fun _ _ _ h => h) (Or.inl ⟨by kernel_rfl, ?_⟩) st ?_
        rotate_left
        · (intro X hX; (try dsimp only at hX); go_simp; try (with_reducible rfl))
        (try simp only [Act.put, List.setIfInBounds_toArray, List.set_cons_zero, List.set_cons_succ])
        refine wpAnyN_one (i := 11) (o := { dst := none, op := Go.Op.store 9 (Go.Operand.tmp 51) (Go.Operand.tmp 50), type := 0, pos := "scan.go:181", after := #[{ on := 10, ground := Go.Ground.data }, { on := 9, ground := Go.Ground.data }, { on := 0, ground := Go.Ground.phase }, { on := 1, ground := Go.Ground.phase }, { on := 2, ground := Go.Ground.phase }, { on := 3, ground := Go.Ground.phase }, { on := 4, ground := Go.Ground.phase }, { on := 5, ground := Go.Ground.phase }, { on := 6, ground := Go.Ground.phase }, { on := 7, ground := Go.Ground.phase }, { on := 8, ground := Go.Ground.phase }, { on := 9, ground := Go.Ground.phase }], guard := none }) (by kernel_rfl) rfl (fun K hK => ?_)
        go_simp
        refine hK.out _ _ (fun e => absurd (e.symm.trans (by kernel_rfl) : false = true) Bool.false_ne_true) ?_
        clear hK K
        (try simp only [Act.put, List.setIfInBounds_toArray, List.set_cons_zero, List.set_cons_succ])
        refine wpAnyN_of_H (S' := fun _ => True) _ _ _ _ (by kernel_rfl) ?_
        refine wpAnyH_done (by kernel_rfl) ?_ _
        have hVe : X2.drew.setCell ⟨w7.heap.size, 1, none⟩ (.string tx) = (X2.setCell ⟨w7.heap.size, 1, none⟩ (.string tx)).drew := rfl
        rw [hVe] at H6 HR6
        clear hVe st q1 f1
        generalize (X2.setCell ⟨w7.heap.size, 1, none⟩ (.string tx)).drew = V at *
        have x0 : V.cell? ⟨w7.heap.size, 0, none⟩ = some (.int .i64 1) := cell_of_row _ _ 0 _ _ _ HR6.out
        have x1 : V.cell? ⟨w7.heap.size, 1, none⟩ = some (.string tx) := cell_of_row _ _ 1 _ _ _ HR6.out
        have x2 : V.cell? ⟨w7.heap.size, 2, none⟩ = some (.slice none 0 0) := cell_of_row _ _ 2 _ _ _ HR6.out
        have x3 : V.cell? ⟨w7.heap.size, 3, none⟩ = some (.bool wb) := cell_of_row _ _ 3 _ _ _ HR6.out
        go_wp2_with fail
        refine (add_any ⟨1, tx, none, 0, 0, wb⟩ (Wd.mk 1 tx [] wb) H6.out ⟨rfl, rfl, rfl, .nil⟩ hn hk).mono ?_
        rintro e w5 ⟨rfl, ⟨fs5, hsm5⟩, _⟩
        have HS5 := Lib.hid hsm5
        clear hsm5 H6 HR6
        go_wp2_with fail
        go_end0
        exact ⟨rfl, fs5, by rw [← HN.out, ← HTX.out, ← HWB.out]; exact HS5.out⟩
end Go.Proofs.YtliiapdakojomabDoor
