/- lex: the scanner's takeLiteral. -/
import Derived.Test.YtliiapdakojomabDoorAo
namespace Go.Proofs.YtliiapdakojomabDoor
open Go.RowKit

theorem annS_le (l : List UInt8) (h : 0 < l.length) : annS l ≤ l.length := by
  unfold annS
  split
  · rename_i hb
    have h1 : 0 < (annE l).length := by
      unfold annB at hb
      cases he : annE l with
      | nil => rw [he] at hb; simp at hb
      | cons a r => simp
    have := annE_len l
    omega
  · omega
theorem Strs.tail {w : World} {b off cap n : Nat} {x : ByteArray} {r : List ByteArray} (h : Strs w (.slice (some ⟨b, off, none⟩) n cap) (x :: r)) : Strs w (.slice (some ⟨b, off + 1, none⟩) r.length (cap - 1)) r := by
  rcases h with ⟨h0, _⟩ | ⟨b', off', cap', e, hc, h0, h1, h2⟩
  · cases h0
  · injection e with e1 _ e3
    injection e1 with e1
    injection e1 with e1 e2 _
    subst e1 e2 e3
    refine .inr ⟨b, off + 1, cap - 1, rfl, by simp at hc; omega, by simp at h0; omega, h1, fun i hi => ?_⟩
    have := h2 (i + 1) (by simp; omega)
    rw [show off + (i + 1) = off + 1 + i by omega] at this
    simpa using this
theorem SmX.setLits {B P : Nat} {line : ByteArray} {vl vl' : Value} {s : Sc} {ob oc : Nat} {fs : List Wc} {D : Nat → Prop} {W0 w : World} (h : SmX B P line vl s ob oc fs D W0 w) (ls : List ByteArray) (hl : Strs W0 vl' ls) : SmX B P line vl' { s with lits := ls } ob oc fs D W0 (w.setCell ⟨P, 2, none⟩ vl') := by
  have hb := But.set P 2 vl' w
  refine h.put hb.size hb.blk (h.below.setCell (by exact h.bP) _) rfl rfl hl ?_
  have := heap_setCell_same w P 2 _ _ vl' h.blk
  simpa using this
theorem upto_cap {v : Value} {w : World} {x : ByteArray} {r : List ByteArray} (h : Strs w v (x :: r)) : ∃ b off cap, v = .slice (some ⟨b, off, none⟩) (r.length + 1) cap ∧ r.length + 1 ≤ cap ∧ w.cell? ⟨b, off, none⟩ = some (.string x) := by
  rcases h with ⟨h0, _⟩ | ⟨b, off, cap, e, hc, h0, h1, h2⟩
  · cases h0
  · have := h2 0 (by simp)
    exact ⟨b, off, cap, by simpa using e, by simpa using hc, by simpa using this⟩
set_option maxRecDepth 100000 in
set_option maxHeartbeats 8000000 in
theorem takeLiteral_any {B P : Nat} {line : ByteArray} {vl : Value} {s : Sc} {ob oc : Nat} {fs : List Wc} {D : Nat → Prop} {W0 w : World} (x : ByteArray) (r : List ByteArray) (h : SmX B P line vl s ob oc fs D W0 w) (hl : s.lits = x :: r) (hn : s.under.length ≤ 100) (hp : s.pos < line.size) (hs : line.size ≤ 140737488355328) (hbg : s.begun ≤ 1000) (hk : s.top.kids.length ≤ 1000) :
    Calls Tryd.prog 56 #[.pointer (some ⟨P, 0, none⟩)] w fun e w' => e = .returned (.tuple #[]) ∧ ∃ vl' fs', SmX B P line vl' ({ s with pos := s.pos + annS ((L line).drop s.pos), begun := s.begun + 1, lits := r }.add (Wd.mk 3 x [] (s.word (L line)))) ob oc fs' D W0 w' := by
  have hq2 : (s.pos : Int) ≤ (line.size : Int) := by omega
  have hq0 : (0 : Int) ≤ (s.pos : Int) := by omega
  have HA := Lib.hid (fun W => ann_any (S ((L line).drop s.pos)) W (by rw [S_size, List.length_drop, L_length]; omega) (by rw [S_size, List.length_drop, L_length]; omega))
  rw [L_S] at HA
  have hal := annS_le ((L line).drop s.pos) (by rw [List.length_drop, L_length]; omega)
  rw [List.length_drop, L_length] at hal
  obtain ⟨asz, hasz⟩ : ∃ a, a = annS ((L line).drop s.pos) := ⟨_, rfl⟩
  rw [← hasz] at HA hal
  have HAS := Lib.hid hasz
  clear hasz
  obtain ⟨wb, hwb⟩ : ∃ b, b = s.word (L line) := ⟨_, rfl⟩
  have HB := Lib.hid (begin_any 3 h hn (by omega) hs hbg)
  rw [← hwb] at HB
  have HWB := Lib.hid hwb
  have hst := h.strs
  rw [hl] at hst
  obtain ⟨b, off, cap, hvl, hcap, _⟩ := upto_cap hst
  have HL := Lib.hid (And.intro h.lits hl)
  clear hwb hst h hl
  subst hvl
  obtain ⟨m, hm⟩ : ∃ m, m = r.length := ⟨_, rfl⟩
  have HM := Lib.hid hm
  rw [← hm] at hcap HL HB
  clear hm
  go_enter Tryd.func56, Tryd.ntmps56
  go_wp2_with fail
  refine HB.out.mono ?_
  rintro e w7 ⟨rfl, hsm7, _⟩
  have hPR : P ≠ w7.heap.size := by have := hsm7.plt; omega
  go_upto_region 1 with fail
  have hb7 : Below w7.heap.size w7 (w7.alloc (.cells #[.int .i64 3, .string ⟨#[]⟩, .slice none 0 0, .bool wb] 33)) := (Below.refl _ _).alloc (Nat.le_refl _) _
  have hR7 : (w7.alloc (.cells #[.int .i64 3, .string ⟨#[]⟩, .slice none 0 0, .bool wb] 33)).heap[w7.heap.size]? = some (.cells #[.int .i64 3, .string ⟨#[]⟩, .slice none 0 0, .bool wb] 33 (0, 0)) := heap_alloc_new w7 _
  generalize w7.alloc (.cells #[.int .i64 3, .string ⟨#[]⟩, .slice none 0 0, .bool wb] 33) = Y at *
  have hY := hsm7.on hb7
  obtain ⟨c0, c1, c2, c3, c4⟩ := hY.sv
  have hlc : Y.cell? ⟨b, off, none⟩ = some (.string x) := by
    have h1 := hY.strs
    rw [show ({ s with begun := s.begun + 1 } : Sc).lits = x :: r from HL.out.2] at h1
    obtain ⟨b', off', cap', e, _, e2⟩ := upto_cap h1
    injection e with e1 _ _
    injection e1 with e1
    injection e1 with e1 e3 _
    subst e1 e3
    exact e2
  have q1 : Y.cell? ⟨w7.heap.size, 1, none⟩ = some (.string ⟨#[]⟩) := cell_of_row _ _ 1 _ _ _ hR7
  have f1 : Y.frozen? ⟨w7.heap.size, 1, none⟩ = false := frozen_of_row _ _ 1 _ _ hR7
  have hm0 : (0 : Int) < (m : Int) + 1 := by omega
  go_upto_region 2 with fail
  have hb1 : Below w7.heap.size w7 (Y.setCell ⟨w7.heap.size, 1, none⟩ (.string x)) := hb7.setCell (p := ⟨w7.heap.size, 1, none⟩) (Nat.le_refl _) _
  have hR1 : (Y.setCell ⟨w7.heap.size, 1, none⟩ (.string x)).heap[w7.heap.size]? = some (.cells #[.int .i64 3, .string x, .slice none 0 0, .bool wb] 33 (0, 0)) := by
    have := heap_setCell_same Y w7.heap.size 1 _ _ (.string x) hR7
    simpa using this
  generalize Y.setCell ⟨w7.heap.size, 1, none⟩ (.string x) = Y1 at *
  have h1 := hsm7.on hb1
  clear c0 c1 c2 c3 c4 hlc q1 f1 hY hR7 hb7
  obtain ⟨c0, c1, c2, c3, c4⟩ := h1.sv
  have f2 := h1.free 2
  have hm1 : (m : Int) + 1 ≤ (cap : Int) := by omega
  have hm2 : (1 : Int) ≤ (m : Int) + 1 := by omega
  have hm3 : (1 : Int) ≤ (cap : Int) := by omega
  have hSL : Strs W0 (.slice (if cap = 1 then some ⟨b, off, none⟩ else some ⟨b, off + 1, none⟩) m (cap - 1)) r := by
    have := HL.out.1
    rw [HL.out.2] at this
    by_cases h1 : cap = 1
    · have hm0 : m = 0 := by omega
      have hr : r = [] := List.eq_nil_of_length_eq_zero (by rw [← HM.out]; exact hm0)
      rw [hm0]
      exact .inl ⟨hr, _, _, rfl⟩
    · have := this.tail
      rw [← HM.out] at this
      rw [if_neg h1]
      exact this
  have h2 := h1.setLits r hSL
  have hR2 : (Y1.setCell ⟨P, 2, none⟩ (.slice (if cap = 1 then some ⟨b, off, none⟩ else some ⟨b, off + 1, none⟩) m (cap - 1))).heap[w7.heap.size]? = some (.cells #[.int .i64 3, .string x, .slice none 0 0, .bool wb] 33 (0, 0)) := (heap_setCell_other Y1 ⟨P, 2, none⟩ w7.heap.size _ (by simpa using hPR.symm)).trans hR1
  have H2 := Lib.hid h2
  have HR2 := Lib.hid hR2
  clear h1 h2 hR1 hR2 hb1 hsm7 HB
  go_upto_region 3 with fail
  generalize Y1.setCell ⟨P, 2, none⟩ (.slice (if cap = 1 then some ⟨b, off, none⟩ else some ⟨b, off + 1, none⟩) m (cap - 1)) = Y2 at *
  obtain ⟨vl2, hvl2⟩ : ∃ v : Value, v = .slice (if cap = 1 then some ⟨b, off, none⟩ else some ⟨b, off + 1, none⟩) m (cap - 1) := ⟨_, rfl⟩
  rw [← hvl2] at H2
  clear hvl2 c0 c1 c2 c3 c4 f2
  have h3 := H2.out.on ((Below.refl _ _).drew)
  have st : Sv P line s.pos vl2 (s.begun + 1) (.slice (some ⟨ob, 0, none⟩) (s.under.length + 1) oc) Y2.drew := h3.sv
  have HR3 : Hid (Y2.drew.heap[w7.heap.size]? = some (.cells #[.int .i64 3, .string x, .slice none 0 0, .bool wb] 33 (0, 0))) := HR2
  have H3 := Lib.hid h3
  clear h3 H2 HR2
  generalize annN ((L line).drop s.pos) = an at *
  generalize annQ ((L line).drop s.pos) = aq at *
  refine wp_region_held_drew (S := Sv P line s.pos vl2 (s.begun + 1) (.slice (some ⟨ob, 0, none⟩) (s.under.length + 1) oc)) (by kernel_rfl) st (fun hHeld => ?_)
  clear hHeld
  refine wpAnyH_take (i := 0) (oi := { dst := some 24, op := Go.Op.move (Go.Operand.tmp 0), type := 87, pos := "scan.go:170", after := #[], guard := none }) (v := ?_) rfl (by kernel_rfl) (by kernel_rfl) (by kernel_rfl) (fun _ _ _ h => h) (Or.inl ⟨by kernel_rfl, ?_⟩) st ?_
  rotate_left
  · (intro X hX; (try dsimp only at hX); go_simp; try (with_reducible rfl))
  (try simp only [Act.put, List.setIfInBounds_toArray, List.set_cons_zero, List.set_cons_succ])
  refine wpAnyH_take (i := 1) (oi := { dst := some 25, op := Go.Op.nilCheck (Go.Operand.tmp 24), type := 0, pos := "scan.go:170", after := #[{ on := 0, ground := Go.Ground.data }], guard := none }) (v := ?_) rfl (by kernel_rfl) (by kernel_rfl) (by kernel_rfl) (fun _ _ _ h => h) (Or.inl ⟨by kernel_rfl, ?_⟩) st ?_
  rotate_left
  · (intro X hX; (try dsimp only at hX); go_simp; try (with_reducible rfl))
  (try simp only [Act.put, List.setIfInBounds_toArray, List.set_cons_zero, List.set_cons_succ])
  refine wpAnyH_take (i := 2) (oi := { dst := some 26, op := Go.Op.fieldAddr 67 (Go.Operand.tmp 25) 0, type := 0, pos := "scan.go:170", after := #[{ on := 1, ground := Go.Ground.data }], guard := none }) (v := ?_) rfl (by kernel_rfl) (by kernel_rfl) (by kernel_rfl) (fun _ _ _ h => h) (Or.inl ⟨by kernel_rfl, ?_⟩) st ?_
  rotate_left
  · (intro X hX; (try dsimp only at hX); go_simp; try (with_reducible rfl))
  (try simp only [Act.put, List.setIfInBounds_toArray, List.set_cons_zero, List.set_cons_succ])
  refine wpAnyH_take (i := 3) (oi := { dst := some 27, op := Go.Op.load 9 (Go.Operand.tmp 26), type := 9, pos := "scan.go:170", after := #[{ on := 2, ground := Go.Ground.data }], guard := none }) (v := ?_) rfl (by kernel_rfl) (by kernel_rfl) (by kernel_rfl) (fun _ _ _ h => h) (Or.inl ⟨by kernel_rfl, ?_⟩) st ?_
  rotate_left
  · (intro X hX; (try dsimp only at hX); go_simp; try (with_reducible rfl))
  (try simp only [Act.put, List.setIfInBounds_toArray, List.set_cons_zero, List.set_cons_succ])
  refine wpAnyH_take (i := 4) (oi := { dst := some 28, op := Go.Op.move (Go.Operand.tmp 0), type := 87, pos := "scan.go:170", after := #[], guard := none }) (v := ?_) rfl (by kernel_rfl) (by kernel_rfl) (by kernel_rfl) (fun _ _ _ h => h) (Or.inl ⟨by kernel_rfl, ?_⟩) st ?_
  rotate_left
  · (intro X hX; (try dsimp only at hX); go_simp; try (with_reducible rfl))
  (try simp only [Act.put, List.setIfInBounds_toArray, List.set_cons_zero, List.set_cons_succ])
  refine wpAnyH_take (i := 5) (oi := { dst := some 29, op := Go.Op.nilCheck (Go.Operand.tmp 28), type := 0, pos := "scan.go:170", after := #[{ on := 4, ground := Go.Ground.data }], guard := none }) (v := ?_) rfl (by kernel_rfl) (by kernel_rfl) (by kernel_rfl) (fun _ _ _ h => h) (Or.inl ⟨by kernel_rfl, ?_⟩) st ?_
  rotate_left
  · (intro X hX; (try dsimp only at hX); go_simp; try (with_reducible rfl))
  (try simp only [Act.put, List.setIfInBounds_toArray, List.set_cons_zero, List.set_cons_succ])
  refine wpAnyH_take (i := 6) (oi := { dst := some 30, op := Go.Op.fieldAddr 67 (Go.Operand.tmp 29) 1, type := 0, pos := "scan.go:170", after := #[{ on := 5, ground := Go.Ground.data }], guard := none }) (v := ?_) rfl (by kernel_rfl) (by kernel_rfl) (by kernel_rfl) (fun _ _ _ h => h) (Or.inl ⟨by kernel_rfl, ?_⟩) st ?_
  rotate_left
  · (intro X hX; (try dsimp only at hX); go_simp; try (with_reducible rfl))
  (try simp only [Act.put, List.setIfInBounds_toArray, List.set_cons_zero, List.set_cons_succ])
  refine wpAnyH_take (i := 7) (oi := { dst := some 31, op := Go.Op.load 3 (Go.Operand.tmp 30), type := 3, pos := "scan.go:170", after := #[{ on := 6, ground := Go.Ground.data }], guard := none }) (v := ?_) rfl (by kernel_rfl) (by kernel_rfl) (by kernel_rfl) (fun _ _ _ h => h) (Or.inl ⟨by kernel_rfl, ?_⟩) st ?_
  rotate_left
  · (intro X hX; (try dsimp only at hX); go_simp; try (with_reducible rfl))
  (try simp only [Act.put, List.setIfInBounds_toArray, List.set_cons_zero, List.set_cons_succ])
  refine wpAnyH_take (i := 8) (oi := { dst := some 32, op := Go.Op.slice 9 (Go.Operand.tmp 27) (some (Go.Operand.tmp 31)) none none, type := 9, pos := "scan.go:170", after := #[{ on := 3, ground := Go.Ground.data }, { on := 7, ground := Go.Ground.data }], guard := none }) (v := .string (S ((L line).drop s.pos))) rfl (by kernel_rfl) (by kernel_rfl) (by kernel_rfl) (fun _ _ _ h => h) (Or.inl ⟨by kernel_rfl, ?_⟩) st ?_
  · (intro X hX; (try dsimp only at hX); go_simp; try (rw [S_drop]))
  (try simp only [Act.put, List.setIfInBounds_toArray, List.set_cons_zero, List.set_cons_succ])
  refine wpAnyH_ready (rs := [9]) (by kernel_rfl) (by simp) ?_
  refine AllReadyH.cons (o := { dst := some 33, op := Go.Op.call { callee := Go.Callee.value (Go.Operand.func 42), args := #[Go.Operand.tmp 32], argTypes := #[9] }, type := 74, pos := "scan.go:170", after := #[{ on := 8, ground := Go.Ground.data }], guard := none }) rfl (fun K hK => ?_) AllReadyH.nil
  go_simp
  refine (HA.out _).mono ?_
  rintro e w2 ⟨rfl, hw2⟩
  subst hw2
  dsimp only
  refine hK.out _ _ st (fun hHeld => ?_)
  clear hHeld hK K
  (try simp only [Act.put, List.setIfInBounds_toArray, List.set_cons_zero, List.set_cons_succ])
  refine wpAnyH_take (i := 10) (oi := { dst := some 23, op := Go.Op.move (Go.Operand.tmp 33), type := 74, pos := "scan.go:170", after := #[{ on := 9, ground := Go.Ground.data }], guard := none }) (v := ?_) rfl (by kernel_rfl) (by kernel_rfl) (by kernel_rfl) (fun _ _ _ h => h) (Or.inl ⟨by kernel_rfl, ?_⟩) st ?_
  rotate_left
  · (intro X hX; (try dsimp only at hX); go_simp; try (with_reducible rfl))
  (try simp only [Act.put, List.setIfInBounds_toArray, List.set_cons_zero, List.set_cons_succ])
  refine wpAnyH_take (i := 11) (oi := { dst := some 34, op := Go.Op.extract (Go.Operand.tmp 23) 0, type := 3, pos := "scan.go:170", after := #[{ on := 10, ground := Go.Ground.data }], guard := none }) (v := ?_) rfl (by kernel_rfl) (by kernel_rfl) (by kernel_rfl) (fun _ _ _ h => h) (Or.inl ⟨by kernel_rfl, ?_⟩) st ?_
  rotate_left
  · (intro X hX; (try dsimp only at hX); go_simp; try (with_reducible rfl))
  (try simp only [Act.put, List.setIfInBounds_toArray, List.set_cons_zero, List.set_cons_succ])
  refine wpAnyH_take (i := 12) (oi := { dst := some 35, op := Go.Op.extract (Go.Operand.tmp 23) 1, type := 4, pos := "scan.go:170", after := #[{ on := 10, ground := Go.Ground.data }, { on := 14, ground := Go.Ground.gcOnly Go.Departure.lateStores }], guard := none }) (v := ?_) rfl (by kernel_rfl) (by kernel_rfl) (by kernel_rfl) (fun _ _ _ h => h) (Or.inl ⟨by kernel_rfl, ?_⟩) st ?_
  rotate_left
  · (intro X hX; (try dsimp only at hX); go_simp; try (with_reducible rfl))
  (try simp only [Act.put, List.setIfInBounds_toArray, List.set_cons_zero, List.set_cons_succ])
  refine wpAnyH_take (i := 13) (oi := { dst := some 36, op := Go.Op.extract (Go.Operand.tmp 23) 2, type := 3, pos := "scan.go:170", after := #[{ on := 10, ground := Go.Ground.data }, { on := 15, ground := Go.Ground.gcOnly Go.Departure.lateStores }], guard := none }) (v := ?_) rfl (by kernel_rfl) (by kernel_rfl) (by kernel_rfl) (fun _ _ _ h => h) (Or.inl ⟨by kernel_rfl, ?_⟩) st ?_
  rotate_left
  · (intro X hX; (try dsimp only at hX); go_simp; try (with_reducible rfl))
  (try simp only [Act.put, List.setIfInBounds_toArray, List.set_cons_zero, List.set_cons_succ])
  refine wpAnyH_take (i := 14) (oi := { dst := some 3, op := Go.Op.assign (Go.Operand.tmp 34), type := 3, pos := "scan.go:170", after := #[{ on := 11, ground := Go.Ground.data }, { on := 9, ground := Go.Ground.chain }, { on := 0, ground := Go.Ground.phase }, { on := 1, ground := Go.Ground.phase }, { on := 2, ground := Go.Ground.phase }, { on := 3, ground := Go.Ground.phase }, { on := 4, ground := Go.Ground.phase }, { on := 5, ground := Go.Ground.phase }, { on := 6, ground := Go.Ground.phase }, { on := 7, ground := Go.Ground.phase }, { on := 8, ground := Go.Ground.phase }, { on := 9, ground := Go.Ground.phase }, { on := 10, ground := Go.Ground.phase }, { on := 11, ground := Go.Ground.phase }, { on := 12, ground := Go.Ground.textOnly Go.Departure.lateStores }, { on := 13, ground := Go.Ground.textOnly Go.Departure.lateStores }], guard := none }) (v := ?_) rfl (by kernel_rfl) (by kernel_rfl) (by kernel_rfl) (fun _ _ _ h => h) (Or.inl ⟨by kernel_rfl, ?_⟩) st ?_
  rotate_left
  · (intro X hX; (try dsimp only at hX); go_simp; try (with_reducible rfl))
  (try simp only [Act.put, List.setIfInBounds_toArray, List.set_cons_zero, List.set_cons_succ])
  refine wpAnyH_take (i := 15) (oi := { dst := some 4, op := Go.Op.assign (Go.Operand.tmp 35), type := 4, pos := "scan.go:170", after := #[{ on := 12, ground := Go.Ground.data }, { on := 14, ground := Go.Ground.chain }, { on := 0, ground := Go.Ground.phase }, { on := 1, ground := Go.Ground.phase }, { on := 2, ground := Go.Ground.phase }, { on := 3, ground := Go.Ground.phase }, { on := 4, ground := Go.Ground.phase }, { on := 5, ground := Go.Ground.phase }, { on := 6, ground := Go.Ground.phase }, { on := 7, ground := Go.Ground.phase }, { on := 8, ground := Go.Ground.phase }, { on := 9, ground := Go.Ground.phase }, { on := 10, ground := Go.Ground.phase }, { on := 11, ground := Go.Ground.phase }, { on := 12, ground := Go.Ground.phase }, { on := 13, ground := Go.Ground.textOnly Go.Departure.lateStores }, { on := 14, ground := Go.Ground.phase }], guard := none }) (v := ?_) rfl (by kernel_rfl) (by kernel_rfl) (by kernel_rfl) (fun _ _ _ h => h) (Or.inl ⟨by kernel_rfl, ?_⟩) st ?_
  rotate_left
  · (intro X hX; (try dsimp only at hX); go_simp; try (with_reducible rfl))
  (try simp only [Act.put, List.setIfInBounds_toArray, List.set_cons_zero, List.set_cons_succ])
  refine wpAnyH_take (i := 16) (oi := { dst := some 5, op := Go.Op.assign (Go.Operand.tmp 36), type := 3, pos := "scan.go:170", after := #[{ on := 13, ground := Go.Ground.data }, { on := 15, ground := Go.Ground.chain }, { on := 0, ground := Go.Ground.phase }, { on := 1, ground := Go.Ground.phase }, { on := 2, ground := Go.Ground.phase }, { on := 3, ground := Go.Ground.phase }, { on := 4, ground := Go.Ground.phase }, { on := 5, ground := Go.Ground.phase }, { on := 6, ground := Go.Ground.phase }, { on := 7, ground := Go.Ground.phase }, { on := 8, ground := Go.Ground.phase }, { on := 9, ground := Go.Ground.phase }, { on := 10, ground := Go.Ground.phase }, { on := 11, ground := Go.Ground.phase }, { on := 12, ground := Go.Ground.phase }, { on := 13, ground := Go.Ground.phase }, { on := 14, ground := Go.Ground.phase }, { on := 15, ground := Go.Ground.phase }], guard := none }) (v := ?_) rfl (by kernel_rfl) (by kernel_rfl) (by kernel_rfl) (fun _ _ _ h => h) (Or.inl ⟨by kernel_rfl, ?_⟩) st ?_
  rotate_left
  · (intro X hX; (try dsimp only at hX); go_simp; try (with_reducible rfl))
  (try simp only [Act.put, List.setIfInBounds_toArray, List.set_cons_zero, List.set_cons_succ])
  refine wpAnyH_done (by kernel_rfl) ?_ _
  generalize Y2.drew = Y3 at *
  obtain ⟨c0, c1, c2, c3, c4⟩ := st
  have f1 := H3.out.free 1
  have hwr : (s.pos : Int) + (asz : Int) = ((s.pos + asz : Nat) : Int) := by omega
  have h4 := H3.out.setPos (s.pos + asz)
  rw [← hwr] at h4
  have hR4 : (Y3.setCell ⟨P, 1, none⟩ (.int .i64 ((s.pos : Int) + (asz : Int)))).heap[w7.heap.size]? = some (.cells #[.int .i64 3, .string x, .slice none 0 0, .bool wb] 33 (0, 0)) := (heap_setCell_other Y3 ⟨P, 1, none⟩ w7.heap.size _ (by simpa using hPR.symm)).trans HR3.out
  have hbig : (s.pos : Int) + (asz : Int) ≤ 140737488355328 := by omega
  have H4 := Lib.hid h4
  have HR4 := Lib.hid hR4
  clear h4 hR4 H3 HR3 hwr
  go_upto_region 5 with fail
  generalize Y3.setCell ⟨P, 1, none⟩ (.int .i64 ((s.pos : Int) + (asz : Int))) = Y4 at *
  have x0 : Y4.cell? ⟨w7.heap.size, 0, none⟩ = some (.int .i64 3) := cell_of_row _ _ 0 _ _ _ HR4.out
  have x1 : Y4.cell? ⟨w7.heap.size, 1, none⟩ = some (.string x) := cell_of_row _ _ 1 _ _ _ HR4.out
  have x2 : Y4.cell? ⟨w7.heap.size, 2, none⟩ = some (.slice none 0 0) := cell_of_row _ _ 2 _ _ _ HR4.out
  have x3 : Y4.cell? ⟨w7.heap.size, 3, none⟩ = some (.bool wb) := cell_of_row _ _ 3 _ _ _ HR4.out
  clear c0 c1 c2 c3 c4 f1
  go_wp2_with fail
  all_goals (
    refine (add_any ⟨3, x, none, 0, 0, wb⟩ (Wd.mk 3 x [] wb) H4.out ⟨rfl, rfl, rfl, .nil⟩ hn hk).mono ?_
    rintro e w5 ⟨rfl, ⟨fs5, hsm5⟩, _⟩
    have HS5 := Lib.hid hsm5
    clear hsm5 H4 HR4
    go_wp2_with fail
    go_end0
    exact ⟨rfl, vl2, fs5, by rw [← HAS.out, ← HWB.out]; exact HS5.out⟩)
end Go.Proofs.YtliiapdakojomabDoor
