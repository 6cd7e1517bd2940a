/- lex: the scanner's pop. -/
import Derived.Test.YtliiapdakojomabDoorAn
namespace Go.Proofs.YtliiapdakojomabDoor
open Go.RowKit

theorem Lies.grow {w : World} {D D' : Nat → Prop} (hD : ∀ g, D g → D' g) {a : Option Addr} {n c : Nat} {l : List Wd} (h : Lies w D a n c l) : Lies w D' a n c l := h.mono (fun _ _ hlt => ⟨hlt, fun _ => rfl⟩) hD
/-- An open word, once it has ended. -/
theorem FrIs.ended {B : Nat} {D : Nat → Prop} {w : World} {c : Wc} {f : Fr} (h : FrIs B D w c f) : WdIs (fun g => D g ∨ c.kv.ownBlock = some g) w c (Wd.mk f.kind (S []) f.kids f.glued) := by
  have hkn := h.kn
  obtain ⟨its, h1, h2, h3⟩ := h.kids
  refine ⟨h.kind, h.text, h.glued, ?_⟩
  show Lies w (fun g => D g ∨ c.kv.ownBlock = some g) c.ka c.kn c.kc f.kids
  have hrow := h1.2
  unfold Wc.kv at hrow
  rcases hrow with ⟨e, h0⟩ | ⟨g, cap, cur, e, hB, hg, hnc, hcm, _⟩
  · injection e with e1 e2 e3
    have : f.kids = [] := List.eq_nil_of_length_eq_zero (by omega)
    rw [e1, e2, e3, this]
    exact .nil
  · injection e with e1 e2 e3
    rw [hkn, e1]
    have hb : c.kv.ownBlock = some g := by unfold Wc.kv; rw [e1]; rfl
    refine .row g 0 c.kc f.kids (fun i => (its.getD i wc0).ka) (fun i => (its.getD i wc0).kn) (fun i => (its.getD i wc0).kc) (.inr hb) (Array.getElem?_eq_some_iff.1 hg).1 (by omega) (fun i hi => ?_) (fun i hi => (h3 i hi).lies.grow (fun _ x => .inl x))
    have h1' : RowW B (.slice (some ⟨g, 0, none⟩) c.kn c.kc) its w := by have := h1; unfold Wc.kv at this; rw [e1] at this; exact this
    have ha := h1'.at i (by omega)
    have hw := h3 i hi
    rw [Nat.zero_add]
    refine ⟨by rw [← hw.kind]; exact ha.1, by rw [← hw.text]; exact ha.2.1, ha.2.2.1, by rw [← hw.glued]; exact ha.2.2.2⟩
theorem take_getD (l : List Wc) (k i : Nat) (h : i < k) : (l.take k).getD i wc0 = l.getD i wc0 := by
  rw [List.getD_eq_getElem?_getD, List.getElem?_take_of_lt h, List.getD_eq_getElem?_getD]
theorem Stk.popped {B P ob oc : Nat} {fs : List Wc} {F : List Fr} {t : Fr} {D : Nat → Prop} {w : World} (h : Stk B P ob oc fs (F ++ [t]) D w) :
    Stk B P ob oc (fs.take F.length) F (fun g => D g ∨ (fs.getD F.length wc0).kv.ownBlock = some g) w := by
  have hl : fs.length = F.length + 1 := by rw [h.len]; simp
  have hft : FrIs B D w (fs.getD F.length wc0) t := by have := h.fr F.length (by simp); rwa [getD_snoc_eq] at this
  refine ⟨by simp; omega, ?_, h.obP, fun i hi => ?_, fun i hi g e => ?_, fun i j hi hj hij g e => ?_, fun g hg => ?_⟩
  · have := h.row.cut F.length (by omega)
    rw [show (fs.take F.length).length = F.length by simp; omega]
    exact this
  · rw [take_getD _ _ _ hi]
    have := h.fr i (by simp; omega)
    rw [getD_snoc_lt _ _ _ _ hi] at this
    exact this.move (fun g _ hlt => ⟨hlt, rfl⟩) (fun _ x => .inl x) (fun _ _ => rfl)
  · rw [take_getD _ _ _ hi] at e
    obtain ⟨a, b, c⟩ := h.kP i (by simp; omega) g e
    refine ⟨a, b, fun hx => ?_⟩
    rcases hx with hx | hx
    · exact c hx
    · exact h.kk i F.length (by simp; omega) (by simp) (by omega) g e hx
  · rw [take_getD _ _ _ hi] at e
    rw [take_getD _ _ _ hj]
    exact h.kk i j (by simp; omega) (by simp; omega) hij g e
  · rcases hg with hg | hg
    · exact h.dd g hg
    · obtain ⟨a, b, _⟩ := h.kP F.length (by simp) g hg
      exact ⟨(hft.lt g hg).1, (hft.lt g hg).2, a, b⟩
set_option maxRecDepth 100000 in
set_option maxHeartbeats 8000000 in
theorem pop_any {B P : Nat} {line : ByteArray} {vl : Value} {s : Sc} {ob oc : Nat} {fs : List Wc} {D : Nat → Prop} {W0 w : World} (u : List Fr) (f : Fr) (h : SmX B P line vl s ob oc fs D W0 w) (hu : s.under = u ++ [f]) (hn : s.under.length ≤ 100) (hk : f.kids.length ≤ 1000) (hp : s.pos < 140737488355328) :
    Calls Tryd.prog 55 #[.pointer (some ⟨P, 0, none⟩)] w fun e w' => e = .returned (.tuple #[]) ∧ ∃ fs' D', SmX B P line vl { s with pos := s.pos + 1, under := u, top := { f with kids := f.kids ++ [Wd.mk s.top.kind (S []) s.top.kids s.top.glued] } } ob oc fs' D' W0 w' := by
  obtain ⟨n, hnn⟩ : ∃ n, n = s.under.length := ⟨_, rfl⟩
  have hul : n = u.length + 1 := by rw [hnn, hu]; simp
  have hfl := h.len
  rw [← hnn] at hfl hn
  have HT := Lib.hid (top_any (n := n) (by have := h.sv; rw [← hnn] at this; exact this) hn)
  obtain ⟨c, hc⟩ : ∃ c, c = fs.getD n wc0 := ⟨_, rfl⟩
  have HPOP := Lib.hid (show ∀ X, SmX B P line vl s ob oc fs D W0 X → (X.cell? ⟨ob, n * 4, none⟩ = some (.int .i64 c.kind) ∧ X.cell? ⟨ob, n * 4 + 1, none⟩ = some (.string c.text) ∧ X.cell? ⟨ob, n * 4 + 2, none⟩ = some (.slice c.ka c.kn c.kc) ∧ X.cell? ⟨ob, n * 4 + 3, none⟩ = some (.bool c.glued)) ∧
      SmX B P line vl { s with under := u, top := f } ob oc (fs.take n) (fun g => D g ∨ c.kv.ownBlock = some g) W0 (X.setCell ⟨P, 4, none⟩ (.slice (some ⟨ob, 0, none⟩) n oc)) ∧ WdIs (fun g => D g ∨ c.kv.ownBlock = some g) (X.setCell ⟨P, 4, none⟩ (.slice (some ⟨ob, 0, none⟩) n oc)) c (Wd.mk s.top.kind (S []) s.top.kids s.top.glued) from fun X hX => by
    have ha := hX.st.row.at n (by omega)
    rw [← hc] at ha
    refine ⟨⟨ha.1, ha.2.1, ha.2.2.1, ha.2.2.2⟩, ?_, ?_⟩
    · have hst := hX.st.popped
      rw [← hnn, ← hc] at hst
      rw [hu] at hst
      have hb := But.set P 4 (.slice (some ⟨ob, 0, none⟩) n oc) X
      refine ⟨?_, hX.bP, hX.bW, hX.lits, hX.below.setCell (p := ⟨P, 4, none⟩) hX.bP _, hst.on hb.size hb.blk⟩
      have := heap_setCell_same X P 4 _ _ (.slice (some ⟨ob, 0, none⟩) n oc) hX.blk
      rw [show (fs.take n).length = n by simp; omega]
      simpa using this
    · have hft := hX.topFr
      rw [← hnn, ← hc] at hft
      have hst := hX.st.popped
      rw [← hnn, ← hc] at hst
      refine hft.ended.move (fun g hg hlt => ⟨by simpa using hlt, heap_setCell_other X ⟨P, 4, none⟩ g _ (by simpa using (hst.dd g hg).2.2.1)⟩) (fun _ x => x))
  have hcap : n + 1 ≤ oc := by
    rcases h.st.row.2 with ⟨hn', _⟩ | ⟨g', cap', cur, he, _, _, hle, _⟩
    · cases hn'
    · injection he with _ _ e3
      omega
  have hcz : (n : Int) ≤ (oc : Int) := by omega
  have hn0 : (0 : Int) ≤ (n : Int) := by omega
  have H := Lib.hid h
  have HU := Lib.hid (And.intro hnn (And.intro hul (And.intro hc hfl)))
  clear h hnn hul hc hfl hu
  go_enter Tryd.func55, Tryd.ntmps55
  go_wp2_with fail
  refine HT.out.mono ?_
  rintro e w1 ⟨rfl, hb1⟩
  have h1 := H.out.on hb1
  obtain ⟨⟨t0, t1, t2, t3⟩, _⟩ := HPOP.out w1 h1
  clear hb1 HT H
  have HW := Lib.hid (h1.on ((Below.refl _ _).alloc (Nat.le_refl _) (.cells #[.int .i64 c.kind, .string c.text, .slice c.ka c.kn c.kc, .bool c.glued] 33)))
  have HX : Hid ((w1.alloc (.cells #[.int .i64 c.kind, .string c.text, .slice c.ka c.kn c.kc, .bool c.glued] 33)).heap[w1.heap.size]? = some (.cells #[.int .i64 c.kind, .string c.text, .slice c.ka c.kn c.kc, .bool c.glued] 33 (0, 0))) := Lib.hid (heap_alloc_new w1 _)
  have hPw : w1.heap.size ≠ P := by have := h1.plt; omega
  clear h1
  go_upto_region 1 with fail
  generalize hYe : w1.alloc (.cells #[.int .i64 c.kind, .string c.text, .slice c.ka c.kn c.kc, .bool c.glued] 33) = Y at *
  clear hYe t0 t1 t2 t3
  have hYd := HW.out.on ((Below.refl _ _).drew)
  have hS0 : (fun X : World => X.cell? ⟨P, 4, none⟩ = some (.slice (some ⟨ob, 0, none⟩) (n + 1) oc)) Y.drew := by
    have := cell_of_row _ _ 4 _ _ _ hYd.blk
    rw [HU.out.2.2.2] at this
    exact this
  have hS1 : Y.drew.cell? ⟨P, 4, none⟩ = some (.slice (some ⟨ob, 0, none⟩) (n + 1) oc) := hS0
  have fz4 := hYd.free 4
  obtain ⟨_, hV, hVd⟩ := HPOP.out Y.drew hYd
  have hVx : (Y.drew.setCell ⟨P, 4, none⟩ (.slice (some ⟨ob, 0, none⟩) n oc)).heap[w1.heap.size]? = some (.cells #[.int .i64 c.kind, .string c.text, .slice c.ka c.kn c.kc, .bool c.glued] 33 (0, 0)) := (heap_setCell_other Y.drew ⟨P, 4, none⟩ w1.heap.size _ (by simpa using hPw)).trans HX.out
  have HV := Lib.hid hV
  have HVD := Lib.hid hVd
  have HVX := Lib.hid hVx
  clear hV hVd hVx hYd HW HX HPOP
  refine wp_region_N 14 (fun X => X.cell? ⟨P, 4, none⟩ = some (.slice (some ⟨ob, 0, none⟩) (n + 1) oc)) (by kernel_rfl) ?_
  refine wpAnyN_take (i := 0) (oi := { dst := some 7, op := Go.Op.move (Go.Operand.tmp 0), type := 87, pos := "scan.go:161", after := #[], guard := none }) (oL := { dst := none, op := Go.Op.store 24 (Go.Operand.tmp 20) (Go.Operand.tmp 18), type := 0, pos := "scan.go:161", after := #[{ on := 13, ground := Go.Ground.data }, { on := 11, ground := Go.Ground.data }, { on := 0, ground := Go.Ground.phase }, { on := 1, ground := Go.Ground.phase }, { on := 2, ground := Go.Ground.phase }, { on := 3, ground := Go.Ground.phase }, { on := 4, ground := Go.Ground.phase }, { on := 5, ground := Go.Ground.phase }, { on := 6, ground := Go.Ground.phase }, { on := 7, ground := Go.Ground.phase }, { on := 8, ground := Go.Ground.phase }, { on := 9, ground := Go.Ground.phase }, { on := 10, ground := Go.Ground.phase }, { on := 11, ground := Go.Ground.phase }], guard := none }) (v := ?_) rfl rfl (by kernel_rfl) (by kernel_rfl) (by kernel_rfl) (by kernel_rfl) (fun _ _ _ h => h) (Or.inl ⟨by kernel_rfl, ?_⟩) hS0 ?_
  rotate_left
  · (intro X hX; (try dsimp only at hX); go_simp; try (with_reducible rfl))
  (try simp only [Act.put, List.setIfInBounds_toArray, List.set_cons_zero, List.set_cons_succ])
  refine wpAnyN_take (i := 1) (oi := { dst := some 8, op := Go.Op.move (Go.Operand.tmp 0), type := 87, pos := "scan.go:161", after := #[], guard := none }) (oL := { dst := none, op := Go.Op.store 24 (Go.Operand.tmp 20) (Go.Operand.tmp 18), type := 0, pos := "scan.go:161", after := #[{ on := 13, ground := Go.Ground.data }, { on := 11, ground := Go.Ground.data }, { on := 0, ground := Go.Ground.phase }, { on := 1, ground := Go.Ground.phase }, { on := 2, ground := Go.Ground.phase }, { on := 3, ground := Go.Ground.phase }, { on := 4, ground := Go.Ground.phase }, { on := 5, ground := Go.Ground.phase }, { on := 6, ground := Go.Ground.phase }, { on := 7, ground := Go.Ground.phase }, { on := 8, ground := Go.Ground.phase }, { on := 9, ground := Go.Ground.phase }, { on := 10, ground := Go.Ground.phase }, { on := 11, ground := Go.Ground.phase }], guard := none }) (v := ?_) rfl rfl (by kernel_rfl) (by kernel_rfl) (by kernel_rfl) (by kernel_rfl) (fun _ _ _ h => h) (Or.inl ⟨by kernel_rfl, ?_⟩) hS0 ?_
  rotate_left
  · (intro X hX; (try dsimp only at hX); go_simp; try (with_reducible rfl))
  (try simp only [Act.put, List.setIfInBounds_toArray, List.set_cons_zero, List.set_cons_succ])
  refine wpAnyN_take (i := 2) (oi := { dst := some 9, op := Go.Op.nilCheck (Go.Operand.tmp 8), type := 0, pos := "scan.go:161", after := #[{ on := 1, ground := Go.Ground.data }], guard := none }) (oL := { dst := none, op := Go.Op.store 24 (Go.Operand.tmp 20) (Go.Operand.tmp 18), type := 0, pos := "scan.go:161", after := #[{ on := 13, ground := Go.Ground.data }, { on := 11, ground := Go.Ground.data }, { on := 0, ground := Go.Ground.phase }, { on := 1, ground := Go.Ground.phase }, { on := 2, ground := Go.Ground.phase }, { on := 3, ground := Go.Ground.phase }, { on := 4, ground := Go.Ground.phase }, { on := 5, ground := Go.Ground.phase }, { on := 6, ground := Go.Ground.phase }, { on := 7, ground := Go.Ground.phase }, { on := 8, ground := Go.Ground.phase }, { on := 9, ground := Go.Ground.phase }, { on := 10, ground := Go.Ground.phase }, { on := 11, ground := Go.Ground.phase }], guard := none }) (v := ?_) rfl rfl (by kernel_rfl) (by kernel_rfl) (by kernel_rfl) (by kernel_rfl) (fun _ _ _ h => h) (Or.inl ⟨by kernel_rfl, ?_⟩) hS0 ?_
  rotate_left
  · (intro X hX; (try dsimp only at hX); go_simp; try (with_reducible rfl))
  (try simp only [Act.put, List.setIfInBounds_toArray, List.set_cons_zero, List.set_cons_succ])
  refine wpAnyN_take (i := 3) (oi := { dst := some 10, op := Go.Op.fieldAddr 67 (Go.Operand.tmp 9) 4, type := 0, pos := "scan.go:161", after := #[{ on := 2, ground := Go.Ground.data }], guard := none }) (oL := { dst := none, op := Go.Op.store 24 (Go.Operand.tmp 20) (Go.Operand.tmp 18), type := 0, pos := "scan.go:161", after := #[{ on := 13, ground := Go.Ground.data }, { on := 11, ground := Go.Ground.data }, { on := 0, ground := Go.Ground.phase }, { on := 1, ground := Go.Ground.phase }, { on := 2, ground := Go.Ground.phase }, { on := 3, ground := Go.Ground.phase }, { on := 4, ground := Go.Ground.phase }, { on := 5, ground := Go.Ground.phase }, { on := 6, ground := Go.Ground.phase }, { on := 7, ground := Go.Ground.phase }, { on := 8, ground := Go.Ground.phase }, { on := 9, ground := Go.Ground.phase }, { on := 10, ground := Go.Ground.phase }, { on := 11, ground := Go.Ground.phase }], guard := none }) (v := ?_) rfl rfl (by kernel_rfl) (by kernel_rfl) (by kernel_rfl) (by kernel_rfl) (fun _ _ _ h => h) (Or.inl ⟨by kernel_rfl, ?_⟩) hS0 ?_
  rotate_left
  · (intro X hX; (try dsimp only at hX); go_simp; try (with_reducible rfl))
  (try simp only [Act.put, List.setIfInBounds_toArray, List.set_cons_zero, List.set_cons_succ])
  refine wpAnyN_take (i := 4) (oi := { dst := some 11, op := Go.Op.load 24 (Go.Operand.tmp 10), type := 24, pos := "scan.go:161", after := #[{ on := 3, ground := Go.Ground.data }], guard := none }) (oL := { dst := none, op := Go.Op.store 24 (Go.Operand.tmp 20) (Go.Operand.tmp 18), type := 0, pos := "scan.go:161", after := #[{ on := 13, ground := Go.Ground.data }, { on := 11, ground := Go.Ground.data }, { on := 0, ground := Go.Ground.phase }, { on := 1, ground := Go.Ground.phase }, { on := 2, ground := Go.Ground.phase }, { on := 3, ground := Go.Ground.phase }, { on := 4, ground := Go.Ground.phase }, { on := 5, ground := Go.Ground.phase }, { on := 6, ground := Go.Ground.phase }, { on := 7, ground := Go.Ground.phase }, { on := 8, ground := Go.Ground.phase }, { on := 9, ground := Go.Ground.phase }, { on := 10, ground := Go.Ground.phase }, { on := 11, ground := Go.Ground.phase }], guard := none }) (v := ?_) rfl rfl (by kernel_rfl) (by kernel_rfl) (by kernel_rfl) (by kernel_rfl) (fun _ _ _ h => h) (Or.inl ⟨by kernel_rfl, ?_⟩) hS0 ?_
  rotate_left
  · (intro X hX; (try dsimp only at hX); go_simp; try (with_reducible rfl))
  (try simp only [Act.put, List.setIfInBounds_toArray, List.set_cons_zero, List.set_cons_succ])
  refine wpAnyN_take (i := 5) (oi := { dst := some 12, op := Go.Op.move (Go.Operand.tmp 0), type := 87, pos := "scan.go:161", after := #[], guard := none }) (oL := { dst := none, op := Go.Op.store 24 (Go.Operand.tmp 20) (Go.Operand.tmp 18), type := 0, pos := "scan.go:161", after := #[{ on := 13, ground := Go.Ground.data }, { on := 11, ground := Go.Ground.data }, { on := 0, ground := Go.Ground.phase }, { on := 1, ground := Go.Ground.phase }, { on := 2, ground := Go.Ground.phase }, { on := 3, ground := Go.Ground.phase }, { on := 4, ground := Go.Ground.phase }, { on := 5, ground := Go.Ground.phase }, { on := 6, ground := Go.Ground.phase }, { on := 7, ground := Go.Ground.phase }, { on := 8, ground := Go.Ground.phase }, { on := 9, ground := Go.Ground.phase }, { on := 10, ground := Go.Ground.phase }, { on := 11, ground := Go.Ground.phase }], guard := none }) (v := ?_) rfl rfl (by kernel_rfl) (by kernel_rfl) (by kernel_rfl) (by kernel_rfl) (fun _ _ _ h => h) (Or.inl ⟨by kernel_rfl, ?_⟩) hS0 ?_
  rotate_left
  · (intro X hX; (try dsimp only at hX); go_simp; try (with_reducible rfl))
  (try simp only [Act.put, List.setIfInBounds_toArray, List.set_cons_zero, List.set_cons_succ])
  refine wpAnyN_take (i := 6) (oi := { dst := some 13, op := Go.Op.nilCheck (Go.Operand.tmp 12), type := 0, pos := "scan.go:161", after := #[{ on := 5, ground := Go.Ground.data }], guard := none }) (oL := { dst := none, op := Go.Op.store 24 (Go.Operand.tmp 20) (Go.Operand.tmp 18), type := 0, pos := "scan.go:161", after := #[{ on := 13, ground := Go.Ground.data }, { on := 11, ground := Go.Ground.data }, { on := 0, ground := Go.Ground.phase }, { on := 1, ground := Go.Ground.phase }, { on := 2, ground := Go.Ground.phase }, { on := 3, ground := Go.Ground.phase }, { on := 4, ground := Go.Ground.phase }, { on := 5, ground := Go.Ground.phase }, { on := 6, ground := Go.Ground.phase }, { on := 7, ground := Go.Ground.phase }, { on := 8, ground := Go.Ground.phase }, { on := 9, ground := Go.Ground.phase }, { on := 10, ground := Go.Ground.phase }, { on := 11, ground := Go.Ground.phase }], guard := none }) (v := ?_) rfl rfl (by kernel_rfl) (by kernel_rfl) (by kernel_rfl) (by kernel_rfl) (fun _ _ _ h => h) (Or.inl ⟨by kernel_rfl, ?_⟩) hS0 ?_
  rotate_left
  · (intro X hX; (try dsimp only at hX); go_simp; try (with_reducible rfl))
  (try simp only [Act.put, List.setIfInBounds_toArray, List.set_cons_zero, List.set_cons_succ])
  refine wpAnyN_take (i := 7) (oi := { dst := some 14, op := Go.Op.fieldAddr 67 (Go.Operand.tmp 13) 4, type := 0, pos := "scan.go:161", after := #[{ on := 6, ground := Go.Ground.data }], guard := none }) (oL := { dst := none, op := Go.Op.store 24 (Go.Operand.tmp 20) (Go.Operand.tmp 18), type := 0, pos := "scan.go:161", after := #[{ on := 13, ground := Go.Ground.data }, { on := 11, ground := Go.Ground.data }, { on := 0, ground := Go.Ground.phase }, { on := 1, ground := Go.Ground.phase }, { on := 2, ground := Go.Ground.phase }, { on := 3, ground := Go.Ground.phase }, { on := 4, ground := Go.Ground.phase }, { on := 5, ground := Go.Ground.phase }, { on := 6, ground := Go.Ground.phase }, { on := 7, ground := Go.Ground.phase }, { on := 8, ground := Go.Ground.phase }, { on := 9, ground := Go.Ground.phase }, { on := 10, ground := Go.Ground.phase }, { on := 11, ground := Go.Ground.phase }], guard := none }) (v := ?_) rfl rfl (by kernel_rfl) (by kernel_rfl) (by kernel_rfl) (by kernel_rfl) (fun _ _ _ h => h) (Or.inl ⟨by kernel_rfl, ?_⟩) hS0 ?_
  rotate_left
  · (intro X hX; (try dsimp only at hX); go_simp; try (with_reducible rfl))
  (try simp only [Act.put, List.setIfInBounds_toArray, List.set_cons_zero, List.set_cons_succ])
  refine wpAnyN_take (i := 8) (oi := { dst := some 15, op := Go.Op.load 24 (Go.Operand.tmp 14), type := 24, pos := "scan.go:161", after := #[{ on := 7, ground := Go.Ground.data }], guard := none }) (oL := { dst := none, op := Go.Op.store 24 (Go.Operand.tmp 20) (Go.Operand.tmp 18), type := 0, pos := "scan.go:161", after := #[{ on := 13, ground := Go.Ground.data }, { on := 11, ground := Go.Ground.data }, { on := 0, ground := Go.Ground.phase }, { on := 1, ground := Go.Ground.phase }, { on := 2, ground := Go.Ground.phase }, { on := 3, ground := Go.Ground.phase }, { on := 4, ground := Go.Ground.phase }, { on := 5, ground := Go.Ground.phase }, { on := 6, ground := Go.Ground.phase }, { on := 7, ground := Go.Ground.phase }, { on := 8, ground := Go.Ground.phase }, { on := 9, ground := Go.Ground.phase }, { on := 10, ground := Go.Ground.phase }, { on := 11, ground := Go.Ground.phase }], guard := none }) (v := ?_) rfl rfl (by kernel_rfl) (by kernel_rfl) (by kernel_rfl) (by kernel_rfl) (fun _ _ _ h => h) (Or.inl ⟨by kernel_rfl, ?_⟩) hS0 ?_
  rotate_left
  · (intro X hX; (try dsimp only at hX); go_simp; try (with_reducible rfl))
  (try simp only [Act.put, List.setIfInBounds_toArray, List.set_cons_zero, List.set_cons_succ])
  refine wpAnyN_take (i := 9) (oi := { dst := some 16, op := Go.Op.call { callee := Go.Callee.builtin Go.Builtin.len, args := #[Go.Operand.tmp 15], argTypes := #[24] }, type := 3, pos := "scan.go:161", after := #[{ on := 8, ground := Go.Ground.data }], guard := none }) (oL := { dst := none, op := Go.Op.store 24 (Go.Operand.tmp 20) (Go.Operand.tmp 18), type := 0, pos := "scan.go:161", after := #[{ on := 13, ground := Go.Ground.data }, { on := 11, ground := Go.Ground.data }, { on := 0, ground := Go.Ground.phase }, { on := 1, ground := Go.Ground.phase }, { on := 2, ground := Go.Ground.phase }, { on := 3, ground := Go.Ground.phase }, { on := 4, ground := Go.Ground.phase }, { on := 5, ground := Go.Ground.phase }, { on := 6, ground := Go.Ground.phase }, { on := 7, ground := Go.Ground.phase }, { on := 8, ground := Go.Ground.phase }, { on := 9, ground := Go.Ground.phase }, { on := 10, ground := Go.Ground.phase }, { on := 11, ground := Go.Ground.phase }], guard := none }) (v := ?_) rfl rfl (by kernel_rfl) (by kernel_rfl) (by kernel_rfl) (by kernel_rfl) (fun _ _ _ h => h) (Or.inl ⟨by kernel_rfl, ?_⟩) hS0 ?_
  rotate_left
  · (intro X hX; (try dsimp only at hX); go_simp; try (with_reducible rfl))
  (try simp only [Act.put, List.setIfInBounds_toArray, List.set_cons_zero, List.set_cons_succ])
  refine wpAnyN_take (i := 10) (oi := { dst := some 17, op := Go.Op.binOp Go.BinOp.sub 3 (Go.Operand.tmp 16) (Go.Operand.const (Go.Value.int Go.IntKind.i64 1)) 3, type := 3, pos := "scan.go:161", after := #[{ on := 9, ground := Go.Ground.data }], guard := none }) (oL := { dst := none, op := Go.Op.store 24 (Go.Operand.tmp 20) (Go.Operand.tmp 18), type := 0, pos := "scan.go:161", after := #[{ on := 13, ground := Go.Ground.data }, { on := 11, ground := Go.Ground.data }, { on := 0, ground := Go.Ground.phase }, { on := 1, ground := Go.Ground.phase }, { on := 2, ground := Go.Ground.phase }, { on := 3, ground := Go.Ground.phase }, { on := 4, ground := Go.Ground.phase }, { on := 5, ground := Go.Ground.phase }, { on := 6, ground := Go.Ground.phase }, { on := 7, ground := Go.Ground.phase }, { on := 8, ground := Go.Ground.phase }, { on := 9, ground := Go.Ground.phase }, { on := 10, ground := Go.Ground.phase }, { on := 11, ground := Go.Ground.phase }], guard := none }) (v := .int .i64 (n : Int)) rfl rfl (by kernel_rfl) (by kernel_rfl) (by kernel_rfl) (by kernel_rfl) (fun _ _ _ h => h) (Or.inl ⟨by kernel_rfl, ?_⟩) hS0 ?_
  · (intro X hX; (try dsimp only at hX); go_simp; (rw [IntKind.wrap_i64]; omega))
  (try simp only [Act.put, List.setIfInBounds_toArray, List.set_cons_zero, List.set_cons_succ])
  refine wpAnyN_take (i := 11) (oi := { dst := some 18, op := Go.Op.slice 24 (Go.Operand.tmp 11) none (some (Go.Operand.tmp 17)) none, type := 24, pos := "scan.go:161", after := #[{ on := 4, ground := Go.Ground.data }, { on := 10, ground := Go.Ground.data }], guard := none }) (oL := { dst := none, op := Go.Op.store 24 (Go.Operand.tmp 20) (Go.Operand.tmp 18), type := 0, pos := "scan.go:161", after := #[{ on := 13, ground := Go.Ground.data }, { on := 11, ground := Go.Ground.data }, { on := 0, ground := Go.Ground.phase }, { on := 1, ground := Go.Ground.phase }, { on := 2, ground := Go.Ground.phase }, { on := 3, ground := Go.Ground.phase }, { on := 4, ground := Go.Ground.phase }, { on := 5, ground := Go.Ground.phase }, { on := 6, ground := Go.Ground.phase }, { on := 7, ground := Go.Ground.phase }, { on := 8, ground := Go.Ground.phase }, { on := 9, ground := Go.Ground.phase }, { on := 10, ground := Go.Ground.phase }, { on := 11, ground := Go.Ground.phase }], guard := none }) (v := .slice (some ⟨ob, 0, none⟩) n oc) rfl rfl (by kernel_rfl) (by kernel_rfl) (by kernel_rfl) (by kernel_rfl) (fun _ _ _ h => h) (Or.inl ⟨by kernel_rfl, ?_⟩) hS0 ?_
  · (intro X hX; (try dsimp only at hX); go_simp; try omega)
  (try simp only [Act.put, List.setIfInBounds_toArray, List.set_cons_zero, List.set_cons_succ])
  refine wpAnyN_take (i := 12) (oi := { dst := some 19, op := Go.Op.nilCheck (Go.Operand.tmp 7), type := 0, pos := "scan.go:161", after := #[{ on := 0, ground := Go.Ground.data }, { on := 0, ground := Go.Ground.phase }, { on := 1, ground := Go.Ground.phase }, { on := 2, ground := Go.Ground.phase }, { on := 3, ground := Go.Ground.phase }, { on := 4, ground := Go.Ground.phase }, { on := 5, ground := Go.Ground.phase }, { on := 6, ground := Go.Ground.phase }, { on := 7, ground := Go.Ground.phase }, { on := 8, ground := Go.Ground.phase }, { on := 9, ground := Go.Ground.phase }, { on := 10, ground := Go.Ground.phase }, { on := 11, ground := Go.Ground.phase }], guard := none }) (oL := { dst := none, op := Go.Op.store 24 (Go.Operand.tmp 20) (Go.Operand.tmp 18), type := 0, pos := "scan.go:161", after := #[{ on := 13, ground := Go.Ground.data }, { on := 11, ground := Go.Ground.data }, { on := 0, ground := Go.Ground.phase }, { on := 1, ground := Go.Ground.phase }, { on := 2, ground := Go.Ground.phase }, { on := 3, ground := Go.Ground.phase }, { on := 4, ground := Go.Ground.phase }, { on := 5, ground := Go.Ground.phase }, { on := 6, ground := Go.Ground.phase }, { on := 7, ground := Go.Ground.phase }, { on := 8, ground := Go.Ground.phase }, { on := 9, ground := Go.Ground.phase }, { on := 10, ground := Go.Ground.phase }, { on := 11, ground := Go.Ground.phase }], guard := none }) (v := ?_) rfl rfl (by kernel_rfl) (by kernel_rfl) (by kernel_rfl) (by kernel_rfl) (fun _ _ _ h => h) (Or.inl ⟨by kernel_rfl, ?_⟩) hS0 ?_
  rotate_left
  · (intro X hX; (try dsimp only at hX); go_simp; try (with_reducible rfl))
  (try simp only [Act.put, List.setIfInBounds_toArray, List.set_cons_zero, List.set_cons_succ])
  refine wpAnyN_take (i := 13) (oi := { dst := some 20, op := Go.Op.fieldAddr 67 (Go.Operand.tmp 19) 4, type := 0, pos := "scan.go:161", after := #[{ on := 12, ground := Go.Ground.data }, { on := 0, ground := Go.Ground.phase }, { on := 1, ground := Go.Ground.phase }, { on := 2, ground := Go.Ground.phase }, { on := 3, ground := Go.Ground.phase }, { on := 4, ground := Go.Ground.phase }, { on := 5, ground := Go.Ground.phase }, { on := 6, ground := Go.Ground.phase }, { on := 7, ground := Go.Ground.phase }, { on := 8, ground := Go.Ground.phase }, { on := 9, ground := Go.Ground.phase }, { on := 10, ground := Go.Ground.phase }, { on := 11, ground := Go.Ground.phase }], guard := none }) (oL := { dst := none, op := Go.Op.store 24 (Go.Operand.tmp 20) (Go.Operand.tmp 18), type := 0, pos := "scan.go:161", after := #[{ on := 13, ground := Go.Ground.data }, { on := 11, ground := Go.Ground.data }, { on := 0, ground := Go.Ground.phase }, { on := 1, ground := Go.Ground.phase }, { on := 2, ground := Go.Ground.phase }, { on := 3, ground := Go.Ground.phase }, { on := 4, ground := Go.Ground.phase }, { on := 5, ground := Go.Ground.phase }, { on := 6, ground := Go.Ground.phase }, { on := 7, ground := Go.Ground.phase }, { on := 8, ground := Go.Ground.phase }, { on := 9, ground := Go.Ground.phase }, { on := 10, ground := Go.Ground.phase }, { on := 11, ground := Go.Ground.phase }], guard := none }) (v := ?_) rfl rfl (by kernel_rfl) (by kernel_rfl) (by kernel_rfl) (by kernel_rfl) (fun _ _ _ h => h) (Or.inl ⟨by kernel_rfl, ?_⟩) hS0 ?_
  rotate_left
  · (intro X hX; (try dsimp only at hX); go_simp; try (with_reducible rfl))
  (try simp only [Act.put, List.setIfInBounds_toArray, List.set_cons_zero, List.set_cons_succ])
  refine wpAnyN_one (i := 14) (o := { dst := none, op := Go.Op.store 24 (Go.Operand.tmp 20) (Go.Operand.tmp 18), type := 0, pos := "scan.go:161", after := #[{ on := 13, ground := Go.Ground.data }, { on := 11, ground := Go.Ground.data }, { on := 0, ground := Go.Ground.phase }, { on := 1, ground := Go.Ground.phase }, { on := 2, ground := Go.Ground.phase }, { on := 3, ground := Go.Ground.phase }, { on := 4, ground := Go.Ground.phase }, { on := 5, ground := Go.Ground.phase }, { on := 6, ground := Go.Ground.phase }, { on := 7, ground := Go.Ground.phase }, { on := 8, ground := Go.Ground.phase }, { on := 9, ground := Go.Ground.phase }, { on := 10, ground := Go.Ground.phase }, { on := 11, ground := Go.Ground.phase }], guard := none }) (by kernel_rfl) rfl (fun K hK => ?_)
  go_simp
  refine hK.out _ _ (fun e => absurd (e.symm.trans (by kernel_rfl) : false = true) Bool.false_ne_true) ?_
  clear hK K
  (try simp only [Act.put, List.setIfInBounds_toArray, List.set_cons_zero, List.set_cons_succ])
  refine wpAnyN_of_H (S' := fun _ => True) _ _ _ _ (by kernel_rfl) ?_
  refine wpAnyH_done (by kernel_rfl) ?_ _
  have hVe : Y.drew.setCell ⟨P, 4, none⟩ (.slice (some ⟨ob, 0, none⟩) n oc) = (Y.setCell ⟨P, 4, none⟩ (.slice (some ⟨ob, 0, none⟩) n oc)).drew := rfl
  rw [hVe] at HV HVD HVX
  clear hVe
  generalize (Y.setCell ⟨P, 4, none⟩ (.slice (some ⟨ob, 0, none⟩) n oc)).drew = V at *
  have x0 : V.cell? ⟨w1.heap.size, 0, none⟩ = some (.int .i64 c.kind) := cell_of_row _ _ 0 _ _ _ HVX.out
  have x1 : V.cell? ⟨w1.heap.size, 1, none⟩ = some (.string c.text) := cell_of_row _ _ 1 _ _ _ HVX.out
  have x2 : V.cell? ⟨w1.heap.size, 2, none⟩ = some (.slice c.ka c.kn c.kc) := cell_of_row _ _ 2 _ _ _ HVX.out
  have x3 : V.cell? ⟨w1.heap.size, 3, none⟩ = some (.bool c.glued) := cell_of_row _ _ 3 _ _ _ HVX.out
  clear hS0 hS1 fz4
  go_wp2_with fail
  refine (add_any c _ HV.out HVD.out (by have := HU.out.2.1; show u.length ≤ 100; omega) hk).mono ?_
  rintro e w5 ⟨rfl, ⟨fs5, hsm5⟩, _⟩
  obtain ⟨d0, d1, d2, d3, d4⟩ := hsm5.sv
  have fz := hsm5.free 1
  have hsm6 := hsm5.setPos (s.pos + 1)
  rw [show ((s.pos + 1 : Nat) : Int) = (s.pos : Int) + 1 by omega] at hsm6
  have HS6 := Lib.hid hsm6
  have d1' : w5.cell? ⟨P, 1, none⟩ = some (.int .i64 s.pos) := d1
  clear hsm6 hsm5 d0 d2 d3 d4 d1 x0 x1 x2 x3 HV HVD HVX
  go_wp2_with fail
  go_end0
  exact ⟨rfl, fs5, _, HS6.out⟩
end Go.Proofs.YtliiapdakojomabDoor
