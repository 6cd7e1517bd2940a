/- event: an event in memory; its parts, whether they hold (c11egen.py). -/
import Derived.Test.YtbncaiocmklgnaaGreatDoorCa
namespace Go.Proofs.YtbncaiocmklgnaaGreatDoor
open Go.RowKit Go.Lib

/-- The cells of an event. -/
def evC (e : PE) (vn vb vu vm : Value) : Array Value := #[.int .i64 e.n, .int .i64 e.k, .int .i64 e.bx, .int .i64 e.tt, .int .i64 e.fi, .string e.nm, vn, vb, vu, vm, .int .i64 e.y, .int .i64 e.mo, .int .i64 e.d, .int .i64 e.h, .int .i64 e.mi, .int .i64 e.s, .int .i64 e.z, .string e.bd]
theorem evC_cells {X : World} {b : Nat} {e : PE} {vn vb vu vm : Value} (h : X.heap[b]? = some (.cells (evC e vn vb vu vm) 35 (0, 0))) :
    X.cell? ⟨b, 0, none⟩ = some (.int .i64 e.n) ∧ X.cell? ⟨b, 1, none⟩ = some (.int .i64 e.k) ∧ X.cell? ⟨b, 2, none⟩ = some (.int .i64 e.bx) ∧ X.cell? ⟨b, 3, none⟩ = some (.int .i64 e.tt) ∧ X.cell? ⟨b, 4, none⟩ = some (.int .i64 e.fi) ∧ X.cell? ⟨b, 5, none⟩ = some (.string e.nm) ∧ X.cell? ⟨b, 6, none⟩ = some (vn) ∧ X.cell? ⟨b, 7, none⟩ = some (vb) ∧ X.cell? ⟨b, 8, none⟩ = some (vu) ∧ X.cell? ⟨b, 9, none⟩ = some (vm) ∧ X.cell? ⟨b, 10, none⟩ = some (.int .i64 e.y) ∧ X.cell? ⟨b, 11, none⟩ = some (.int .i64 e.mo) ∧ X.cell? ⟨b, 12, none⟩ = some (.int .i64 e.d) ∧ X.cell? ⟨b, 13, none⟩ = some (.int .i64 e.h) ∧ X.cell? ⟨b, 14, none⟩ = some (.int .i64 e.mi) ∧ X.cell? ⟨b, 15, none⟩ = some (.int .i64 e.s) ∧ X.cell? ⟨b, 16, none⟩ = some (.int .i64 e.z) ∧ X.cell? ⟨b, 17, none⟩ = some (.string e.bd) := by
  unfold evC at h
  have y0 := cell_of h 0
  have y1 := cell_of h 1
  have y2 := cell_of h 2
  have y3 := cell_of h 3
  have y4 := cell_of h 4
  have y5 := cell_of h 5
  have y6 := cell_of h 6
  have y7 := cell_of h 7
  have y8 := cell_of h 8
  have y9 := cell_of h 9
  have y10 := cell_of h 10
  have y11 := cell_of h 11
  have y12 := cell_of h 12
  have y13 := cell_of h 13
  have y14 := cell_of h 14
  have y15 := cell_of h 15
  have y16 := cell_of h 16
  have y17 := cell_of h 17
  simp only [List.getElem?_toArray, List.getElem?_cons_zero, List.getElem?_cons_succ] at y0 y1 y2 y3 y4 y5 y6 y7 y8 y9 y10 y11 y12 y13 y14 y15 y16 y17
  exact ⟨y0, y1, y2, y3, y4, y5, y6, y7, y8, y9, y10, y11, y12, y13, y14, y15, y16, y17⟩
theorem Tryz.sizeEvC (e : PE) (vn vb vu vm : Value) : (Tryz.prog.info? 35).map (·.size) = some (evC e vn vb vu vm).size := by kernel_rfl
/-- The lists' values. -/
structure Shp (e : PE) (vn vb vu vm : Value) : Prop where
  n : ∃ a c, vn = .slice a e.ns.length c
  b : ∃ a c, vb = .slice a e.bs.length c
  u : ∃ a c, vu = .slice a e.us.length c
  m : ∃ a c, vm = .slice a e.ms.length c
theorem Shp.one {e : PE} {vn vb vu vm : Value} (h : Shp e vn vb vu vm) : (evC e vn vb vu vm).all (·.oneCell') = true := by
  obtain ⟨_, _, rfl⟩ := h.n
  obtain ⟨_, _, rfl⟩ := h.b
  obtain ⟨_, _, rfl⟩ := h.u
  obtain ⟨_, _, rfl⟩ := h.m
  simp [evC, Value.oneCell']
/-- An event's lists in memory that was there. -/
structure Lst (W : World) (e : PE) (vn vb vu vm : Value) : Prop where
  ns : Strs W vn e.ns
  bs : Ints W vb e.bs
  us : Ints W vu e.us
  ms : Mks W vm e.ms
  cap : ∀ a n c, vn = .slice a n c → n ≤ c
  zf : ∀ m, m ∈ e.ms → ∀ f, f ∈ m.2 → f.size ≤ 140737488355328
theorem Lst.on {W W' : World} {e : PE} {vn vb vu vm : Value} (h : Lst W e vn vb vu vm) (hb : Below W.heap.size W W') : Lst W' e vn vb vu vm := ⟨h.ns.on hb, h.bs.on hb, h.us.on hb, h.ms.on hb, h.cap, h.zf⟩
theorem Lst.shp {W : World} {e : PE} {vn vb vu vm : Value} (h : Lst W e vn vb vu vm) : Shp e vn vb vu vm := by
  obtain ⟨a2, c2, e2, _⟩ := h.bs.cells
  obtain ⟨a3, c3, e3, _⟩ := h.us.cells
  obtain ⟨a4, c4, e4, _⟩ := h.ms.cells
  exact ⟨h.ns.shape, ⟨a2, c2, e2⟩, ⟨a3, c3, e3⟩, ⟨a4, c4, e4⟩⟩
structure Bxs where
  p1 : Nat
  p2 : Nat
  p3 : Nat
  p4 : Nat
  q4 : Nat
  p5 : Nat
  q5 : Nat
def kwL (B : Bxs) : List (Nat × Obj) := [(B.p1, .cells #[fnV 66 #[]] 103 (0, 0)), (B.p2, .cells #[fnV 67 #[]] 103 (0, 0)), (B.p3, .cells #[fnV 68 #[]] 103 (0, 0)), (B.p4, .cells #[fnV 70 #[]] 106 (0, 0)), (B.q4, .cells #[fnV 71 #[]] 89 (0, 0)), (B.p5, .cells #[fnV 72 #[]] 106 (0, 0)), (B.q5, .cells #[fnV 73 #[]] 89 (0, 0))]
/-- The boxes of the parts' functions. -/
def KW (B : Bxs) (W : World) : Prop := ∀ x, x ∈ kwL B → W.heap[x.1]? = some x.2
theorem KW.on {B : Bxs} {W W' : World} (h : KW B W) (hb : Below W.heap.size W W') : KW B W' := fun x hx => by rw [hb.block _ (lt_of_heap (h x hx))]; exact h x hx
theorem KW.p1 {B : Bxs} {W : World} (h : KW B W) : W.heap[B.p1]? = some (.cells #[fnV 66 #[]] 103 (0, 0)) := h (B.p1, _) (List.mem_cons_self)
theorem KW.p2 {B : Bxs} {W : World} (h : KW B W) : W.heap[B.p2]? = some (.cells #[fnV 67 #[]] 103 (0, 0)) := h (B.p2, _) (List.mem_cons_of_mem _ (List.mem_cons_self))
theorem KW.p3 {B : Bxs} {W : World} (h : KW B W) : W.heap[B.p3]? = some (.cells #[fnV 68 #[]] 103 (0, 0)) := h (B.p3, _) (List.mem_cons_of_mem _ (List.mem_cons_of_mem _ (List.mem_cons_self)))
theorem KW.p4 {B : Bxs} {W : World} (h : KW B W) : W.heap[B.p4]? = some (.cells #[fnV 70 #[]] 106 (0, 0)) := h (B.p4, _) (List.mem_cons_of_mem _ (List.mem_cons_of_mem _ (List.mem_cons_of_mem _ (List.mem_cons_self))))
theorem KW.q4 {B : Bxs} {W : World} (h : KW B W) : W.heap[B.q4]? = some (.cells #[fnV 71 #[]] 89 (0, 0)) := h (B.q4, _) (List.mem_cons_of_mem _ (List.mem_cons_of_mem _ (List.mem_cons_of_mem _ (List.mem_cons_of_mem _ (List.mem_cons_self)))))
theorem KW.p5 {B : Bxs} {W : World} (h : KW B W) : W.heap[B.p5]? = some (.cells #[fnV 72 #[]] 106 (0, 0)) := h (B.p5, _) (List.mem_cons_of_mem _ (List.mem_cons_of_mem _ (List.mem_cons_of_mem _ (List.mem_cons_of_mem _ (List.mem_cons_of_mem _ (List.mem_cons_self))))))
theorem KW.q5 {B : Bxs} {W : World} (h : KW B W) : W.heap[B.q5]? = some (.cells #[fnV 73 #[]] 89 (0, 0)) := h (B.q5, _) (List.mem_cons_of_mem _ (List.mem_cons_of_mem _ (List.mem_cons_of_mem _ (List.mem_cons_of_mem _ (List.mem_cons_of_mem _ (List.mem_cons_of_mem _ (List.mem_cons_self)))))))
structure Env3 (w : World) : Prop where
  e : Env w
  f : EnvF w
  m : EnvM w
theorem Env3.on {w W : World} (h : Env3 w) (hb : Below w.heap.size w W) : Env3 W := ⟨h.e.on hb, h.f.on hb, h.m.on hb⟩
theorem at_box (eb : Nat) (w : World) : Calls Tryz.prog 66 #[ptr eb] w fun e w' => e = .returned (.pointer (some ⟨eb, 2, none⟩)) ∧ w' = w := by
  go_enter Tryz.func66, Tryz.ntmps66
  go_wp2
  go_ret
  exact ⟨rfl, rfl⟩
set_option maxHeartbeats 1000000 in
theorem box_holds (B : Bxs) (eb : Nat) (e : PE) (vn vb vu vm : Value) (W : World) (hK : KW B W) (hE : W.heap[eb]? = some (.cells (evC e vn vb vu vm) 35 (0, 0))) :
    Calls Tryz.prog 83 #[ptr eb, ptr B.p1] W fun r w' => r = .returned (.bool (numB e.bx)) ∧ Below W.heap.size W w' := by
  have c1 := box1 hK.p1
  obtain ⟨_, _, c2, _, _, _, _, _, _, _, _, _, _, _, _, _, _, _⟩ := evC_cells hE
  have HA := Lib.hid (at_box eb)
  have HN := Lib.hid (isNum_any e.bx)
  clear hK hE
  generalize e.bx = x at *
  go_enter Tryz.func83, Tryz.ntmps83
  go_wp2_with (first | (go_at_call 66; refine (HA.out _).mono ?_; rintro e w1 ⟨rfl, hw1⟩; subst w1) | (go_at_call 46; refine (HN.out _).mono ?_; rintro e w2 ⟨rfl, hw2⟩; subst w2))
  go_ret
  exact ⟨rfl, Below.refl _ _⟩
theorem at_tto (eb : Nat) (w : World) : Calls Tryz.prog 67 #[ptr eb] w fun e w' => e = .returned (.pointer (some ⟨eb, 3, none⟩)) ∧ w' = w := by
  go_enter Tryz.func67, Tryz.ntmps67
  go_wp2
  go_ret
  exact ⟨rfl, rfl⟩
set_option maxHeartbeats 1000000 in
theorem tto_holds (B : Bxs) (eb : Nat) (e : PE) (vn vb vu vm : Value) (W : World) (hK : KW B W) (hE : W.heap[eb]? = some (.cells (evC e vn vb vu vm) 35 (0, 0))) :
    Calls Tryz.prog 83 #[ptr eb, ptr B.p2] W fun r w' => r = .returned (.bool (numB e.tt)) ∧ Below W.heap.size W w' := by
  have c1 := box1 hK.p2
  obtain ⟨_, _, _, c3, _, _, _, _, _, _, _, _, _, _, _, _, _, _⟩ := evC_cells hE
  have HA := Lib.hid (at_tto eb)
  have HN := Lib.hid (isNum_any e.tt)
  clear hK hE
  generalize e.tt = x at *
  go_enter Tryz.func83, Tryz.ntmps83
  go_wp2_with (first | (go_at_call 67; refine (HA.out _).mono ?_; rintro e w1 ⟨rfl, hw1⟩; subst w1) | (go_at_call 46; refine (HN.out _).mono ?_; rintro e w2 ⟨rfl, hw2⟩; subst w2))
  go_ret
  exact ⟨rfl, Below.refl _ _⟩
theorem at_first (eb : Nat) (w : World) : Calls Tryz.prog 68 #[ptr eb] w fun e w' => e = .returned (.pointer (some ⟨eb, 4, none⟩)) ∧ w' = w := by
  go_enter Tryz.func68, Tryz.ntmps68
  go_wp2
  go_ret
  exact ⟨rfl, rfl⟩
set_option maxHeartbeats 1000000 in
theorem first_holds (B : Bxs) (eb : Nat) (e : PE) (vn vb vu vm : Value) (W : World) (hK : KW B W) (hE : W.heap[eb]? = some (.cells (evC e vn vb vu vm) 35 (0, 0))) :
    Calls Tryz.prog 83 #[ptr eb, ptr B.p3] W fun r w' => r = .returned (.bool (numB e.fi)) ∧ Below W.heap.size W w' := by
  have c1 := box1 hK.p3
  obtain ⟨_, _, _, _, c4, _, _, _, _, _, _, _, _, _, _, _, _, _⟩ := evC_cells hE
  have HA := Lib.hid (at_first eb)
  have HN := Lib.hid (isNum_any e.fi)
  clear hK hE
  generalize e.fi = x at *
  go_enter Tryz.func83, Tryz.ntmps83
  go_wp2_with (first | (go_at_call 68; refine (HA.out _).mono ?_; rintro e w1 ⟨rfl, hw1⟩; subst w1) | (go_at_call 46; refine (HN.out _).mono ?_; rintro e w2 ⟨rfl, hw2⟩; subst w2))
  go_ret
  exact ⟨rfl, Below.refl _ _⟩
theorem at_body (eb : Nat) (w : World) : Calls Tryz.prog 72 #[ptr eb] w fun e w' => e = .returned (.pointer (some ⟨eb, 17, none⟩)) ∧ w' = w := by
  go_enter Tryz.func72, Tryz.ntmps72
  go_wp2
  go_ret
  exact ⟨rfl, rfl⟩
theorem any_body (s : ByteArray) (w : World) : Calls Tryz.prog 73 #[.string s] w fun e w' => e = .returned (.bool true) ∧ Below w.heap.size w w' := by
  go_enter Tryz.func73, Tryz.ntmps73
  go_wp2
  go_ret
  exact ⟨rfl, Below.refl _ _⟩
set_option maxHeartbeats 1000000 in
theorem evname_holds (B : Bxs) (eb : Nat) (e : PE) (vn vb vu vm : Value) (W : World) (hK : KW B W) (hE : W.heap[eb]? = some (.cells (evC e vn vb vu vm) 35 (0, 0))) (he : Env3 W) :
    Calls Tryz.prog 87 #[ptr eb, ptr B.q4, ptr B.p4] W fun r w' => r = .returned (.bool (nmB e.nm)) ∧ Below W.heap.size W w' := by
  have c1 := box1 hK.p4
  have c2 := box1 hK.q4
  obtain ⟨_, _, _, _, _, c5, _, _, _, _, _, _, _, _, _, _, _, _⟩ := evC_cells hE
  have HN := Lib.hid (isNm_any e.nm W.drew (he.e.on (Below.refl _ _).drew))
  have HA := Lib.hid (at_name eb W.drew)
  clear hK hE he
  generalize nmB e.nm = q at *
  generalize e.nm = x at *
  go_enter Tryz.func87, Tryz.ntmps87
  go_upto_region 1 with fail
  refine wp_region_N 6 (fun X => X = W.drew) (by kernel_rfl) ?_
  refine wpAnyN_take (i := 0) (oi := { dst := some 5, op := Go.Op.load 89 (Go.Operand.tmp 1), type := 89, pos := "kinds.go:100", after := #[], guard := none }) (oL := { dst := some 11, op := Go.Op.call { callee := Go.Callee.value (Go.Operand.tmp 5), args := #[Go.Operand.tmp 10], argTypes := #[9] }, type := 4, pos := "kinds.go:100", after := #[{ on := 0, ground := Go.Ground.data }, { on := 5, ground := Go.Ground.data }, { on := 3, ground := Go.Ground.chain }], guard := none }) (v := fnV 71 #[]) rfl rfl (by kernel_rfl) (by kernel_rfl) (by kernel_rfl) (by kernel_rfl) (fun _ _ _ h => h) (Or.inl ⟨by kernel_rfl, ?_⟩) rfl ?_
  · (intro X hX; subst hX <;> (go_simp; try first | (with_reducible rfl) | assumption))
  (try simp only [Act.put, List.setIfInBounds_toArray, List.set_cons_zero, List.set_cons_succ])
  refine wpAnyN_take (i := 1) (oi := { dst := some 6, op := Go.Op.load 106 (Go.Operand.tmp 2), type := 106, pos := "kinds.go:100", after := #[], guard := none }) (oL := { dst := some 11, op := Go.Op.call { callee := Go.Callee.value (Go.Operand.tmp 5), args := #[Go.Operand.tmp 10], argTypes := #[9] }, type := 4, pos := "kinds.go:100", after := #[{ on := 0, ground := Go.Ground.data }, { on := 5, ground := Go.Ground.data }, { on := 3, ground := Go.Ground.chain }], guard := none }) (v := fnV 70 #[]) rfl rfl (by kernel_rfl) (by kernel_rfl) (by kernel_rfl) (by kernel_rfl) (fun _ _ _ h => h) (Or.inl ⟨by kernel_rfl, ?_⟩) rfl ?_
  · (intro X hX; subst hX <;> (go_simp; try first | (with_reducible rfl) | assumption))
  (try simp only [Act.put, List.setIfInBounds_toArray, List.set_cons_zero, List.set_cons_succ])
  refine wpAnyN_take (i := 2) (oi := { dst := some 7, op := Go.Op.move (Go.Operand.tmp 0), type := 67, pos := "kinds.go:100", after := #[], guard := none }) (oL := { dst := some 11, op := Go.Op.call { callee := Go.Callee.value (Go.Operand.tmp 5), args := #[Go.Operand.tmp 10], argTypes := #[9] }, type := 4, pos := "kinds.go:100", after := #[{ on := 0, ground := Go.Ground.data }, { on := 5, ground := Go.Ground.data }, { on := 3, ground := Go.Ground.chain }], guard := none }) (v := ptr eb) rfl rfl (by kernel_rfl) (by kernel_rfl) (by kernel_rfl) (by kernel_rfl) (fun _ _ _ h => h) (Or.inl ⟨by kernel_rfl, ?_⟩) rfl ?_
  · (intro X hX; subst hX <;> (go_simp; try first | (with_reducible rfl) | assumption))
  (try simp only [Act.put, List.setIfInBounds_toArray, List.set_cons_zero, List.set_cons_succ])
  refine wpAnyN_one (i := 3) (o := { dst := some 8, op := Go.Op.call { callee := Go.Callee.value (Go.Operand.tmp 6), args := #[Go.Operand.tmp 7], argTypes := #[67] }, type := 105, pos := "kinds.go:100", after := #[{ on := 1, ground := Go.Ground.data }, { on := 2, ground := Go.Ground.data }], guard := none }) (by kernel_rfl) rfl (fun K hK => ?_)
  go_simp
  refine HA.out.mono ?_
  rintro e w3 ⟨rfl, hw3⟩
  subst w3
  refine hK.out _ _ (fun _ => rfl) ?_
  clear hK K
  (try simp only [Act.put, List.setIfInBounds_toArray, List.set_cons_zero, List.set_cons_succ])
  refine wpAnyN_take (i := 4) (oi := { dst := some 9, op := Go.Op.nilCheck (Go.Operand.tmp 8), type := 0, pos := "kinds.go:100", after := #[{ on := 3, ground := Go.Ground.data }], guard := none }) (oL := { dst := some 11, op := Go.Op.call { callee := Go.Callee.value (Go.Operand.tmp 5), args := #[Go.Operand.tmp 10], argTypes := #[9] }, type := 4, pos := "kinds.go:100", after := #[{ on := 0, ground := Go.Ground.data }, { on := 5, ground := Go.Ground.data }, { on := 3, ground := Go.Ground.chain }], guard := none }) (v := .pointer (some ⟨eb, 5, none⟩)) rfl rfl (by kernel_rfl) (by kernel_rfl) (by kernel_rfl) (by kernel_rfl) (fun _ _ _ h => h) (Or.inl ⟨by kernel_rfl, ?_⟩) rfl ?_
  · (intro X hX; subst hX <;> (go_simp; try first | (with_reducible rfl) | assumption))
  (try simp only [Act.put, List.setIfInBounds_toArray, List.set_cons_zero, List.set_cons_succ])
  refine wpAnyN_take (i := 5) (oi := { dst := some 10, op := Go.Op.load 9 (Go.Operand.tmp 9), type := 9, pos := "kinds.go:100", after := #[{ on := 4, ground := Go.Ground.data }], guard := none }) (oL := { dst := some 11, op := Go.Op.call { callee := Go.Callee.value (Go.Operand.tmp 5), args := #[Go.Operand.tmp 10], argTypes := #[9] }, type := 4, pos := "kinds.go:100", after := #[{ on := 0, ground := Go.Ground.data }, { on := 5, ground := Go.Ground.data }, { on := 3, ground := Go.Ground.chain }], guard := none }) (v := .string x) rfl rfl (by kernel_rfl) (by kernel_rfl) (by kernel_rfl) (by kernel_rfl) (fun _ _ _ h => h) (Or.inl ⟨by kernel_rfl, ?_⟩) rfl ?_
  · (intro X hX; subst hX <;> (go_simp; try first | (with_reducible rfl) | assumption))
  (try simp only [Act.put, List.setIfInBounds_toArray, List.set_cons_zero, List.set_cons_succ])
  refine wpAnyN_one (i := 6) (o := { dst := some 11, op := Go.Op.call { callee := Go.Callee.value (Go.Operand.tmp 5), args := #[Go.Operand.tmp 10], argTypes := #[9] }, type := 4, pos := "kinds.go:100", after := #[{ on := 0, ground := Go.Ground.data }, { on := 5, ground := Go.Ground.data }, { on := 3, ground := Go.Ground.chain }], guard := none }) (by kernel_rfl) rfl (fun K hK => ?_)
  go_simp
  refine HN.out.mono ?_
  rintro e w4 ⟨rfl, hb4⟩
  have HB := Lib.hid hb4
  clear hb4
  refine hK.out _ _ (fun e => absurd (e.symm.trans (by kernel_rfl) : false = true) Bool.false_ne_true) ?_
  clear hK K
  (try simp only [Act.put, List.setIfInBounds_toArray, List.set_cons_zero, List.set_cons_succ])
  refine wpAnyN_of_H (S' := fun _ => True) _ _ _ _ (by kernel_rfl) ?_
  refine wpAnyH_take (i := 7) (oi := { dst := some 4, op := Go.Op.assign (Go.Operand.tmp 11), type := 4, pos := "kinds.go:100", after := #[{ on := 6, ground := Go.Ground.data }, { on := 6, ground := Go.Ground.chain }, { on := 0, ground := Go.Ground.phase }, { on := 1, ground := Go.Ground.phase }, { on := 2, ground := Go.Ground.phase }, { on := 3, ground := Go.Ground.phase }, { on := 4, ground := Go.Ground.phase }, { on := 5, ground := Go.Ground.phase }, { on := 6, ground := Go.Ground.phase }], guard := none }) (v := .bool q) rfl (by kernel_rfl) (by kernel_rfl) (by kernel_rfl) (fun _ _ _ h => h) (Or.inl ⟨by kernel_rfl, ?_⟩) trivial ?_
  · (intro X hX; go_simp; try (with_reducible rfl))
  (try simp only [Act.put, List.setIfInBounds_toArray, List.set_cons_zero, List.set_cons_succ])
  refine wpAnyH_done (by kernel_rfl) ?_ _
  go_wp2_with fail
  go_ret
  exact ⟨rfl, (Below.refl _ _).drew.trans HB.out⟩
set_option maxHeartbeats 1000000 in
theorem body_holds (B : Bxs) (eb : Nat) (e : PE) (vn vb vu vm : Value) (W : World) (hK : KW B W) (hE : W.heap[eb]? = some (.cells (evC e vn vb vu vm) 35 (0, 0))) :
    Calls Tryz.prog 87 #[ptr eb, ptr B.q5, ptr B.p5] W fun r w' => r = .returned (.bool (true)) ∧ Below W.heap.size W w' := by
  have c1 := box1 hK.p5
  have c2 := box1 hK.q5
  obtain ⟨_, _, _, _, _, _, _, _, _, _, _, _, _, _, _, _, _, c17⟩ := evC_cells hE
  have HN := Lib.hid (any_body e.bd W.drew)
  have HA := Lib.hid (at_body eb W.drew)
  clear hK hE
  generalize e.bd = x at *
  go_enter Tryz.func87, Tryz.ntmps87
  go_upto_region 1 with fail
  refine wp_region_N 6 (fun X => X = W.drew) (by kernel_rfl) ?_
  refine wpAnyN_take (i := 0) (oi := { dst := some 5, op := Go.Op.load 89 (Go.Operand.tmp 1), type := 89, pos := "kinds.go:100", after := #[], guard := none }) (oL := { dst := some 11, op := Go.Op.call { callee := Go.Callee.value (Go.Operand.tmp 5), args := #[Go.Operand.tmp 10], argTypes := #[9] }, type := 4, pos := "kinds.go:100", after := #[{ on := 0, ground := Go.Ground.data }, { on := 5, ground := Go.Ground.data }, { on := 3, ground := Go.Ground.chain }], guard := none }) (v := fnV 73 #[]) rfl rfl (by kernel_rfl) (by kernel_rfl) (by kernel_rfl) (by kernel_rfl) (fun _ _ _ h => h) (Or.inl ⟨by kernel_rfl, ?_⟩) rfl ?_
  · (intro X hX; subst hX <;> (go_simp; try first | (with_reducible rfl) | assumption))
  (try simp only [Act.put, List.setIfInBounds_toArray, List.set_cons_zero, List.set_cons_succ])
  refine wpAnyN_take (i := 1) (oi := { dst := some 6, op := Go.Op.load 106 (Go.Operand.tmp 2), type := 106, pos := "kinds.go:100", after := #[], guard := none }) (oL := { dst := some 11, op := Go.Op.call { callee := Go.Callee.value (Go.Operand.tmp 5), args := #[Go.Operand.tmp 10], argTypes := #[9] }, type := 4, pos := "kinds.go:100", after := #[{ on := 0, ground := Go.Ground.data }, { on := 5, ground := Go.Ground.data }, { on := 3, ground := Go.Ground.chain }], guard := none }) (v := fnV 72 #[]) rfl rfl (by kernel_rfl) (by kernel_rfl) (by kernel_rfl) (by kernel_rfl) (fun _ _ _ h => h) (Or.inl ⟨by kernel_rfl, ?_⟩) rfl ?_
  · (intro X hX; subst hX <;> (go_simp; try first | (with_reducible rfl) | assumption))
  (try simp only [Act.put, List.setIfInBounds_toArray, List.set_cons_zero, List.set_cons_succ])
  refine wpAnyN_take (i := 2) (oi := { dst := some 7, op := Go.Op.move (Go.Operand.tmp 0), type := 67, pos := "kinds.go:100", after := #[], guard := none }) (oL := { dst := some 11, op := Go.Op.call { callee := Go.Callee.value (Go.Operand.tmp 5), args := #[Go.Operand.tmp 10], argTypes := #[9] }, type := 4, pos := "kinds.go:100", after := #[{ on := 0, ground := Go.Ground.data }, { on := 5, ground := Go.Ground.data }, { on := 3, ground := Go.Ground.chain }], guard := none }) (v := ptr eb) rfl rfl (by kernel_rfl) (by kernel_rfl) (by kernel_rfl) (by kernel_rfl) (fun _ _ _ h => h) (Or.inl ⟨by kernel_rfl, ?_⟩) rfl ?_
  · (intro X hX; subst hX <;> (go_simp; try first | (with_reducible rfl) | assumption))
  (try simp only [Act.put, List.setIfInBounds_toArray, List.set_cons_zero, List.set_cons_succ])
  refine wpAnyN_one (i := 3) (o := { dst := some 8, op := Go.Op.call { callee := Go.Callee.value (Go.Operand.tmp 6), args := #[Go.Operand.tmp 7], argTypes := #[67] }, type := 105, pos := "kinds.go:100", after := #[{ on := 1, ground := Go.Ground.data }, { on := 2, ground := Go.Ground.data }], guard := none }) (by kernel_rfl) rfl (fun K hK => ?_)
  go_simp
  refine HA.out.mono ?_
  rintro e w3 ⟨rfl, hw3⟩
  subst w3
  refine hK.out _ _ (fun _ => rfl) ?_
  clear hK K
  (try simp only [Act.put, List.setIfInBounds_toArray, List.set_cons_zero, List.set_cons_succ])
  refine wpAnyN_take (i := 4) (oi := { dst := some 9, op := Go.Op.nilCheck (Go.Operand.tmp 8), type := 0, pos := "kinds.go:100", after := #[{ on := 3, ground := Go.Ground.data }], guard := none }) (oL := { dst := some 11, op := Go.Op.call { callee := Go.Callee.value (Go.Operand.tmp 5), args := #[Go.Operand.tmp 10], argTypes := #[9] }, type := 4, pos := "kinds.go:100", after := #[{ on := 0, ground := Go.Ground.data }, { on := 5, ground := Go.Ground.data }, { on := 3, ground := Go.Ground.chain }], guard := none }) (v := .pointer (some ⟨eb, 17, none⟩)) rfl rfl (by kernel_rfl) (by kernel_rfl) (by kernel_rfl) (by kernel_rfl) (fun _ _ _ h => h) (Or.inl ⟨by kernel_rfl, ?_⟩) rfl ?_
  · (intro X hX; subst hX <;> (go_simp; try first | (with_reducible rfl) | assumption))
  (try simp only [Act.put, List.setIfInBounds_toArray, List.set_cons_zero, List.set_cons_succ])
  refine wpAnyN_take (i := 5) (oi := { dst := some 10, op := Go.Op.load 9 (Go.Operand.tmp 9), type := 9, pos := "kinds.go:100", after := #[{ on := 4, ground := Go.Ground.data }], guard := none }) (oL := { dst := some 11, op := Go.Op.call { callee := Go.Callee.value (Go.Operand.tmp 5), args := #[Go.Operand.tmp 10], argTypes := #[9] }, type := 4, pos := "kinds.go:100", after := #[{ on := 0, ground := Go.Ground.data }, { on := 5, ground := Go.Ground.data }, { on := 3, ground := Go.Ground.chain }], guard := none }) (v := .string x) rfl rfl (by kernel_rfl) (by kernel_rfl) (by kernel_rfl) (by kernel_rfl) (fun _ _ _ h => h) (Or.inl ⟨by kernel_rfl, ?_⟩) rfl ?_
  · (intro X hX; subst hX <;> (go_simp; try first | (with_reducible rfl) | assumption))
  (try simp only [Act.put, List.setIfInBounds_toArray, List.set_cons_zero, List.set_cons_succ])
  refine wpAnyN_one (i := 6) (o := { dst := some 11, op := Go.Op.call { callee := Go.Callee.value (Go.Operand.tmp 5), args := #[Go.Operand.tmp 10], argTypes := #[9] }, type := 4, pos := "kinds.go:100", after := #[{ on := 0, ground := Go.Ground.data }, { on := 5, ground := Go.Ground.data }, { on := 3, ground := Go.Ground.chain }], guard := none }) (by kernel_rfl) rfl (fun K hK => ?_)
  go_simp
  refine HN.out.mono ?_
  rintro e w4 ⟨rfl, hb4⟩
  have HB := Lib.hid hb4
  clear hb4
  refine hK.out _ _ (fun e => absurd (e.symm.trans (by kernel_rfl) : false = true) Bool.false_ne_true) ?_
  clear hK K
  (try simp only [Act.put, List.setIfInBounds_toArray, List.set_cons_zero, List.set_cons_succ])
  refine wpAnyN_of_H (S' := fun _ => True) _ _ _ _ (by kernel_rfl) ?_
  refine wpAnyH_take (i := 7) (oi := { dst := some 4, op := Go.Op.assign (Go.Operand.tmp 11), type := 4, pos := "kinds.go:100", after := #[{ on := 6, ground := Go.Ground.data }, { on := 6, ground := Go.Ground.chain }, { on := 0, ground := Go.Ground.phase }, { on := 1, ground := Go.Ground.phase }, { on := 2, ground := Go.Ground.phase }, { on := 3, ground := Go.Ground.phase }, { on := 4, ground := Go.Ground.phase }, { on := 5, ground := Go.Ground.phase }, { on := 6, ground := Go.Ground.phase }], guard := none }) (v := .bool true) rfl (by kernel_rfl) (by kernel_rfl) (by kernel_rfl) (fun _ _ _ h => h) (Or.inl ⟨by kernel_rfl, ?_⟩) trivial ?_
  · (intro X hX; go_simp; try (with_reducible rfl))
  (try simp only [Act.put, List.setIfInBounds_toArray, List.set_cons_zero, List.set_cons_succ])
  refine wpAnyH_done (by kernel_rfl) ?_ _
  go_wp2_with fail
  go_ret
  exact ⟨rfl, (Below.refl _ _).drew.trans HB.out⟩
set_option maxHeartbeats 1000000 in
theorem uids_holds (eb : Nat) (e : PE) (vn vb vu vm : Value) (W : World) (hE : W.heap[eb]? = some (.cells (evC e vn vb vu vm) 35 (0, 0))) (hL : Lst W e vn vb vu vm) :
    Calls Tryz.prog 98 #[ptr eb] W fun r w' => r = .returned (.bool (riseN e.us)) ∧ Below W.heap.size W w' := by
  obtain ⟨_, _, _, _, _, _, _, _, c8, _, _, _, _, _, _, _, _, _⟩ := evC_cells hE
  have HR := Lib.hid (riseI_any vu e.us W hL.us)
  obtain ⟨a, c, rfl⟩ := hL.shp.u
  clear hE hL
  generalize e.us.length = n at *
  generalize riseN e.us = q at *
  go_enter Tryz.func98, Tryz.ntmps98
  go_wp2_with (go_at_call 99; refine HR.out.mono ?_; rintro e w1 ⟨rfl, hw1⟩; subst w1)
  go_ret
  exact ⟨rfl, Below.refl _ _⟩
theorem date_range {X : World} {b : Nat} {e : PE} {vn vb vu vm : Value} (hE : X.heap[b]? = some (.cells (evC e vn vb vu vm) 35 (0, 0))) : X.rangeAt b 10 [.int .i64 e.y, .int .i64 e.mo, .int .i64 e.d, .int .i64 e.h, .int .i64 e.mi, .int .i64 e.s, .int .i64 e.z] := by
  obtain ⟨_, _, _, _, _, _, _, _, _, _, c10, c11, c12, c13, c14, c15, c16, _⟩ := evC_cells hE
  intro j v hj
  match j, hj with
  | 0, hj => cases hj; exact c10
  | 1, hj => cases hj; exact c11
  | 2, hj => cases hj; exact c12
  | 3, hj => cases hj; exact c13
  | 4, hj => cases hj; exact c14
  | 5, hj => cases hj; exact c15
  | 6, hj => cases hj; exact c16
  | (_ + 7), hj => cases hj
theorem Tryz.sizeMom7 : (Tryz.prog.info? 33).map (·.size) = some 7 := by kernel_rfl
set_option maxHeartbeats 1000000 in
theorem date_holds (eb : Nat) (e : PE) (vn vb vu vm : Value) (W : World) (hE : W.heap[eb]? = some (.cells (evC e vn vb vu vm) 35 (0, 0))) (he : Env3 W) :
    Calls Tryz.prog 118 #[ptr eb] W fun r w' => r = .returned (.bool (validB e.y e.mo e.d e.h e.mi e.s e.z)) ∧ Below W.heap.size W w' := by
  have HD := Lib.hid (date_range hE)
  have HV := Lib.hid (momValid_any e.y e.mo e.d e.h e.mi e.s e.z W he.m)
  unfold mom at HV
  clear hE he
  generalize validB e.y e.mo e.d e.h e.mi e.s e.z = q at *
  go_enter Tryz.func118, Tryz.ntmps118
  go_wp2_with (first | (go_at_call 119; refine HV.out.mono ?_; rintro e w1 ⟨rfl, hb1⟩; have HB := Lib.hid hb1; clear hb1) | (refine wpList_load_mid rfl 33 _ rfl eb 10 rfl _ _ HD.out Tryz.underlying33 rfl Tryz.sizeMom7 ?_))
  go_ret
  exact ⟨rfl, HB.out⟩
end Go.Proofs.YtbncaiocmklgnaaGreatDoor

/- event: the parts of names, marks, room: whether they hold (c11egen.py). -/
namespace Go.Proofs.YtbncaiocmklgnaaGreatDoor
open Go.RowKit Go.Lib

theorem szD {l : List ByteArray} (h : ∀ f, f ∈ l → f.size ≤ 140737488355328) : ∀ i, i < l.length → (l.getD i ByteArray.empty).size ≤ 140737488355328 := by
  intro i hi
  rw [List.getD_eq_getElem?_getD, List.getElem?_eq_getElem hi]
  exact h _ (List.getElem_mem hi)
theorem getD_memM (l : List (Int × List ByteArray)) (k : Nat) (h : k < l.length) : l.getD k (0, []) ∈ l := by
  rw [List.getD_eq_getElem?_getD, List.getElem?_eq_getElem h]
  exact List.getElem_mem h
set_option maxHeartbeats 1000000 in
theorem noForm_any (u : Int) (fv : Value) (l : List ByteArray) (w : World) (he : EnvF w) (h : Strs w fv l) (hl : l.length ≤ 16) (hz : ∀ f, f ∈ l → f.size ≤ 140737488355328) :
    Calls Tryz.prog 128 #[.agg #[.int .i64 u, fv]] w fun e w' => e = .returned (.bool (!formB l)) ∧ Below w.heap.size w w' := by
  have HF : Hid (∀ W, Below w.heap.size w W → Calls Tryz.prog 112 #[fv] W fun e w' => e = .returned (.bool (formB l)) ∧ Below W.heap.size W w') := Lib.hid (fun W hW => isForm_any fv l W (he.on hW) (h.on hW) hl (szD hz))
  obtain ⟨a, c, rfl⟩ := h.shape
  have H0 : Hid (∀ o, Below w.heap.size w (w.alloc o)) := Lib.hid (fun o => (Below.refl _ _).alloc (Nat.le_refl _) o)
  clear he h hl hz
  generalize formB l = q at *
  generalize l.length = n at *
  go_enter Tryz.func128, Tryz.ntmps128
  go_wp2_with (go_at_call 112; refine (HF.out _ (H0.out _)).mono ?_; rintro e w1 ⟨rfl, hb1⟩; have HB := Lib.hid ((H0.out _).trans (hb1.mono (H0.out _).size)); clear hb1)
  go_ret
  exact ⟨rfl, HB.out⟩
def anyNo (l : List (Int × List ByteArray)) : Bool := l.any (fun m => !formB m.2)
theorem anyNo_all (l : List (Int × List ByteArray)) : l.all (fun m => formB m.2) = !anyNo l := by
  unfold anyNo
  induction l with
  | nil => rfl
  | cons m r ih => rw [List.all_cons, List.any_cons, ih]; cases formB m.2 <;> rfl
theorem anyNo_at {l : List (Int × List ByteArray)} (k : Nat) (hk : k < l.length) (h : formB (l.getD k (0, [])).2 = false) : anyNo l = true := by
  unfold anyNo
  rw [List.any_eq_true]
  exact ⟨_, getD_memM l k hk, by rw [h]; rfl⟩
theorem anyNo_next {l : List (Int × List ByteArray)} (k : Nat) (hk : k < l.length) (h0 : anyNo (l.take k) = false) (h : formB (l.getD k (0, [])).2 = true) : anyNo (l.take (k + 1)) = false := by
  have e : l.take (k + 1) = l.take k ++ [l.getD k (0, [])] := by
    rw [List.take_add_one, List.getElem?_eq_getElem hk, List.getD_eq_getElem?_getD, List.getElem?_eq_getElem hk]
    rfl
  unfold anyNo at *
  rw [e, List.any_append, h0, List.any_cons, List.any_nil, h]
  rfl
set_option maxHeartbeats 4000000 in
theorem idxM_any (v : Value) (l : List (Int × List ByteArray)) (w : World) (he : EnvF w) (h : Mks w v l) (hl : ∀ m, m ∈ l → m.2.length ≤ 16) (hz : ∀ m, m ∈ l → ∀ f, f ∈ m.2 → f.size ≤ 140737488355328) :
    Calls Tryz.prog 140 #[v, fnV 128 #[]] w fun e w' => ∃ i : Int, e = .returned (.int .i64 i) ∧ decide (0 ≤ i) = anyNo l ∧ Below w.heap.size w w' := by
  obtain ⟨ao, cap, rfl, hbig, hc⟩ := h.cells
  have HC := Lib.hid hc
  have HE := Lib.hid he
  have HL := Lib.hid hl
  have HZ := Lib.hid hz
  obtain ⟨n, hn⟩ : ∃ n, l.length = n := ⟨_, rfl⟩
  have HN := Lib.hid hn
  rw [hn] at HC hbig ⊢
  have hbi : (n : Int) ≤ 140737488355328 := by omega
  clear h hc hn hbig he hl hz
  go_enter Tryz.func140, Tryz.ntmps140
  go_wp2_with fail
  go_loopw [8] (fun vi wr => ∃ (k : Nat) (X : World), X = wr ∧ k ≤ n ∧ vi = .int .i64 k ∧ anyNo (l.take k) = false ∧ Below w.heap.size w X) (fun i _ => n - (intOf i).toNat)
  case atStart => exact ⟨0, _, rfl, Nat.zero_le _, rfl, rfl, Below.refl _ _⟩
  case round =>
    obtain ⟨k, X, hX, hkn, rfl, hr, hb⟩ := hrel
    subst hX
    have HX := Lib.hid hb
    by_cases hlt : k < n
    · obtain ⟨b, off, fv, hao, hbl, yc0, yc1, hst⟩ := HC.out k hlt
      subst hao
      have hk1 : (k : Int) < (n : Int) := by omega
      have hk0 : (0 : Int) ≤ (k : Int) := by omega
      have hk9 : (k : Int) ≤ 140737488355328 := by omega
      have hmem := getD_memM l k (by rw [HN.out]; exact hlt)
      have HF : Hid (Calls Tryz.prog 128 #[.agg #[.int .i64 (l.getD k (0, [])).1, fv]] X fun e w' => e = .returned (.bool (!formB (l.getD k (0, [])).2)) ∧ Below X.heap.size X w') := Lib.hid (noForm_any _ fv _ X (HE.out.on hb) (hst.on hb) (HL.out _ hmem) (HZ.out _ hmem))
      have HR := Lib.hid hr
      have c0 : X.cell? ⟨b, off + k * 2, none⟩ = some (.int .i64 (l.getD k (0, [])).1) := by rw [hb.cell (p := ⟨b, off + k * 2, none⟩) hbl]; exact yc0
      have c1 : X.cell? ⟨b, off + k * 2 + 1, none⟩ = some fv := by rw [hb.cell (p := ⟨b, off + k * 2 + 1, none⟩) hbl]; exact yc1
      obtain ⟨fa, fc, hfv⟩ := hst.shape
      generalize (l.getD k (0, [])).2.length = fl at hfv
      subst hfv
      clear hbl yc0 yc1 hst hb hmem hr
      cases hq : formB (l.getD k (0, [])).2 with
      | true =>
        have HNx := Lib.hid (anyNo_next k (by rw [HN.out]; exact hlt) HR.out hq)
        rw [hq] at HF
        clear hq
        generalize (l.getD k (0, [])).1 = x at *
        go_wp2_with (go_at_call 128; refine HF.out.mono ?_; rintro e w1 ⟨rfl, hb1⟩; have HB := Lib.hid (HX.out.trans (hb1.mono HX.out.size)); clear hb1)
        go_roundw
        case rel => exact ⟨k + 1, _, rfl, hlt, by go_num, HNx.out, HB.out⟩
        case measure => simp [intOf]; omega
      | false =>
        have HNx := Lib.hid (anyNo_at k (by rw [HN.out]; exact hlt) hq)
        rw [hq] at HF
        clear hq
        generalize (l.getD k (0, [])).1 = x at *
        go_wp2_with (go_at_call 128; refine HF.out.mono ?_; rintro e w1 ⟨rfl, hb1⟩; have HB := Lib.hid (HX.out.trans (hb1.mono HX.out.size)); clear hb1)
        go_ret
        exact ⟨_, rfl, by rw [HNx.out]; exact decide_eq_true hk0, HB.out⟩
    · have hk1 : ¬ (k : Int) < (n : Int) := by omega
      rw [List.take_of_length_le (by rw [HN.out]; omega)] at hr
      have HR := Lib.hid hr
      clear hr hb
      go_wp2_with fail
      go_ret
      exact ⟨_, rfl, by rw [HR.out]; rfl, HX.out⟩
set_option maxHeartbeats 1000000 in
theorem conM_any (v : Value) (l : List (Int × List ByteArray)) (w : World) (he : EnvF w) (h : Mks w v l) (hl : ∀ m, m ∈ l → m.2.length ≤ 16) (hz : ∀ m, m ∈ l → ∀ f, f ∈ m.2 → f.size ≤ 140737488355328) :
    Calls Tryz.prog 127 #[v, fnV 128 #[]] w fun e w' => e = .returned (.bool (anyNo l)) ∧ Below w.heap.size w w' := by
  have HI := Lib.hid (idxM_any v l w he h hl hz)
  obtain ⟨a, c, rfl, _⟩ := h.cells
  clear he h hl hz
  generalize anyNo l = q at *
  generalize l.length = n at *
  go_enter Tryz.func127, Tryz.ntmps127
  go_wp2_with (go_at_call 140; refine HI.out.mono ?_; rintro e w1 ⟨i, rfl, hd, hb1⟩; have HD := Lib.hid hd; have HB := Lib.hid hb1; clear hb1 hd)
  go_ret
  exact ⟨by rw [← HD.out]; rfl, HB.out⟩
theorem long_marks {e : PE} (h : longE e = false) : ∀ m, m ∈ e.ms → m.2.length ≤ 16 := by
  intro m hm
  unfold longE at h
  simp only [Bool.or_eq_false_iff] at h
  have := h.1.2
  rw [List.any_eq_false] at this
  have := this m hm
  simpa using this
set_option maxHeartbeats 2000000 in
theorem marks_holds (eb : Nat) (e : PE) (vn vb vu vm : Value) (W : World) (hE : W.heap[eb]? = some (.cells (evC e vn vb vu vm) 35 (0, 0))) (he : Env3 W) (hL : Lst W e vn vb vu vm) (hl : longE e = false) :
    Calls Tryz.prog 124 #[ptr eb] W fun r w' => r = .returned (.bool (riseN (e.ms.map (·.1)) && e.ms.all (fun m => formB m.2))) ∧ Below W.heap.size W w' := by
  obtain ⟨_, _, _, _, _, _, _, _, _, c9, _, _, _, _, _, _, _, _⟩ := evC_cells hE
  have HR := Lib.hid (riseM_any vm e.ms W hL.ms)
  have HC : Hid (∀ W', Below W.heap.size W W' → Calls Tryz.prog 127 #[vm, fnV 128 #[]] W' fun r w' => r = .returned (.bool (anyNo e.ms)) ∧ Below W'.heap.size W' w') := Lib.hid (fun W' hW => conM_any vm e.ms W' (he.f.on hW) (hL.ms.on hW) (long_marks hl) hL.zf)
  have HE : Hid (∀ W', Below W.heap.size W W' → W'.cell? ⟨eb, 9, none⟩ = some vm) := Lib.hid (fun W' hW => by rw [hW.cell (p := ⟨eb, 9, none⟩) (lt_of_heap hE)]; exact c9)
  rw [anyNo_all]
  obtain ⟨a, c, rfl⟩ := hL.shp.m
  clear hE hL he hl
  generalize riseN (e.ms.map (·.1)) = q1 at *
  generalize anyNo e.ms = q2 at *
  generalize e.ms.length = n at *
  cases q1 with
  | false =>
    go_enter Tryz.func124, Tryz.ntmps124
    go_wp2_with (go_at_call 125; refine HR.out.mono ?_; rintro e w1 ⟨rfl, hb1⟩; have H1 := Lib.hid hb1; have z9 := HE.out _ hb1; clear hb1)
    go_ret
    exact ⟨rfl, H1.out⟩
  | true =>
    go_enter Tryz.func124, Tryz.ntmps124
    go_wp2_with (first | (go_at_call 125; refine HR.out.mono ?_; rintro e w1 ⟨rfl, hb1⟩; have H1 := Lib.hid hb1; have z9 := HE.out _ hb1; clear hb1) | (go_at_call 127; refine (HC.out _ H1.out).mono ?_; rintro e w2 ⟨rfl, hb2⟩; have H2 := Lib.hid (H1.out.trans (hb2.mono H1.out.size)); clear hb2))
    go_ret
    exact ⟨rfl, H2.out⟩
set_option maxHeartbeats 2000000 in
theorem room_holds (eb : Nat) (e : PE) (vn vb vu vm : Value) (W : World) (hE : W.heap[eb]? = some (.cells (evC e vn vb vu vm) 35 (0, 0))) (hL : Lst W e vn vb vu vm) (hl : longE e = false) :
    Calls Tryz.prog 74 #[ptr eb] W fun r w' => r = .returned (.bool (numB e.fi && numB (e.fi + (e.us.length : Int) - 1))) ∧ Below W.heap.size W w' := by
  obtain ⟨_, _, _, _, c4, _, _, _, c8, _, _, _, _, _, _, _, _, _⟩ := evC_cells hE
  have hu : e.us.length ≤ 64 := by
    unfold longE at hl
    simp only [Bool.or_eq_false_iff] at hl
    simpa using hl.1.1.1.2
  obtain ⟨a, c, rfl⟩ := hL.shp.u
  clear hE hL hl
  generalize e.us.length = n at *
  generalize e.fi = x at *
  have k4 : W.drew.cell? ⟨eb, 4, none⟩ = some (.int .i64 x) := c4
  have k8 : W.drew.cell? ⟨eb, 8, none⟩ = some (.slice a n c) := c8
  have HQ1 := Lib.hid (isNum_any x W.drew)
  clear c4 c8
  cases hx : numB x with
  | false =>
    rw [hx] at HQ1
    clear hx
    go_enter Tryz.func74, Tryz.ntmps74
    go_upto_region 1 with fail
    refine wp_region_N 18 (fun X => X = W.drew) (by kernel_rfl) ?_
    refine wpAnyN_take (i := 0) (oi := { dst := some 3, op := Go.Op.move (Go.Operand.tmp 0), type := 67, pos := "kinds.go:253", after := #[], guard := none }) (oL := { dst := some 21, op := Go.Op.pick (Go.Operand.tmp 8) (Go.Operand.tmp 20) (Go.Operand.const (Go.Value.bool false)), type := 4, pos := "kinds.go:253", after := #[{ on := 5, ground := Go.Ground.data }, { on := 17, ground := Go.Ground.data }], guard := none }) (v := ptr eb) rfl rfl (by kernel_rfl) (by kernel_rfl) (by kernel_rfl) (by kernel_rfl) (fun _ _ _ h => h) (Or.inl ⟨by kernel_rfl, ?_⟩) rfl ?_
    · (intro X hX; subst hX <;> (go_simp; try first | (with_reducible rfl) | assumption))
    (try simp only [Act.put, List.setIfInBounds_toArray, List.set_cons_zero, List.set_cons_succ])
    refine wpAnyN_take (i := 1) (oi := { dst := some 4, op := Go.Op.nilCheck (Go.Operand.tmp 3), type := 0, pos := "kinds.go:253", after := #[{ on := 0, ground := Go.Ground.data }], guard := none }) (oL := { dst := some 21, op := Go.Op.pick (Go.Operand.tmp 8) (Go.Operand.tmp 20) (Go.Operand.const (Go.Value.bool false)), type := 4, pos := "kinds.go:253", after := #[{ on := 5, ground := Go.Ground.data }, { on := 17, ground := Go.Ground.data }], guard := none }) (v := ptr eb) rfl rfl (by kernel_rfl) (by kernel_rfl) (by kernel_rfl) (by kernel_rfl) (fun _ _ _ h => h) (Or.inl ⟨by kernel_rfl, ?_⟩) rfl ?_
    · (intro X hX; subst hX <;> (go_simp; try first | (with_reducible rfl) | assumption))
    (try simp only [Act.put, List.setIfInBounds_toArray, List.set_cons_zero, List.set_cons_succ])
    refine wpAnyN_take (i := 2) (oi := { dst := some 5, op := Go.Op.fieldAddr 35 (Go.Operand.tmp 4) 4, type := 0, pos := "kinds.go:253", after := #[{ on := 1, ground := Go.Ground.data }], guard := none }) (oL := { dst := some 21, op := Go.Op.pick (Go.Operand.tmp 8) (Go.Operand.tmp 20) (Go.Operand.const (Go.Value.bool false)), type := 4, pos := "kinds.go:253", after := #[{ on := 5, ground := Go.Ground.data }, { on := 17, ground := Go.Ground.data }], guard := none }) (v := .pointer (some ⟨eb, 4, none⟩)) rfl rfl (by kernel_rfl) (by kernel_rfl) (by kernel_rfl) (by kernel_rfl) (fun _ _ _ h => h) (Or.inl ⟨by kernel_rfl, ?_⟩) rfl ?_
    · (intro X hX; subst hX <;> (go_simp; try first | (with_reducible rfl) | assumption))
    (try simp only [Act.put, List.setIfInBounds_toArray, List.set_cons_zero, List.set_cons_succ])
    refine wpAnyN_take (i := 3) (oi := { dst := some 6, op := Go.Op.load 3 (Go.Operand.tmp 5), type := 3, pos := "kinds.go:253", after := #[{ on := 2, ground := Go.Ground.data }], guard := none }) (oL := { dst := some 21, op := Go.Op.pick (Go.Operand.tmp 8) (Go.Operand.tmp 20) (Go.Operand.const (Go.Value.bool false)), type := 4, pos := "kinds.go:253", after := #[{ on := 5, ground := Go.Ground.data }, { on := 17, ground := Go.Ground.data }], guard := none }) (v := .int .i64 x) rfl rfl (by kernel_rfl) (by kernel_rfl) (by kernel_rfl) (by kernel_rfl) (fun _ _ _ h => h) (Or.inl ⟨by kernel_rfl, ?_⟩) rfl ?_
    · (intro X hX; subst hX <;> (go_simp; try first | (with_reducible rfl) | assumption))
    (try simp only [Act.put, List.setIfInBounds_toArray, List.set_cons_zero, List.set_cons_succ])
    refine wpAnyN_one (i := 4) (o := { dst := some 7, op := Go.Op.call { callee := Go.Callee.value (Go.Operand.func 46), args := #[Go.Operand.tmp 6], argTypes := #[3] }, type := 4, pos := "kinds.go:253", after := #[{ on := 3, ground := Go.Ground.data }], guard := none }) (by kernel_rfl) rfl (fun K hK => ?_)
    go_simp
    refine HQ1.out.mono ?_
    rintro e w3 ⟨rfl, hw3⟩
    subst w3
    refine hK.out _ _ (fun _ => rfl) ?_
    clear hK K
    (try simp only [Act.put, List.setIfInBounds_toArray, List.set_cons_zero, List.set_cons_succ])
    refine wpAnyN_take (i := 5) (oi := { dst := some 8, op := Go.Op.move (Go.Operand.tmp 7), type := 4, pos := "kinds.go:253", after := #[{ on := 4, ground := Go.Ground.data }, { on := 4, ground := Go.Ground.chain }], guard := none }) (oL := { dst := some 21, op := Go.Op.pick (Go.Operand.tmp 8) (Go.Operand.tmp 20) (Go.Operand.const (Go.Value.bool false)), type := 4, pos := "kinds.go:253", after := #[{ on := 5, ground := Go.Ground.data }, { on := 17, ground := Go.Ground.data }], guard := none }) (v := .bool false) rfl rfl (by kernel_rfl) (by kernel_rfl) (by kernel_rfl) (by kernel_rfl) (fun _ _ _ h => h) (Or.inl ⟨by kernel_rfl, ?_⟩) rfl ?_
    · (intro X hX; subst hX <;> (go_simp; try first | (with_reducible rfl) | assumption))
    (try simp only [Act.put, List.setIfInBounds_toArray, List.set_cons_zero, List.set_cons_succ])
    refine wpAnyN_take (i := 6) (oi := { dst := some 9, op := Go.Op.move (Go.Operand.tmp 0), type := 67, pos := "kinds.go:253", after := #[{ on := 5, ground := Go.Ground.guard }], guard := some (5, true) }) (oL := { dst := some 21, op := Go.Op.pick (Go.Operand.tmp 8) (Go.Operand.tmp 20) (Go.Operand.const (Go.Value.bool false)), type := 4, pos := "kinds.go:253", after := #[{ on := 5, ground := Go.Ground.data }, { on := 17, ground := Go.Ground.data }], guard := none }) (v := undef) rfl rfl (by kernel_rfl) (by kernel_rfl) (by kernel_rfl) (by kernel_rfl) (fun _ _ _ h => h) (Or.inr ⟨by kernel_rfl, rfl⟩) rfl ?_
    (try simp only [Act.put, List.setIfInBounds_toArray, List.set_cons_zero, List.set_cons_succ])
    refine wpAnyN_take (i := 7) (oi := { dst := some 10, op := Go.Op.nilCheck (Go.Operand.tmp 9), type := 0, pos := "kinds.go:253", after := #[{ on := 6, ground := Go.Ground.data }, { on := 5, ground := Go.Ground.guard }], guard := some (5, true) }) (oL := { dst := some 21, op := Go.Op.pick (Go.Operand.tmp 8) (Go.Operand.tmp 20) (Go.Operand.const (Go.Value.bool false)), type := 4, pos := "kinds.go:253", after := #[{ on := 5, ground := Go.Ground.data }, { on := 17, ground := Go.Ground.data }], guard := none }) (v := undef) rfl rfl (by kernel_rfl) (by kernel_rfl) (by kernel_rfl) (by kernel_rfl) (fun _ _ _ h => h) (Or.inr ⟨by kernel_rfl, rfl⟩) rfl ?_
    (try simp only [Act.put, List.setIfInBounds_toArray, List.set_cons_zero, List.set_cons_succ])
    refine wpAnyN_take (i := 8) (oi := { dst := some 11, op := Go.Op.fieldAddr 35 (Go.Operand.tmp 10) 4, type := 0, pos := "kinds.go:253", after := #[{ on := 7, ground := Go.Ground.data }, { on := 5, ground := Go.Ground.guard }], guard := some (5, true) }) (oL := { dst := some 21, op := Go.Op.pick (Go.Operand.tmp 8) (Go.Operand.tmp 20) (Go.Operand.const (Go.Value.bool false)), type := 4, pos := "kinds.go:253", after := #[{ on := 5, ground := Go.Ground.data }, { on := 17, ground := Go.Ground.data }], guard := none }) (v := undef) rfl rfl (by kernel_rfl) (by kernel_rfl) (by kernel_rfl) (by kernel_rfl) (fun _ _ _ h => h) (Or.inr ⟨by kernel_rfl, rfl⟩) rfl ?_
    (try simp only [Act.put, List.setIfInBounds_toArray, List.set_cons_zero, List.set_cons_succ])
    refine wpAnyN_take (i := 9) (oi := { dst := some 12, op := Go.Op.load 3 (Go.Operand.tmp 11), type := 3, pos := "kinds.go:253", after := #[{ on := 8, ground := Go.Ground.data }, { on := 5, ground := Go.Ground.guard }], guard := some (5, true) }) (oL := { dst := some 21, op := Go.Op.pick (Go.Operand.tmp 8) (Go.Operand.tmp 20) (Go.Operand.const (Go.Value.bool false)), type := 4, pos := "kinds.go:253", after := #[{ on := 5, ground := Go.Ground.data }, { on := 17, ground := Go.Ground.data }], guard := none }) (v := undef) rfl rfl (by kernel_rfl) (by kernel_rfl) (by kernel_rfl) (by kernel_rfl) (fun _ _ _ h => h) (Or.inr ⟨by kernel_rfl, rfl⟩) rfl ?_
    (try simp only [Act.put, List.setIfInBounds_toArray, List.set_cons_zero, List.set_cons_succ])
    refine wpAnyN_take (i := 10) (oi := { dst := some 13, op := Go.Op.move (Go.Operand.tmp 0), type := 67, pos := "kinds.go:253", after := #[{ on := 5, ground := Go.Ground.guard }], guard := some (5, true) }) (oL := { dst := some 21, op := Go.Op.pick (Go.Operand.tmp 8) (Go.Operand.tmp 20) (Go.Operand.const (Go.Value.bool false)), type := 4, pos := "kinds.go:253", after := #[{ on := 5, ground := Go.Ground.data }, { on := 17, ground := Go.Ground.data }], guard := none }) (v := undef) rfl rfl (by kernel_rfl) (by kernel_rfl) (by kernel_rfl) (by kernel_rfl) (fun _ _ _ h => h) (Or.inr ⟨by kernel_rfl, rfl⟩) rfl ?_
    (try simp only [Act.put, List.setIfInBounds_toArray, List.set_cons_zero, List.set_cons_succ])
    refine wpAnyN_take (i := 11) (oi := { dst := some 14, op := Go.Op.nilCheck (Go.Operand.tmp 13), type := 0, pos := "kinds.go:253", after := #[{ on := 10, ground := Go.Ground.data }, { on := 5, ground := Go.Ground.guard }], guard := some (5, true) }) (oL := { dst := some 21, op := Go.Op.pick (Go.Operand.tmp 8) (Go.Operand.tmp 20) (Go.Operand.const (Go.Value.bool false)), type := 4, pos := "kinds.go:253", after := #[{ on := 5, ground := Go.Ground.data }, { on := 17, ground := Go.Ground.data }], guard := none }) (v := undef) rfl rfl (by kernel_rfl) (by kernel_rfl) (by kernel_rfl) (by kernel_rfl) (fun _ _ _ h => h) (Or.inr ⟨by kernel_rfl, rfl⟩) rfl ?_
    (try simp only [Act.put, List.setIfInBounds_toArray, List.set_cons_zero, List.set_cons_succ])
    refine wpAnyN_take (i := 12) (oi := { dst := some 15, op := Go.Op.fieldAddr 35 (Go.Operand.tmp 14) 8, type := 0, pos := "kinds.go:253", after := #[{ on := 11, ground := Go.Ground.data }, { on := 5, ground := Go.Ground.guard }], guard := some (5, true) }) (oL := { dst := some 21, op := Go.Op.pick (Go.Operand.tmp 8) (Go.Operand.tmp 20) (Go.Operand.const (Go.Value.bool false)), type := 4, pos := "kinds.go:253", after := #[{ on := 5, ground := Go.Ground.data }, { on := 17, ground := Go.Ground.data }], guard := none }) (v := undef) rfl rfl (by kernel_rfl) (by kernel_rfl) (by kernel_rfl) (by kernel_rfl) (fun _ _ _ h => h) (Or.inr ⟨by kernel_rfl, rfl⟩) rfl ?_
    (try simp only [Act.put, List.setIfInBounds_toArray, List.set_cons_zero, List.set_cons_succ])
    refine wpAnyN_take (i := 13) (oi := { dst := some 16, op := Go.Op.load 30 (Go.Operand.tmp 15), type := 30, pos := "kinds.go:253", after := #[{ on := 12, ground := Go.Ground.data }, { on := 5, ground := Go.Ground.guard }], guard := some (5, true) }) (oL := { dst := some 21, op := Go.Op.pick (Go.Operand.tmp 8) (Go.Operand.tmp 20) (Go.Operand.const (Go.Value.bool false)), type := 4, pos := "kinds.go:253", after := #[{ on := 5, ground := Go.Ground.data }, { on := 17, ground := Go.Ground.data }], guard := none }) (v := undef) rfl rfl (by kernel_rfl) (by kernel_rfl) (by kernel_rfl) (by kernel_rfl) (fun _ _ _ h => h) (Or.inr ⟨by kernel_rfl, rfl⟩) rfl ?_
    (try simp only [Act.put, List.setIfInBounds_toArray, List.set_cons_zero, List.set_cons_succ])
    refine wpAnyN_take (i := 14) (oi := { dst := some 17, op := Go.Op.call { callee := Go.Callee.builtin Go.Builtin.len, args := #[Go.Operand.tmp 16], argTypes := #[30] }, type := 3, pos := "kinds.go:253", after := #[{ on := 13, ground := Go.Ground.data }, { on := 5, ground := Go.Ground.guard }], guard := some (5, true) }) (oL := { dst := some 21, op := Go.Op.pick (Go.Operand.tmp 8) (Go.Operand.tmp 20) (Go.Operand.const (Go.Value.bool false)), type := 4, pos := "kinds.go:253", after := #[{ on := 5, ground := Go.Ground.data }, { on := 17, ground := Go.Ground.data }], guard := none }) (v := undef) rfl rfl (by kernel_rfl) (by kernel_rfl) (by kernel_rfl) (by kernel_rfl) (fun _ _ _ h => h) (Or.inr ⟨by kernel_rfl, rfl⟩) rfl ?_
    (try simp only [Act.put, List.setIfInBounds_toArray, List.set_cons_zero, List.set_cons_succ])
    refine wpAnyN_take (i := 15) (oi := { dst := some 18, op := Go.Op.binOp Go.BinOp.add 3 (Go.Operand.tmp 12) (Go.Operand.tmp 17) 3, type := 3, pos := "kinds.go:253", after := #[{ on := 9, ground := Go.Ground.data }, { on := 14, ground := Go.Ground.data }, { on := 5, ground := Go.Ground.guard }], guard := some (5, true) }) (oL := { dst := some 21, op := Go.Op.pick (Go.Operand.tmp 8) (Go.Operand.tmp 20) (Go.Operand.const (Go.Value.bool false)), type := 4, pos := "kinds.go:253", after := #[{ on := 5, ground := Go.Ground.data }, { on := 17, ground := Go.Ground.data }], guard := none }) (v := undef) rfl rfl (by kernel_rfl) (by kernel_rfl) (by kernel_rfl) (by kernel_rfl) (fun _ _ _ h => h) (Or.inr ⟨by kernel_rfl, rfl⟩) rfl ?_
    (try simp only [Act.put, List.setIfInBounds_toArray, List.set_cons_zero, List.set_cons_succ])
    refine wpAnyN_take (i := 16) (oi := { dst := some 19, op := Go.Op.binOp Go.BinOp.sub 3 (Go.Operand.tmp 18) (Go.Operand.const (Go.Value.int Go.IntKind.i64 1)) 3, type := 3, pos := "kinds.go:253", after := #[{ on := 15, ground := Go.Ground.data }, { on := 5, ground := Go.Ground.guard }], guard := some (5, true) }) (oL := { dst := some 21, op := Go.Op.pick (Go.Operand.tmp 8) (Go.Operand.tmp 20) (Go.Operand.const (Go.Value.bool false)), type := 4, pos := "kinds.go:253", after := #[{ on := 5, ground := Go.Ground.data }, { on := 17, ground := Go.Ground.data }], guard := none }) (v := undef) rfl rfl (by kernel_rfl) (by kernel_rfl) (by kernel_rfl) (by kernel_rfl) (fun _ _ _ h => h) (Or.inr ⟨by kernel_rfl, rfl⟩) rfl ?_
    (try simp only [Act.put, List.setIfInBounds_toArray, List.set_cons_zero, List.set_cons_succ])
    refine wpAnyN_take (i := 17) (oi := { dst := some 20, op := Go.Op.call { callee := Go.Callee.value (Go.Operand.func 46), args := #[Go.Operand.tmp 19], argTypes := #[3] }, type := 4, pos := "kinds.go:253", after := #[{ on := 16, ground := Go.Ground.data }, { on := 5, ground := Go.Ground.chain }, { on := 5, ground := Go.Ground.guard }], guard := some (5, true) }) (oL := { dst := some 21, op := Go.Op.pick (Go.Operand.tmp 8) (Go.Operand.tmp 20) (Go.Operand.const (Go.Value.bool false)), type := 4, pos := "kinds.go:253", after := #[{ on := 5, ground := Go.Ground.data }, { on := 17, ground := Go.Ground.data }], guard := none }) (v := undef) rfl rfl (by kernel_rfl) (by kernel_rfl) (by kernel_rfl) (by kernel_rfl) (fun _ _ _ h => h) (Or.inr ⟨by kernel_rfl, rfl⟩) rfl ?_
    (try simp only [Act.put, List.setIfInBounds_toArray, List.set_cons_zero, List.set_cons_succ])
    refine wpAnyN_one (i := 18) (o := { dst := some 21, op := Go.Op.pick (Go.Operand.tmp 8) (Go.Operand.tmp 20) (Go.Operand.const (Go.Value.bool false)), type := 4, pos := "kinds.go:253", after := #[{ on := 5, ground := Go.Ground.data }, { on := 17, ground := Go.Ground.data }], guard := none }) (by kernel_rfl) rfl (fun K hK => ?_)
    go_simp
    refine hK.out _ _ (fun e => absurd (e.symm.trans (by kernel_rfl) : false = true) Bool.false_ne_true) ?_
    clear hK K
    (try simp only [Act.put, List.setIfInBounds_toArray, List.set_cons_zero, List.set_cons_succ])
    refine wpAnyN_of_H (S' := fun _ => True) _ _ _ _ (by kernel_rfl) ?_
    refine wpAnyH_take (i := 19) (oi := { dst := some 2, op := Go.Op.assign (Go.Operand.tmp 21), type := 4, pos := "kinds.go:253", after := #[{ on := 18, ground := Go.Ground.data }, { on := 17, ground := Go.Ground.chain }, { on := 0, ground := Go.Ground.phase }, { on := 1, ground := Go.Ground.phase }, { on := 2, ground := Go.Ground.phase }, { on := 3, ground := Go.Ground.phase }, { on := 4, ground := Go.Ground.phase }, { on := 5, ground := Go.Ground.phase }, { on := 6, ground := Go.Ground.phase }, { on := 7, ground := Go.Ground.phase }, { on := 8, ground := Go.Ground.phase }, { on := 9, ground := Go.Ground.phase }, { on := 10, ground := Go.Ground.phase }, { on := 11, ground := Go.Ground.phase }, { on := 12, ground := Go.Ground.phase }, { on := 13, ground := Go.Ground.phase }, { on := 14, ground := Go.Ground.phase }, { on := 15, ground := Go.Ground.phase }, { on := 16, ground := Go.Ground.phase }, { on := 17, ground := Go.Ground.phase }, { on := 18, ground := Go.Ground.phase }], guard := none }) (v := .bool false) rfl (by kernel_rfl) (by kernel_rfl) (by kernel_rfl) (fun _ _ _ h => h) (Or.inl ⟨by kernel_rfl, ?_⟩) trivial ?_
    · (intro X hX; go_simp; try (with_reducible rfl))
    (try simp only [Act.put, List.setIfInBounds_toArray, List.set_cons_zero, List.set_cons_succ])
    refine wpAnyH_done (by kernel_rfl) ?_ _
    go_wp2_with fail
    go_ret
    exact ⟨rfl, (Below.refl _ _).drew⟩
  | true =>
    rw [hx] at HQ1
    have hb : 1 ≤ x ∧ x < 4294967295 := by
      unfold numB at hx
      rw [Bool.and_eq_true, decide_eq_true_iff, decide_eq_true_iff] at hx
      exact hx
    obtain ⟨y1, hy1⟩ : ∃ y1, x + (n : Int) = y1 := ⟨_, rfl⟩
    have hw1 : IntKind.i64.wrap (x + (n : Int)) = y1 := by rw [← hy1]; simp only [IntKind.wrap, IntKind.signed, IntKind.bits]; simp; omega
    rw [hy1]
    obtain ⟨y2, hy2⟩ : ∃ y2, y1 - 1 = y2 := ⟨_, rfl⟩
    have hw2 : IntKind.i64.wrap (y1 - 1) = y2 := by rw [← hy2]; simp only [IntKind.wrap, IntKind.signed, IntKind.bits]; simp; omega
    rw [hy2]
    have HQ2 := Lib.hid (isNum_any y2 W.drew)
    clear hx hb hy1 hy2 hu
    generalize numB y2 = q2 at *
    go_enter Tryz.func74, Tryz.ntmps74
    go_upto_region 1 with fail
    refine wp_region_N 18 (fun X => X = W.drew) (by kernel_rfl) ?_
    refine wpAnyN_take (i := 0) (oi := { dst := some 3, op := Go.Op.move (Go.Operand.tmp 0), type := 67, pos := "kinds.go:253", after := #[], guard := none }) (oL := { dst := some 21, op := Go.Op.pick (Go.Operand.tmp 8) (Go.Operand.tmp 20) (Go.Operand.const (Go.Value.bool false)), type := 4, pos := "kinds.go:253", after := #[{ on := 5, ground := Go.Ground.data }, { on := 17, ground := Go.Ground.data }], guard := none }) (v := ptr eb) rfl rfl (by kernel_rfl) (by kernel_rfl) (by kernel_rfl) (by kernel_rfl) (fun _ _ _ h => h) (Or.inl ⟨by kernel_rfl, ?_⟩) rfl ?_
    · (intro X hX; subst hX <;> (go_simp; try first | (with_reducible rfl) | assumption))
    (try simp only [Act.put, List.setIfInBounds_toArray, List.set_cons_zero, List.set_cons_succ])
    refine wpAnyN_take (i := 1) (oi := { dst := some 4, op := Go.Op.nilCheck (Go.Operand.tmp 3), type := 0, pos := "kinds.go:253", after := #[{ on := 0, ground := Go.Ground.data }], guard := none }) (oL := { dst := some 21, op := Go.Op.pick (Go.Operand.tmp 8) (Go.Operand.tmp 20) (Go.Operand.const (Go.Value.bool false)), type := 4, pos := "kinds.go:253", after := #[{ on := 5, ground := Go.Ground.data }, { on := 17, ground := Go.Ground.data }], guard := none }) (v := ptr eb) rfl rfl (by kernel_rfl) (by kernel_rfl) (by kernel_rfl) (by kernel_rfl) (fun _ _ _ h => h) (Or.inl ⟨by kernel_rfl, ?_⟩) rfl ?_
    · (intro X hX; subst hX <;> (go_simp; try first | (with_reducible rfl) | assumption))
    (try simp only [Act.put, List.setIfInBounds_toArray, List.set_cons_zero, List.set_cons_succ])
    refine wpAnyN_take (i := 2) (oi := { dst := some 5, op := Go.Op.fieldAddr 35 (Go.Operand.tmp 4) 4, type := 0, pos := "kinds.go:253", after := #[{ on := 1, ground := Go.Ground.data }], guard := none }) (oL := { dst := some 21, op := Go.Op.pick (Go.Operand.tmp 8) (Go.Operand.tmp 20) (Go.Operand.const (Go.Value.bool false)), type := 4, pos := "kinds.go:253", after := #[{ on := 5, ground := Go.Ground.data }, { on := 17, ground := Go.Ground.data }], guard := none }) (v := .pointer (some ⟨eb, 4, none⟩)) rfl rfl (by kernel_rfl) (by kernel_rfl) (by kernel_rfl) (by kernel_rfl) (fun _ _ _ h => h) (Or.inl ⟨by kernel_rfl, ?_⟩) rfl ?_
    · (intro X hX; subst hX <;> (go_simp; try first | (with_reducible rfl) | assumption))
    (try simp only [Act.put, List.setIfInBounds_toArray, List.set_cons_zero, List.set_cons_succ])
    refine wpAnyN_take (i := 3) (oi := { dst := some 6, op := Go.Op.load 3 (Go.Operand.tmp 5), type := 3, pos := "kinds.go:253", after := #[{ on := 2, ground := Go.Ground.data }], guard := none }) (oL := { dst := some 21, op := Go.Op.pick (Go.Operand.tmp 8) (Go.Operand.tmp 20) (Go.Operand.const (Go.Value.bool false)), type := 4, pos := "kinds.go:253", after := #[{ on := 5, ground := Go.Ground.data }, { on := 17, ground := Go.Ground.data }], guard := none }) (v := .int .i64 x) rfl rfl (by kernel_rfl) (by kernel_rfl) (by kernel_rfl) (by kernel_rfl) (fun _ _ _ h => h) (Or.inl ⟨by kernel_rfl, ?_⟩) rfl ?_
    · (intro X hX; subst hX <;> (go_simp; try first | (with_reducible rfl) | assumption))
    (try simp only [Act.put, List.setIfInBounds_toArray, List.set_cons_zero, List.set_cons_succ])
    refine wpAnyN_one (i := 4) (o := { dst := some 7, op := Go.Op.call { callee := Go.Callee.value (Go.Operand.func 46), args := #[Go.Operand.tmp 6], argTypes := #[3] }, type := 4, pos := "kinds.go:253", after := #[{ on := 3, ground := Go.Ground.data }], guard := none }) (by kernel_rfl) rfl (fun K hK => ?_)
    go_simp
    refine HQ1.out.mono ?_
    rintro e w3 ⟨rfl, hw3⟩
    subst w3
    refine hK.out _ _ (fun _ => rfl) ?_
    clear hK K
    (try simp only [Act.put, List.setIfInBounds_toArray, List.set_cons_zero, List.set_cons_succ])
    refine wpAnyN_take (i := 5) (oi := { dst := some 8, op := Go.Op.move (Go.Operand.tmp 7), type := 4, pos := "kinds.go:253", after := #[{ on := 4, ground := Go.Ground.data }, { on := 4, ground := Go.Ground.chain }], guard := none }) (oL := { dst := some 21, op := Go.Op.pick (Go.Operand.tmp 8) (Go.Operand.tmp 20) (Go.Operand.const (Go.Value.bool false)), type := 4, pos := "kinds.go:253", after := #[{ on := 5, ground := Go.Ground.data }, { on := 17, ground := Go.Ground.data }], guard := none }) (v := .bool true) rfl rfl (by kernel_rfl) (by kernel_rfl) (by kernel_rfl) (by kernel_rfl) (fun _ _ _ h => h) (Or.inl ⟨by kernel_rfl, ?_⟩) rfl ?_
    · (intro X hX; subst hX <;> (go_simp; try first | (with_reducible rfl) | assumption))
    (try simp only [Act.put, List.setIfInBounds_toArray, List.set_cons_zero, List.set_cons_succ])
    refine wpAnyN_take (i := 6) (oi := { dst := some 9, op := Go.Op.move (Go.Operand.tmp 0), type := 67, pos := "kinds.go:253", after := #[{ on := 5, ground := Go.Ground.guard }], guard := some (5, true) }) (oL := { dst := some 21, op := Go.Op.pick (Go.Operand.tmp 8) (Go.Operand.tmp 20) (Go.Operand.const (Go.Value.bool false)), type := 4, pos := "kinds.go:253", after := #[{ on := 5, ground := Go.Ground.data }, { on := 17, ground := Go.Ground.data }], guard := none }) (v := ptr eb) rfl rfl (by kernel_rfl) (by kernel_rfl) (by kernel_rfl) (by kernel_rfl) (fun _ _ _ h => h) (Or.inl ⟨by kernel_rfl, ?_⟩) rfl ?_
    · (intro X hX; subst hX <;> (go_simp; try first | (with_reducible rfl) | assumption))
    (try simp only [Act.put, List.setIfInBounds_toArray, List.set_cons_zero, List.set_cons_succ])
    refine wpAnyN_take (i := 7) (oi := { dst := some 10, op := Go.Op.nilCheck (Go.Operand.tmp 9), type := 0, pos := "kinds.go:253", after := #[{ on := 6, ground := Go.Ground.data }, { on := 5, ground := Go.Ground.guard }], guard := some (5, true) }) (oL := { dst := some 21, op := Go.Op.pick (Go.Operand.tmp 8) (Go.Operand.tmp 20) (Go.Operand.const (Go.Value.bool false)), type := 4, pos := "kinds.go:253", after := #[{ on := 5, ground := Go.Ground.data }, { on := 17, ground := Go.Ground.data }], guard := none }) (v := ptr eb) rfl rfl (by kernel_rfl) (by kernel_rfl) (by kernel_rfl) (by kernel_rfl) (fun _ _ _ h => h) (Or.inl ⟨by kernel_rfl, ?_⟩) rfl ?_
    · (intro X hX; subst hX <;> (go_simp; try first | (with_reducible rfl) | assumption))
    (try simp only [Act.put, List.setIfInBounds_toArray, List.set_cons_zero, List.set_cons_succ])
    refine wpAnyN_take (i := 8) (oi := { dst := some 11, op := Go.Op.fieldAddr 35 (Go.Operand.tmp 10) 4, type := 0, pos := "kinds.go:253", after := #[{ on := 7, ground := Go.Ground.data }, { on := 5, ground := Go.Ground.guard }], guard := some (5, true) }) (oL := { dst := some 21, op := Go.Op.pick (Go.Operand.tmp 8) (Go.Operand.tmp 20) (Go.Operand.const (Go.Value.bool false)), type := 4, pos := "kinds.go:253", after := #[{ on := 5, ground := Go.Ground.data }, { on := 17, ground := Go.Ground.data }], guard := none }) (v := .pointer (some ⟨eb, 4, none⟩)) rfl rfl (by kernel_rfl) (by kernel_rfl) (by kernel_rfl) (by kernel_rfl) (fun _ _ _ h => h) (Or.inl ⟨by kernel_rfl, ?_⟩) rfl ?_
    · (intro X hX; subst hX <;> (go_simp; try first | (with_reducible rfl) | assumption))
    (try simp only [Act.put, List.setIfInBounds_toArray, List.set_cons_zero, List.set_cons_succ])
    refine wpAnyN_take (i := 9) (oi := { dst := some 12, op := Go.Op.load 3 (Go.Operand.tmp 11), type := 3, pos := "kinds.go:253", after := #[{ on := 8, ground := Go.Ground.data }, { on := 5, ground := Go.Ground.guard }], guard := some (5, true) }) (oL := { dst := some 21, op := Go.Op.pick (Go.Operand.tmp 8) (Go.Operand.tmp 20) (Go.Operand.const (Go.Value.bool false)), type := 4, pos := "kinds.go:253", after := #[{ on := 5, ground := Go.Ground.data }, { on := 17, ground := Go.Ground.data }], guard := none }) (v := .int .i64 x) rfl rfl (by kernel_rfl) (by kernel_rfl) (by kernel_rfl) (by kernel_rfl) (fun _ _ _ h => h) (Or.inl ⟨by kernel_rfl, ?_⟩) rfl ?_
    · (intro X hX; subst hX <;> (go_simp; try first | (with_reducible rfl) | assumption))
    (try simp only [Act.put, List.setIfInBounds_toArray, List.set_cons_zero, List.set_cons_succ])
    refine wpAnyN_take (i := 10) (oi := { dst := some 13, op := Go.Op.move (Go.Operand.tmp 0), type := 67, pos := "kinds.go:253", after := #[{ on := 5, ground := Go.Ground.guard }], guard := some (5, true) }) (oL := { dst := some 21, op := Go.Op.pick (Go.Operand.tmp 8) (Go.Operand.tmp 20) (Go.Operand.const (Go.Value.bool false)), type := 4, pos := "kinds.go:253", after := #[{ on := 5, ground := Go.Ground.data }, { on := 17, ground := Go.Ground.data }], guard := none }) (v := ptr eb) rfl rfl (by kernel_rfl) (by kernel_rfl) (by kernel_rfl) (by kernel_rfl) (fun _ _ _ h => h) (Or.inl ⟨by kernel_rfl, ?_⟩) rfl ?_
    · (intro X hX; subst hX <;> (go_simp; try first | (with_reducible rfl) | assumption))
    (try simp only [Act.put, List.setIfInBounds_toArray, List.set_cons_zero, List.set_cons_succ])
    refine wpAnyN_take (i := 11) (oi := { dst := some 14, op := Go.Op.nilCheck (Go.Operand.tmp 13), type := 0, pos := "kinds.go:253", after := #[{ on := 10, ground := Go.Ground.data }, { on := 5, ground := Go.Ground.guard }], guard := some (5, true) }) (oL := { dst := some 21, op := Go.Op.pick (Go.Operand.tmp 8) (Go.Operand.tmp 20) (Go.Operand.const (Go.Value.bool false)), type := 4, pos := "kinds.go:253", after := #[{ on := 5, ground := Go.Ground.data }, { on := 17, ground := Go.Ground.data }], guard := none }) (v := ptr eb) rfl rfl (by kernel_rfl) (by kernel_rfl) (by kernel_rfl) (by kernel_rfl) (fun _ _ _ h => h) (Or.inl ⟨by kernel_rfl, ?_⟩) rfl ?_
    · (intro X hX; subst hX <;> (go_simp; try first | (with_reducible rfl) | assumption))
    (try simp only [Act.put, List.setIfInBounds_toArray, List.set_cons_zero, List.set_cons_succ])
    refine wpAnyN_take (i := 12) (oi := { dst := some 15, op := Go.Op.fieldAddr 35 (Go.Operand.tmp 14) 8, type := 0, pos := "kinds.go:253", after := #[{ on := 11, ground := Go.Ground.data }, { on := 5, ground := Go.Ground.guard }], guard := some (5, true) }) (oL := { dst := some 21, op := Go.Op.pick (Go.Operand.tmp 8) (Go.Operand.tmp 20) (Go.Operand.const (Go.Value.bool false)), type := 4, pos := "kinds.go:253", after := #[{ on := 5, ground := Go.Ground.data }, { on := 17, ground := Go.Ground.data }], guard := none }) (v := .pointer (some ⟨eb, 8, none⟩)) rfl rfl (by kernel_rfl) (by kernel_rfl) (by kernel_rfl) (by kernel_rfl) (fun _ _ _ h => h) (Or.inl ⟨by kernel_rfl, ?_⟩) rfl ?_
    · (intro X hX; subst hX <;> (go_simp; try first | (with_reducible rfl) | assumption))
    (try simp only [Act.put, List.setIfInBounds_toArray, List.set_cons_zero, List.set_cons_succ])
    refine wpAnyN_take (i := 13) (oi := { dst := some 16, op := Go.Op.load 30 (Go.Operand.tmp 15), type := 30, pos := "kinds.go:253", after := #[{ on := 12, ground := Go.Ground.data }, { on := 5, ground := Go.Ground.guard }], guard := some (5, true) }) (oL := { dst := some 21, op := Go.Op.pick (Go.Operand.tmp 8) (Go.Operand.tmp 20) (Go.Operand.const (Go.Value.bool false)), type := 4, pos := "kinds.go:253", after := #[{ on := 5, ground := Go.Ground.data }, { on := 17, ground := Go.Ground.data }], guard := none }) (v := .slice a n c) rfl rfl (by kernel_rfl) (by kernel_rfl) (by kernel_rfl) (by kernel_rfl) (fun _ _ _ h => h) (Or.inl ⟨by kernel_rfl, ?_⟩) rfl ?_
    · (intro X hX; subst hX <;> (go_simp; try first | (with_reducible rfl) | assumption))
    (try simp only [Act.put, List.setIfInBounds_toArray, List.set_cons_zero, List.set_cons_succ])
    refine wpAnyN_take (i := 14) (oi := { dst := some 17, op := Go.Op.call { callee := Go.Callee.builtin Go.Builtin.len, args := #[Go.Operand.tmp 16], argTypes := #[30] }, type := 3, pos := "kinds.go:253", after := #[{ on := 13, ground := Go.Ground.data }, { on := 5, ground := Go.Ground.guard }], guard := some (5, true) }) (oL := { dst := some 21, op := Go.Op.pick (Go.Operand.tmp 8) (Go.Operand.tmp 20) (Go.Operand.const (Go.Value.bool false)), type := 4, pos := "kinds.go:253", after := #[{ on := 5, ground := Go.Ground.data }, { on := 17, ground := Go.Ground.data }], guard := none }) (v := .int .i64 (n : Int)) rfl rfl (by kernel_rfl) (by kernel_rfl) (by kernel_rfl) (by kernel_rfl) (fun _ _ _ h => h) (Or.inl ⟨by kernel_rfl, ?_⟩) rfl ?_
    · (intro X hX; subst hX <;> (go_simp; try first | (with_reducible rfl) | assumption))
    (try simp only [Act.put, List.setIfInBounds_toArray, List.set_cons_zero, List.set_cons_succ])
    refine wpAnyN_take (i := 15) (oi := { dst := some 18, op := Go.Op.binOp Go.BinOp.add 3 (Go.Operand.tmp 12) (Go.Operand.tmp 17) 3, type := 3, pos := "kinds.go:253", after := #[{ on := 9, ground := Go.Ground.data }, { on := 14, ground := Go.Ground.data }, { on := 5, ground := Go.Ground.guard }], guard := some (5, true) }) (oL := { dst := some 21, op := Go.Op.pick (Go.Operand.tmp 8) (Go.Operand.tmp 20) (Go.Operand.const (Go.Value.bool false)), type := 4, pos := "kinds.go:253", after := #[{ on := 5, ground := Go.Ground.data }, { on := 17, ground := Go.Ground.data }], guard := none }) (v := .int .i64 y1) rfl rfl (by kernel_rfl) (by kernel_rfl) (by kernel_rfl) (by kernel_rfl) (fun _ _ _ h => h) (Or.inl ⟨by kernel_rfl, ?_⟩) rfl ?_
    · (intro X hX; subst hX <;> (go_simp; try first | (with_reducible rfl) | assumption))
    (try simp only [Act.put, List.setIfInBounds_toArray, List.set_cons_zero, List.set_cons_succ])
    refine wpAnyN_take (i := 16) (oi := { dst := some 19, op := Go.Op.binOp Go.BinOp.sub 3 (Go.Operand.tmp 18) (Go.Operand.const (Go.Value.int Go.IntKind.i64 1)) 3, type := 3, pos := "kinds.go:253", after := #[{ on := 15, ground := Go.Ground.data }, { on := 5, ground := Go.Ground.guard }], guard := some (5, true) }) (oL := { dst := some 21, op := Go.Op.pick (Go.Operand.tmp 8) (Go.Operand.tmp 20) (Go.Operand.const (Go.Value.bool false)), type := 4, pos := "kinds.go:253", after := #[{ on := 5, ground := Go.Ground.data }, { on := 17, ground := Go.Ground.data }], guard := none }) (v := .int .i64 y2) rfl rfl (by kernel_rfl) (by kernel_rfl) (by kernel_rfl) (by kernel_rfl) (fun _ _ _ h => h) (Or.inl ⟨by kernel_rfl, ?_⟩) rfl ?_
    · (intro X hX; subst hX <;> (go_simp; try first | (with_reducible rfl) | assumption))
    (try simp only [Act.put, List.setIfInBounds_toArray, List.set_cons_zero, List.set_cons_succ])
    refine wpAnyN_one (i := 17) (o := { dst := some 20, op := Go.Op.call { callee := Go.Callee.value (Go.Operand.func 46), args := #[Go.Operand.tmp 19], argTypes := #[3] }, type := 4, pos := "kinds.go:253", after := #[{ on := 16, ground := Go.Ground.data }, { on := 5, ground := Go.Ground.chain }, { on := 5, ground := Go.Ground.guard }], guard := some (5, true) }) (by kernel_rfl) rfl (fun K hK => ?_)
    go_simp
    refine HQ2.out.mono ?_
    rintro e w4 ⟨rfl, hw4⟩
    subst w4
    refine hK.out _ _ (fun _ => rfl) ?_
    clear hK K
    (try simp only [Act.put, List.setIfInBounds_toArray, List.set_cons_zero, List.set_cons_succ])
    refine wpAnyN_one (i := 18) (o := { dst := some 21, op := Go.Op.pick (Go.Operand.tmp 8) (Go.Operand.tmp 20) (Go.Operand.const (Go.Value.bool false)), type := 4, pos := "kinds.go:253", after := #[{ on := 5, ground := Go.Ground.data }, { on := 17, ground := Go.Ground.data }], guard := none }) (by kernel_rfl) rfl (fun K hK => ?_)
    go_simp
    refine hK.out _ _ (fun e => absurd (e.symm.trans (by kernel_rfl) : false = true) Bool.false_ne_true) ?_
    clear hK K
    (try simp only [Act.put, List.setIfInBounds_toArray, List.set_cons_zero, List.set_cons_succ])
    refine wpAnyN_of_H (S' := fun _ => True) _ _ _ _ (by kernel_rfl) ?_
    refine wpAnyH_take (i := 19) (oi := { dst := some 2, op := Go.Op.assign (Go.Operand.tmp 21), type := 4, pos := "kinds.go:253", after := #[{ on := 18, ground := Go.Ground.data }, { on := 17, ground := Go.Ground.chain }, { on := 0, ground := Go.Ground.phase }, { on := 1, ground := Go.Ground.phase }, { on := 2, ground := Go.Ground.phase }, { on := 3, ground := Go.Ground.phase }, { on := 4, ground := Go.Ground.phase }, { on := 5, ground := Go.Ground.phase }, { on := 6, ground := Go.Ground.phase }, { on := 7, ground := Go.Ground.phase }, { on := 8, ground := Go.Ground.phase }, { on := 9, ground := Go.Ground.phase }, { on := 10, ground := Go.Ground.phase }, { on := 11, ground := Go.Ground.phase }, { on := 12, ground := Go.Ground.phase }, { on := 13, ground := Go.Ground.phase }, { on := 14, ground := Go.Ground.phase }, { on := 15, ground := Go.Ground.phase }, { on := 16, ground := Go.Ground.phase }, { on := 17, ground := Go.Ground.phase }, { on := 18, ground := Go.Ground.phase }], guard := none }) (v := .bool q2) rfl (by kernel_rfl) (by kernel_rfl) (by kernel_rfl) (fun _ _ _ h => h) (Or.inl ⟨by kernel_rfl, ?_⟩) trivial ?_
    · (intro X hX; go_simp; try (with_reducible rfl))
    (try simp only [Act.put, List.setIfInBounds_toArray, List.set_cons_zero, List.set_cons_succ])
    refine wpAnyH_done (by kernel_rfl) ?_ _
    go_wp2_with fail
    go_ret
    exact ⟨by first | rfl | (rw [Bool.true_and]; rfl), (Below.refl _ _).drew⟩
end Go.Proofs.YtbncaiocmklgnaaGreatDoor
