/- event: the name's part; kindOf, isLong, hasJust, held (v11igen.py). -/
import Derived.Test.YtbncaiocmklgnaaGreatDoorV11h
import Derived.Test.YtbncaiocmklgnaaGreatDoorPs
import Derived.Deep.QuietTactic
import Derived.BigQuiet
namespace Go.Proofs.YtbncaiocmklgnaaGreatDoor
open Go.RowKit Go.Lib

/-- An event with a number, a kind, a name and names. -/
def evV (n k : Int) (s : ByteArray) (a : Option Addr) (l c : Nat) : Array Value := #[.int .i64 n, .int .i64 k, .int .i64 0, .int .i64 0, .int .i64 0, .string s, .slice a l c, .slice none 0 0, .slice none 0 0, .slice none 0 0, .int .i64 0, .int .i64 0, .int .i64 0, .int .i64 0, .int .i64 0, .int .i64 0, .int .i64 0, .string ⟨#[]⟩]
theorem ev_cells {X : World} {b : Nat} {n k : Int} {s : ByteArray} {a : Option Addr} {l c : Nat} (h : X.heap[b]? = some (.cells (evV n k s a l c) 35 (0, 0))) :
    X.cell? ⟨b, 0, none⟩ = some (.int .i64 n) ∧ X.cell? ⟨b, 1, none⟩ = some (.int .i64 k) ∧ X.cell? ⟨b, 2, none⟩ = some (.int .i64 0) ∧ X.cell? ⟨b, 3, none⟩ = some (.int .i64 0) ∧ X.cell? ⟨b, 4, none⟩ = some (.int .i64 0) ∧ X.cell? ⟨b, 5, none⟩ = some (.string s) ∧ X.cell? ⟨b, 6, none⟩ = some (.slice a l c) ∧ X.cell? ⟨b, 7, none⟩ = some (.slice none 0 0) ∧ X.cell? ⟨b, 8, none⟩ = some (.slice none 0 0) ∧ X.cell? ⟨b, 9, none⟩ = some (.slice none 0 0) ∧
    X.cell? ⟨b, 10, none⟩ = some (.int .i64 0) ∧ X.cell? ⟨b, 11, none⟩ = some (.int .i64 0) ∧ X.cell? ⟨b, 12, none⟩ = some (.int .i64 0) ∧ X.cell? ⟨b, 13, none⟩ = some (.int .i64 0) ∧ X.cell? ⟨b, 14, none⟩ = some (.int .i64 0) ∧ X.cell? ⟨b, 15, none⟩ = some (.int .i64 0) ∧ X.cell? ⟨b, 16, none⟩ = some (.int .i64 0) ∧ X.cell? ⟨b, 17, none⟩ = some (.string ⟨#[]⟩) := by
  unfold evV at h
  have y0 := cell_of h 0
  have y1 := cell_of h 1
  have y2 := cell_of h 2
  have y3 := cell_of h 3
  have y4 := cell_of h 4
  have y5 := cell_of h 5
  have y6 := cell_of h 6
  have y7 := cell_of h 7
  have y8 := cell_of h 8
  have y9 := cell_of h 9
  have y10 := cell_of h 10
  have y11 := cell_of h 11
  have y12 := cell_of h 12
  have y13 := cell_of h 13
  have y14 := cell_of h 14
  have y15 := cell_of h 15
  have y16 := cell_of h 16
  have y17 := cell_of h 17
  simp only [List.getElem?_toArray, List.getElem?_cons_zero, List.getElem?_cons_succ] at y0 y1 y2 y3 y4 y5 y6 y7 y8 y9 y10 y11 y12 y13 y14 y15 y16 y17
  exact ⟨y0, y1, y2, y3, y4, y5, y6, y7, y8, y9, y10, y11, y12, y13, y14, y15, y16, y17⟩
theorem Tryz.sizeEv (n k : Int) (s : ByteArray) (a : Option Addr) (l c : Nat) : (Tryz.prog.info? 35).map (·.size) = some (evV n k s a l c).size := by kernel_rfl
theorem ev_one (n k : Int) (s : ByteArray) (a : Option Addr) (l c : Nat) : (evV n k s a l c).all (·.oneCell') = true := by simp [evV, Value.oneCell']
theorem box1 {X : World} {b : Nat} {v : Value} {ty : TypeId} (h : X.heap[b]? = some (.cells #[v] ty (0, 0))) : X.cell? ⟨b, 0, none⟩ = some v := cell_of h 0
theorem at_name (eb : Nat) (w : World) : Calls Tryz.prog 70 #[ptr eb] w fun e w' => e = .returned (.pointer (some ⟨eb, 5, none⟩)) ∧ w' = w := by
  go_enter Tryz.func70, Tryz.ntmps70
  go_wp2
  go_ret
  exact ⟨rfl, rfl⟩
theorem isNumber_any (n : Int) (w : World) (hn : 1 ≤ n ∧ n < 4294967295) : Calls Tryz.prog 46 #[.int .i64 n] w fun e w' => e = .returned (.bool true) ∧ w' = w := by
  have h1 : ¬ n < 1 := by omega
  have h2 : n < 4294967295 := hn.2
  have h3 : 1 ≤ n := hn.1
  have h4 : decide (1 ≤ n) = true := decide_eq_true h3
  go_enter Tryz.func46, Tryz.ntmps46
  go_wp2
  go_ret
  exact ⟨rfl, rfl⟩
theorem evName_any (s : ByteArray) (w : World) (he : Env w) (hc : (wire (L s)).2 = 0) : Calls Tryz.prog 71 #[.string s] w fun e w' => e = .returned (.bool true) ∧ Below w.heap.size w w' := by
  have HW := Lib.hid (Wire_any s w he)
  rw [hc] at HW
  clear hc he
  go_enter Tryz.func71, Tryz.ntmps71
  go_wp2_with (go_at_call 93; refine HW.out.mono ?_; rintro e w1 ⟨rfl, hb⟩; have HB := Lib.hid hb; clear hb)
  go_ret
  exact ⟨rfl, HB.out⟩
set_option maxHeartbeats 1000000 in
/-- holds, of the name's part. -/
theorem name_holds (eb p q : Nat) (s : ByteArray) (w : World) (he : Env w) (hc : (wire (L s)).2 = 0) (hp : w.heap[p]? = some (.cells #[fnV 70 #[]] 106 (0, 0))) (hq : w.heap[q]? = some (.cells #[fnV 71 #[]] 89 (0, 0))) (hs : w.cell? ⟨eb, 5, none⟩ = some (.string s)) :
    Calls Tryz.prog 87 #[ptr eb, ptr q, ptr p] w fun e w' => e = .returned (.bool true) ∧ Below w.heap.size w w' := by
  have c1 := box1 hp
  have c2 := box1 hq
  have HN := Lib.hid (evName_any s w.drew (he.on (Below.refl _ _).drew) hc)
  have HA := Lib.hid (at_name eb w.drew)
  clear he hc hp hq
  go_enter Tryz.func87, Tryz.ntmps87
  go_upto_region 1 with fail
  refine wp_region_N 6 (fun X => X = w.drew) (by kernel_rfl) ?_
  refine wpAnyN_take (i := 0) (oi := { dst := some 5, op := Go.Op.load 89 (Go.Operand.tmp 1), type := 89, pos := "kinds.go:100", after := #[], guard := none }) (oL := { dst := some 11, op := Go.Op.call { callee := Go.Callee.value (Go.Operand.tmp 5), args := #[Go.Operand.tmp 10], argTypes := #[9] }, type := 4, pos := "kinds.go:100", after := #[{ on := 0, ground := Go.Ground.data }, { on := 5, ground := Go.Ground.data }, { on := 3, ground := Go.Ground.chain }], guard := none }) (v := fnV 71 #[]) rfl rfl (by kernel_rfl) (by kernel_rfl) (by kernel_rfl) (by kernel_rfl) (fun _ _ _ h => h) (Or.inl ⟨by kernel_rfl, ?_⟩) rfl ?_
  · (intro X hX; subst hX <;> (go_simp; try (with_reducible rfl)))
  (try simp only [Act.put, List.setIfInBounds_toArray, List.set_cons_zero, List.set_cons_succ])
  refine wpAnyN_take (i := 1) (oi := { dst := some 6, op := Go.Op.load 106 (Go.Operand.tmp 2), type := 106, pos := "kinds.go:100", after := #[], guard := none }) (oL := { dst := some 11, op := Go.Op.call { callee := Go.Callee.value (Go.Operand.tmp 5), args := #[Go.Operand.tmp 10], argTypes := #[9] }, type := 4, pos := "kinds.go:100", after := #[{ on := 0, ground := Go.Ground.data }, { on := 5, ground := Go.Ground.data }, { on := 3, ground := Go.Ground.chain }], guard := none }) (v := fnV 70 #[]) rfl rfl (by kernel_rfl) (by kernel_rfl) (by kernel_rfl) (by kernel_rfl) (fun _ _ _ h => h) (Or.inl ⟨by kernel_rfl, ?_⟩) rfl ?_
  · (intro X hX; subst hX <;> (go_simp; try (with_reducible rfl)))
  (try simp only [Act.put, List.setIfInBounds_toArray, List.set_cons_zero, List.set_cons_succ])
  refine wpAnyN_take (i := 2) (oi := { dst := some 7, op := Go.Op.move (Go.Operand.tmp 0), type := 67, pos := "kinds.go:100", after := #[], guard := none }) (oL := { dst := some 11, op := Go.Op.call { callee := Go.Callee.value (Go.Operand.tmp 5), args := #[Go.Operand.tmp 10], argTypes := #[9] }, type := 4, pos := "kinds.go:100", after := #[{ on := 0, ground := Go.Ground.data }, { on := 5, ground := Go.Ground.data }, { on := 3, ground := Go.Ground.chain }], guard := none }) (v := ptr eb) rfl rfl (by kernel_rfl) (by kernel_rfl) (by kernel_rfl) (by kernel_rfl) (fun _ _ _ h => h) (Or.inl ⟨by kernel_rfl, ?_⟩) rfl ?_
  · (intro X hX; subst hX <;> (go_simp; try (with_reducible rfl)))
  (try simp only [Act.put, List.setIfInBounds_toArray, List.set_cons_zero, List.set_cons_succ])
  refine wpAnyN_one (i := 3) (o := { dst := some 8, op := Go.Op.call { callee := Go.Callee.value (Go.Operand.tmp 6), args := #[Go.Operand.tmp 7], argTypes := #[67] }, type := 105, pos := "kinds.go:100", after := #[{ on := 1, ground := Go.Ground.data }, { on := 2, ground := Go.Ground.data }], guard := none }) (by kernel_rfl) rfl (fun K hK => ?_)
  go_simp
  refine HA.out.mono ?_
  rintro e w3 ⟨rfl, hw3⟩
  subst w3
  refine hK.out _ _ (fun _ => rfl) ?_
  clear hK K
  (try simp only [Act.put, List.setIfInBounds_toArray, List.set_cons_zero, List.set_cons_succ])
  refine wpAnyN_take (i := 4) (oi := { dst := some 9, op := Go.Op.nilCheck (Go.Operand.tmp 8), type := 0, pos := "kinds.go:100", after := #[{ on := 3, ground := Go.Ground.data }], guard := none }) (oL := { dst := some 11, op := Go.Op.call { callee := Go.Callee.value (Go.Operand.tmp 5), args := #[Go.Operand.tmp 10], argTypes := #[9] }, type := 4, pos := "kinds.go:100", after := #[{ on := 0, ground := Go.Ground.data }, { on := 5, ground := Go.Ground.data }, { on := 3, ground := Go.Ground.chain }], guard := none }) (v := .pointer (some ⟨eb, 5, none⟩)) rfl rfl (by kernel_rfl) (by kernel_rfl) (by kernel_rfl) (by kernel_rfl) (fun _ _ _ h => h) (Or.inl ⟨by kernel_rfl, ?_⟩) rfl ?_
  · (intro X hX; subst hX <;> (go_simp; try (with_reducible rfl)))
  (try simp only [Act.put, List.setIfInBounds_toArray, List.set_cons_zero, List.set_cons_succ])
  refine wpAnyN_take (i := 5) (oi := { dst := some 10, op := Go.Op.load 9 (Go.Operand.tmp 9), type := 9, pos := "kinds.go:100", after := #[{ on := 4, ground := Go.Ground.data }], guard := none }) (oL := { dst := some 11, op := Go.Op.call { callee := Go.Callee.value (Go.Operand.tmp 5), args := #[Go.Operand.tmp 10], argTypes := #[9] }, type := 4, pos := "kinds.go:100", after := #[{ on := 0, ground := Go.Ground.data }, { on := 5, ground := Go.Ground.data }, { on := 3, ground := Go.Ground.chain }], guard := none }) (v := .string s) rfl rfl (by kernel_rfl) (by kernel_rfl) (by kernel_rfl) (by kernel_rfl) (fun _ _ _ h => h) (Or.inl ⟨by kernel_rfl, ?_⟩) rfl ?_
  · (intro X hX; subst hX <;> (go_simp; try (with_reducible rfl)))
  (try simp only [Act.put, List.setIfInBounds_toArray, List.set_cons_zero, List.set_cons_succ])
  refine wpAnyN_one (i := 6) (o := { dst := some 11, op := Go.Op.call { callee := Go.Callee.value (Go.Operand.tmp 5), args := #[Go.Operand.tmp 10], argTypes := #[9] }, type := 4, pos := "kinds.go:100", after := #[{ on := 0, ground := Go.Ground.data }, { on := 5, ground := Go.Ground.data }, { on := 3, ground := Go.Ground.chain }], guard := none }) (by kernel_rfl) rfl (fun K hK => ?_)
  go_simp
  refine HN.out.mono ?_
  rintro e w4 ⟨rfl, hb4⟩
  have HB := Lib.hid hb4
  clear hb4
  refine hK.out _ _ (fun e => absurd (e.symm.trans (by kernel_rfl) : false = true) Bool.false_ne_true) ?_
  clear hK K
  (try simp only [Act.put, List.setIfInBounds_toArray, List.set_cons_zero, List.set_cons_succ])
  refine wpAnyN_of_H (S' := fun _ => True) _ _ _ _ (by kernel_rfl) ?_
  refine wpAnyH_take (i := 7) (oi := { dst := some 4, op := Go.Op.assign (Go.Operand.tmp 11), type := 4, pos := "kinds.go:100", after := #[{ on := 6, ground := Go.Ground.data }, { on := 6, ground := Go.Ground.chain }, { on := 0, ground := Go.Ground.phase }, { on := 1, ground := Go.Ground.phase }, { on := 2, ground := Go.Ground.phase }, { on := 3, ground := Go.Ground.phase }, { on := 4, ground := Go.Ground.phase }, { on := 5, ground := Go.Ground.phase }, { on := 6, ground := Go.Ground.phase }], guard := none }) (v := .bool true) rfl (by kernel_rfl) (by kernel_rfl) (by kernel_rfl) (fun _ _ _ h => h) (Or.inl ⟨by kernel_rfl, ?_⟩) trivial ?_
  · (intro X hX; go_simp; try (with_reducible rfl))
  (try simp only [Act.put, List.setIfInBounds_toArray, List.set_cons_zero, List.set_cons_succ])
  refine wpAnyH_done (by kernel_rfl) ?_ _
  go_wp2_with fail
  go_ret
  exact ⟨rfl, (Below.refl _ _).drew.trans HB.out⟩
/-- drop. -/
theorem name_drop (eb p : Nat) (s : ByteArray) (w : World) (hp : w.heap[p]? = some (.cells #[fnV 70 #[]] 106 (0, 0))) (hs : w.cell? ⟨eb, 5, none⟩ = some (.string s)) (hz : w.frozen? ⟨eb, 5, none⟩ = false) :
    Calls Tryz.prog 92 #[ptr eb, ptr p] w fun e w' => e = .returned (.tuple #[]) ∧ w' = w.setCell ⟨eb, 5, none⟩ (.string ⟨#[]⟩) := by
  have c1 := box1 hp
  have HA := Lib.hid (at_name eb w)
  clear hp
  go_enter Tryz.func92, Tryz.ntmps92
  go_wp2_with (go_at_call 70; refine HA.out.mono ?_; rintro e w1 ⟨rfl, hw⟩; subst w1)
  first | refine bodyPost_end (results_none rfl _ _ _) rfl ?_ | refine bodyPost_ret (results_none rfl _ _ _) rfl ?_
  exact ⟨rfl, rfl⟩
theorem Tryz.kix (f : Nat → Value) (w : World) : Sem.run Tryz.prog (Instr.index 98 (.agg (arr48 f)) (.int .i64 10)) w = .ok (.agg #[f 40, f 41, f 42, f 43]) w := by kernel_rfl
end Go.Proofs.YtbncaiocmklgnaaGreatDoor
