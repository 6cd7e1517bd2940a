/- event: the parts as values; what they drop (c11hgen.py). -/
import Derived.Test.YtbncaiocmklgnaaGreatDoorC11g
namespace Go.Proofs.YtbncaiocmklgnaaGreatDoor
open Go.RowKit Go.Lib

/-- A part's four functions. -/
def ptV (B : Bxs) : Pt → Array Value
  | .box => #[fnV 83 #[ptr B.p1], fnV 84 #[ptr B.p1], fnV 85 #[ptr B.p1], fnV 86 #[ptr B.p1]]
  | .tto => #[fnV 83 #[ptr B.p2], fnV 84 #[ptr B.p2], fnV 85 #[ptr B.p2], fnV 86 #[ptr B.p2]]
  | .first => #[fnV 83 #[ptr B.p3], fnV 84 #[ptr B.p3], fnV 85 #[ptr B.p3], fnV 86 #[ptr B.p3]]
  | .room => #[fnV 74 #[], fnV 84 #[ptr B.p3], fnV 85 #[ptr B.p3], fnV 86 #[ptr B.p3]]
  | .name => #[fnV 87 #[ptr B.q4, ptr B.p4], fnV 88 #[ptr B.p4], fnV 90 #[ptr B.p4], fnV 92 #[ptr B.p4]]
  | .body => #[fnV 87 #[ptr B.q5, ptr B.p5], fnV 88 #[ptr B.p5], fnV 90 #[ptr B.p5], fnV 92 #[ptr B.p5]]
  | .names => #[fnV 105 #[], fnV 108 #[], fnV 109 #[], fnV 110 #[]]
  | .uids => #[fnV 98 #[], fnV 101 #[], fnV 102 #[], fnV 104 #[]]
  | .mark => #[fnV 111 #[], fnV 113 #[], fnV 115 #[], fnV 117 #[]]
  | .marks => #[fnV 124 #[], fnV 129 #[], fnV 130 #[], fnV 117 #[]]
  | .date => #[fnV 118 #[], fnV 120 #[], fnV 122 #[], fnV 123 #[]]
/-- What is called to ask whether a part holds; what drops it. -/
def ptH (B : Bxs) (eb : Nat) : Pt → Nat × Array Value
  | .box => (83, #[ptr eb, ptr B.p1])
  | .tto => (83, #[ptr eb, ptr B.p2])
  | .first => (83, #[ptr eb, ptr B.p3])
  | .room => (74, #[ptr eb])
  | .name => (87, #[ptr eb, ptr B.q4, ptr B.p4])
  | .body => (87, #[ptr eb, ptr B.q5, ptr B.p5])
  | .names => (105, #[ptr eb])
  | .uids => (98, #[ptr eb])
  | .mark => (111, #[ptr eb])
  | .marks => (124, #[ptr eb])
  | .date => (118, #[ptr eb])
def ptD (B : Bxs) (eb : Nat) : Pt → Nat × Array Value
  | .box => (86, #[ptr eb, ptr B.p1])
  | .tto => (86, #[ptr eb, ptr B.p2])
  | .first => (86, #[ptr eb, ptr B.p3])
  | .room => (86, #[ptr eb, ptr B.p3])
  | .name => (92, #[ptr eb, ptr B.p4])
  | .body => (92, #[ptr eb, ptr B.p5])
  | .names => (110, #[ptr eb])
  | .uids => (104, #[ptr eb])
  | .mark => (117, #[ptr eb])
  | .marks => (117, #[ptr eb])
  | .date => (123, #[ptr eb])
theorem pt_holds (p : Pt) (B : Bxs) (eb : Nat) (e : PE) (vn vb vu vm : Value) (W : World) (hK : KW B W) (hE : W.heap[eb]? = some (.cells (evC e vn vb vu vm) 35 (0, 0))) (he : Env3 W) (hL : Lst W e vn vb vu vm) (hl : longE e = false) :
    Calls Tryz.prog (ptH B eb p).1 (ptH B eb p).2 W fun r w' => r = .returned (.bool (holdsP e p)) ∧ Below W.heap.size W w' := by
  cases p with
  | box => exact box_holds B eb e vn vb vu vm W hK hE
  | tto => exact tto_holds B eb e vn vb vu vm W hK hE
  | first => exact first_holds B eb e vn vb vu vm W hK hE
  | room => exact room_holds eb e vn vb vu vm W hE hL hl
  | name => exact evname_holds B eb e vn vb vu vm W hK hE he
  | body => exact body_holds B eb e vn vb vu vm W hK hE
  | names => exact names_holds eb e vn vb vu vm W hE he hL
  | uids => exact uids_holds eb e vn vb vu vm W hE hL
  | mark => exact mark_holds eb e vn vb vu vm W hE he hL hl
  | marks => exact marks_holds eb e vn vb vu vm W hE he hL hl
  | date => exact date_holds eb e vn vb vu vm W hE he
/-- What is left of an event behind a drop. -/
def Left (w : World) (b : Nat) (e : PE) (K : List (Nat × Obj)) (W : World) : Prop := ∃ vn vb vu vm, Shp e vn vb vu vm ∧ KB w ((b, .cells (evC e vn vb vu vm) 35 (0, 0)) :: K) W
theorem kb_drops {B : Bxs} {w W : World} {b : Nat} {o : Obj} {K : List (Nat × Obj)} (h : KB w ((b, o) :: K) W) (hB : ∀ x, x ∈ kwL B → x ∈ K) : KW B W := fun x hx => h.kept x (List.mem_cons_of_mem _ (hB x hx))
set_option maxHeartbeats 1000000 in
theorem box_drops (B : Bxs) (b : Nat) (e : PE) (vn vb vu vm : Value) (w W : World) (K : List (Nat × Obj)) (h : KB w ((b, .cells (evC e vn vb vu vm) 35 (0, 0)) :: K) W) (hw : w.heap.size ≤ b) (hn : ∀ x, x ∈ K → x.1 ≠ b) (hB : ∀ x, x ∈ kwL B → x ∈ K) (hs : Shp e vn vb vu vm) :
    Calls Tryz.prog 86 #[ptr b, ptr B.p1] W fun r w' => r = .returned (.tuple #[]) ∧ Left w b { e with bx := 0 } K w' := by
  have c1 := box1 (kb_drops h hB).p1
  have h0 := h.kept _ List.mem_cons_self
  obtain ⟨_, _, c2, _, _, _, _, _, _, _, _, _, _, _, _, _, _, _⟩ := evC_cells h0
  have hz := frozen_of h0 2
  have HA := Lib.hid (at_box b W)
  have HR : Hid (Left w b { e with bx := 0 } K (W.setCell ⟨b, 2, none⟩ (.int .i64 0))) := Lib.hid ⟨vn, vb, vu, vm, ⟨hs.n, hs.b, hs.u, hs.m⟩, h.cell hw hn 2 (.int .i64 0)⟩
  clear h hw hn hB hs h0
  generalize e.bx = x at *
  go_enter Tryz.func86, Tryz.ntmps86
  go_wp2_with (go_at_call 66; refine HA.out.mono ?_; rintro e w1 ⟨rfl, hw1⟩; subst w1)
  first | refine bodyPost_end (results_none rfl _ _ _) rfl ?_ | refine bodyPost_ret (results_none rfl _ _ _) rfl ?_
  exact ⟨rfl, HR.out⟩
set_option maxHeartbeats 1000000 in
theorem tto_drops (B : Bxs) (b : Nat) (e : PE) (vn vb vu vm : Value) (w W : World) (K : List (Nat × Obj)) (h : KB w ((b, .cells (evC e vn vb vu vm) 35 (0, 0)) :: K) W) (hw : w.heap.size ≤ b) (hn : ∀ x, x ∈ K → x.1 ≠ b) (hB : ∀ x, x ∈ kwL B → x ∈ K) (hs : Shp e vn vb vu vm) :
    Calls Tryz.prog 86 #[ptr b, ptr B.p2] W fun r w' => r = .returned (.tuple #[]) ∧ Left w b { e with tt := 0 } K w' := by
  have c1 := box1 (kb_drops h hB).p2
  have h0 := h.kept _ List.mem_cons_self
  obtain ⟨_, _, _, c3, _, _, _, _, _, _, _, _, _, _, _, _, _, _⟩ := evC_cells h0
  have hz := frozen_of h0 3
  have HA := Lib.hid (at_tto b W)
  have HR : Hid (Left w b { e with tt := 0 } K (W.setCell ⟨b, 3, none⟩ (.int .i64 0))) := Lib.hid ⟨vn, vb, vu, vm, ⟨hs.n, hs.b, hs.u, hs.m⟩, h.cell hw hn 3 (.int .i64 0)⟩
  clear h hw hn hB hs h0
  generalize e.tt = x at *
  go_enter Tryz.func86, Tryz.ntmps86
  go_wp2_with (go_at_call 67; refine HA.out.mono ?_; rintro e w1 ⟨rfl, hw1⟩; subst w1)
  first | refine bodyPost_end (results_none rfl _ _ _) rfl ?_ | refine bodyPost_ret (results_none rfl _ _ _) rfl ?_
  exact ⟨rfl, HR.out⟩
set_option maxHeartbeats 1000000 in
theorem first_drops (B : Bxs) (b : Nat) (e : PE) (vn vb vu vm : Value) (w W : World) (K : List (Nat × Obj)) (h : KB w ((b, .cells (evC e vn vb vu vm) 35 (0, 0)) :: K) W) (hw : w.heap.size ≤ b) (hn : ∀ x, x ∈ K → x.1 ≠ b) (hB : ∀ x, x ∈ kwL B → x ∈ K) (hs : Shp e vn vb vu vm) :
    Calls Tryz.prog 86 #[ptr b, ptr B.p3] W fun r w' => r = .returned (.tuple #[]) ∧ Left w b { e with fi := 0 } K w' := by
  have c1 := box1 (kb_drops h hB).p3
  have h0 := h.kept _ List.mem_cons_self
  obtain ⟨_, _, _, _, c4, _, _, _, _, _, _, _, _, _, _, _, _, _⟩ := evC_cells h0
  have hz := frozen_of h0 4
  have HA := Lib.hid (at_first b W)
  have HR : Hid (Left w b { e with fi := 0 } K (W.setCell ⟨b, 4, none⟩ (.int .i64 0))) := Lib.hid ⟨vn, vb, vu, vm, ⟨hs.n, hs.b, hs.u, hs.m⟩, h.cell hw hn 4 (.int .i64 0)⟩
  clear h hw hn hB hs h0
  generalize e.fi = x at *
  go_enter Tryz.func86, Tryz.ntmps86
  go_wp2_with (go_at_call 68; refine HA.out.mono ?_; rintro e w1 ⟨rfl, hw1⟩; subst w1)
  first | refine bodyPost_end (results_none rfl _ _ _) rfl ?_ | refine bodyPost_ret (results_none rfl _ _ _) rfl ?_
  exact ⟨rfl, HR.out⟩
set_option maxHeartbeats 1000000 in
theorem name_drops (B : Bxs) (b : Nat) (e : PE) (vn vb vu vm : Value) (w W : World) (K : List (Nat × Obj)) (h : KB w ((b, .cells (evC e vn vb vu vm) 35 (0, 0)) :: K) W) (hw : w.heap.size ≤ b) (hn : ∀ x, x ∈ K → x.1 ≠ b) (hB : ∀ x, x ∈ kwL B → x ∈ K) (hs : Shp e vn vb vu vm) :
    Calls Tryz.prog 92 #[ptr b, ptr B.p4] W fun r w' => r = .returned (.tuple #[]) ∧ Left w b { e with nm := ⟨#[]⟩ } K w' := by
  have c1 := box1 (kb_drops h hB).p4
  have h0 := h.kept _ List.mem_cons_self
  obtain ⟨_, _, _, _, _, c5, _, _, _, _, _, _, _, _, _, _, _, _⟩ := evC_cells h0
  have hz := frozen_of h0 5
  have HA := Lib.hid (at_name b W)
  have HR : Hid (Left w b { e with nm := ⟨#[]⟩ } K (W.setCell ⟨b, 5, none⟩ (.string ⟨#[]⟩))) := Lib.hid ⟨vn, vb, vu, vm, ⟨hs.n, hs.b, hs.u, hs.m⟩, h.cell hw hn 5 (.string ⟨#[]⟩)⟩
  clear h hw hn hB hs h0
  generalize e.nm = x at *
  go_enter Tryz.func92, Tryz.ntmps92
  go_wp2_with (go_at_call 70; refine HA.out.mono ?_; rintro e w1 ⟨rfl, hw1⟩; subst w1)
  first | refine bodyPost_end (results_none rfl _ _ _) rfl ?_ | refine bodyPost_ret (results_none rfl _ _ _) rfl ?_
  exact ⟨rfl, HR.out⟩
set_option maxHeartbeats 1000000 in
theorem body_drops (B : Bxs) (b : Nat) (e : PE) (vn vb vu vm : Value) (w W : World) (K : List (Nat × Obj)) (h : KB w ((b, .cells (evC e vn vb vu vm) 35 (0, 0)) :: K) W) (hw : w.heap.size ≤ b) (hn : ∀ x, x ∈ K → x.1 ≠ b) (hB : ∀ x, x ∈ kwL B → x ∈ K) (hs : Shp e vn vb vu vm) :
    Calls Tryz.prog 92 #[ptr b, ptr B.p5] W fun r w' => r = .returned (.tuple #[]) ∧ Left w b { e with bd := ⟨#[]⟩ } K w' := by
  have c1 := box1 (kb_drops h hB).p5
  have h0 := h.kept _ List.mem_cons_self
  obtain ⟨_, _, _, _, _, _, _, _, _, _, _, _, _, _, _, _, _, c17⟩ := evC_cells h0
  have hz := frozen_of h0 17
  have HA := Lib.hid (at_body b W)
  have HR : Hid (Left w b { e with bd := ⟨#[]⟩ } K (W.setCell ⟨b, 17, none⟩ (.string ⟨#[]⟩))) := Lib.hid ⟨vn, vb, vu, vm, ⟨hs.n, hs.b, hs.u, hs.m⟩, h.cell hw hn 17 (.string ⟨#[]⟩)⟩
  clear h hw hn hB hs h0
  generalize e.bd = x at *
  go_enter Tryz.func92, Tryz.ntmps92
  go_wp2_with (go_at_call 72; refine HA.out.mono ?_; rintro e w1 ⟨rfl, hw1⟩; subst w1)
  first | refine bodyPost_end (results_none rfl _ _ _) rfl ?_ | refine bodyPost_ret (results_none rfl _ _ _) rfl ?_
  exact ⟨rfl, HR.out⟩
set_option maxHeartbeats 1000000 in
theorem uids_drops (b : Nat) (e : PE) (vn vb vu vm : Value) (w W : World) (K : List (Nat × Obj)) (h : KB w ((b, .cells (evC e vn vb vu vm) 35 (0, 0)) :: K) W) (hw : w.heap.size ≤ b) (hn : ∀ x, x ∈ K → x.1 ≠ b) (hs : Shp e vn vb vu vm) :
    Calls Tryz.prog 104 #[ptr b] W fun r w' => r = .returned (.tuple #[]) ∧ Left w b { e with us := [] } K w' := by
  have h0 := h.kept _ List.mem_cons_self
  obtain ⟨_, _, _, _, _, _, _, _, c8, _, _, _, _, _, _, _, _, _⟩ := evC_cells h0
  have hz8 := frozen_of h0 8
  have HR : Hid (Left w b { e with us := [] } K (W.setCell ⟨b, 8, none⟩ (.slice none 0 0))) := Lib.hid ⟨vn, vb, .slice none 0 0, vm, ⟨hs.n, hs.b, ⟨_, _, rfl⟩, hs.m⟩, (h.cell hw hn 8 (.slice none 0 0))⟩
  obtain ⟨a8, k8, e8⟩ := hs.u
  rw [e8] at c8
  clear h hw hn hs h0 e8
  generalize e.us.length = n at *
  go_enter Tryz.func104, Tryz.ntmps104
  go_wp2_with fail
  first | refine bodyPost_end (results_none rfl _ _ _) rfl ?_ | refine bodyPost_ret (results_none rfl _ _ _) rfl ?_
  exact ⟨rfl, HR.out⟩
set_option maxHeartbeats 1000000 in
theorem marks_drops (b : Nat) (e : PE) (vn vb vu vm : Value) (w W : World) (K : List (Nat × Obj)) (h : KB w ((b, .cells (evC e vn vb vu vm) 35 (0, 0)) :: K) W) (hw : w.heap.size ≤ b) (hn : ∀ x, x ∈ K → x.1 ≠ b) (hs : Shp e vn vb vu vm) :
    Calls Tryz.prog 117 #[ptr b] W fun r w' => r = .returned (.tuple #[]) ∧ Left w b { e with ms := [] } K w' := by
  have h0 := h.kept _ List.mem_cons_self
  obtain ⟨_, _, _, _, _, _, _, _, _, c9, _, _, _, _, _, _, _, _⟩ := evC_cells h0
  have hz9 := frozen_of h0 9
  have HR : Hid (Left w b { e with ms := [] } K (W.setCell ⟨b, 9, none⟩ (.slice none 0 0))) := Lib.hid ⟨vn, vb, vu, .slice none 0 0, ⟨hs.n, hs.b, hs.u, ⟨_, _, rfl⟩⟩, (h.cell hw hn 9 (.slice none 0 0))⟩
  obtain ⟨a9, k9, e9⟩ := hs.m
  rw [e9] at c9
  clear h hw hn hs h0 e9
  generalize e.ms.length = n at *
  go_enter Tryz.func117, Tryz.ntmps117
  go_wp2_with fail
  first | refine bodyPost_end (results_none rfl _ _ _) rfl ?_ | refine bodyPost_ret (results_none rfl _ _ _) rfl ?_
  exact ⟨rfl, HR.out⟩
set_option maxHeartbeats 1000000 in
theorem names_drops (b : Nat) (e : PE) (vn vb vu vm : Value) (w W : World) (K : List (Nat × Obj)) (h : KB w ((b, .cells (evC e vn vb vu vm) 35 (0, 0)) :: K) W) (hw : w.heap.size ≤ b) (hn : ∀ x, x ∈ K → x.1 ≠ b) (hs : Shp e vn vb vu vm) :
    Calls Tryz.prog 110 #[ptr b] W fun r w' => r = .returned (.tuple #[]) ∧ Left w b { e with ns := [], bs := [] } K w' := by
  have h0 := h.kept _ List.mem_cons_self
  obtain ⟨_, _, _, _, _, _, c6, c7, _, _, _, _, _, _, _, _, _, _⟩ := evC_cells h0
  have hz6 := frozen_of h0 6
  have hz7 := frozen_of h0 7
  have HR : Hid (Left w b { e with ns := [], bs := [] } K ((W.setCell ⟨b, 6, none⟩ (.slice none 0 0)).setCell ⟨b, 7, none⟩ (.slice none 0 0))) := Lib.hid ⟨.slice none 0 0, .slice none 0 0, vu, vm, ⟨⟨_, _, rfl⟩, ⟨_, _, rfl⟩, hs.u, hs.m⟩, ((h.cell hw hn 6 (.slice none 0 0)).cell hw hn 7 (.slice none 0 0))⟩
  obtain ⟨a6, k6, e6⟩ := hs.n
  obtain ⟨a7, k7, e7⟩ := hs.b
  rw [e6] at c6
  rw [e7] at c7
  clear h hw hn hs h0 e6 e7
  generalize e.ns.length = n at *
  generalize e.bs.length = m at *
  go_enter Tryz.func110, Tryz.ntmps110
  go_wp2_with fail
  first | refine bodyPost_end (results_none rfl _ _ _) rfl ?_ | refine bodyPost_ret (results_none rfl _ _ _) rfl ?_
  exact ⟨rfl, HR.out⟩
set_option maxHeartbeats 1000000 in
theorem date_drops (b : Nat) (e : PE) (vn vb vu vm : Value) (w W : World) (K : List (Nat × Obj)) (h : KB w ((b, .cells (evC e vn vb vu vm) 35 (0, 0)) :: K) W) (hw : w.heap.size ≤ b) (hn : ∀ x, x ∈ K → x.1 ≠ b) (hs : Shp e vn vb vu vm) :
    Calls Tryz.prog 123 #[ptr b] W fun r w' => r = .returned (.tuple #[]) ∧ Left w b { e with y := 0, mo := 0, d := 0, h := 0, mi := 0, s := 0, z := 0 } K w' := by
  have h0 := h.kept _ List.mem_cons_self
  have HT : Hid (W.there b 10 7) := Lib.hid (fun j hj => by
    refine ⟨?_, frozen_of h0 _⟩
    have hr := date_range h0
    exact hr.isSome j hj)
  have HR : Hid (Left w b { e with y := 0, mo := 0, d := 0, h := 0, mi := 0, s := 0, z := 0 } K (W.setCells b 10 [.int .i64 0, .int .i64 0, .int .i64 0, .int .i64 0, .int .i64 0, .int .i64 0, .int .i64 0])) := Lib.hid ⟨vn, vb, vu, vm, ⟨hs.n, hs.b, hs.u, hs.m⟩, (((((((h.cell hw hn 10 (.int .i64 0)).cell hw hn 11 (.int .i64 0)).cell hw hn 12 (.int .i64 0)).cell hw hn 13 (.int .i64 0)).cell hw hn 14 (.int .i64 0)).cell hw hn 15 (.int .i64 0)).cell hw hn 16 (.int .i64 0))⟩
  clear h hw hn hs h0
  go_enter Tryz.func123, Tryz.ntmps123
  go_wp2_with (refine wpList_store_mid rfl 33 _ _ rfl b 10 #[.int .i64 0, .int .i64 0, .int .i64 0, .int .i64 0, .int .i64 0, .int .i64 0, .int .i64 0] rfl rfl HT.out Tryz.sizeMom7 (by simp [Value.oneCell']) ?_)
  first | refine bodyPost_end (results_none rfl _ _ _) rfl ?_ | refine bodyPost_ret (results_none rfl _ _ _) rfl ?_
  exact ⟨rfl, HR.out⟩
theorem pt_drops (p : Pt) (B : Bxs) (b : Nat) (e : PE) (vn vb vu vm : Value) (w W : World) (K : List (Nat × Obj)) (h : KB w ((b, .cells (evC e vn vb vu vm) 35 (0, 0)) :: K) W) (hw : w.heap.size ≤ b) (hn : ∀ x, x ∈ K → x.1 ≠ b) (hB : ∀ x, x ∈ kwL B → x ∈ K) (hs : Shp e vn vb vu vm) :
    Calls Tryz.prog (ptD B b p).1 (ptD B b p).2 W fun r w' => r = .returned (.tuple #[]) ∧ Left w b (dropP e p) K w' := by
  cases p with
  | box => exact box_drops B b e vn vb vu vm w W K h hw hn hB hs
  | tto => exact tto_drops B b e vn vb vu vm w W K h hw hn hB hs
  | first => exact first_drops B b e vn vb vu vm w W K h hw hn hB hs
  | room => exact first_drops B b e vn vb vu vm w W K h hw hn hB hs
  | name => exact name_drops B b e vn vb vu vm w W K h hw hn hB hs
  | body => exact body_drops B b e vn vb vu vm w W K h hw hn hB hs
  | names => exact names_drops b e vn vb vu vm w W K h hw hn hs
  | uids => exact uids_drops b e vn vb vu vm w W K h hw hn hs
  | mark => exact marks_drops b e vn vb vu vm w W K h hw hn hs
  | marks => exact marks_drops b e vn vb vu vm w W K h hw hn hs
  | date => exact date_drops b e vn vb vu vm w W K h hw hn hs
end Go.Proofs.YtbncaiocmklgnaaGreatDoor

/- event: rows of parts: whether they hold, what they drop (c11hgen.py). -/
namespace Go.Proofs.YtbncaiocmklgnaaGreatDoor
open Go.RowKit Go.Lib

theorem ptV_len (B : Bxs) (p : Pt) : (ptV B p).toList.length = 4 := by cases p <;> rfl
def partsL (B : Bxs) (l : List Pt) : List Value := (l.map (fun p => (ptV B p).toList)).flatten
theorem parts_at (B : Bxs) (l : List Pt) (k : Nat) (p : Pt) (hk : l[k]? = some p) (j : Nat) (hj : j < 4) : (partsL B l)[k * 4 + j]? = (ptV B p).toList[j]? := by
  induction l generalizing k with
  | nil => cases hk
  | cons q r ih =>
    have e : partsL B (q :: r) = (ptV B q).toList ++ partsL B r := rfl
    rw [e]
    cases k with
    | zero =>
      cases hk
      rw [List.getElem?_append_left (by rw [ptV_len]; omega)]
      simp
    | succ k =>
      rw [List.getElem?_append_right (by rw [ptV_len]; omega), ptV_len]
      have := ih k (by simpa using hk)
      rw [← this]
      congr 1
      omega
/-- A row of parts in memory. -/
structure RowK (B : Bxs) (l : List Pt) (q rb : Nat) (W : World) : Prop where
  q : W.heap[q]? = some (.cells #[.slice (some ⟨rb, 0, none⟩) l.length l.length] 113 (0, 0))
  r : W.heap[rb]? = some (.cells (partsL B l).toArray 64 (0, 0))
theorem RowK.on {B : Bxs} {l : List Pt} {q rb : Nat} {W W' : World} (h : RowK B l q rb W) (hb : Below W.heap.size W W') : RowK B l q rb W' := ⟨by rw [hb.block _ (lt_of_heap h.q)]; exact h.q, by rw [hb.block _ (lt_of_heap h.r)]; exact h.r⟩
theorem range_part {B : Bxs} {l : List Pt} {rb : Nat} {X : World} (h : X.heap[rb]? = some (.cells (partsL B l).toArray 64 (0, 0))) (k : Nat) (p : Pt) (hk : l[k]? = some p) : X.rangeAt rb (k * 4) (ptV B p).toList := by
  intro j v hv
  have hj : j < 4 := by have := (List.getElem?_eq_some_iff.1 hv).1; rw [ptV_len] at this; exact this
  rw [cell_of h (k * 4 + j)]
  have := parts_at B l k p hk j hj
  rw [List.getElem?_toArray, this]
  exact hv
theorem all_snoc (e : PE) (l : List Pt) (k : Nat) (p : Pt) (hk : l[k]? = some p) : (l.take (k + 1)).all (holdsP e) = ((l.take k).all (holdsP e) && holdsP e p) := by
  rw [List.take_add_one, hk, List.all_append]
  simp
theorem all_no (e : PE) (l : List Pt) (k : Nat) (p : Pt) (hk : l[k]? = some p) (h : holdsP e p = false) : l.all (holdsP e) = false := by
  rw [List.all_eq_false]
  exact ⟨p, List.mem_of_getElem? hk, by rw [h]; exact Bool.false_ne_true⟩
theorem drop_snoc (e : PE) (l : List Pt) (k : Nat) (p : Pt) (hk : l[k]? = some p) : dropE e (l.take (k + 1)) = dropP (dropE e (l.take k)) p := by
  unfold dropE
  rw [List.take_add_one, hk, List.foldl_append]
  rfl
set_option maxHeartbeats 8000000 in
set_option maxRecDepth 20000 in
theorem row_holds (l : List Pt) (q rb : Nat) (B : Bxs) (eb : Nat) (e : PE) (vn vb vu vm : Value) (W : World) (hR : RowK B l q rb W) (hK : KW B W) (hE : W.heap[eb]? = some (.cells (evC e vn vb vu vm) 35 (0, 0))) (he : Env3 W) (hL : Lst W e vn vb vu vm) (hl : longE e = false) (hn9 : l.length ≤ 9) :
    Calls Tryz.prog 94 #[ptr eb, ptr q] W fun r w' => r = .returned (.bool (l.all (holdsP e))) ∧ Below W.heap.size W w' := by
  have c1 := box1 hR.q
  have HH : Hid (∀ p X, Below W.heap.size W X → Calls Tryz.prog (ptH B eb p).1 (ptH B eb p).2 X fun r w' => r = .returned (.bool (holdsP e p)) ∧ Below X.heap.size X w') := Lib.hid (fun p X hX => pt_holds p B eb e vn vb vu vm X (hK.on hX) (by rw [hX.block _ (lt_of_heap hE)]; exact hE) (he.on hX) (hL.on hX) hl)
  have HRk := Lib.hid hR
  obtain ⟨n, hn⟩ : ∃ n, l.length = n := ⟨_, rfl⟩
  have HN := Lib.hid hn
  rw [hn] at c1 hn9
  have hni : (n : Int) ≤ 9 := by omega
  clear hR hK hE he hL hl hn
  go_enter Tryz.func94, Tryz.ntmps94
  go_wp2_with fail
  go_loopw [8] (fun vi wr => ∃ (k : Nat) (X : World), X = wr ∧ k ≤ n ∧ vi = .int .i64 k ∧ (l.take k).all (holdsP e) = true ∧ Below W.heap.size W X) (fun i _ => n - (intOf i).toNat)
  case atStart => exact ⟨0, _, rfl, Nat.zero_le _, rfl, rfl, Below.refl _ _⟩
  case round =>
    obtain ⟨k, X, hX, hkn, rfl, ha, hb⟩ := hrel
    subst hX
    have HX := Lib.hid hb
    by_cases hlt : k < n
    · have hk1 : (k : Int) < (n : Int) := by omega
      have hk0 : (0 : Int) ≤ (k : Int) := by omega
      have hk9 : (k : Int) ≤ 9 := by omega
      obtain ⟨p, hp⟩ : ∃ p, l[k]? = some p := ⟨_, List.getElem?_eq_getElem (by rw [HN.out]; exact hlt)⟩
      have HRg := Lib.hid (range_part (HRk.out.on hb).r k p hp)
      have HHp := Lib.hid (HH.out p)
      have HS := Lib.hid (all_snoc e l k p hp)
      have HNo := Lib.hid (all_no e l k p hp)
      have HA := Lib.hid ha
      have HB1 : Hid (∀ o cs, Below W.heap.size W ((X.alloc o).setRow X.heap.size cs)) := Lib.hid (fun o cs => below_setRow (hb.alloc hb.size o) hb.size cs)
      clear hp ha hb c1
      generalize holdsP e p = h at *
      cases p with
      | box =>
        simp only [ptV, ptH] at HRg HHp
        obtain ⟨X1, hX1⟩ : ∃ X1, (X.alloc (.cells nil4 64)).setRow X.heap.size #[fnV 83 #[ptr B.p1], fnV 84 #[ptr B.p1], fnV 85 #[ptr B.p1], fnV 86 #[ptr B.p1]] = X1 := ⟨_, rfl⟩
        have hbx : X1.heap[X.heap.size]? = some (.cells #[fnV 83 #[ptr B.p1], fnV 84 #[ptr B.p1], fnV 85 #[ptr B.p1], fnV 86 #[ptr B.p1]] 64 (0, 0)) := by rw [← hX1]; exact boxed_self _ _ _ _
        have HBX : Hid (Below W.heap.size W X1) := Lib.hid (by rw [← hX1]; exact HB1.out _ _)
        obtain ⟨k0, _⟩ := part_cells hbx
        clear hbx
        go_upto_region 4 with (first | (refine wpList_load_mid rfl 64 _ rfl rb (k * 4) rfl _ _ HRg.out Tryz.underlying64 rfl Tryz.sizePart ?_) | (refine wpList_store_row rfl 64 _ _ rfl X.heap.size #[fnV 83 #[ptr B.p1], fnV 84 #[ptr B.p1], fnV 85 #[ptr B.p1], fnV 86 #[ptr B.p1]] rfl rfl 64 _ (heap_new _ _) Tryz.sizePart rfl (by simp [Value.oneCell']) ?_))
        rw [hX1]
        clear hX1
        cases h with
        | true =>
          go_wp2_with (go_at_call 83; refine (HHp.out _ HBX.out).mono ?_; rintro e2 w2 ⟨rfl, hb2⟩; have H2 := Lib.hid (HBX.out.trans (hb2.mono HBX.out.size)); clear hb2)
          go_roundw
          case rel => exact ⟨k + 1, _, rfl, hlt, by go_num, by rw [HS.out, HA.out]; rfl, H2.out⟩
          case measure => simp [intOf]; omega
        | false =>
          go_wp2_with (go_at_call 83; refine (HHp.out _ HBX.out).mono ?_; rintro e2 w2 ⟨rfl, hb2⟩; have H2 := Lib.hid (HBX.out.trans (hb2.mono HBX.out.size)); clear hb2)
          go_ret
          exact ⟨by rw [HNo.out (by first | rfl | trivial)]; rfl, H2.out⟩
      | tto =>
        simp only [ptV, ptH] at HRg HHp
        obtain ⟨X1, hX1⟩ : ∃ X1, (X.alloc (.cells nil4 64)).setRow X.heap.size #[fnV 83 #[ptr B.p2], fnV 84 #[ptr B.p2], fnV 85 #[ptr B.p2], fnV 86 #[ptr B.p2]] = X1 := ⟨_, rfl⟩
        have hbx : X1.heap[X.heap.size]? = some (.cells #[fnV 83 #[ptr B.p2], fnV 84 #[ptr B.p2], fnV 85 #[ptr B.p2], fnV 86 #[ptr B.p2]] 64 (0, 0)) := by rw [← hX1]; exact boxed_self _ _ _ _
        have HBX : Hid (Below W.heap.size W X1) := Lib.hid (by rw [← hX1]; exact HB1.out _ _)
        obtain ⟨k0, _⟩ := part_cells hbx
        clear hbx
        go_upto_region 4 with (first | (refine wpList_load_mid rfl 64 _ rfl rb (k * 4) rfl _ _ HRg.out Tryz.underlying64 rfl Tryz.sizePart ?_) | (refine wpList_store_row rfl 64 _ _ rfl X.heap.size #[fnV 83 #[ptr B.p2], fnV 84 #[ptr B.p2], fnV 85 #[ptr B.p2], fnV 86 #[ptr B.p2]] rfl rfl 64 _ (heap_new _ _) Tryz.sizePart rfl (by simp [Value.oneCell']) ?_))
        rw [hX1]
        clear hX1
        cases h with
        | true =>
          go_wp2_with (go_at_call 83; refine (HHp.out _ HBX.out).mono ?_; rintro e2 w2 ⟨rfl, hb2⟩; have H2 := Lib.hid (HBX.out.trans (hb2.mono HBX.out.size)); clear hb2)
          go_roundw
          case rel => exact ⟨k + 1, _, rfl, hlt, by go_num, by rw [HS.out, HA.out]; rfl, H2.out⟩
          case measure => simp [intOf]; omega
        | false =>
          go_wp2_with (go_at_call 83; refine (HHp.out _ HBX.out).mono ?_; rintro e2 w2 ⟨rfl, hb2⟩; have H2 := Lib.hid (HBX.out.trans (hb2.mono HBX.out.size)); clear hb2)
          go_ret
          exact ⟨by rw [HNo.out (by first | rfl | trivial)]; rfl, H2.out⟩
      | first =>
        simp only [ptV, ptH] at HRg HHp
        obtain ⟨X1, hX1⟩ : ∃ X1, (X.alloc (.cells nil4 64)).setRow X.heap.size #[fnV 83 #[ptr B.p3], fnV 84 #[ptr B.p3], fnV 85 #[ptr B.p3], fnV 86 #[ptr B.p3]] = X1 := ⟨_, rfl⟩
        have hbx : X1.heap[X.heap.size]? = some (.cells #[fnV 83 #[ptr B.p3], fnV 84 #[ptr B.p3], fnV 85 #[ptr B.p3], fnV 86 #[ptr B.p3]] 64 (0, 0)) := by rw [← hX1]; exact boxed_self _ _ _ _
        have HBX : Hid (Below W.heap.size W X1) := Lib.hid (by rw [← hX1]; exact HB1.out _ _)
        obtain ⟨k0, _⟩ := part_cells hbx
        clear hbx
        go_upto_region 4 with (first | (refine wpList_load_mid rfl 64 _ rfl rb (k * 4) rfl _ _ HRg.out Tryz.underlying64 rfl Tryz.sizePart ?_) | (refine wpList_store_row rfl 64 _ _ rfl X.heap.size #[fnV 83 #[ptr B.p3], fnV 84 #[ptr B.p3], fnV 85 #[ptr B.p3], fnV 86 #[ptr B.p3]] rfl rfl 64 _ (heap_new _ _) Tryz.sizePart rfl (by simp [Value.oneCell']) ?_))
        rw [hX1]
        clear hX1
        cases h with
        | true =>
          go_wp2_with (go_at_call 83; refine (HHp.out _ HBX.out).mono ?_; rintro e2 w2 ⟨rfl, hb2⟩; have H2 := Lib.hid (HBX.out.trans (hb2.mono HBX.out.size)); clear hb2)
          go_roundw
          case rel => exact ⟨k + 1, _, rfl, hlt, by go_num, by rw [HS.out, HA.out]; rfl, H2.out⟩
          case measure => simp [intOf]; omega
        | false =>
          go_wp2_with (go_at_call 83; refine (HHp.out _ HBX.out).mono ?_; rintro e2 w2 ⟨rfl, hb2⟩; have H2 := Lib.hid (HBX.out.trans (hb2.mono HBX.out.size)); clear hb2)
          go_ret
          exact ⟨by rw [HNo.out (by first | rfl | trivial)]; rfl, H2.out⟩
      | room =>
        simp only [ptV, ptH] at HRg HHp
        obtain ⟨X1, hX1⟩ : ∃ X1, (X.alloc (.cells nil4 64)).setRow X.heap.size #[fnV 74 #[], fnV 84 #[ptr B.p3], fnV 85 #[ptr B.p3], fnV 86 #[ptr B.p3]] = X1 := ⟨_, rfl⟩
        have hbx : X1.heap[X.heap.size]? = some (.cells #[fnV 74 #[], fnV 84 #[ptr B.p3], fnV 85 #[ptr B.p3], fnV 86 #[ptr B.p3]] 64 (0, 0)) := by rw [← hX1]; exact boxed_self _ _ _ _
        have HBX : Hid (Below W.heap.size W X1) := Lib.hid (by rw [← hX1]; exact HB1.out _ _)
        obtain ⟨k0, _⟩ := part_cells hbx
        clear hbx
        go_upto_region 4 with (first | (refine wpList_load_mid rfl 64 _ rfl rb (k * 4) rfl _ _ HRg.out Tryz.underlying64 rfl Tryz.sizePart ?_) | (refine wpList_store_row rfl 64 _ _ rfl X.heap.size #[fnV 74 #[], fnV 84 #[ptr B.p3], fnV 85 #[ptr B.p3], fnV 86 #[ptr B.p3]] rfl rfl 64 _ (heap_new _ _) Tryz.sizePart rfl (by simp [Value.oneCell']) ?_))
        rw [hX1]
        clear hX1
        cases h with
        | true =>
          go_wp2_with (go_at_call 74; refine (HHp.out _ HBX.out).mono ?_; rintro e2 w2 ⟨rfl, hb2⟩; have H2 := Lib.hid (HBX.out.trans (hb2.mono HBX.out.size)); clear hb2)
          go_roundw
          case rel => exact ⟨k + 1, _, rfl, hlt, by go_num, by rw [HS.out, HA.out]; rfl, H2.out⟩
          case measure => simp [intOf]; omega
        | false =>
          go_wp2_with (go_at_call 74; refine (HHp.out _ HBX.out).mono ?_; rintro e2 w2 ⟨rfl, hb2⟩; have H2 := Lib.hid (HBX.out.trans (hb2.mono HBX.out.size)); clear hb2)
          go_ret
          exact ⟨by rw [HNo.out (by first | rfl | trivial)]; rfl, H2.out⟩
      | name =>
        simp only [ptV, ptH] at HRg HHp
        obtain ⟨X1, hX1⟩ : ∃ X1, (X.alloc (.cells nil4 64)).setRow X.heap.size #[fnV 87 #[ptr B.q4, ptr B.p4], fnV 88 #[ptr B.p4], fnV 90 #[ptr B.p4], fnV 92 #[ptr B.p4]] = X1 := ⟨_, rfl⟩
        have hbx : X1.heap[X.heap.size]? = some (.cells #[fnV 87 #[ptr B.q4, ptr B.p4], fnV 88 #[ptr B.p4], fnV 90 #[ptr B.p4], fnV 92 #[ptr B.p4]] 64 (0, 0)) := by rw [← hX1]; exact boxed_self _ _ _ _
        have HBX : Hid (Below W.heap.size W X1) := Lib.hid (by rw [← hX1]; exact HB1.out _ _)
        obtain ⟨k0, _⟩ := part_cells hbx
        clear hbx
        go_upto_region 4 with (first | (refine wpList_load_mid rfl 64 _ rfl rb (k * 4) rfl _ _ HRg.out Tryz.underlying64 rfl Tryz.sizePart ?_) | (refine wpList_store_row rfl 64 _ _ rfl X.heap.size #[fnV 87 #[ptr B.q4, ptr B.p4], fnV 88 #[ptr B.p4], fnV 90 #[ptr B.p4], fnV 92 #[ptr B.p4]] rfl rfl 64 _ (heap_new _ _) Tryz.sizePart rfl (by simp [Value.oneCell']) ?_))
        rw [hX1]
        clear hX1
        cases h with
        | true =>
          go_wp2_with (go_at_call 87; refine (HHp.out _ HBX.out).mono ?_; rintro e2 w2 ⟨rfl, hb2⟩; have H2 := Lib.hid (HBX.out.trans (hb2.mono HBX.out.size)); clear hb2)
          go_roundw
          case rel => exact ⟨k + 1, _, rfl, hlt, by go_num, by rw [HS.out, HA.out]; rfl, H2.out⟩
          case measure => simp [intOf]; omega
        | false =>
          go_wp2_with (go_at_call 87; refine (HHp.out _ HBX.out).mono ?_; rintro e2 w2 ⟨rfl, hb2⟩; have H2 := Lib.hid (HBX.out.trans (hb2.mono HBX.out.size)); clear hb2)
          go_ret
          exact ⟨by rw [HNo.out (by first | rfl | trivial)]; rfl, H2.out⟩
      | body =>
        simp only [ptV, ptH] at HRg HHp
        obtain ⟨X1, hX1⟩ : ∃ X1, (X.alloc (.cells nil4 64)).setRow X.heap.size #[fnV 87 #[ptr B.q5, ptr B.p5], fnV 88 #[ptr B.p5], fnV 90 #[ptr B.p5], fnV 92 #[ptr B.p5]] = X1 := ⟨_, rfl⟩
        have hbx : X1.heap[X.heap.size]? = some (.cells #[fnV 87 #[ptr B.q5, ptr B.p5], fnV 88 #[ptr B.p5], fnV 90 #[ptr B.p5], fnV 92 #[ptr B.p5]] 64 (0, 0)) := by rw [← hX1]; exact boxed_self _ _ _ _
        have HBX : Hid (Below W.heap.size W X1) := Lib.hid (by rw [← hX1]; exact HB1.out _ _)
        obtain ⟨k0, _⟩ := part_cells hbx
        clear hbx
        go_upto_region 4 with (first | (refine wpList_load_mid rfl 64 _ rfl rb (k * 4) rfl _ _ HRg.out Tryz.underlying64 rfl Tryz.sizePart ?_) | (refine wpList_store_row rfl 64 _ _ rfl X.heap.size #[fnV 87 #[ptr B.q5, ptr B.p5], fnV 88 #[ptr B.p5], fnV 90 #[ptr B.p5], fnV 92 #[ptr B.p5]] rfl rfl 64 _ (heap_new _ _) Tryz.sizePart rfl (by simp [Value.oneCell']) ?_))
        rw [hX1]
        clear hX1
        cases h with
        | true =>
          go_wp2_with (go_at_call 87; refine (HHp.out _ HBX.out).mono ?_; rintro e2 w2 ⟨rfl, hb2⟩; have H2 := Lib.hid (HBX.out.trans (hb2.mono HBX.out.size)); clear hb2)
          go_roundw
          case rel => exact ⟨k + 1, _, rfl, hlt, by go_num, by rw [HS.out, HA.out]; rfl, H2.out⟩
          case measure => simp [intOf]; omega
        | false =>
          go_wp2_with (go_at_call 87; refine (HHp.out _ HBX.out).mono ?_; rintro e2 w2 ⟨rfl, hb2⟩; have H2 := Lib.hid (HBX.out.trans (hb2.mono HBX.out.size)); clear hb2)
          go_ret
          exact ⟨by rw [HNo.out (by first | rfl | trivial)]; rfl, H2.out⟩
      | names =>
        simp only [ptV, ptH] at HRg HHp
        obtain ⟨X1, hX1⟩ : ∃ X1, (X.alloc (.cells nil4 64)).setRow X.heap.size #[fnV 105 #[], fnV 108 #[], fnV 109 #[], fnV 110 #[]] = X1 := ⟨_, rfl⟩
        have hbx : X1.heap[X.heap.size]? = some (.cells #[fnV 105 #[], fnV 108 #[], fnV 109 #[], fnV 110 #[]] 64 (0, 0)) := by rw [← hX1]; exact boxed_self _ _ _ _
        have HBX : Hid (Below W.heap.size W X1) := Lib.hid (by rw [← hX1]; exact HB1.out _ _)
        obtain ⟨k0, _⟩ := part_cells hbx
        clear hbx
        go_upto_region 4 with (first | (refine wpList_load_mid rfl 64 _ rfl rb (k * 4) rfl _ _ HRg.out Tryz.underlying64 rfl Tryz.sizePart ?_) | (refine wpList_store_row rfl 64 _ _ rfl X.heap.size #[fnV 105 #[], fnV 108 #[], fnV 109 #[], fnV 110 #[]] rfl rfl 64 _ (heap_new _ _) Tryz.sizePart rfl (by simp [Value.oneCell']) ?_))
        rw [hX1]
        clear hX1
        cases h with
        | true =>
          go_wp2_with (go_at_call 105; refine (HHp.out _ HBX.out).mono ?_; rintro e2 w2 ⟨rfl, hb2⟩; have H2 := Lib.hid (HBX.out.trans (hb2.mono HBX.out.size)); clear hb2)
          go_roundw
          case rel => exact ⟨k + 1, _, rfl, hlt, by go_num, by rw [HS.out, HA.out]; rfl, H2.out⟩
          case measure => simp [intOf]; omega
        | false =>
          go_wp2_with (go_at_call 105; refine (HHp.out _ HBX.out).mono ?_; rintro e2 w2 ⟨rfl, hb2⟩; have H2 := Lib.hid (HBX.out.trans (hb2.mono HBX.out.size)); clear hb2)
          go_ret
          exact ⟨by rw [HNo.out (by first | rfl | trivial)]; rfl, H2.out⟩
      | uids =>
        simp only [ptV, ptH] at HRg HHp
        obtain ⟨X1, hX1⟩ : ∃ X1, (X.alloc (.cells nil4 64)).setRow X.heap.size #[fnV 98 #[], fnV 101 #[], fnV 102 #[], fnV 104 #[]] = X1 := ⟨_, rfl⟩
        have hbx : X1.heap[X.heap.size]? = some (.cells #[fnV 98 #[], fnV 101 #[], fnV 102 #[], fnV 104 #[]] 64 (0, 0)) := by rw [← hX1]; exact boxed_self _ _ _ _
        have HBX : Hid (Below W.heap.size W X1) := Lib.hid (by rw [← hX1]; exact HB1.out _ _)
        obtain ⟨k0, _⟩ := part_cells hbx
        clear hbx
        go_upto_region 4 with (first | (refine wpList_load_mid rfl 64 _ rfl rb (k * 4) rfl _ _ HRg.out Tryz.underlying64 rfl Tryz.sizePart ?_) | (refine wpList_store_row rfl 64 _ _ rfl X.heap.size #[fnV 98 #[], fnV 101 #[], fnV 102 #[], fnV 104 #[]] rfl rfl 64 _ (heap_new _ _) Tryz.sizePart rfl (by simp [Value.oneCell']) ?_))
        rw [hX1]
        clear hX1
        cases h with
        | true =>
          go_wp2_with (go_at_call 98; refine (HHp.out _ HBX.out).mono ?_; rintro e2 w2 ⟨rfl, hb2⟩; have H2 := Lib.hid (HBX.out.trans (hb2.mono HBX.out.size)); clear hb2)
          go_roundw
          case rel => exact ⟨k + 1, _, rfl, hlt, by go_num, by rw [HS.out, HA.out]; rfl, H2.out⟩
          case measure => simp [intOf]; omega
        | false =>
          go_wp2_with (go_at_call 98; refine (HHp.out _ HBX.out).mono ?_; rintro e2 w2 ⟨rfl, hb2⟩; have H2 := Lib.hid (HBX.out.trans (hb2.mono HBX.out.size)); clear hb2)
          go_ret
          exact ⟨by rw [HNo.out (by first | rfl | trivial)]; rfl, H2.out⟩
      | mark =>
        simp only [ptV, ptH] at HRg HHp
        obtain ⟨X1, hX1⟩ : ∃ X1, (X.alloc (.cells nil4 64)).setRow X.heap.size #[fnV 111 #[], fnV 113 #[], fnV 115 #[], fnV 117 #[]] = X1 := ⟨_, rfl⟩
        have hbx : X1.heap[X.heap.size]? = some (.cells #[fnV 111 #[], fnV 113 #[], fnV 115 #[], fnV 117 #[]] 64 (0, 0)) := by rw [← hX1]; exact boxed_self _ _ _ _
        have HBX : Hid (Below W.heap.size W X1) := Lib.hid (by rw [← hX1]; exact HB1.out _ _)
        obtain ⟨k0, _⟩ := part_cells hbx
        clear hbx
        go_upto_region 4 with (first | (refine wpList_load_mid rfl 64 _ rfl rb (k * 4) rfl _ _ HRg.out Tryz.underlying64 rfl Tryz.sizePart ?_) | (refine wpList_store_row rfl 64 _ _ rfl X.heap.size #[fnV 111 #[], fnV 113 #[], fnV 115 #[], fnV 117 #[]] rfl rfl 64 _ (heap_new _ _) Tryz.sizePart rfl (by simp [Value.oneCell']) ?_))
        rw [hX1]
        clear hX1
        cases h with
        | true =>
          go_wp2_with (go_at_call 111; refine (HHp.out _ HBX.out).mono ?_; rintro e2 w2 ⟨rfl, hb2⟩; have H2 := Lib.hid (HBX.out.trans (hb2.mono HBX.out.size)); clear hb2)
          go_roundw
          case rel => exact ⟨k + 1, _, rfl, hlt, by go_num, by rw [HS.out, HA.out]; rfl, H2.out⟩
          case measure => simp [intOf]; omega
        | false =>
          go_wp2_with (go_at_call 111; refine (HHp.out _ HBX.out).mono ?_; rintro e2 w2 ⟨rfl, hb2⟩; have H2 := Lib.hid (HBX.out.trans (hb2.mono HBX.out.size)); clear hb2)
          go_ret
          exact ⟨by rw [HNo.out (by first | rfl | trivial)]; rfl, H2.out⟩
      | marks =>
        simp only [ptV, ptH] at HRg HHp
        obtain ⟨X1, hX1⟩ : ∃ X1, (X.alloc (.cells nil4 64)).setRow X.heap.size #[fnV 124 #[], fnV 129 #[], fnV 130 #[], fnV 117 #[]] = X1 := ⟨_, rfl⟩
        have hbx : X1.heap[X.heap.size]? = some (.cells #[fnV 124 #[], fnV 129 #[], fnV 130 #[], fnV 117 #[]] 64 (0, 0)) := by rw [← hX1]; exact boxed_self _ _ _ _
        have HBX : Hid (Below W.heap.size W X1) := Lib.hid (by rw [← hX1]; exact HB1.out _ _)
        obtain ⟨k0, _⟩ := part_cells hbx
        clear hbx
        go_upto_region 4 with (first | (refine wpList_load_mid rfl 64 _ rfl rb (k * 4) rfl _ _ HRg.out Tryz.underlying64 rfl Tryz.sizePart ?_) | (refine wpList_store_row rfl 64 _ _ rfl X.heap.size #[fnV 124 #[], fnV 129 #[], fnV 130 #[], fnV 117 #[]] rfl rfl 64 _ (heap_new _ _) Tryz.sizePart rfl (by simp [Value.oneCell']) ?_))
        rw [hX1]
        clear hX1
        cases h with
        | true =>
          go_wp2_with (go_at_call 124; refine (HHp.out _ HBX.out).mono ?_; rintro e2 w2 ⟨rfl, hb2⟩; have H2 := Lib.hid (HBX.out.trans (hb2.mono HBX.out.size)); clear hb2)
          go_roundw
          case rel => exact ⟨k + 1, _, rfl, hlt, by go_num, by rw [HS.out, HA.out]; rfl, H2.out⟩
          case measure => simp [intOf]; omega
        | false =>
          go_wp2_with (go_at_call 124; refine (HHp.out _ HBX.out).mono ?_; rintro e2 w2 ⟨rfl, hb2⟩; have H2 := Lib.hid (HBX.out.trans (hb2.mono HBX.out.size)); clear hb2)
          go_ret
          exact ⟨by rw [HNo.out (by first | rfl | trivial)]; rfl, H2.out⟩
      | date =>
        simp only [ptV, ptH] at HRg HHp
        obtain ⟨X1, hX1⟩ : ∃ X1, (X.alloc (.cells nil4 64)).setRow X.heap.size #[fnV 118 #[], fnV 120 #[], fnV 122 #[], fnV 123 #[]] = X1 := ⟨_, rfl⟩
        have hbx : X1.heap[X.heap.size]? = some (.cells #[fnV 118 #[], fnV 120 #[], fnV 122 #[], fnV 123 #[]] 64 (0, 0)) := by rw [← hX1]; exact boxed_self _ _ _ _
        have HBX : Hid (Below W.heap.size W X1) := Lib.hid (by rw [← hX1]; exact HB1.out _ _)
        obtain ⟨k0, _⟩ := part_cells hbx
        clear hbx
        go_upto_region 4 with (first | (refine wpList_load_mid rfl 64 _ rfl rb (k * 4) rfl _ _ HRg.out Tryz.underlying64 rfl Tryz.sizePart ?_) | (refine wpList_store_row rfl 64 _ _ rfl X.heap.size #[fnV 118 #[], fnV 120 #[], fnV 122 #[], fnV 123 #[]] rfl rfl 64 _ (heap_new _ _) Tryz.sizePart rfl (by simp [Value.oneCell']) ?_))
        rw [hX1]
        clear hX1
        cases h with
        | true =>
          go_wp2_with (go_at_call 118; refine (HHp.out _ HBX.out).mono ?_; rintro e2 w2 ⟨rfl, hb2⟩; have H2 := Lib.hid (HBX.out.trans (hb2.mono HBX.out.size)); clear hb2)
          go_roundw
          case rel => exact ⟨k + 1, _, rfl, hlt, by go_num, by rw [HS.out, HA.out]; rfl, H2.out⟩
          case measure => simp [intOf]; omega
        | false =>
          go_wp2_with (go_at_call 118; refine (HHp.out _ HBX.out).mono ?_; rintro e2 w2 ⟨rfl, hb2⟩; have H2 := Lib.hid (HBX.out.trans (hb2.mono HBX.out.size)); clear hb2)
          go_ret
          exact ⟨by rw [HNo.out (by first | rfl | trivial)]; rfl, H2.out⟩
    · have hk1 : ¬ (k : Int) < (n : Int) := by omega
      have HA : Hid (l.all (holdsP e) = true) := Lib.hid (by rw [List.take_of_length_le (by rw [HN.out]; omega)] at ha; exact ha)
      clear ha hb c1
      go_wp2_with fail
      go_ret
      exact ⟨by rw [HA.out]; rfl, HX.out⟩
end Go.Proofs.YtbncaiocmklgnaaGreatDoor
