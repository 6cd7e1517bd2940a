/- event: the cursor, where it goes well: take, number, text; the part's read. -/
import Derived.Test.YtbncaiocmklgnaaGreatDoorV11m
import Derived.Test.YtbncaiocmklgnaaGreatDoorV11f
namespace Go.Proofs.YtbncaiocmklgnaaGreatDoor
open Go.RowKit Go.Lib

/-- A cursor before some bytes. -/
structure CurAt (cb : Nat) (l : List UInt8) (w : World) : Prop where
  obj : w.heap[cb]? = some (.cells #[.string (S l)] 74 (0, 0))
theorem CurAt.cell {cb : Nat} {l : List UInt8} {w : World} (h : CurAt cb l w) : w.cell? ⟨cb, 0, none⟩ = some (.string (S l)) := cell_of h.obj 0
theorem CurAt.free {cb : Nat} {l : List UInt8} {w : World} (h : CurAt cb l w) : w.frozen? ⟨cb, 0, none⟩ = false := frozen_of h.obj 0
theorem CurAt.set {cb : Nat} {l : List UInt8} {w : World} (h : CurAt cb l w) (m : List UInt8) : CurAt cb m (w.setCell ⟨cb, 0, none⟩ (.string (S m))) := ⟨by rw [heap_setCell_at _ h.obj]; rfl⟩
set_option maxHeartbeats 1000000 in
theorem take_ok {cb : Nat} {l : List UInt8} {w : World} (h : CurAt cb l w) (hl : l.length ≤ 1000000) (n : Nat) (hn : n ≤ l.length) :
    Calls Tryz.prog 61 #[ptr cb, .int .i64 (n : Int)] w fun e w' => e = .returned (.string (S (l.take n))) ∧ w' = w.setCell ⟨cb, 0, none⟩ (.string (S (l.drop n))) := by
  have c0 := h.cell
  have f0 := h.free
  have hs : (S l).size = l.length := S_size _
  have e1 : (S l).extract 0 n = S (l.take n) := by rw [extract_S, L_S]; simp
  have e2 : (S l).extract n (S l).size = S (l.drop n) := by rw [extract_S, L_S, hs, List.take_of_length_le (by simp)]
  have hni : ¬ ((S l).size : Int) < (n : Int) := by rw [hs]; omega
  have hn0 : (n : Int) ≤ ((S l).size : Int) := by rw [hs]; omega
  have hsz : ((S l).size : Int) ≤ 1000000 := by rw [hs]; omega
  have HE := Lib.hid (And.intro e1 e2)
  generalize S l = t at *
  clear h hl hn hs e1 e2
  go_enter Tryz.func61, Tryz.ntmps61
  go_wp2
  go_ret
  rw [HE.out.1, HE.out.2]
  exact ⟨rfl, rfl⟩
theorem Tryz.ix1 (b : UInt8) (w : World) : Sem.run Tryz.prog (Instr.index 9 (.string (S [b])) (.int .i64 0)) w = .ok (.int .u8 (b.toNat : Int)) w := by kernel_rfl
set_option maxHeartbeats 2000000 in
set_option maxRecDepth 20000 in
theorem number_small {cb : Nat} {b : UInt8} {l : List UInt8} {w : World} (h : CurAt cb (b :: l) w) (hl : l.length ≤ 1000) (hb : b.toNat ≤ 127) :
    Calls Tryz.prog 53 #[ptr cb] w fun e w' => e = .returned (.int .i64 (b.toNat : Int)) ∧ w' = w.setCell ⟨cb, 0, none⟩ (.string (S l)) := by
  have HT : Hid (Calls Tryz.prog 61 #[ptr cb, .int .i64 1] w fun e w' => e = .returned (.string (S [b])) ∧ w' = w.setCell ⟨cb, 0, none⟩ (.string (S l))) := Lib.hid (take_ok h (by simp; omega) 1 (by simp))
  obtain ⟨n, hn⟩ : ∃ n, b.toNat = n := ⟨_, rfl⟩
  have hb1 : (n : Int) < 128 := by omega
  have ha : bits .and .i64 (n : Int) 127 = (n : Int) := by
    have := i64_and n 127 (by omega) (by omega)
    rw [show ((127 : Nat) : Int) = 127 from rfl] at this
    rw [this]
    have : n &&& 127 = n := by
      have := Nat.and_two_pow_sub_one_eq_mod n 7
      simp at this
      rw [this]; omega
    rw [this]
  have ho : bits .or .i64 0 (n : Int) = (n : Int) := by
    have := i64_or 0 n (by omega) (by omega)
    simpa using this
  have HN := Lib.hid hn
  have hix : ∀ W, Sem.run Tryz.prog (Instr.index 9 (.string (S [b])) (.int .i64 0)) W = .ok (.int .u8 (n : Int)) W := fun W => by rw [← hn]; exact Tryz.ix1 b W
  rw [hn]
  generalize S [b] = t1 at *
  generalize S l = t2 at *
  clear h hl hb hn
  go_enter Tryz.func53, Tryz.ntmps53
  go_wp2_with fail
  go_loopw [3, 4] (fun v3 v4 wr => ∃ (X : World), X = wr ∧ v3 = .int .i64 0 ∧ v4 = .int .i64 0 ∧ X = w) (fun _ _ _ => 0)
  case atStart => exact ⟨_, rfl, rfl, rfl, rfl⟩
  case round =>
    obtain ⟨X, hX, rfl, rfl, hw⟩ := hrel
    subst hX
    subst hw
    go_wp2_with (go_at_call 61; refine HT.out.mono ?_; rintro e w2 ⟨rfl, rfl⟩)
    go_ret
    exact ⟨rfl, rfl⟩
/-- All that was there but one block, and blocks that are kept. -/
structure KC (cb : Nat) (w : World) (K : List (Nat × Obj)) (W : World) : Prop where
  os : W.os = w.os
  tape : W.tape = w.tape
  output : W.output = w.output
  size : w.heap.size ≤ W.heap.size
  old : ∀ g, g < w.heap.size → g ≠ cb → W.heap[g]? = w.heap[g]?
  kept : ∀ x, x ∈ K → W.heap[x.1]? = some x.2
theorem KC.start {cb : Nat} {w : World} {K : List (Nat × Obj)} (h : ∀ x, x ∈ K → w.heap[x.1]? = some x.2) : KC cb w K w := ⟨rfl, rfl, rfl, Nat.le_refl _, fun _ _ _ => rfl, h⟩
theorem KC.go {cb : Nat} {w W W' : World} {K : List (Nat × Obj)} (h : KC cb w K W) (hb : Below W.heap.size W W') : KC cb w K W' :=
  ⟨hb.os.trans h.os, hb.tape.trans h.tape, hb.output.trans h.output, Nat.le_trans h.size hb.size, fun g h1 h2 => (hb.block g (Nat.lt_of_lt_of_le h1 h.size)).trans (h.old g h1 h2), fun x hx => (hb.block _ (lt_of_heap (h.kept x hx))).trans (h.kept x hx)⟩
theorem KC.add {cb : Nat} {w W : World} {K : List (Nat × Obj)} (h : KC cb w K W) {b : Nat} {o : Obj} (hx : W.heap[b]? = some o) : KC cb w ((b, o) :: K) W := by
  refine ⟨h.os, h.tape, h.output, h.size, h.old, fun x hx' => ?_⟩
  rcases List.mem_cons.1 hx' with rfl | hx'
  · exact hx
  · exact h.kept x hx'
theorem KC.then {cb : Nat} {w W W' : World} {K : List (Nat × Obj)} {o0 o : Obj} (h : KC cb w ((cb, o0) :: K) W) (h2 : KC cb W [(cb, o)] W') (hn : ∀ x, x ∈ K → x.1 ≠ cb) : KC cb w ((cb, o) :: K) W' := by
  refine ⟨h2.os.trans h.os, h2.tape.trans h.tape, h2.output.trans h.output, Nat.le_trans h.size h2.size, fun g h1 hg => (h2.old g (Nat.lt_of_lt_of_le h1 h.size) hg).trans (h.old g h1 hg), fun x hx => ?_⟩
  rcases List.mem_cons.1 hx with rfl | hx
  · exact h2.kept _ List.mem_cons_self
  · rw [h2.old _ (lt_of_heap (h.kept x (List.mem_cons_of_mem _ hx))) (hn x hx)]
    exact h.kept x (List.mem_cons_of_mem _ hx)
theorem KC.box {cb : Nat} {w W : World} {K : List (Nat × Obj)} (h : KC cb w K W) (o : Obj) : KC cb w ((W.heap.size, o) :: K) (W.alloc o) := (h.go ((Below.refl _ _).alloc (Nat.le_refl _) _)).add (heap_new _ _)
theorem KC.sub {cb : Nat} {w W : World} {K K' : List (Nat × Obj)} (h : KC cb w K W) (hs : ∀ x, x ∈ K' → x ∈ K) : KC cb w K' W := { h with kept := fun x hx => h.kept x (hs x hx) }
theorem KC.new {cb : Nat} {w W : World} {K : List (Nat × Obj)} (h : KC cb w K W) {x : Nat × Obj} (hx : x ∈ K) : x.1 < W.heap.size := lt_of_heap (h.kept x hx)
theorem KC.cell {cb : Nat} {w W : World} {K : List (Nat × Obj)} {b : Nat} {old : Array Value} {t : TypeId} (h : KC cb w ((b, .cells old t (0, 0)) :: K) W) (hb : b = cb ∨ w.heap.size ≤ b) (hn : ∀ x, x ∈ K → x.1 ≠ b) (o : Nat) (v : Value) : KC cb w ((b, .cells (old.setIfInBounds o v) t (0, 0)) :: K) (W.setCell ⟨b, o, none⟩ v) := by
  refine ⟨h.os, h.tape, h.output, by simp [World.setCell]; exact h.size, fun g h1 h2 => ?_, fun x hx => ?_⟩
  · have : g ≠ b := by rcases hb with rfl | hb <;> omega
    rw [Below.heap_setCell _ _ _ _ this]
    exact h.old g h1 h2
  · rcases List.mem_cons.1 hx with rfl | hx
    · exact heap_setCell_at v (h.kept _ List.mem_cons_self)
    · rw [Below.heap_setCell _ _ _ _ (hn x hx)]
      exact h.kept x (List.mem_cons_of_mem _ hx)
theorem KC.row {cb : Nat} {w W : World} {K : List (Nat × Obj)} {b : Nat} {old : Array Value} {t : TypeId} (h : KC cb w ((b, .cells old t (0, 0)) :: K) W) (hb : b = cb ∨ w.heap.size ≤ b) (hn : ∀ x, x ∈ K → x.1 ≠ b) (cs : Array Value) : KC cb w ((b, .cells cs t (0, 0)) :: K) (W.setRow b cs) := by
  refine ⟨h.os, h.tape, h.output, by rw [size_setRow]; exact h.size, fun g h1 h2 => ?_, fun x hx => ?_⟩
  · have : g ≠ b := by rcases hb with rfl | hb <;> omega
    rw [setRow_other _ _ _ _ this]
    exact h.old g h1 h2
  · rcases List.mem_cons.1 hx with rfl | hx
    · exact setRow_heap _ _ _ _ _ _ (h.kept _ List.mem_cons_self)
    · rw [setRow_other _ _ _ _ (hn x hx)]
      exact h.kept x (List.mem_cons_of_mem _ hx)
theorem KC.boxed {cb : Nat} {w W : World} {K : List (Nat × Obj)} (h : KC cb w K W) (old : Array Value) (t : TypeId) (cs : Array Value) : KC cb w ((W.heap.size, .cells cs t (0, 0)) :: K) ((W.alloc (.cells old t)).setRow W.heap.size cs) :=
  (h.box (.cells old t)).row (.inr h.size) (fun _ hx => Nat.ne_of_lt (h.new hx)) cs
/-- A cursor's object. -/
abbrev curO (l : List UInt8) : Obj := .cells #[.string (S l)] 74 (0, 0)
theorem CurAt.put {cb : Nat} {l : List UInt8} {w : World} (h : CurAt cb l w) (m : List UInt8) : KC cb w [(cb, curO m)] (w.setCell ⟨cb, 0, none⟩ (.string (S m))) :=
  (KC.start (cb := cb) (K := [(cb, curO l)]) (fun x hx => by rw [List.mem_singleton.1 hx]; exact h.obj)).cell (.inl rfl) (fun _ hx => by cases hx) 0 (.string (S m))
set_option maxHeartbeats 2000000 in
theorem text_small {cb : Nat} {b : UInt8} {l : List UInt8} {w : World} (h : CurAt cb (b :: l) w) (hl : l.length ≤ 1000) (hb : b.toNat ≤ 127) (hn : b.toNat ≤ l.length) :
    Calls Tryz.prog 91 #[ptr cb] w fun e w' => e = .returned (.string (S (l.take b.toNat))) ∧ KC cb w [(cb, curO (l.drop b.toNat))] w' := by
  have HN := Lib.hid (number_small h hl hb)
  have HT := Lib.hid (fun W (hW : CurAt cb l W) => take_ok hW (by omega) b.toNat hn)
  have HS := Lib.hid (h.set l)
  have HD := Lib.hid (fun W (hW : CurAt cb l W) => hW.put (l.drop b.toNat))
  have HP := Lib.hid (h.put l)
  clear h hl hb hn
  generalize S (l.take b.toNat) = t1 at *
  generalize l.drop b.toNat = l2 at *
  generalize (b.toNat : Int) = n at *
  go_enter Tryz.func91, Tryz.ntmps91
  go_wp2_with (first | (go_at_call 53; refine HN.out.mono ?_; rintro e w2 ⟨rfl, hw2⟩; have HC := Lib.hid (hw2 ▸ HS.out); have HW2 := Lib.hid hw2; clear hw2) | (go_at_call 61; refine (HT.out _ HC.out).mono ?_; rintro e w3 ⟨rfl, hw3⟩; have HW3 := Lib.hid hw3; clear hw3))
  go_ret
  refine ⟨rfl, ?_⟩
  rw [HW3.out]
  exact (HW2.out ▸ HP.out : KC cb w [(cb, curO l)] w2).then (HD.out _ HC.out) (fun _ hx => by cases hx)
end Go.Proofs.YtbncaiocmklgnaaGreatDoor
