/- Rows of which nothing is known; what an EXISTS changes. -/
import Derived.Test.YtlmlbcnjohjnlaaDoorN19l
import Derived.Lib.AppendZerosOnto
namespace Go.Proofs.YtlmlbcnjohjnlaaDoor
open Go.RowKit

def RW0 : RW := ⟨0, false, .slice none 0 0⟩
theorem zero_rows (k : Nat) : (Builtin.zeroCells #[.int .i64 0, .bool false, .slice none 0 0] k).toList = rwL (List.replicate k RW0) := by
  apply List.ext_getElem?
  intro j
  by_cases hj : j < k * 3
  · have h1 : (List.replicate k RW0)[j / 3]? = some RW0 := by rw [List.getElem?_replicate, if_pos (by omega)]
    have h2 := flat_get rwC 3 (fun _ => rfl) (List.replicate k RW0) (j / 3) (j % 3) RW0 h1 (Nat.mod_lt _ (by omega))
    rw [show j / 3 * 3 + j % 3 = j from by omega] at h2
    unfold rwL
    rw [h2]
    have hm : j % 3 = 0 ∨ j % 3 = 1 ∨ j % 3 = 2 := by omega
    simp only [Builtin.zeroCells]
    rw [show ((#[.int .i64 0, .bool false, .slice none 0 0] : Array Value)).size = 3 from rfl]
    rcases hm with e | e | e <;> simp [hj, e, rwC, RW0]
  · have h1 : (rwL (List.replicate k RW0)).length = k * 3 := by rw [rwL_len]; simp
    have h2 : (Builtin.zeroCells #[.int .i64 0, .bool false, .slice none 0 0] k).toList.length = k * 3 := by simp [Builtin.zeroCells]
    rw [List.getElem?_eq_none (by omega), List.getElem?_eq_none (by omega)]
theorem made_rows (k : Nat) : (madeCells #[.int .i64 0, .bool false, .slice none 0 0] (k * 3)).toList = rwL (List.replicate k RW0) := by
  rw [← zero_rows]
  rfl
theorem Tryd.infoRw : (Tryd.prog.info? 98).map (fun i => (i.zero, i.size, i.bytes)) = some (some (.agg #[.int .i64 0, .bool false, .slice none 0 0]), 3, 40) := by kernel_rfl
theorem rows0_in (fr : List Nat) (X : World) : ∀ k, All2 (RWin fr X) (List.replicate k RW0) (List.replicate k PR0)
  | 0 => trivial
  | k + 1 => ⟨⟨rfl, rfl, StrsIn.nil⟩, rows0_in fr X k⟩
/-- k rows more, of which nothing is known. -/
theorem appZ {w : World} {v : Value} {n : Nat} {xs : List Value} (h : RowAt w 98 3 v n xs) (k : Nat) (hl : n + k ≤ 1000000) :
    ∃ a c W1, (Builtin.append_ #[70, 3] 70 #[v, .int .i64 (k : Int)]).run Tryd.prog w = .ok (.slice a (n + k) c) W1 ∧ RowAt W1 98 3 (.slice a (n + k) c) (n + k) (xs ++ rwL (List.replicate k RW0)) ∧ w.grownBy W1 v.ownBlock ∧ ∀ b, (Value.slice a (n + k) c).ownBlock = some b → v.ownBlock = some b ∨ w.heap.size ≤ b := by
  obtain ⟨i0, hi0, hz0, hz1, hz2⟩ := info_parts' Tryd.infoRw
  have hti : Tryd.prog.underlying 3 = some (.int .i64) := Tryd.underlying3
  have hts := Tryd.underlying70
  have hw : IntKind.i64.wrap (k : Int) = k := by rw [IntKind.wrap_i64]; omega
  have hneg : ¬ ((k : Int) < 0) := by omega
  have h48i : ¬ (281474976710656 < (k : Int) * (i0.bytes : Int)) := by rw [hz2]; omega
  have hlen : (xs ++ rwL (List.replicate k RW0)).length = (n + k) * 3 := by rw [List.length_append, h.1, rwL_len, Nat.add_mul]; simp
  have hw0 : IntKind.i64.wrap 0 = 0 := by decide
  by_cases h0 : k = 0
  · subst h0
    obtain ⟨a, c, rfl⟩ := h.shape
    have hnc : n ≤ c := by
      rcases h.2 with ⟨e, e0⟩ | ⟨g, o, cap, cur, e, _, hc, _⟩
      · omega
      · injection e with _ _ e3; omega
    refine ⟨a, c, w, ?_, ?_, ⟨rfl, rfl, rfl, Nat.le_refl _, fun _ _ _ => rfl⟩, fun b e => .inl e⟩
    · cases a <;> simp [Builtin.append_, run_underlying hts, run_underlying hti, sizeOf, typeInfo, hi0, asInt, asIntOf, storeCells, hw0, hnc]
    · simpa [rwL] using h
  have hk3 : ¬ (k * 3 = 0) := by omega
  have grown : ∀ (old : Nat) (row : Option Nat), old < n + k →
      RowAt (w.drew.alloc (.cells (xs.toArray ++ Builtin.zeroCells #[.int .i64 0, .bool false, .slice none 0 0] k ++ Builtin.zeroCells #[.int .i64 0, .bool false, .slice none 0 0] (grownCap w (n + k) old 98 - (n + k))) 98)) 98 3 (.slice (some ⟨w.heap.size, 0, none⟩) (n + k) (grownCap w (n + k) old 98)) (n + k) (xs ++ rwL (List.replicate k RW0)) ∧
      w.grownBy (w.drew.alloc (.cells (xs.toArray ++ Builtin.zeroCells #[.int .i64 0, .bool false, .slice none 0 0] k ++ Builtin.zeroCells #[.int .i64 0, .bool false, .slice none 0 0] (grownCap w (n + k) old 98 - (n + k))) 98)) row := by
    intro old row ho
    have hge := grownCap_ge w (n + k) old 98
    refine ⟨⟨hlen, .inr ⟨w.heap.size, 0, _, _, rfl, heap_alloc_new w.drew _, hge, ?_, ?_⟩⟩, ⟨rfl, rfl, rfl, by simp, fun k hk _ => Below.heap_alloc _ _ _ hk⟩⟩
    · have e1 : (Builtin.zeroCells #[.int .i64 0, .bool false, .slice none 0 0] k).size = k * 3 := by simp [Builtin.zeroCells]
      have e2 : (Builtin.zeroCells #[.int .i64 0, .bool false, .slice none 0 0] (grownCap w (n + k) old 98 - (n + k))).size = (grownCap w (n + k) old 98 - (n + k)) * 3 := by simp [Builtin.zeroCells]
      rw [Array.size_append, Array.size_append, e1, e2, List.size_toArray, h.1]
      omega
    · simp only [Array.toList_append, List.drop_zero, zero_rows]
      rw [← hlen]
      exact List.take_left
  have hfit : ∀ old, old < n + k → Builtin.nextslicecap (n + k) old * i0.bytes ≤ 281474976710656 := fun old ho => growslice_fits ho (by rw [hz2]; omega)
  rcases h.2 with ⟨rfl, rfl⟩ | ⟨g, o, cap, cur, rfl, hg, hc, hs, htk⟩
  · have hx : xs = [] := List.eq_nil_of_length_eq_zero (by simpa using h.1)
    subst hx
    have hr := Lib.run_append_grow_zeros (P := Tryd.prog) w 70 3 70 98 i0 (.agg #[.int .i64 0, .bool false, .slice none 0 0]) .i64 .i64 hts hti hi0 hz0 none 0 0 [] (run_firstCells_none w.drew i0.size 0 0 0) k (by omega) (by omega) (by omega) (by omega) (by rw [hz2]; omega) (hfit 0 (by omega))
    obtain ⟨g1, g2⟩ := grown 0 (Value.ownBlock (.slice none 0 0)) (by omega)
    exact ⟨_, _, _, hr, g1, g2, fun b e => .inr (by simp [Value.ownBlock] at e; omega)⟩
  · by_cases hroom : n + k ≤ cap
    · have hfit2 : o + n * 3 + (rwL (List.replicate k RW0)).length ≤ cur.size := by rw [rwL_len]; simp; omega
      have hst := run_storeCells_cells (P := Tryd.prog) g (o + n * 3) (rwL (List.replicate k RW0)) 0 w (fun j hj => by rw [cell_of hg]; simp; omega) (fun j hj => frozen_of hg _) (fun u hu => by
        unfold rwL at hu
        obtain ⟨r, hr, hur⟩ := List.mem_flatMap.1 hu
        obtain rfl := List.eq_of_mem_replicate hr
        simp [rwC, RW0] at hur
        rcases hur with rfl | rfl | rfl <;> rfl)
      simp only [Nat.add_zero] at hst
      obtain ⟨cur', h1, h2⟩ := heap_setCells_at (rwL (List.replicate k RW0)) (o + n * 3) w cur hg hfit2
      obtain ⟨s1, s2, s3, s4, s5⟩ := size_setCells' g (rwL (List.replicate k RW0)) (o + n * 3) w
      refine ⟨some ⟨g, o, none⟩, cap, w.setCells g (o + n * 3) (rwL (List.replicate k RW0)), ?_, ⟨hlen, .inr ⟨g, o, cap, cur', rfl, h1, hroom, ?_, ?_⟩⟩, ⟨s2, s3, s4, by omega, fun k _ hk => s5 k (fun e => hk (by simp [Value.ownBlock, e]))⟩, fun b e => .inl e⟩
      · simp [Builtin.append_, run_underlying hts, run_underlying hti, sizeOf, typeInfo, zeroValue, hi0, hz0, hz1, asInt, asIntOf, hw, hneg, h48i, hk3, hroom, Value.cells, zero_rows, Addr.add_lit, hst]
      · have := congrArg List.length h2
        simp only [List.length_append, List.length_take, List.length_drop, Array.length_toList] at this
        omega
      · have hxs : (cur.toList.take (o + n * 3)).drop o = xs := by
          rw [List.drop_take, show o + n * 3 - o = n * 3 from by omega, htk]
        have hol : o ≤ (cur.toList.take (o + n * 3)).length := by rw [List.length_take, Array.length_toList]; omega
        rw [h2, List.append_assoc, List.drop_append, show o - (cur.toList.take (o + n * 3)).length = 0 from by omega, List.drop_zero, hxs, ← List.append_assoc, ← hlen]
        exact List.take_left
    · have hold : (Builtin.firstCells i0.size n (.slice (some ⟨g, o, none⟩) n cap)).run Tryd.prog w.drew = .ok xs.toArray w.drew := run_firstCells_some w.drew i0.size n ⟨g, o, none⟩ n cap xs (by rw [hz1]; exact h.1) (fun j u hj => by
        have hjl := (List.getElem?_eq_some_iff.1 hj).1
        have hw' : w.drew.heap[g]? = some (.cells cur 98 (0, 0)) := hg
        rw [Addr.add_lit, cell_of hw', ← hj, ← htk, List.getElem?_take, if_pos (by rw [h.1] at hjl; exact hjl), List.getElem?_drop]
        simp)
      have hr := Lib.run_append_grow_zeros (P := Tryd.prog) w 70 3 70 98 i0 (.agg #[.int .i64 0, .bool false, .slice none 0 0]) .i64 .i64 hts hti hi0 hz0 (some ⟨g, o, none⟩) n cap xs hold k (by omega) (by omega) (by omega) (by omega) (by rw [hz2]; omega) (hfit cap (by omega))
      obtain ⟨g1, g2⟩ := grown cap (Value.ownBlock (.slice (some ⟨g, o, none⟩) n cap)) (by omega)
      exact ⟨_, _, _, hr, g1, g2, fun b e => .inr (by simp [Value.ownBlock] at e; omega)⟩
end Go.Proofs.YtlmlbcnjohjnlaaDoor

/- mirror: exists. -/
namespace Go.Proofs.YtlmlbcnjohjnlaaDoor
open Go.RowKit

/-- A mirror with other rows. -/
theorem MAt.rows {P : Nat} {fr nb : List Nat} {M M' : PM} {X X' : World} {q rows was rows' : Value} {n B : Nat} {xs : List Value} {rs : List RW} (h : MAt P fr M X) (hM : X.heap[P]? = some (mirO q M.sel M.v M.n M.h rows was M.bg)) (hQ : QIn fr X q M.q) (hW : WasIn fr X was M.was) (hrow : RowAt X 98 3 rows n xs) (hrb : ∀ b, rows.ownBlock = some b → b ∈ fr)
    (hs : Stays (P :: rows.ownBlock.toList) X X') (hm : X'.heap[P]? = some (mirO q M'.sel M'.v M'.n M'.h rows' was M'.bg)) (eq : M'.q = M.q) (ew : M'.was = M.was) (hr : RowAt X' 98 3 rows' M'.rows.length (rwL rs)) (ha : All2 (RWin (fr ++ nb) X) rs M'.rows) (hlo : ∀ b, rows'.ownBlock = some b → b ∈ fr ∨ B ≤ b) (hnb : ∀ b, b ∈ nb → B ≤ b ∧ b < X.heap.size) : MGb P fr M' B X X' := by
  have k : KeepT [75, 98] X X' := KeepT.of hs (fun b hb => by
    rcases List.mem_cons.1 hb with rfl | hb
    · exact ⟨_, _, _, hM, by simp⟩
    · have e : rows.ownBlock = some b := by simpa using hb
      obtain ⟨cs, hc⟩ := hrow.kind e
      exact ⟨_, _, _, hc, by simp⟩)
  have hm1 : ∀ b, b ∈ fr → b ∈ fr ++ nb ++ rows'.ownBlock.toList := fun b e => by simp [e]
  have hm2 : ∀ b, b ∈ fr ++ nb → b ∈ fr ++ nb ++ rows'.ownBlock.toList := fun b e => by simp only [List.mem_append] at e ⊢; exact .inl e
  refine ⟨fr ++ nb ++ rows'.ownBlock.toList, ⟨⟨q, rows', was, hm, by rw [eq]; exact hQ.kt k (by decide) (by decide) hm1, ⟨rs, hr, fun b e => by simp [e], ha.mono (fun _ _ r => r.kt k (by decide) hm2)⟩, by rw [ew]; exact hW.kt k (by decide) hm1⟩, by simp [h.pin], fun b hb => ?_⟩, hs.mono (fun b hb => ?_), fun b hb => ?_⟩
  · simp only [List.mem_append] at hb
    rcases hb with (hb | hb) | hb
    · exact Nat.lt_of_lt_of_le (h.lt b hb) hs.size
    · exact Nat.lt_of_lt_of_le (hnb b hb).2 hs.size
    · exact hr.lt (by simpa using hb)
  · rcases List.mem_cons.1 hb with rfl | hb
    · exact h.pin
    · exact hrb b (by simpa using hb)
  · simp only [List.mem_append] at hb
    rcases hb with (hb | hb) | hb
    · exact .inl hb
    · exact .inr (hnb b hb).1
    · exact hlo b (by simpa using hb)
theorem isFn_exists1 : IsFn 42 := fun _ _ => by kernel_rfl
theorem isFn_exists2 : IsFn 44 := fun _ _ => by kernel_rfl
def ExOut (P : Nat) (q : Value) (sel : Bool) (v n h : Int) (rows was : Value) (bg : Bool) (m : Nat) (xs : List Value) (w : World) (e : Ending) (w' : World) : Prop := e = .returned (.tuple #[]) ∧ ∃ rv, Stays (P :: rows.ownBlock.toList) w w' ∧ w'.heap[P]? = some (mirO q sel v n h rv was bg) ∧ RowAt w' 98 3 rv m xs ∧ ∀ b, rv.ownBlock = some b → rows.ownBlock = some b ∨ w.heap.size ≤ b
set_option maxRecDepth 10000 in
theorem exists1_any (P : Nat) (q : Value) (sel : Bool) (v n h : Int) (rows was : Value) (bg : Bool) (a : AN) (k : Nat) (hk : k ≤ 262144) (ha : a.num = (k : Int)) (ba bp : Nat) (w : World) (hA : w.heap[ba]? = some (anO a)) (hB : w.heap[bp]? = some (ppO P)) (hM : w.heap[P]? = some (mirO q sel v n h rows was bg)) :
    Calls Tryd.prog 42 #[.pointer (some ⟨ba, 0, none⟩), .pointer (some ⟨bp, 0, none⟩)] w (ExOut P q sel v n h rows was bg k (rwL (List.replicate k RW0)) w) := by
  obtain ⟨i0, hi0, hz0, hz1, hz2⟩ := info_parts' Tryd.infoRw
  obtain ⟨Wm, hmk, hrow, hgr⟩ := run_make_full (P := Tryd.prog) w.drew 0 70 98 i0 (.agg #[.int .i64 0, .bool false, .slice none 0 0]) 3 Tryd.underlying70 hi0 hz0 hz1 .i64 .i64 k (by rw [hz2]; omega) (by unfold maxLen; omega) (Nat.zero_le _)
  have hbm : Below w.heap.size w Wm := ⟨hgr.os, hgr.tape, hgr.output, hgr.size, fun b hb => hgr.block b hb (fun e => by cases e)⟩
  have c6 : w.cell? ⟨ba, 6, none⟩ = some (.int .i64 (k : Int)) := by rw [(an_cells hA).2.2.2.2.2, ha]
  have d0 : w.cell? ⟨bp, 0, none⟩ = some (.pointer (some ⟨P, 1, none⟩)) := by unfold ppO at hB; exact cell_of hB 0
  have hPl := lt_of_heap hM
  have hM2 := bel_at hbm hPl hM
  have m5 := (mir_cells hM2).c5
  have f5 := mir_fz hM2 5
  have c6' : Wm.cell? ⟨ba, 6, none⟩ = some (.int .i64 (k : Int)) := by rw [hbm.cell (p := ⟨ba, 6, none⟩) (lt_of_heap hA)]; exact c6
  have d0' : Wm.cell? ⟨bp, 0, none⟩ = some (.pointer (some ⟨P, 1, none⟩)) := by rw [hbm.cell (p := ⟨bp, 0, none⟩) (lt_of_heap hB)]; exact d0
  have hrow' := RowAt.ofOwns hrow
  rw [show (Value.agg #[.int .i64 0, .bool false, .slice none 0 0]).cells = #[.int .i64 0, .bool false, .slice none 0 0] from rfl, made_rows] at hrow'
  have fin : Stays (P :: rows.ownBlock.toList) w (Wm.setCell ⟨P, 5, none⟩ (.slice (some ⟨w.heap.size, 0, none⟩) k k)) ∧ (Wm.setCell ⟨P, 5, none⟩ (.slice (some ⟨w.heap.size, 0, none⟩) k k)).heap[P]? = some (mirO q sel v n h (.slice (some ⟨w.heap.size, 0, none⟩) k k) was bg) ∧ RowAt (Wm.setCell ⟨P, 5, none⟩ (.slice (some ⟨w.heap.size, 0, none⟩) k k)) 98 3 (.slice (some ⟨w.heap.size, 0, none⟩) k k) k (rwL (List.replicate k RW0)) ∧ ∀ b, (Value.slice (some ⟨w.heap.size, 0, none⟩) k k).ownBlock = some b → rows.ownBlock = some b ∨ w.heap.size ≤ b :=
    ⟨(Stays.ofBelow hbm).setCell (.inl (by simp)) _, mir_set5 hM2 _, hrow'.same (fun b e => Below.heap_setCell _ _ _ _ (by simp [Value.ownBlock] at e; show b ≠ P; omega)), fun b e => .inr (by simp [Value.ownBlock] at e; omega)⟩
  have FIN := Lib.hid fin
  have mk : (Instr.makeSlice 70 (.int .i64 (k : Int)) (.int .i64 (k : Int))).run Tryd.prog w.drew = .ok (.slice (some ⟨w.heap.size, 0, none⟩) k k) Wm := hmk
  clear hA hB hM hPl hM2 fin hrow hrow' hgr hbm hmk hz0 hz1 hz2 hi0
  go_enter Tryd.func42, Tryd.ntmps42
  go_wp2_with fail
  refine wp_region_N 6 (fun X => X = w.drew ∨ X = Wm) (by kernel_rfl) ?_
  refine wpAnyN_take (i := 0) (oi := { dst := some 2, op := Go.Op.load 96 (Go.Operand.tmp 1), type := 96, pos := "hear.go:124", after := #[], guard := none }) (oL := { dst := none, op := Go.Op.store 70 (Go.Operand.tmp 7) (Go.Operand.tmp 5), type := 0, pos := "hear.go:124", after := #[{ on := 5, ground := Go.Ground.data }, { on := 3, ground := Go.Ground.data }, { on := 0, ground := Go.Ground.phase }, { on := 1, ground := Go.Ground.phase }, { on := 2, ground := Go.Ground.phase }, { on := 3, ground := Go.Ground.phase }], guard := none }) (v := .pointer (some ⟨P, 1, none⟩)) rfl rfl (by kernel_rfl) (by kernel_rfl) (by kernel_rfl) (by kernel_rfl) (fun _ _ _ h => h) (Or.inl ⟨by kernel_rfl, ?_⟩) (.inl rfl) ?_
  · (intro X hX; rcases hX with rfl | rfl <;> (go_simp; try (with_reducible rfl)))
  (try simp only [Act.put, List.setIfInBounds_toArray, List.set_cons_zero, List.set_cons_succ])
  refine wpAnyN_take (i := 1) (oi := { dst := some 3, op := Go.Op.fieldAddr 43 (Go.Operand.tmp 0) 6, type := 0, pos := "hear.go:124", after := #[], guard := none }) (oL := { dst := none, op := Go.Op.store 70 (Go.Operand.tmp 7) (Go.Operand.tmp 5), type := 0, pos := "hear.go:124", after := #[{ on := 5, ground := Go.Ground.data }, { on := 3, ground := Go.Ground.data }, { on := 0, ground := Go.Ground.phase }, { on := 1, ground := Go.Ground.phase }, { on := 2, ground := Go.Ground.phase }, { on := 3, ground := Go.Ground.phase }], guard := none }) (v := .pointer (some ⟨ba, 6, none⟩)) rfl rfl (by kernel_rfl) (by kernel_rfl) (by kernel_rfl) (by kernel_rfl) (fun _ _ _ h => h) (Or.inl ⟨by kernel_rfl, ?_⟩) (.inl rfl) ?_
  · (intro X hX; rcases hX with rfl | rfl <;> (go_simp; try (with_reducible rfl)))
  (try simp only [Act.put, List.setIfInBounds_toArray, List.set_cons_zero, List.set_cons_succ])
  refine wpAnyN_take (i := 2) (oi := { dst := some 4, op := Go.Op.load 3 (Go.Operand.tmp 3), type := 3, pos := "hear.go:124", after := #[{ on := 1, ground := Go.Ground.data }], guard := none }) (oL := { dst := none, op := Go.Op.store 70 (Go.Operand.tmp 7) (Go.Operand.tmp 5), type := 0, pos := "hear.go:124", after := #[{ on := 5, ground := Go.Ground.data }, { on := 3, ground := Go.Ground.data }, { on := 0, ground := Go.Ground.phase }, { on := 1, ground := Go.Ground.phase }, { on := 2, ground := Go.Ground.phase }, { on := 3, ground := Go.Ground.phase }], guard := none }) (v := .int .i64 (k : Int)) rfl rfl (by kernel_rfl) (by kernel_rfl) (by kernel_rfl) (by kernel_rfl) (fun _ _ _ h => h) (Or.inl ⟨by kernel_rfl, ?_⟩) (.inl rfl) ?_
  · (intro X hX; rcases hX with rfl | rfl <;> (go_simp; try (with_reducible rfl)))
  (try simp only [Act.put, List.setIfInBounds_toArray, List.set_cons_zero, List.set_cons_succ])
  refine wpAnyN_one (i := 3) (o := { dst := some 5, op := Go.Op.makeSlice 70 (Go.Operand.tmp 4) (Go.Operand.tmp 4), type := 70, pos := "hear.go:124", after := #[{ on := 2, ground := Go.Ground.data }, { on := 2, ground := Go.Ground.data }], guard := none }) (by kernel_rfl) rfl (fun K hK => ?_)
  go_simp
  refine hK.out _ _ (fun _ => (.inr rfl)) ?_
  clear hK K
  (try simp only [Act.put, List.setIfInBounds_toArray, List.set_cons_zero, List.set_cons_succ])
  refine wpAnyN_take (i := 4) (oi := { dst := some 6, op := Go.Op.nilCheck (Go.Operand.tmp 2), type := 0, pos := "hear.go:124", after := #[{ on := 0, ground := Go.Ground.data }, { on := 0, ground := Go.Ground.phase }, { on := 1, ground := Go.Ground.phase }, { on := 2, ground := Go.Ground.phase }, { on := 3, ground := Go.Ground.phase }], guard := none }) (oL := { dst := none, op := Go.Op.store 70 (Go.Operand.tmp 7) (Go.Operand.tmp 5), type := 0, pos := "hear.go:124", after := #[{ on := 5, ground := Go.Ground.data }, { on := 3, ground := Go.Ground.data }, { on := 0, ground := Go.Ground.phase }, { on := 1, ground := Go.Ground.phase }, { on := 2, ground := Go.Ground.phase }, { on := 3, ground := Go.Ground.phase }], guard := none }) (v := .pointer (some ⟨P, 1, none⟩)) rfl rfl (by kernel_rfl) (by kernel_rfl) (by kernel_rfl) (by kernel_rfl) (fun _ _ _ h => h) (Or.inl ⟨by kernel_rfl, ?_⟩) (.inr rfl) ?_
  · (intro X hX; rcases hX with rfl | rfl <;> (go_simp; try (with_reducible rfl)))
  (try simp only [Act.put, List.setIfInBounds_toArray, List.set_cons_zero, List.set_cons_succ])
  refine wpAnyN_take (i := 5) (oi := { dst := some 7, op := Go.Op.fieldAddr 73 (Go.Operand.tmp 6) 4, type := 0, pos := "hear.go:124", after := #[{ on := 4, ground := Go.Ground.data }, { on := 0, ground := Go.Ground.phase }, { on := 1, ground := Go.Ground.phase }, { on := 2, ground := Go.Ground.phase }, { on := 3, ground := Go.Ground.phase }], guard := none }) (oL := { dst := none, op := Go.Op.store 70 (Go.Operand.tmp 7) (Go.Operand.tmp 5), type := 0, pos := "hear.go:124", after := #[{ on := 5, ground := Go.Ground.data }, { on := 3, ground := Go.Ground.data }, { on := 0, ground := Go.Ground.phase }, { on := 1, ground := Go.Ground.phase }, { on := 2, ground := Go.Ground.phase }, { on := 3, ground := Go.Ground.phase }], guard := none }) (v := .pointer (some ⟨P, 5, none⟩)) rfl rfl (by kernel_rfl) (by kernel_rfl) (by kernel_rfl) (by kernel_rfl) (fun _ _ _ h => h) (Or.inl ⟨by kernel_rfl, ?_⟩) (.inr rfl) ?_
  · (intro X hX; rcases hX with rfl | rfl <;> (go_simp; try (with_reducible rfl)))
  (try simp only [Act.put, List.setIfInBounds_toArray, List.set_cons_zero, List.set_cons_succ])
  refine wpAnyN_one (i := 6) (o := { dst := none, op := Go.Op.store 70 (Go.Operand.tmp 7) (Go.Operand.tmp 5), type := 0, pos := "hear.go:124", after := #[{ on := 5, ground := Go.Ground.data }, { on := 3, ground := Go.Ground.data }, { on := 0, ground := Go.Ground.phase }, { on := 1, ground := Go.Ground.phase }, { on := 2, ground := Go.Ground.phase }, { on := 3, ground := Go.Ground.phase }], guard := none }) (by kernel_rfl) rfl (fun K hK => ?_)
  go_simp
  refine hK.out _ _ (fun e => absurd (e.symm.trans (by kernel_rfl) : false = true) Bool.false_ne_true) ?_
  clear hK K
  (try simp only [Act.put, List.setIfInBounds_toArray, List.set_cons_zero, List.set_cons_succ])
  refine wpAnyN_of_H (S' := fun _ => True) _ _ _ _ (by kernel_rfl) ?_
  refine wpAnyH_done (by kernel_rfl) ?_ _
  go_wp2_with fail
  first | refine bodyPost_end (results_none rfl _ _ _) rfl ?_ | refine bodyPost_ret (results_none rfl _ _ _) rfl ?_
  have q := FIN.out
  first | exact ⟨rfl, _, ⟨q.1.os, q.1.tape, q.1.output, q.1.size, q.1.block⟩, q.2⟩ | exact ⟨_, ⟨q.1.os, q.1.tape, q.1.output, q.1.size, q.1.block⟩, q.2⟩
set_option maxRecDepth 10000 in
theorem exists2_any (P : Nat) (q : Value) (sel : Bool) (v n h : Int) (ra : Option Addr) (rn rc : Nat) (was : Value) (bg : Bool) (xs : List Value) (a : AN) (y : Int) (k : Nat) (hy : a.num = y) (hyk : y - (rn : Int) = (k : Int)) (hk : rn + k ≤ 1000000) (ba bp : Nat) (w : World) (hA : w.heap[ba]? = some (anO a)) (hB : w.heap[bp]? = some (ppO P)) (hM : w.heap[P]? = some (mirO q sel v n h (.slice ra rn rc) was bg)) (hR : RowAt w 98 3 (.slice ra rn rc) rn xs) :
    Calls Tryd.prog 44 #[.pointer (some ⟨bp, 0, none⟩), .pointer (some ⟨ba, 0, none⟩)] w (ExOut P q sel v n h (.slice ra rn rc) was bg (rn + k) (xs ++ rwL (List.replicate k RW0)) w) := by
  obtain ⟨a', c', Wm, hrun, hrow, hgr, hlo⟩ := appZ (w := w.drew) (hR : RowAt w.drew _ _ _ _ _) k hk
  have hpr : (Value.slice ra rn rc).ownBlock ≠ some P := fun e => by
    obtain ⟨cs, hc⟩ := hR.kind e
    exact kind_ne hc hM (by decide) rfl
  have keep : ∀ (b : Nat) (cs : Array Value) (t : TypeId) (f : Nat × Nat), w.heap[b]? = some (.cells cs t f) → t ≠ 98 → Wm.heap[b]? = some (.cells cs t f) := fun b cs t f e ht => by
    rw [hgr.block b (lt_of_heap e) (fun e' => by
      obtain ⟨cs', hc⟩ := hR.kind e'.symm
      exact kind_ne e hc ht rfl)]
    exact e
  have c6 : w.cell? ⟨ba, 6, none⟩ = some (.int .i64 y) := by rw [(an_cells hA).2.2.2.2.2, hy]
  have d0 : w.cell? ⟨bp, 0, none⟩ = some (.pointer (some ⟨P, 1, none⟩)) := by unfold ppO at hB; exact cell_of hB 0
  have r5 := (mir_cells hM).c5
  have hM2 : Wm.heap[P]? = some (mirO q sel v n h (.slice ra rn rc) was bg) := keep P _ _ _ hM (by decide)
  have m5 := (mir_cells hM2).c5
  have f5 := mir_fz hM2 5
  have hA2 : Wm.heap[ba]? = some (anO a) := keep ba _ _ _ hA (by decide)
  have hB2 : Wm.heap[bp]? = some (ppO P) := keep bp _ _ _ hB (by decide)
  have c6' : Wm.cell? ⟨ba, 6, none⟩ = some (.int .i64 y) := by rw [(an_cells hA2).2.2.2.2.2, hy]
  have d0' : Wm.cell? ⟨bp, 0, none⟩ = some (.pointer (some ⟨P, 1, none⟩)) := by unfold ppO at hB2; exact cell_of hB2 0
  have fin : Stays (P :: (Value.slice ra rn rc).ownBlock.toList) w (Wm.setCell ⟨P, 5, none⟩ (.slice a' (rn + k) c')) ∧ (Wm.setCell ⟨P, 5, none⟩ (.slice a' (rn + k) c')).heap[P]? = some (mirO q sel v n h (.slice a' (rn + k) c') was bg) ∧ RowAt (Wm.setCell ⟨P, 5, none⟩ (.slice a' (rn + k) c')) 98 3 (.slice a' (rn + k) c') (rn + k) (xs ++ rwL (List.replicate k RW0)) ∧ ∀ b, (Value.slice a' (rn + k) c').ownBlock = some b → (Value.slice ra rn rc).ownBlock = some b ∨ w.heap.size ≤ b := by
    refine ⟨Stays.setCell ?_ (.inl (by simp)) _, mir_set5 hM2 _, hrow.same (fun b e => Below.heap_setCell _ _ _ _ (fun e' => ?_)), hlo⟩
    · have := Stays.ofGrown (fp := P :: (Value.slice ra rn rc).ownBlock.toList) hgr (fun b e => by simp [e])
      exact ⟨this.os, this.tape, this.output, this.size, this.block⟩
    · have e2 : b = P := e'
      subst e2
      rcases hlo b e with e3 | e3
      · exact hpr e3
      · have := lt_of_heap hM
        have e4 : w.heap.size ≤ b := e3
        omega
  have FIN := Lib.hid fin
  have HRun := Lib.hid hrun
  have hwr : IntKind.i64.wrap (k : Int) = (k : Int) := by rw [IntKind.wrap_i64]; omega
  have hwr2 : IntKind.i64.wrap (y - (rn : Int)) = (k : Int) := by rw [hyk]; exact hwr
  clear hA hB hM hM2 fin hrow hgr hrun hlo hR keep hpr hA2 hB2
  go_enter Tryd.func44, Tryd.ntmps44
  go_wp2_with fail
  refine wp_region_N 16 (fun X => X = w.drew ∨ X = Wm) (by kernel_rfl) ?_
  refine wpAnyN_take (i := 0) (oi := { dst := some 2, op := Go.Op.load 96 (Go.Operand.tmp 0), type := 96, pos := "hear.go:128", after := #[], guard := none }) (oL := { dst := none, op := Go.Op.store 70 (Go.Operand.tmp 17) (Go.Operand.tmp 15), type := 0, pos := "hear.go:128", after := #[{ on := 15, ground := Go.Ground.data }, { on := 13, ground := Go.Ground.data }, { on := 13, ground := Go.Ground.chain }, { on := 0, ground := Go.Ground.phase }, { on := 1, ground := Go.Ground.phase }, { on := 2, ground := Go.Ground.phase }, { on := 3, ground := Go.Ground.phase }, { on := 4, ground := Go.Ground.phase }, { on := 5, ground := Go.Ground.phase }, { on := 6, ground := Go.Ground.phase }, { on := 7, ground := Go.Ground.phase }, { on := 8, ground := Go.Ground.phase }, { on := 9, ground := Go.Ground.phase }, { on := 10, ground := Go.Ground.phase }, { on := 11, ground := Go.Ground.phase }, { on := 12, ground := Go.Ground.phase }, { on := 13, ground := Go.Ground.phase }], guard := none }) (v := .pointer (some ⟨P, 1, none⟩)) rfl rfl (by kernel_rfl) (by kernel_rfl) (by kernel_rfl) (by kernel_rfl) (fun _ _ _ h => h) (Or.inl ⟨by kernel_rfl, ?_⟩) (.inl rfl) ?_
  · (intro X hX; rcases hX with rfl | rfl <;> (go_simp; try (with_reducible rfl)))
  (try simp only [Act.put, List.setIfInBounds_toArray, List.set_cons_zero, List.set_cons_succ])
  refine wpAnyN_take (i := 1) (oi := { dst := some 3, op := Go.Op.load 96 (Go.Operand.tmp 0), type := 96, pos := "hear.go:128", after := #[], guard := none }) (oL := { dst := none, op := Go.Op.store 70 (Go.Operand.tmp 17) (Go.Operand.tmp 15), type := 0, pos := "hear.go:128", after := #[{ on := 15, ground := Go.Ground.data }, { on := 13, ground := Go.Ground.data }, { on := 13, ground := Go.Ground.chain }, { on := 0, ground := Go.Ground.phase }, { on := 1, ground := Go.Ground.phase }, { on := 2, ground := Go.Ground.phase }, { on := 3, ground := Go.Ground.phase }, { on := 4, ground := Go.Ground.phase }, { on := 5, ground := Go.Ground.phase }, { on := 6, ground := Go.Ground.phase }, { on := 7, ground := Go.Ground.phase }, { on := 8, ground := Go.Ground.phase }, { on := 9, ground := Go.Ground.phase }, { on := 10, ground := Go.Ground.phase }, { on := 11, ground := Go.Ground.phase }, { on := 12, ground := Go.Ground.phase }, { on := 13, ground := Go.Ground.phase }], guard := none }) (v := .pointer (some ⟨P, 1, none⟩)) rfl rfl (by kernel_rfl) (by kernel_rfl) (by kernel_rfl) (by kernel_rfl) (fun _ _ _ h => h) (Or.inl ⟨by kernel_rfl, ?_⟩) (.inl rfl) ?_
  · (intro X hX; rcases hX with rfl | rfl <;> (go_simp; try (with_reducible rfl)))
  (try simp only [Act.put, List.setIfInBounds_toArray, List.set_cons_zero, List.set_cons_succ])
  refine wpAnyN_take (i := 2) (oi := { dst := some 4, op := Go.Op.nilCheck (Go.Operand.tmp 3), type := 0, pos := "hear.go:128", after := #[{ on := 1, ground := Go.Ground.data }], guard := none }) (oL := { dst := none, op := Go.Op.store 70 (Go.Operand.tmp 17) (Go.Operand.tmp 15), type := 0, pos := "hear.go:128", after := #[{ on := 15, ground := Go.Ground.data }, { on := 13, ground := Go.Ground.data }, { on := 13, ground := Go.Ground.chain }, { on := 0, ground := Go.Ground.phase }, { on := 1, ground := Go.Ground.phase }, { on := 2, ground := Go.Ground.phase }, { on := 3, ground := Go.Ground.phase }, { on := 4, ground := Go.Ground.phase }, { on := 5, ground := Go.Ground.phase }, { on := 6, ground := Go.Ground.phase }, { on := 7, ground := Go.Ground.phase }, { on := 8, ground := Go.Ground.phase }, { on := 9, ground := Go.Ground.phase }, { on := 10, ground := Go.Ground.phase }, { on := 11, ground := Go.Ground.phase }, { on := 12, ground := Go.Ground.phase }, { on := 13, ground := Go.Ground.phase }], guard := none }) (v := .pointer (some ⟨P, 1, none⟩)) rfl rfl (by kernel_rfl) (by kernel_rfl) (by kernel_rfl) (by kernel_rfl) (fun _ _ _ h => h) (Or.inl ⟨by kernel_rfl, ?_⟩) (.inl rfl) ?_
  · (intro X hX; rcases hX with rfl | rfl <;> (go_simp; try (with_reducible rfl)))
  (try simp only [Act.put, List.setIfInBounds_toArray, List.set_cons_zero, List.set_cons_succ])
  refine wpAnyN_take (i := 3) (oi := { dst := some 5, op := Go.Op.fieldAddr 73 (Go.Operand.tmp 4) 4, type := 0, pos := "hear.go:128", after := #[{ on := 2, ground := Go.Ground.data }], guard := none }) (oL := { dst := none, op := Go.Op.store 70 (Go.Operand.tmp 17) (Go.Operand.tmp 15), type := 0, pos := "hear.go:128", after := #[{ on := 15, ground := Go.Ground.data }, { on := 13, ground := Go.Ground.data }, { on := 13, ground := Go.Ground.chain }, { on := 0, ground := Go.Ground.phase }, { on := 1, ground := Go.Ground.phase }, { on := 2, ground := Go.Ground.phase }, { on := 3, ground := Go.Ground.phase }, { on := 4, ground := Go.Ground.phase }, { on := 5, ground := Go.Ground.phase }, { on := 6, ground := Go.Ground.phase }, { on := 7, ground := Go.Ground.phase }, { on := 8, ground := Go.Ground.phase }, { on := 9, ground := Go.Ground.phase }, { on := 10, ground := Go.Ground.phase }, { on := 11, ground := Go.Ground.phase }, { on := 12, ground := Go.Ground.phase }, { on := 13, ground := Go.Ground.phase }], guard := none }) (v := .pointer (some ⟨P, 5, none⟩)) rfl rfl (by kernel_rfl) (by kernel_rfl) (by kernel_rfl) (by kernel_rfl) (fun _ _ _ h => h) (Or.inl ⟨by kernel_rfl, ?_⟩) (.inl rfl) ?_
  · (intro X hX; rcases hX with rfl | rfl <;> (go_simp; try (with_reducible rfl)))
  (try simp only [Act.put, List.setIfInBounds_toArray, List.set_cons_zero, List.set_cons_succ])
  refine wpAnyN_take (i := 4) (oi := { dst := some 6, op := Go.Op.load 70 (Go.Operand.tmp 5), type := 70, pos := "hear.go:128", after := #[{ on := 3, ground := Go.Ground.data }], guard := none }) (oL := { dst := none, op := Go.Op.store 70 (Go.Operand.tmp 17) (Go.Operand.tmp 15), type := 0, pos := "hear.go:128", after := #[{ on := 15, ground := Go.Ground.data }, { on := 13, ground := Go.Ground.data }, { on := 13, ground := Go.Ground.chain }, { on := 0, ground := Go.Ground.phase }, { on := 1, ground := Go.Ground.phase }, { on := 2, ground := Go.Ground.phase }, { on := 3, ground := Go.Ground.phase }, { on := 4, ground := Go.Ground.phase }, { on := 5, ground := Go.Ground.phase }, { on := 6, ground := Go.Ground.phase }, { on := 7, ground := Go.Ground.phase }, { on := 8, ground := Go.Ground.phase }, { on := 9, ground := Go.Ground.phase }, { on := 10, ground := Go.Ground.phase }, { on := 11, ground := Go.Ground.phase }, { on := 12, ground := Go.Ground.phase }, { on := 13, ground := Go.Ground.phase }], guard := none }) (v := .slice ra rn rc) rfl rfl (by kernel_rfl) (by kernel_rfl) (by kernel_rfl) (by kernel_rfl) (fun _ _ _ h => h) (Or.inl ⟨by kernel_rfl, ?_⟩) (.inl rfl) ?_
  · (intro X hX; rcases hX with rfl | rfl <;> (go_simp; try (with_reducible rfl)))
  (try simp only [Act.put, List.setIfInBounds_toArray, List.set_cons_zero, List.set_cons_succ])
  refine wpAnyN_take (i := 5) (oi := { dst := some 7, op := Go.Op.fieldAddr 43 (Go.Operand.tmp 1) 6, type := 0, pos := "hear.go:128", after := #[], guard := none }) (oL := { dst := none, op := Go.Op.store 70 (Go.Operand.tmp 17) (Go.Operand.tmp 15), type := 0, pos := "hear.go:128", after := #[{ on := 15, ground := Go.Ground.data }, { on := 13, ground := Go.Ground.data }, { on := 13, ground := Go.Ground.chain }, { on := 0, ground := Go.Ground.phase }, { on := 1, ground := Go.Ground.phase }, { on := 2, ground := Go.Ground.phase }, { on := 3, ground := Go.Ground.phase }, { on := 4, ground := Go.Ground.phase }, { on := 5, ground := Go.Ground.phase }, { on := 6, ground := Go.Ground.phase }, { on := 7, ground := Go.Ground.phase }, { on := 8, ground := Go.Ground.phase }, { on := 9, ground := Go.Ground.phase }, { on := 10, ground := Go.Ground.phase }, { on := 11, ground := Go.Ground.phase }, { on := 12, ground := Go.Ground.phase }, { on := 13, ground := Go.Ground.phase }], guard := none }) (v := .pointer (some ⟨ba, 6, none⟩)) rfl rfl (by kernel_rfl) (by kernel_rfl) (by kernel_rfl) (by kernel_rfl) (fun _ _ _ h => h) (Or.inl ⟨by kernel_rfl, ?_⟩) (.inl rfl) ?_
  · (intro X hX; rcases hX with rfl | rfl <;> (go_simp; try (with_reducible rfl)))
  (try simp only [Act.put, List.setIfInBounds_toArray, List.set_cons_zero, List.set_cons_succ])
  refine wpAnyN_take (i := 6) (oi := { dst := some 8, op := Go.Op.load 3 (Go.Operand.tmp 7), type := 3, pos := "hear.go:128", after := #[{ on := 5, ground := Go.Ground.data }], guard := none }) (oL := { dst := none, op := Go.Op.store 70 (Go.Operand.tmp 17) (Go.Operand.tmp 15), type := 0, pos := "hear.go:128", after := #[{ on := 15, ground := Go.Ground.data }, { on := 13, ground := Go.Ground.data }, { on := 13, ground := Go.Ground.chain }, { on := 0, ground := Go.Ground.phase }, { on := 1, ground := Go.Ground.phase }, { on := 2, ground := Go.Ground.phase }, { on := 3, ground := Go.Ground.phase }, { on := 4, ground := Go.Ground.phase }, { on := 5, ground := Go.Ground.phase }, { on := 6, ground := Go.Ground.phase }, { on := 7, ground := Go.Ground.phase }, { on := 8, ground := Go.Ground.phase }, { on := 9, ground := Go.Ground.phase }, { on := 10, ground := Go.Ground.phase }, { on := 11, ground := Go.Ground.phase }, { on := 12, ground := Go.Ground.phase }, { on := 13, ground := Go.Ground.phase }], guard := none }) (v := .int .i64 y) rfl rfl (by kernel_rfl) (by kernel_rfl) (by kernel_rfl) (by kernel_rfl) (fun _ _ _ h => h) (Or.inl ⟨by kernel_rfl, ?_⟩) (.inl rfl) ?_
  · (intro X hX; rcases hX with rfl | rfl <;> (go_simp; try (with_reducible rfl)))
  (try simp only [Act.put, List.setIfInBounds_toArray, List.set_cons_zero, List.set_cons_succ])
  refine wpAnyN_take (i := 7) (oi := { dst := some 9, op := Go.Op.load 96 (Go.Operand.tmp 0), type := 96, pos := "hear.go:128", after := #[], guard := none }) (oL := { dst := none, op := Go.Op.store 70 (Go.Operand.tmp 17) (Go.Operand.tmp 15), type := 0, pos := "hear.go:128", after := #[{ on := 15, ground := Go.Ground.data }, { on := 13, ground := Go.Ground.data }, { on := 13, ground := Go.Ground.chain }, { on := 0, ground := Go.Ground.phase }, { on := 1, ground := Go.Ground.phase }, { on := 2, ground := Go.Ground.phase }, { on := 3, ground := Go.Ground.phase }, { on := 4, ground := Go.Ground.phase }, { on := 5, ground := Go.Ground.phase }, { on := 6, ground := Go.Ground.phase }, { on := 7, ground := Go.Ground.phase }, { on := 8, ground := Go.Ground.phase }, { on := 9, ground := Go.Ground.phase }, { on := 10, ground := Go.Ground.phase }, { on := 11, ground := Go.Ground.phase }, { on := 12, ground := Go.Ground.phase }, { on := 13, ground := Go.Ground.phase }], guard := none }) (v := .pointer (some ⟨P, 1, none⟩)) rfl rfl (by kernel_rfl) (by kernel_rfl) (by kernel_rfl) (by kernel_rfl) (fun _ _ _ h => h) (Or.inl ⟨by kernel_rfl, ?_⟩) (.inl rfl) ?_
  · (intro X hX; rcases hX with rfl | rfl <;> (go_simp; try (with_reducible rfl)))
  (try simp only [Act.put, List.setIfInBounds_toArray, List.set_cons_zero, List.set_cons_succ])
  refine wpAnyN_take (i := 8) (oi := { dst := some 10, op := Go.Op.nilCheck (Go.Operand.tmp 9), type := 0, pos := "hear.go:128", after := #[{ on := 7, ground := Go.Ground.data }], guard := none }) (oL := { dst := none, op := Go.Op.store 70 (Go.Operand.tmp 17) (Go.Operand.tmp 15), type := 0, pos := "hear.go:128", after := #[{ on := 15, ground := Go.Ground.data }, { on := 13, ground := Go.Ground.data }, { on := 13, ground := Go.Ground.chain }, { on := 0, ground := Go.Ground.phase }, { on := 1, ground := Go.Ground.phase }, { on := 2, ground := Go.Ground.phase }, { on := 3, ground := Go.Ground.phase }, { on := 4, ground := Go.Ground.phase }, { on := 5, ground := Go.Ground.phase }, { on := 6, ground := Go.Ground.phase }, { on := 7, ground := Go.Ground.phase }, { on := 8, ground := Go.Ground.phase }, { on := 9, ground := Go.Ground.phase }, { on := 10, ground := Go.Ground.phase }, { on := 11, ground := Go.Ground.phase }, { on := 12, ground := Go.Ground.phase }, { on := 13, ground := Go.Ground.phase }], guard := none }) (v := .pointer (some ⟨P, 1, none⟩)) rfl rfl (by kernel_rfl) (by kernel_rfl) (by kernel_rfl) (by kernel_rfl) (fun _ _ _ h => h) (Or.inl ⟨by kernel_rfl, ?_⟩) (.inl rfl) ?_
  · (intro X hX; rcases hX with rfl | rfl <;> (go_simp; try (with_reducible rfl)))
  (try simp only [Act.put, List.setIfInBounds_toArray, List.set_cons_zero, List.set_cons_succ])
  refine wpAnyN_take (i := 9) (oi := { dst := some 11, op := Go.Op.fieldAddr 73 (Go.Operand.tmp 10) 4, type := 0, pos := "hear.go:128", after := #[{ on := 8, ground := Go.Ground.data }], guard := none }) (oL := { dst := none, op := Go.Op.store 70 (Go.Operand.tmp 17) (Go.Operand.tmp 15), type := 0, pos := "hear.go:128", after := #[{ on := 15, ground := Go.Ground.data }, { on := 13, ground := Go.Ground.data }, { on := 13, ground := Go.Ground.chain }, { on := 0, ground := Go.Ground.phase }, { on := 1, ground := Go.Ground.phase }, { on := 2, ground := Go.Ground.phase }, { on := 3, ground := Go.Ground.phase }, { on := 4, ground := Go.Ground.phase }, { on := 5, ground := Go.Ground.phase }, { on := 6, ground := Go.Ground.phase }, { on := 7, ground := Go.Ground.phase }, { on := 8, ground := Go.Ground.phase }, { on := 9, ground := Go.Ground.phase }, { on := 10, ground := Go.Ground.phase }, { on := 11, ground := Go.Ground.phase }, { on := 12, ground := Go.Ground.phase }, { on := 13, ground := Go.Ground.phase }], guard := none }) (v := .pointer (some ⟨P, 5, none⟩)) rfl rfl (by kernel_rfl) (by kernel_rfl) (by kernel_rfl) (by kernel_rfl) (fun _ _ _ h => h) (Or.inl ⟨by kernel_rfl, ?_⟩) (.inl rfl) ?_
  · (intro X hX; rcases hX with rfl | rfl <;> (go_simp; try (with_reducible rfl)))
  (try simp only [Act.put, List.setIfInBounds_toArray, List.set_cons_zero, List.set_cons_succ])
  refine wpAnyN_take (i := 10) (oi := { dst := some 12, op := Go.Op.load 70 (Go.Operand.tmp 11), type := 70, pos := "hear.go:128", after := #[{ on := 9, ground := Go.Ground.data }], guard := none }) (oL := { dst := none, op := Go.Op.store 70 (Go.Operand.tmp 17) (Go.Operand.tmp 15), type := 0, pos := "hear.go:128", after := #[{ on := 15, ground := Go.Ground.data }, { on := 13, ground := Go.Ground.data }, { on := 13, ground := Go.Ground.chain }, { on := 0, ground := Go.Ground.phase }, { on := 1, ground := Go.Ground.phase }, { on := 2, ground := Go.Ground.phase }, { on := 3, ground := Go.Ground.phase }, { on := 4, ground := Go.Ground.phase }, { on := 5, ground := Go.Ground.phase }, { on := 6, ground := Go.Ground.phase }, { on := 7, ground := Go.Ground.phase }, { on := 8, ground := Go.Ground.phase }, { on := 9, ground := Go.Ground.phase }, { on := 10, ground := Go.Ground.phase }, { on := 11, ground := Go.Ground.phase }, { on := 12, ground := Go.Ground.phase }, { on := 13, ground := Go.Ground.phase }], guard := none }) (v := .slice ra rn rc) rfl rfl (by kernel_rfl) (by kernel_rfl) (by kernel_rfl) (by kernel_rfl) (fun _ _ _ h => h) (Or.inl ⟨by kernel_rfl, ?_⟩) (.inl rfl) ?_
  · (intro X hX; rcases hX with rfl | rfl <;> (go_simp; try (with_reducible rfl)))
  (try simp only [Act.put, List.setIfInBounds_toArray, List.set_cons_zero, List.set_cons_succ])
  refine wpAnyN_take (i := 11) (oi := { dst := some 13, op := Go.Op.call { callee := Go.Callee.builtin Go.Builtin.len, args := #[Go.Operand.tmp 12], argTypes := #[70] }, type := 3, pos := "hear.go:128", after := #[{ on := 10, ground := Go.Ground.data }], guard := none }) (oL := { dst := none, op := Go.Op.store 70 (Go.Operand.tmp 17) (Go.Operand.tmp 15), type := 0, pos := "hear.go:128", after := #[{ on := 15, ground := Go.Ground.data }, { on := 13, ground := Go.Ground.data }, { on := 13, ground := Go.Ground.chain }, { on := 0, ground := Go.Ground.phase }, { on := 1, ground := Go.Ground.phase }, { on := 2, ground := Go.Ground.phase }, { on := 3, ground := Go.Ground.phase }, { on := 4, ground := Go.Ground.phase }, { on := 5, ground := Go.Ground.phase }, { on := 6, ground := Go.Ground.phase }, { on := 7, ground := Go.Ground.phase }, { on := 8, ground := Go.Ground.phase }, { on := 9, ground := Go.Ground.phase }, { on := 10, ground := Go.Ground.phase }, { on := 11, ground := Go.Ground.phase }, { on := 12, ground := Go.Ground.phase }, { on := 13, ground := Go.Ground.phase }], guard := none }) (v := .int .i64 (rn : Int)) rfl rfl (by kernel_rfl) (by kernel_rfl) (by kernel_rfl) (by kernel_rfl) (fun _ _ _ h => h) (Or.inl ⟨by kernel_rfl, ?_⟩) (.inl rfl) ?_
  · (intro X hX; rcases hX with rfl | rfl <;> (go_simp; try (with_reducible rfl)))
  (try simp only [Act.put, List.setIfInBounds_toArray, List.set_cons_zero, List.set_cons_succ])
  refine wpAnyN_take (i := 12) (oi := { dst := some 14, op := Go.Op.binOp Go.BinOp.sub 3 (Go.Operand.tmp 8) (Go.Operand.tmp 13) 3, type := 3, pos := "hear.go:128", after := #[{ on := 6, ground := Go.Ground.data }, { on := 11, ground := Go.Ground.data }], guard := none }) (oL := { dst := none, op := Go.Op.store 70 (Go.Operand.tmp 17) (Go.Operand.tmp 15), type := 0, pos := "hear.go:128", after := #[{ on := 15, ground := Go.Ground.data }, { on := 13, ground := Go.Ground.data }, { on := 13, ground := Go.Ground.chain }, { on := 0, ground := Go.Ground.phase }, { on := 1, ground := Go.Ground.phase }, { on := 2, ground := Go.Ground.phase }, { on := 3, ground := Go.Ground.phase }, { on := 4, ground := Go.Ground.phase }, { on := 5, ground := Go.Ground.phase }, { on := 6, ground := Go.Ground.phase }, { on := 7, ground := Go.Ground.phase }, { on := 8, ground := Go.Ground.phase }, { on := 9, ground := Go.Ground.phase }, { on := 10, ground := Go.Ground.phase }, { on := 11, ground := Go.Ground.phase }, { on := 12, ground := Go.Ground.phase }, { on := 13, ground := Go.Ground.phase }], guard := none }) (v := .int .i64 (k : Int)) rfl rfl (by kernel_rfl) (by kernel_rfl) (by kernel_rfl) (by kernel_rfl) (fun _ _ _ h => h) (Or.inl ⟨by kernel_rfl, ?_⟩) (.inl rfl) ?_
  · (intro X hX; rcases hX with rfl | rfl <;> (go_simp; try (with_reducible rfl)))
  (try simp only [Act.put, List.setIfInBounds_toArray, List.set_cons_zero, List.set_cons_succ])
  refine wpAnyN_one (i := 13) (o := { dst := some 15, op := Go.Op.call { callee := Go.Callee.builtin Go.Builtin.append, args := #[Go.Operand.tmp 6, Go.Operand.tmp 14], argTypes := #[70, 3] }, type := 70, pos := "hear.go:128", after := #[{ on := 4, ground := Go.Ground.data }, { on := 12, ground := Go.Ground.data }], guard := none }) (by kernel_rfl) rfl (fun K hK => ?_)
  refine step_append_run rfl _ _ _ rfl _ rfl _ _ rfl rfl _ _ HRun.out ?_
  refine hK.out _ _ (fun _ => (.inr rfl)) ?_
  clear hK K
  (try simp only [Act.put, List.setIfInBounds_toArray, List.set_cons_zero, List.set_cons_succ])
  refine wpAnyN_take (i := 14) (oi := { dst := some 16, op := Go.Op.nilCheck (Go.Operand.tmp 2), type := 0, pos := "hear.go:128", after := #[{ on := 0, ground := Go.Ground.data }, { on := 0, ground := Go.Ground.phase }, { on := 1, ground := Go.Ground.phase }, { on := 2, ground := Go.Ground.phase }, { on := 3, ground := Go.Ground.phase }, { on := 4, ground := Go.Ground.phase }, { on := 5, ground := Go.Ground.phase }, { on := 6, ground := Go.Ground.phase }, { on := 7, ground := Go.Ground.phase }, { on := 8, ground := Go.Ground.phase }, { on := 9, ground := Go.Ground.phase }, { on := 10, ground := Go.Ground.phase }, { on := 11, ground := Go.Ground.phase }, { on := 12, ground := Go.Ground.phase }, { on := 13, ground := Go.Ground.phase }], guard := none }) (oL := { dst := none, op := Go.Op.store 70 (Go.Operand.tmp 17) (Go.Operand.tmp 15), type := 0, pos := "hear.go:128", after := #[{ on := 15, ground := Go.Ground.data }, { on := 13, ground := Go.Ground.data }, { on := 13, ground := Go.Ground.chain }, { on := 0, ground := Go.Ground.phase }, { on := 1, ground := Go.Ground.phase }, { on := 2, ground := Go.Ground.phase }, { on := 3, ground := Go.Ground.phase }, { on := 4, ground := Go.Ground.phase }, { on := 5, ground := Go.Ground.phase }, { on := 6, ground := Go.Ground.phase }, { on := 7, ground := Go.Ground.phase }, { on := 8, ground := Go.Ground.phase }, { on := 9, ground := Go.Ground.phase }, { on := 10, ground := Go.Ground.phase }, { on := 11, ground := Go.Ground.phase }, { on := 12, ground := Go.Ground.phase }, { on := 13, ground := Go.Ground.phase }], guard := none }) (v := .pointer (some ⟨P, 1, none⟩)) rfl rfl (by kernel_rfl) (by kernel_rfl) (by kernel_rfl) (by kernel_rfl) (fun _ _ _ h => h) (Or.inl ⟨by kernel_rfl, ?_⟩) (.inr rfl) ?_
  · (intro X hX; rcases hX with rfl | rfl <;> (go_simp; try (with_reducible rfl)))
  (try simp only [Act.put, List.setIfInBounds_toArray, List.set_cons_zero, List.set_cons_succ])
  refine wpAnyN_take (i := 15) (oi := { dst := some 17, op := Go.Op.fieldAddr 73 (Go.Operand.tmp 16) 4, type := 0, pos := "hear.go:128", after := #[{ on := 14, ground := Go.Ground.data }, { on := 0, ground := Go.Ground.phase }, { on := 1, ground := Go.Ground.phase }, { on := 2, ground := Go.Ground.phase }, { on := 3, ground := Go.Ground.phase }, { on := 4, ground := Go.Ground.phase }, { on := 5, ground := Go.Ground.phase }, { on := 6, ground := Go.Ground.phase }, { on := 7, ground := Go.Ground.phase }, { on := 8, ground := Go.Ground.phase }, { on := 9, ground := Go.Ground.phase }, { on := 10, ground := Go.Ground.phase }, { on := 11, ground := Go.Ground.phase }, { on := 12, ground := Go.Ground.phase }, { on := 13, ground := Go.Ground.phase }], guard := none }) (oL := { dst := none, op := Go.Op.store 70 (Go.Operand.tmp 17) (Go.Operand.tmp 15), type := 0, pos := "hear.go:128", after := #[{ on := 15, ground := Go.Ground.data }, { on := 13, ground := Go.Ground.data }, { on := 13, ground := Go.Ground.chain }, { on := 0, ground := Go.Ground.phase }, { on := 1, ground := Go.Ground.phase }, { on := 2, ground := Go.Ground.phase }, { on := 3, ground := Go.Ground.phase }, { on := 4, ground := Go.Ground.phase }, { on := 5, ground := Go.Ground.phase }, { on := 6, ground := Go.Ground.phase }, { on := 7, ground := Go.Ground.phase }, { on := 8, ground := Go.Ground.phase }, { on := 9, ground := Go.Ground.phase }, { on := 10, ground := Go.Ground.phase }, { on := 11, ground := Go.Ground.phase }, { on := 12, ground := Go.Ground.phase }, { on := 13, ground := Go.Ground.phase }], guard := none }) (v := .pointer (some ⟨P, 5, none⟩)) rfl rfl (by kernel_rfl) (by kernel_rfl) (by kernel_rfl) (by kernel_rfl) (fun _ _ _ h => h) (Or.inl ⟨by kernel_rfl, ?_⟩) (.inr rfl) ?_
  · (intro X hX; rcases hX with rfl | rfl <;> (go_simp; try (with_reducible rfl)))
  (try simp only [Act.put, List.setIfInBounds_toArray, List.set_cons_zero, List.set_cons_succ])
  refine wpAnyN_one (i := 16) (o := { dst := none, op := Go.Op.store 70 (Go.Operand.tmp 17) (Go.Operand.tmp 15), type := 0, pos := "hear.go:128", after := #[{ on := 15, ground := Go.Ground.data }, { on := 13, ground := Go.Ground.data }, { on := 13, ground := Go.Ground.chain }, { on := 0, ground := Go.Ground.phase }, { on := 1, ground := Go.Ground.phase }, { on := 2, ground := Go.Ground.phase }, { on := 3, ground := Go.Ground.phase }, { on := 4, ground := Go.Ground.phase }, { on := 5, ground := Go.Ground.phase }, { on := 6, ground := Go.Ground.phase }, { on := 7, ground := Go.Ground.phase }, { on := 8, ground := Go.Ground.phase }, { on := 9, ground := Go.Ground.phase }, { on := 10, ground := Go.Ground.phase }, { on := 11, ground := Go.Ground.phase }, { on := 12, ground := Go.Ground.phase }, { on := 13, ground := Go.Ground.phase }], guard := none }) (by kernel_rfl) rfl (fun K hK => ?_)
  go_simp
  refine hK.out _ _ (fun e => absurd (e.symm.trans (by kernel_rfl) : false = true) Bool.false_ne_true) ?_
  clear hK K
  (try simp only [Act.put, List.setIfInBounds_toArray, List.set_cons_zero, List.set_cons_succ])
  refine wpAnyN_of_H (S' := fun _ => True) _ _ _ _ (by kernel_rfl) ?_
  refine wpAnyH_done (by kernel_rfl) ?_ _
  go_wp2_with fail
  first | refine bodyPost_end (results_none rfl _ _ _) rfl ?_ | refine bodyPost_ret (results_none rfl _ _ _) rfl ?_
  have q := FIN.out
  first | exact ⟨rfl, _, ⟨q.1.os, q.1.tape, q.1.output, q.1.size, q.1.block⟩, q.2⟩ | exact ⟨_, ⟨q.1.os, q.1.tape, q.1.output, q.1.size, q.1.block⟩, q.2⟩
end Go.Proofs.YtlmlbcnjohjnlaaDoor

/- mirror: exists, by what is at hand. -/
namespace Go.Proofs.YtlmlbcnjohjnlaaDoor
open Go.RowKit

/-- What an EXISTS changes. -/
def exF (M : PM) (x : Int) : Option (PM → PM) :=
  if x > 262144 ∨ x < 0 then none
  else if opnM M = true then some (fun N => { N with rows := List.replicate x.toNat PR0 })
  else if telM M = false ∨ x < (M.rows.length : Int) then none
  else some (fun N => { N with rows := N.rows ++ List.replicate (x - (N.rows.length : Int)).toNat PR0 })
set_option maxRecDepth 10000 in
set_option maxHeartbeats 2000000 in
theorem exists_far (P : Nat) (fr : List Nat) (M : PM) (a : AN) (w : World) (hx : a.num > 262144 ∨ a.num < 0) : Calls Tryd.prog 32 #[.pointer (some ⟨P, 0, none⟩), .agg (anC a)] w (ChgOut P fr M none w) := by
  have q2 := two_below w (anO a) (ppO P)
  obtain ⟨Y, hY⟩ : ∃ Y, (w.alloc (anO a)).alloc (ppO P) = Y := ⟨_, rfl⟩
  have hz : Y.heap.size = w.heap.size + 1 + 1 := by rw [← hY]; simp
  rw [hY] at q2
  have r0 : Y.heap[w.heap.size]? = some (anO a) := by rw [← hY, Below.heap_alloc _ _ _ (by simp)]; exact heap_new _ _
  have r1 : Y.heap[w.heap.size + 1]? = some (ppO P) := by rw [← hY]; have := heap_new (w.alloc (anO a)) (ppO P); rw [show (w.alloc (anO a)).heap.size = w.heap.size + 1 from by simp] at this; exact this
  obtain ⟨_, _, _, _, _, c6⟩ := an_cells r0
  have Q2 := Lib.hid q2
  have HY := Lib.hid hY
  clear hY q2 r0 r1 hz
  by_cases hn : (262144 : Int) < a.num
  · unfold anO ppO at HY
    go_enter Tryd.func32, Tryd.ntmps32
    go_upto_region 2 with fail
    rw [HY.out]
    clear HY
    go_wp2_with fail
    go_ret
    exact ⟨Q2.out, rfl⟩
  · have hn2 : a.num < 0 := by omega
    unfold anO ppO at HY
    go_enter Tryd.func32, Tryd.ntmps32
    go_upto_region 2 with fail
    rw [HY.out]
    clear HY
    go_wp2_with fail
    go_ret
    exact ⟨Q2.out, rfl⟩
set_option maxRecDepth 10000 in
set_option maxHeartbeats 2000000 in
theorem exists_op (P : Nat) (fr : List Nat) (M : PM) (a : AN) (w : World) (h : MAt P fr M w) (hq : M.q.length ≤ 1000000) (h0 : 0 ≤ a.num) (h1 : a.num ≤ 262144) (hop : opnM M = true) : Calls Tryd.prog 32 #[.pointer (some ⟨P, 0, none⟩), .agg (anC a)] w (ChgOut P fr M (some (fun N => { N with rows := List.replicate a.num.toNat PR0 })) w) := by
  have q2 := two_below w (anO a) (ppO P)
  obtain ⟨Y, hY⟩ : ∃ Y, (w.alloc (anO a)).alloc (ppO P) = Y := ⟨_, rfl⟩
  have hz : Y.heap.size = w.heap.size + 1 + 1 := by rw [← hY]; simp
  rw [hY] at q2
  have r0 : Y.heap[w.heap.size]? = some (anO a) := by rw [← hY, Below.heap_alloc _ _ _ (by simp)]; exact heap_new _ _
  have r1 : Y.heap[w.heap.size + 1]? = some (ppO P) := by rw [← hY]; have := heap_new (w.alloc (anO a)) (ppO P); rw [show (w.alloc (anO a)).heap.size = w.heap.size + 1 from by simp] at this; exact this
  obtain ⟨_, _, _, _, _, c6⟩ := an_cells r0
  have Q2 := Lib.hid q2
  have HY := Lib.hid hY
  have HI : Hid (∀ X, Below Y.heap.size Y X → Calls Tryd.prog 28 #[.pointer (some ⟨P, 0, none⟩)] X fun e w' => e = .returned (.bool true) ∧ Below X.heap.size X w') := Lib.hid (fun X hX => by rw [← hop]; exact isOpening_M ((h.bel q2).bel hX) hq)
  have n0 : ¬ a.num < 0 := by omega
  have n1 : ¬ (262144 : Int) < a.num := by omega
  have hfrl := h.lt
  have fin : ∀ w', Below Y.heap.size Y w' → ChgOut P fr M (some (fun N => { N with rows := List.replicate a.num.toNat PR0 })) w (.returned (.func (.func 42) #[] #[.pointer (some ⟨w.heap.size, 0, none⟩), .pointer (some ⟨w.heap.size + 1, 0, none⟩)])) w' := fun w' hw' => by
    have bw := q2.trans (hw'.mono q2.size)
    refine ⟨bw, _, _, rfl, isFn_exists1, fun bb X _ hX hM => ?_⟩
    obtain ⟨q, rows, was, hM1, hQ, ⟨rs, hr1, hr2, hr3⟩, hW⟩ := hM.ex
    have xA := hX.at_ (bel_at hw' (by omega) r0) (fun e => by have := hfrl _ e; omega)
    have xp := hX.at_ (bel_at hw' (by omega) r1) (fun e => by have := hfrl _ e; omega)
    refine (exists1_any P q _ _ _ _ rows was _ a a.num.toNat (by omega) (by omega) w.heap.size (w.heap.size + 1) X xA xp hM1).mono ?_
    rintro e X' ⟨rfl, rv, hs, hm, hrr, hlo⟩
    have hB : w.heap.size ≤ X.heap.size := Nat.le_trans bw.size hX.size
    refine ⟨rfl, MAt.rows (nb := []) (rs := List.replicate a.num.toNat RW0) hM hM1 hQ hW hr1 hr2 hs hm rfl rfl (by simpa using hrr) ?_ (fun b e => ?_) (fun b hb => by cases hb)⟩
    · exact rows0_in _ _ _
    · rcases hlo b e with e' | e'
      · exact .inl (hr2 b e')
      · exact .inr (Nat.le_trans hB e')
  have FIN := Lib.hid fin
  clear hY q2 r0 r1 hz h hq h0 h1 hop fin hfrl
  unfold anO ppO at HY
  go_enter Tryd.func32, Tryd.ntmps32
  go_upto_region 2 with fail
  rw [HY.out]
  clear HY
  go_wp2_with (go_at_call 28; refine (HI.out _ (Below.refl _ _)).mono ?_; rintro e w3 ⟨rfl, hb3⟩; have HB3 := Lib.hid hb3; clear hb3)
  go_ret
  exact FIN.out _ HB3.out
set_option maxRecDepth 10000 in
set_option maxHeartbeats 2000000 in
theorem exists_no (P : Nat) (fr : List Nat) (M : PM) (a : AN) (w : World) (h : MAt P fr M w) (hq : M.q.length ≤ 1000000) (h0 : 0 ≤ a.num) (h1 : a.num ≤ 262144) (hop : opnM M = false) (htel : telM M = false) : Calls Tryd.prog 32 #[.pointer (some ⟨P, 0, none⟩), .agg (anC a)] w (ChgOut P fr M none w) := by
  have q2 := two_below w (anO a) (ppO P)
  obtain ⟨Y, hY⟩ : ∃ Y, (w.alloc (anO a)).alloc (ppO P) = Y := ⟨_, rfl⟩
  have hz : Y.heap.size = w.heap.size + 1 + 1 := by rw [← hY]; simp
  rw [hY] at q2
  have r0 : Y.heap[w.heap.size]? = some (anO a) := by rw [← hY, Below.heap_alloc _ _ _ (by simp)]; exact heap_new _ _
  have r1 : Y.heap[w.heap.size + 1]? = some (ppO P) := by rw [← hY]; have := heap_new (w.alloc (anO a)) (ppO P); rw [show (w.alloc (anO a)).heap.size = w.heap.size + 1 from by simp] at this; exact this
  obtain ⟨_, _, _, _, _, c6⟩ := an_cells r0
  have Q2 := Lib.hid q2
  have HY := Lib.hid hY
  have HI : Hid (∀ X, Below Y.heap.size Y X → Calls Tryd.prog 28 #[.pointer (some ⟨P, 0, none⟩)] X fun e w' => e = .returned (.bool false) ∧ Below X.heap.size X w') := Lib.hid (fun X hX => by rw [← hop]; exact isOpening_M ((h.bel q2).bel hX) hq)
  have HM : Hid (∀ X, Below Y.heap.size Y X → Calls Tryd.prog 43 #[.pointer (some ⟨P, 0, none⟩)] X fun e w' => e = .returned (.bool false) ∧ Below X.heap.size X w') := Lib.hid (fun X hX => by rw [← htel]; exact mayTell_M ((h.bel q2).bel hX) hq)
  have n0 : ¬ a.num < 0 := by omega
  have n1 : ¬ (262144 : Int) < a.num := by omega
  clear hY q2 r0 r1 hz h hq h0 h1 hop htel
  unfold anO ppO at HY
  go_enter Tryd.func32, Tryd.ntmps32
  go_upto_region 2 with fail
  rw [HY.out]
  clear HY
  go_upto_region 6 with (go_at_call 28; refine (HI.out _ (Below.refl _ _)).mono ?_; rintro e w3 ⟨rfl, hb3⟩; have HB3 := Lib.hid hb3; clear hb3)
  clear HI c6
  refine wp_region_N 13 (fun X => Below Y.heap.size Y X) (by kernel_rfl) ?_
  refine wpAnyN_take (i := 0) (oi := { dst := some 23, op := Go.Op.move (Go.Operand.tmp 0), type := 24, pos := "hear.go:125", after := #[], guard := none }) (oL := { dst := some 22, op := Go.Op.assign (Go.Operand.tmp 35), type := 4, pos := "hear.go:125", after := #[{ on := 12, ground := Go.Ground.data }, { on := 3, ground := Go.Ground.chain }], guard := none }) (v := .pointer (some ⟨P, 0, none⟩)) rfl rfl (by kernel_rfl) (by kernel_rfl) (by kernel_rfl) (by kernel_rfl) (fun _ _ _ h => h) (Or.inl ⟨by kernel_rfl, ?_⟩) HB3.out.drew ?_
  · (intro X hX; have _hX := hX <;> (go_simp; try (with_reducible rfl)))
  (try simp only [Act.put, List.setIfInBounds_toArray, List.set_cons_zero, List.set_cons_succ])
  refine wpAnyN_one (i := 1) (o := { dst := some 24, op := Go.Op.call { callee := Go.Callee.value (Go.Operand.func 43), args := #[Go.Operand.tmp 23], argTypes := #[24] }, type := 4, pos := "hear.go:125", after := #[{ on := 0, ground := Go.Ground.data }], guard := none }) (by kernel_rfl) rfl (fun K hK => ?_)
  go_simp
  refine (HM.out _ HB3.out.drew).mono ?_
  rintro e w4 ⟨rfl, hb4⟩
  have HB4 := Lib.hid hb4
  clear hb4
  refine hK.out _ _ (fun _ => ((HB3.out.drew).trans (HB4.out.mono HB3.out.size))) ?_
  clear hK K
  (try simp only [Act.put, List.setIfInBounds_toArray, List.set_cons_zero, List.set_cons_succ])
  refine wpAnyN_take (i := 2) (oi := { dst := some 25, op := Go.Op.unOp Go.UnOp.not 4 (Go.Operand.tmp 24), type := 4, pos := "hear.go:125", after := #[{ on := 1, ground := Go.Ground.data }], guard := none }) (oL := { dst := some 22, op := Go.Op.assign (Go.Operand.tmp 35), type := 4, pos := "hear.go:125", after := #[{ on := 12, ground := Go.Ground.data }, { on := 3, ground := Go.Ground.chain }], guard := none }) (v := .bool true) rfl rfl (by kernel_rfl) (by kernel_rfl) (by kernel_rfl) (by kernel_rfl) (fun _ _ _ h => h) (Or.inl ⟨by kernel_rfl, ?_⟩) ((HB3.out.drew).trans (HB4.out.mono HB3.out.size)) ?_
  · (intro X hX; have _hX := hX <;> (go_simp; try (with_reducible rfl)))
  (try simp only [Act.put, List.setIfInBounds_toArray, List.set_cons_zero, List.set_cons_succ])
  refine wpAnyN_take (i := 3) (oi := { dst := some 26, op := Go.Op.move (Go.Operand.tmp 25), type := 4, pos := "hear.go:125", after := #[{ on := 2, ground := Go.Ground.data }, { on := 1, ground := Go.Ground.chain }], guard := none }) (oL := { dst := some 22, op := Go.Op.assign (Go.Operand.tmp 35), type := 4, pos := "hear.go:125", after := #[{ on := 12, ground := Go.Ground.data }, { on := 3, ground := Go.Ground.chain }], guard := none }) (v := .bool true) rfl rfl (by kernel_rfl) (by kernel_rfl) (by kernel_rfl) (by kernel_rfl) (fun _ _ _ h => h) (Or.inl ⟨by kernel_rfl, ?_⟩) ((HB3.out.drew).trans (HB4.out.mono HB3.out.size)) ?_
  · (intro X hX; have _hX := hX <;> (go_simp; try (with_reducible rfl)))
  (try simp only [Act.put, List.setIfInBounds_toArray, List.set_cons_zero, List.set_cons_succ])
  refine wpAnyN_take (i := 4) (oi := { dst := some 27, op := Go.Op.fieldAddr 43 (Go.Operand.tmp 3) 6, type := 0, pos := "hear.go:125", after := #[{ on := 3, ground := Go.Ground.guard }], guard := some (3, false) }) (oL := { dst := some 22, op := Go.Op.assign (Go.Operand.tmp 35), type := 4, pos := "hear.go:125", after := #[{ on := 12, ground := Go.Ground.data }, { on := 3, ground := Go.Ground.chain }], guard := none }) (v := undef) rfl rfl (by kernel_rfl) (by kernel_rfl) (by kernel_rfl) (by kernel_rfl) (fun _ _ _ h => h) (Or.inr ⟨by kernel_rfl, rfl⟩) ((HB3.out.drew).trans (HB4.out.mono HB3.out.size)) ?_
  (try simp only [Act.put, List.setIfInBounds_toArray, List.set_cons_zero, List.set_cons_succ])
  refine wpAnyN_take (i := 5) (oi := { dst := some 28, op := Go.Op.load 3 (Go.Operand.tmp 27), type := 3, pos := "hear.go:125", after := #[{ on := 4, ground := Go.Ground.data }, { on := 3, ground := Go.Ground.guard }], guard := some (3, false) }) (oL := { dst := some 22, op := Go.Op.assign (Go.Operand.tmp 35), type := 4, pos := "hear.go:125", after := #[{ on := 12, ground := Go.Ground.data }, { on := 3, ground := Go.Ground.chain }], guard := none }) (v := undef) rfl rfl (by kernel_rfl) (by kernel_rfl) (by kernel_rfl) (by kernel_rfl) (fun _ _ _ h => h) (Or.inr ⟨by kernel_rfl, rfl⟩) ((HB3.out.drew).trans (HB4.out.mono HB3.out.size)) ?_
  (try simp only [Act.put, List.setIfInBounds_toArray, List.set_cons_zero, List.set_cons_succ])
  refine wpAnyN_take (i := 6) (oi := { dst := some 29, op := Go.Op.load 96 (Go.Operand.tmp 5), type := 96, pos := "hear.go:125", after := #[{ on := 3, ground := Go.Ground.guard }], guard := some (3, false) }) (oL := { dst := some 22, op := Go.Op.assign (Go.Operand.tmp 35), type := 4, pos := "hear.go:125", after := #[{ on := 12, ground := Go.Ground.data }, { on := 3, ground := Go.Ground.chain }], guard := none }) (v := undef) rfl rfl (by kernel_rfl) (by kernel_rfl) (by kernel_rfl) (by kernel_rfl) (fun _ _ _ h => h) (Or.inr ⟨by kernel_rfl, rfl⟩) ((HB3.out.drew).trans (HB4.out.mono HB3.out.size)) ?_
  (try simp only [Act.put, List.setIfInBounds_toArray, List.set_cons_zero, List.set_cons_succ])
  refine wpAnyN_take (i := 7) (oi := { dst := some 30, op := Go.Op.nilCheck (Go.Operand.tmp 29), type := 0, pos := "hear.go:125", after := #[{ on := 6, ground := Go.Ground.data }, { on := 3, ground := Go.Ground.guard }], guard := some (3, false) }) (oL := { dst := some 22, op := Go.Op.assign (Go.Operand.tmp 35), type := 4, pos := "hear.go:125", after := #[{ on := 12, ground := Go.Ground.data }, { on := 3, ground := Go.Ground.chain }], guard := none }) (v := undef) rfl rfl (by kernel_rfl) (by kernel_rfl) (by kernel_rfl) (by kernel_rfl) (fun _ _ _ h => h) (Or.inr ⟨by kernel_rfl, rfl⟩) ((HB3.out.drew).trans (HB4.out.mono HB3.out.size)) ?_
  (try simp only [Act.put, List.setIfInBounds_toArray, List.set_cons_zero, List.set_cons_succ])
  refine wpAnyN_take (i := 8) (oi := { dst := some 31, op := Go.Op.fieldAddr 73 (Go.Operand.tmp 30) 4, type := 0, pos := "hear.go:125", after := #[{ on := 7, ground := Go.Ground.data }, { on := 3, ground := Go.Ground.guard }], guard := some (3, false) }) (oL := { dst := some 22, op := Go.Op.assign (Go.Operand.tmp 35), type := 4, pos := "hear.go:125", after := #[{ on := 12, ground := Go.Ground.data }, { on := 3, ground := Go.Ground.chain }], guard := none }) (v := undef) rfl rfl (by kernel_rfl) (by kernel_rfl) (by kernel_rfl) (by kernel_rfl) (fun _ _ _ h => h) (Or.inr ⟨by kernel_rfl, rfl⟩) ((HB3.out.drew).trans (HB4.out.mono HB3.out.size)) ?_
  (try simp only [Act.put, List.setIfInBounds_toArray, List.set_cons_zero, List.set_cons_succ])
  refine wpAnyN_take (i := 9) (oi := { dst := some 32, op := Go.Op.load 70 (Go.Operand.tmp 31), type := 70, pos := "hear.go:125", after := #[{ on := 8, ground := Go.Ground.data }, { on := 3, ground := Go.Ground.guard }], guard := some (3, false) }) (oL := { dst := some 22, op := Go.Op.assign (Go.Operand.tmp 35), type := 4, pos := "hear.go:125", after := #[{ on := 12, ground := Go.Ground.data }, { on := 3, ground := Go.Ground.chain }], guard := none }) (v := undef) rfl rfl (by kernel_rfl) (by kernel_rfl) (by kernel_rfl) (by kernel_rfl) (fun _ _ _ h => h) (Or.inr ⟨by kernel_rfl, rfl⟩) ((HB3.out.drew).trans (HB4.out.mono HB3.out.size)) ?_
  (try simp only [Act.put, List.setIfInBounds_toArray, List.set_cons_zero, List.set_cons_succ])
  refine wpAnyN_take (i := 10) (oi := { dst := some 33, op := Go.Op.call { callee := Go.Callee.builtin Go.Builtin.len, args := #[Go.Operand.tmp 32], argTypes := #[70] }, type := 3, pos := "hear.go:125", after := #[{ on := 9, ground := Go.Ground.data }, { on := 3, ground := Go.Ground.guard }], guard := some (3, false) }) (oL := { dst := some 22, op := Go.Op.assign (Go.Operand.tmp 35), type := 4, pos := "hear.go:125", after := #[{ on := 12, ground := Go.Ground.data }, { on := 3, ground := Go.Ground.chain }], guard := none }) (v := undef) rfl rfl (by kernel_rfl) (by kernel_rfl) (by kernel_rfl) (by kernel_rfl) (fun _ _ _ h => h) (Or.inr ⟨by kernel_rfl, rfl⟩) ((HB3.out.drew).trans (HB4.out.mono HB3.out.size)) ?_
  (try simp only [Act.put, List.setIfInBounds_toArray, List.set_cons_zero, List.set_cons_succ])
  refine wpAnyN_take (i := 11) (oi := { dst := some 34, op := Go.Op.binOp Go.BinOp.lss 3 (Go.Operand.tmp 28) (Go.Operand.tmp 33) 3, type := 4, pos := "hear.go:125", after := #[{ on := 5, ground := Go.Ground.data }, { on := 10, ground := Go.Ground.data }, { on := 3, ground := Go.Ground.guard }], guard := some (3, false) }) (oL := { dst := some 22, op := Go.Op.assign (Go.Operand.tmp 35), type := 4, pos := "hear.go:125", after := #[{ on := 12, ground := Go.Ground.data }, { on := 3, ground := Go.Ground.chain }], guard := none }) (v := undef) rfl rfl (by kernel_rfl) (by kernel_rfl) (by kernel_rfl) (by kernel_rfl) (fun _ _ _ h => h) (Or.inr ⟨by kernel_rfl, rfl⟩) ((HB3.out.drew).trans (HB4.out.mono HB3.out.size)) ?_
  (try simp only [Act.put, List.setIfInBounds_toArray, List.set_cons_zero, List.set_cons_succ])
  refine wpAnyN_take (i := 12) (oi := { dst := some 35, op := Go.Op.pick (Go.Operand.tmp 26) (Go.Operand.const (Go.Value.bool true)) (Go.Operand.tmp 34), type := 4, pos := "hear.go:125", after := #[{ on := 3, ground := Go.Ground.data }, { on := 11, ground := Go.Ground.data }], guard := none }) (oL := { dst := some 22, op := Go.Op.assign (Go.Operand.tmp 35), type := 4, pos := "hear.go:125", after := #[{ on := 12, ground := Go.Ground.data }, { on := 3, ground := Go.Ground.chain }], guard := none }) (v := .bool true) rfl rfl (by kernel_rfl) (by kernel_rfl) (by kernel_rfl) (by kernel_rfl) (fun _ _ _ h => h) (Or.inl ⟨by kernel_rfl, ?_⟩) ((HB3.out.drew).trans (HB4.out.mono HB3.out.size)) ?_
  · (intro X hX; have _hX := hX <;> (go_simp; try (with_reducible rfl)))
  (try simp only [Act.put, List.setIfInBounds_toArray, List.set_cons_zero, List.set_cons_succ])
  refine wpAnyN_one (i := 13) (o := { dst := some 22, op := Go.Op.assign (Go.Operand.tmp 35), type := 4, pos := "hear.go:125", after := #[{ on := 12, ground := Go.Ground.data }, { on := 3, ground := Go.Ground.chain }], guard := none }) (by kernel_rfl) rfl (fun K hK => ?_)
  go_simp
  refine hK.out _ _ (fun e => absurd (e.symm.trans (by kernel_rfl) : false = true) Bool.false_ne_true) ?_
  clear hK K
  (try simp only [Act.put, List.setIfInBounds_toArray, List.set_cons_zero, List.set_cons_succ])
  refine wpAnyN_of_H (S' := fun _ => True) _ _ _ _ (by kernel_rfl) ?_
  refine wpAnyH_done (by kernel_rfl) ?_ _
  go_wp2_with fail
  go_ret
  exact ⟨Q2.out.trans ((((HB3.out.drew).trans (HB4.out.mono HB3.out.size))).mono Q2.out.size), rfl⟩
set_option maxRecDepth 10000 in
set_option maxHeartbeats 2000000 in
theorem exists_few (P : Nat) (fr : List Nat) (M : PM) (a : AN) (w : World) (h : MAt P fr M w) (hq : M.q.length ≤ 1000000) (h0 : 0 ≤ a.num) (h1 : a.num ≤ 262144) (hop : opnM M = false) (htel : telM M = true) (hlt : a.num < (M.rows.length : Int)) : Calls Tryd.prog 32 #[.pointer (some ⟨P, 0, none⟩), .agg (anC a)] w (ChgOut P fr M none w) := by
  have q2 := two_below w (anO a) (ppO P)
  obtain ⟨Y, hY⟩ : ∃ Y, (w.alloc (anO a)).alloc (ppO P) = Y := ⟨_, rfl⟩
  have hz : Y.heap.size = w.heap.size + 1 + 1 := by rw [← hY]; simp
  rw [hY] at q2
  have r0 : Y.heap[w.heap.size]? = some (anO a) := by rw [← hY, Below.heap_alloc _ _ _ (by simp)]; exact heap_new _ _
  have r1 : Y.heap[w.heap.size + 1]? = some (ppO P) := by rw [← hY]; have := heap_new (w.alloc (anO a)) (ppO P); rw [show (w.alloc (anO a)).heap.size = w.heap.size + 1 from by simp] at this; exact this
  obtain ⟨_, _, _, _, _, c6⟩ := an_cells r0
  have Q2 := Lib.hid q2
  have HY := Lib.hid hY
  have HI : Hid (∀ X, Below Y.heap.size Y X → Calls Tryd.prog 28 #[.pointer (some ⟨P, 0, none⟩)] X fun e w' => e = .returned (.bool false) ∧ Below X.heap.size X w') := Lib.hid (fun X hX => by rw [← hop]; exact isOpening_M ((h.bel q2).bel hX) hq)
  have HM : Hid (∀ X, Below Y.heap.size Y X → Calls Tryd.prog 43 #[.pointer (some ⟨P, 0, none⟩)] X fun e w' => e = .returned (.bool true) ∧ Below X.heap.size X w') := Lib.hid (fun X hX => by rw [← htel]; exact mayTell_M ((h.bel q2).bel hX) hq)
  have n0 : ¬ a.num < 0 := by omega
  have n1 : ¬ (262144 : Int) < a.num := by omega
  obtain ⟨q, rows, was, hM, hQ, ⟨rs, hr1, hr2, hr3⟩, hW⟩ := h.ex
  obtain ⟨ra, rc, rfl⟩ := hr1.shape
  obtain ⟨rn, hrn⟩ : ∃ rn, M.rows.length = rn := ⟨_, rfl⟩
  rw [hrn] at hM hr1
  have HX : Hid (∀ X, Below Y.heap.size Y X → X.cell? ⟨w.heap.size, 6, none⟩ = some (.int .i64 a.num) ∧ X.cell? ⟨w.heap.size + 1, 0, none⟩ = some (.pointer (some ⟨P, 1, none⟩)) ∧ X.cell? ⟨P, 5, none⟩ = some (.slice ra rn rc)) := Lib.hid (fun X hX => by
    refine ⟨(an_cells (bel_at hX (by omega) r0)).2.2.2.2.2, ?_, ?_⟩
    · have := bel_at hX (by omega) r1
      unfold ppO at this
      exact cell_of this 0
    · exact (mir_cells (bel_at (q2.trans (hX.mono q2.size)) (lt_of_heap hM) hM)).c5)
  have hl : a.num < (rn : Int) := by omega
  have dl : decide (a.num < (rn : Int)) = true := by simpa using hl
  clear hY q2 r0 r1 hz h hq h0 h1 hop htel hM hQ hr1 hr2 hr3 hW hrn hlt hl
  unfold anO ppO at HY
  go_enter Tryd.func32, Tryd.ntmps32
  go_upto_region 2 with fail
  rw [HY.out]
  clear HY
  go_upto_region 6 with (go_at_call 28; refine (HI.out _ (Below.refl _ _)).mono ?_; rintro e w3 ⟨rfl, hb3⟩; have HB3 := Lib.hid hb3; clear hb3)
  clear HI c6
  refine wp_region_N 13 (fun X => Below Y.heap.size Y X) (by kernel_rfl) ?_
  refine wpAnyN_take (i := 0) (oi := { dst := some 23, op := Go.Op.move (Go.Operand.tmp 0), type := 24, pos := "hear.go:125", after := #[], guard := none }) (oL := { dst := some 22, op := Go.Op.assign (Go.Operand.tmp 35), type := 4, pos := "hear.go:125", after := #[{ on := 12, ground := Go.Ground.data }, { on := 3, ground := Go.Ground.chain }], guard := none }) (v := .pointer (some ⟨P, 0, none⟩)) rfl rfl (by kernel_rfl) (by kernel_rfl) (by kernel_rfl) (by kernel_rfl) (fun _ _ _ h => h) (Or.inl ⟨by kernel_rfl, ?_⟩) HB3.out.drew ?_
  · (intro X hX; obtain ⟨x0, x1, x2⟩ := HX.out X hX <;> (go_simp; try (with_reducible rfl)))
  (try simp only [Act.put, List.setIfInBounds_toArray, List.set_cons_zero, List.set_cons_succ])
  refine wpAnyN_one (i := 1) (o := { dst := some 24, op := Go.Op.call { callee := Go.Callee.value (Go.Operand.func 43), args := #[Go.Operand.tmp 23], argTypes := #[24] }, type := 4, pos := "hear.go:125", after := #[{ on := 0, ground := Go.Ground.data }], guard := none }) (by kernel_rfl) rfl (fun K hK => ?_)
  go_simp
  refine (HM.out _ HB3.out.drew).mono ?_
  rintro e w4 ⟨rfl, hb4⟩
  have HB4 := Lib.hid hb4
  clear hb4
  refine hK.out _ _ (fun _ => ((HB3.out.drew).trans (HB4.out.mono HB3.out.size))) ?_
  clear hK K
  (try simp only [Act.put, List.setIfInBounds_toArray, List.set_cons_zero, List.set_cons_succ])
  refine wpAnyN_take (i := 2) (oi := { dst := some 25, op := Go.Op.unOp Go.UnOp.not 4 (Go.Operand.tmp 24), type := 4, pos := "hear.go:125", after := #[{ on := 1, ground := Go.Ground.data }], guard := none }) (oL := { dst := some 22, op := Go.Op.assign (Go.Operand.tmp 35), type := 4, pos := "hear.go:125", after := #[{ on := 12, ground := Go.Ground.data }, { on := 3, ground := Go.Ground.chain }], guard := none }) (v := .bool false) rfl rfl (by kernel_rfl) (by kernel_rfl) (by kernel_rfl) (by kernel_rfl) (fun _ _ _ h => h) (Or.inl ⟨by kernel_rfl, ?_⟩) ((HB3.out.drew).trans (HB4.out.mono HB3.out.size)) ?_
  · (intro X hX; obtain ⟨x0, x1, x2⟩ := HX.out X hX <;> (go_simp; try (with_reducible rfl)))
  (try simp only [Act.put, List.setIfInBounds_toArray, List.set_cons_zero, List.set_cons_succ])
  refine wpAnyN_take (i := 3) (oi := { dst := some 26, op := Go.Op.move (Go.Operand.tmp 25), type := 4, pos := "hear.go:125", after := #[{ on := 2, ground := Go.Ground.data }, { on := 1, ground := Go.Ground.chain }], guard := none }) (oL := { dst := some 22, op := Go.Op.assign (Go.Operand.tmp 35), type := 4, pos := "hear.go:125", after := #[{ on := 12, ground := Go.Ground.data }, { on := 3, ground := Go.Ground.chain }], guard := none }) (v := .bool false) rfl rfl (by kernel_rfl) (by kernel_rfl) (by kernel_rfl) (by kernel_rfl) (fun _ _ _ h => h) (Or.inl ⟨by kernel_rfl, ?_⟩) ((HB3.out.drew).trans (HB4.out.mono HB3.out.size)) ?_
  · (intro X hX; obtain ⟨x0, x1, x2⟩ := HX.out X hX <;> (go_simp; try (with_reducible rfl)))
  (try simp only [Act.put, List.setIfInBounds_toArray, List.set_cons_zero, List.set_cons_succ])
  refine wpAnyN_take (i := 4) (oi := { dst := some 27, op := Go.Op.fieldAddr 43 (Go.Operand.tmp 3) 6, type := 0, pos := "hear.go:125", after := #[{ on := 3, ground := Go.Ground.guard }], guard := some (3, false) }) (oL := { dst := some 22, op := Go.Op.assign (Go.Operand.tmp 35), type := 4, pos := "hear.go:125", after := #[{ on := 12, ground := Go.Ground.data }, { on := 3, ground := Go.Ground.chain }], guard := none }) (v := .pointer (some ⟨w.heap.size, 6, none⟩)) rfl rfl (by kernel_rfl) (by kernel_rfl) (by kernel_rfl) (by kernel_rfl) (fun _ _ _ h => h) (Or.inl ⟨by kernel_rfl, ?_⟩) ((HB3.out.drew).trans (HB4.out.mono HB3.out.size)) ?_
  · (intro X hX; obtain ⟨x0, x1, x2⟩ := HX.out X hX <;> (go_simp; try (with_reducible rfl)))
  (try simp only [Act.put, List.setIfInBounds_toArray, List.set_cons_zero, List.set_cons_succ])
  refine wpAnyN_take (i := 5) (oi := { dst := some 28, op := Go.Op.load 3 (Go.Operand.tmp 27), type := 3, pos := "hear.go:125", after := #[{ on := 4, ground := Go.Ground.data }, { on := 3, ground := Go.Ground.guard }], guard := some (3, false) }) (oL := { dst := some 22, op := Go.Op.assign (Go.Operand.tmp 35), type := 4, pos := "hear.go:125", after := #[{ on := 12, ground := Go.Ground.data }, { on := 3, ground := Go.Ground.chain }], guard := none }) (v := .int .i64 a.num) rfl rfl (by kernel_rfl) (by kernel_rfl) (by kernel_rfl) (by kernel_rfl) (fun _ _ _ h => h) (Or.inl ⟨by kernel_rfl, ?_⟩) ((HB3.out.drew).trans (HB4.out.mono HB3.out.size)) ?_
  · (intro X hX; obtain ⟨x0, x1, x2⟩ := HX.out X hX <;> (go_simp; try (with_reducible rfl)))
  (try simp only [Act.put, List.setIfInBounds_toArray, List.set_cons_zero, List.set_cons_succ])
  refine wpAnyN_take (i := 6) (oi := { dst := some 29, op := Go.Op.load 96 (Go.Operand.tmp 5), type := 96, pos := "hear.go:125", after := #[{ on := 3, ground := Go.Ground.guard }], guard := some (3, false) }) (oL := { dst := some 22, op := Go.Op.assign (Go.Operand.tmp 35), type := 4, pos := "hear.go:125", after := #[{ on := 12, ground := Go.Ground.data }, { on := 3, ground := Go.Ground.chain }], guard := none }) (v := .pointer (some ⟨P, 1, none⟩)) rfl rfl (by kernel_rfl) (by kernel_rfl) (by kernel_rfl) (by kernel_rfl) (fun _ _ _ h => h) (Or.inl ⟨by kernel_rfl, ?_⟩) ((HB3.out.drew).trans (HB4.out.mono HB3.out.size)) ?_
  · (intro X hX; obtain ⟨x0, x1, x2⟩ := HX.out X hX <;> (go_simp; try (with_reducible rfl)))
  (try simp only [Act.put, List.setIfInBounds_toArray, List.set_cons_zero, List.set_cons_succ])
  refine wpAnyN_take (i := 7) (oi := { dst := some 30, op := Go.Op.nilCheck (Go.Operand.tmp 29), type := 0, pos := "hear.go:125", after := #[{ on := 6, ground := Go.Ground.data }, { on := 3, ground := Go.Ground.guard }], guard := some (3, false) }) (oL := { dst := some 22, op := Go.Op.assign (Go.Operand.tmp 35), type := 4, pos := "hear.go:125", after := #[{ on := 12, ground := Go.Ground.data }, { on := 3, ground := Go.Ground.chain }], guard := none }) (v := .pointer (some ⟨P, 1, none⟩)) rfl rfl (by kernel_rfl) (by kernel_rfl) (by kernel_rfl) (by kernel_rfl) (fun _ _ _ h => h) (Or.inl ⟨by kernel_rfl, ?_⟩) ((HB3.out.drew).trans (HB4.out.mono HB3.out.size)) ?_
  · (intro X hX; obtain ⟨x0, x1, x2⟩ := HX.out X hX <;> (go_simp; try (with_reducible rfl)))
  (try simp only [Act.put, List.setIfInBounds_toArray, List.set_cons_zero, List.set_cons_succ])
  refine wpAnyN_take (i := 8) (oi := { dst := some 31, op := Go.Op.fieldAddr 73 (Go.Operand.tmp 30) 4, type := 0, pos := "hear.go:125", after := #[{ on := 7, ground := Go.Ground.data }, { on := 3, ground := Go.Ground.guard }], guard := some (3, false) }) (oL := { dst := some 22, op := Go.Op.assign (Go.Operand.tmp 35), type := 4, pos := "hear.go:125", after := #[{ on := 12, ground := Go.Ground.data }, { on := 3, ground := Go.Ground.chain }], guard := none }) (v := .pointer (some ⟨P, 5, none⟩)) rfl rfl (by kernel_rfl) (by kernel_rfl) (by kernel_rfl) (by kernel_rfl) (fun _ _ _ h => h) (Or.inl ⟨by kernel_rfl, ?_⟩) ((HB3.out.drew).trans (HB4.out.mono HB3.out.size)) ?_
  · (intro X hX; obtain ⟨x0, x1, x2⟩ := HX.out X hX <;> (go_simp; try (with_reducible rfl)))
  (try simp only [Act.put, List.setIfInBounds_toArray, List.set_cons_zero, List.set_cons_succ])
  refine wpAnyN_take (i := 9) (oi := { dst := some 32, op := Go.Op.load 70 (Go.Operand.tmp 31), type := 70, pos := "hear.go:125", after := #[{ on := 8, ground := Go.Ground.data }, { on := 3, ground := Go.Ground.guard }], guard := some (3, false) }) (oL := { dst := some 22, op := Go.Op.assign (Go.Operand.tmp 35), type := 4, pos := "hear.go:125", after := #[{ on := 12, ground := Go.Ground.data }, { on := 3, ground := Go.Ground.chain }], guard := none }) (v := .slice ra rn rc) rfl rfl (by kernel_rfl) (by kernel_rfl) (by kernel_rfl) (by kernel_rfl) (fun _ _ _ h => h) (Or.inl ⟨by kernel_rfl, ?_⟩) ((HB3.out.drew).trans (HB4.out.mono HB3.out.size)) ?_
  · (intro X hX; obtain ⟨x0, x1, x2⟩ := HX.out X hX <;> (go_simp; try (with_reducible rfl)))
  (try simp only [Act.put, List.setIfInBounds_toArray, List.set_cons_zero, List.set_cons_succ])
  refine wpAnyN_take (i := 10) (oi := { dst := some 33, op := Go.Op.call { callee := Go.Callee.builtin Go.Builtin.len, args := #[Go.Operand.tmp 32], argTypes := #[70] }, type := 3, pos := "hear.go:125", after := #[{ on := 9, ground := Go.Ground.data }, { on := 3, ground := Go.Ground.guard }], guard := some (3, false) }) (oL := { dst := some 22, op := Go.Op.assign (Go.Operand.tmp 35), type := 4, pos := "hear.go:125", after := #[{ on := 12, ground := Go.Ground.data }, { on := 3, ground := Go.Ground.chain }], guard := none }) (v := .int .i64 (rn : Int)) rfl rfl (by kernel_rfl) (by kernel_rfl) (by kernel_rfl) (by kernel_rfl) (fun _ _ _ h => h) (Or.inl ⟨by kernel_rfl, ?_⟩) ((HB3.out.drew).trans (HB4.out.mono HB3.out.size)) ?_
  · (intro X hX; obtain ⟨x0, x1, x2⟩ := HX.out X hX <;> (go_simp; try (with_reducible rfl)))
  (try simp only [Act.put, List.setIfInBounds_toArray, List.set_cons_zero, List.set_cons_succ])
  refine wpAnyN_take (i := 11) (oi := { dst := some 34, op := Go.Op.binOp Go.BinOp.lss 3 (Go.Operand.tmp 28) (Go.Operand.tmp 33) 3, type := 4, pos := "hear.go:125", after := #[{ on := 5, ground := Go.Ground.data }, { on := 10, ground := Go.Ground.data }, { on := 3, ground := Go.Ground.guard }], guard := some (3, false) }) (oL := { dst := some 22, op := Go.Op.assign (Go.Operand.tmp 35), type := 4, pos := "hear.go:125", after := #[{ on := 12, ground := Go.Ground.data }, { on := 3, ground := Go.Ground.chain }], guard := none }) (v := .bool true) rfl rfl (by kernel_rfl) (by kernel_rfl) (by kernel_rfl) (by kernel_rfl) (fun _ _ _ h => h) (Or.inl ⟨by kernel_rfl, ?_⟩) ((HB3.out.drew).trans (HB4.out.mono HB3.out.size)) ?_
  · (intro X hX; obtain ⟨x0, x1, x2⟩ := HX.out X hX <;> (go_simp; try (with_reducible rfl)))
  (try simp only [Act.put, List.setIfInBounds_toArray, List.set_cons_zero, List.set_cons_succ])
  refine wpAnyN_take (i := 12) (oi := { dst := some 35, op := Go.Op.pick (Go.Operand.tmp 26) (Go.Operand.const (Go.Value.bool true)) (Go.Operand.tmp 34), type := 4, pos := "hear.go:125", after := #[{ on := 3, ground := Go.Ground.data }, { on := 11, ground := Go.Ground.data }], guard := none }) (oL := { dst := some 22, op := Go.Op.assign (Go.Operand.tmp 35), type := 4, pos := "hear.go:125", after := #[{ on := 12, ground := Go.Ground.data }, { on := 3, ground := Go.Ground.chain }], guard := none }) (v := .bool true) rfl rfl (by kernel_rfl) (by kernel_rfl) (by kernel_rfl) (by kernel_rfl) (fun _ _ _ h => h) (Or.inl ⟨by kernel_rfl, ?_⟩) ((HB3.out.drew).trans (HB4.out.mono HB3.out.size)) ?_
  · (intro X hX; obtain ⟨x0, x1, x2⟩ := HX.out X hX <;> (go_simp; try (with_reducible rfl)))
  (try simp only [Act.put, List.setIfInBounds_toArray, List.set_cons_zero, List.set_cons_succ])
  refine wpAnyN_one (i := 13) (o := { dst := some 22, op := Go.Op.assign (Go.Operand.tmp 35), type := 4, pos := "hear.go:125", after := #[{ on := 12, ground := Go.Ground.data }, { on := 3, ground := Go.Ground.chain }], guard := none }) (by kernel_rfl) rfl (fun K hK => ?_)
  go_simp
  refine hK.out _ _ (fun e => absurd (e.symm.trans (by kernel_rfl) : false = true) Bool.false_ne_true) ?_
  clear hK K
  (try simp only [Act.put, List.setIfInBounds_toArray, List.set_cons_zero, List.set_cons_succ])
  refine wpAnyN_of_H (S' := fun _ => True) _ _ _ _ (by kernel_rfl) ?_
  refine wpAnyH_done (by kernel_rfl) ?_ _
  go_wp2_with fail
  go_ret
  exact ⟨Q2.out.trans ((((HB3.out.drew).trans (HB4.out.mono HB3.out.size))).mono Q2.out.size), rfl⟩
set_option maxRecDepth 10000 in
set_option maxHeartbeats 2000000 in
theorem exists_more (P : Nat) (fr : List Nat) (M : PM) (a : AN) (w : World) (h : MAt P fr M w) (hq : M.q.length ≤ 1000000) (h0 : 0 ≤ a.num) (h1 : a.num ≤ 262144) (hop : opnM M = false) (htel : telM M = true) (hle : (M.rows.length : Int) ≤ a.num) : Calls Tryd.prog 32 #[.pointer (some ⟨P, 0, none⟩), .agg (anC a)] w (ChgOut P fr M (some (fun N => { N with rows := N.rows ++ List.replicate (a.num - (N.rows.length : Int)).toNat PR0 })) w) := by
  have q2 := two_below w (anO a) (ppO P)
  obtain ⟨Y, hY⟩ : ∃ Y, (w.alloc (anO a)).alloc (ppO P) = Y := ⟨_, rfl⟩
  have hz : Y.heap.size = w.heap.size + 1 + 1 := by rw [← hY]; simp
  rw [hY] at q2
  have r0 : Y.heap[w.heap.size]? = some (anO a) := by rw [← hY, Below.heap_alloc _ _ _ (by simp)]; exact heap_new _ _
  have r1 : Y.heap[w.heap.size + 1]? = some (ppO P) := by rw [← hY]; have := heap_new (w.alloc (anO a)) (ppO P); rw [show (w.alloc (anO a)).heap.size = w.heap.size + 1 from by simp] at this; exact this
  obtain ⟨_, _, _, _, _, c6⟩ := an_cells r0
  have Q2 := Lib.hid q2
  have HY := Lib.hid hY
  have HI : Hid (∀ X, Below Y.heap.size Y X → Calls Tryd.prog 28 #[.pointer (some ⟨P, 0, none⟩)] X fun e w' => e = .returned (.bool false) ∧ Below X.heap.size X w') := Lib.hid (fun X hX => by rw [← hop]; exact isOpening_M ((h.bel q2).bel hX) hq)
  have HM : Hid (∀ X, Below Y.heap.size Y X → Calls Tryd.prog 43 #[.pointer (some ⟨P, 0, none⟩)] X fun e w' => e = .returned (.bool true) ∧ Below X.heap.size X w') := Lib.hid (fun X hX => by rw [← htel]; exact mayTell_M ((h.bel q2).bel hX) hq)
  have n0 : ¬ a.num < 0 := by omega
  have n1 : ¬ (262144 : Int) < a.num := by omega
  obtain ⟨q, rows, was, hM, hQ, ⟨rs, hr1, hr2, hr3⟩, hW⟩ := h.ex
  obtain ⟨ra, rc, rfl⟩ := hr1.shape
  obtain ⟨rn, hrn⟩ : ∃ rn, M.rows.length = rn := ⟨_, rfl⟩
  rw [hrn] at hM hr1
  have HX : Hid (∀ X, Below Y.heap.size Y X → X.cell? ⟨w.heap.size, 6, none⟩ = some (.int .i64 a.num) ∧ X.cell? ⟨w.heap.size + 1, 0, none⟩ = some (.pointer (some ⟨P, 1, none⟩)) ∧ X.cell? ⟨P, 5, none⟩ = some (.slice ra rn rc)) := Lib.hid (fun X hX => by
    refine ⟨(an_cells (bel_at hX (by omega) r0)).2.2.2.2.2, ?_, ?_⟩
    · have := bel_at hX (by omega) r1
      unfold ppO at this
      exact cell_of this 0
    · exact (mir_cells (bel_at (q2.trans (hX.mono q2.size)) (lt_of_heap hM) hM)).c5)
  have hl : ¬ a.num < (rn : Int) := by omega
  have dl : decide (a.num < (rn : Int)) = false := by simpa using hl
  have hfrl := h.lt
  have fin : ∀ w', Below Y.heap.size Y w' → ChgOut P fr M (some (fun N => { N with rows := N.rows ++ List.replicate (a.num - (N.rows.length : Int)).toNat PR0 })) w (.returned (.func (.func 44) #[] #[.pointer (some ⟨w.heap.size + 1, 0, none⟩), .pointer (some ⟨w.heap.size, 0, none⟩)])) w' := fun w' hw' => by
    have bw := q2.trans (hw'.mono q2.size)
    refine ⟨bw, _, _, rfl, isFn_exists2, fun bb X hbb hX hM => ?_⟩
    obtain rfl : bb = false := by cases bb with
      | false => rfl
      | true => rw [hop] at hbb; exact absurd (hbb.1 rfl) (by decide)
    have hN : bgM false M = M := rfl
    rw [hN] at hM ⊢
    obtain ⟨q, rows, was, hM1, hQ, ⟨rs, hr1, hr2, hr3⟩, hW⟩ := hM.ex
    have xA := hX.at_ (bel_at hw' (by omega) r0) (fun e => by have := hfrl _ e; omega)
    have xp := hX.at_ (bel_at hw' (by omega) r1) (fun e => by have := hfrl _ e; omega)
    obtain ⟨ra, rc, rfl⟩ := hr1.shape
    refine (exists2_any P q _ _ _ _ ra M.rows.length rc was _ (rwL rs) a a.num (a.num - (M.rows.length : Int)).toNat rfl (by omega) (by omega) w.heap.size (w.heap.size + 1) X xA xp hM1 hr1).mono ?_
    rintro e X' ⟨rfl, rv, hs, hm, hrr, hlo⟩
    have hB : w.heap.size ≤ X.heap.size := Nat.le_trans bw.size hX.size
    refine ⟨rfl, MAt.rows (nb := []) (rs := rs ++ List.replicate (a.num - (M.rows.length : Int)).toNat RW0) hM hM1 hQ hW hr1 hr2 hs hm rfl rfl ?_ ?_ (fun b e => ?_) (fun b hb => by cases hb)⟩
    · have e1 : rwL (rs ++ List.replicate (a.num - (M.rows.length : Int)).toNat RW0) = rwL rs ++ rwL (List.replicate (a.num - (M.rows.length : Int)).toNat RW0) := by simp [rwL]
      rw [e1]
      simpa using hrr
    · rw [List.append_nil]
      exact hr3.app (rows0_in _ _ _)
    · rcases hlo b e with e' | e'
      · exact .inl (hr2 b e')
      · exact .inr (Nat.le_trans hB e')
  have FIN := Lib.hid fin
  clear hY q2 r0 r1 hz h hq h0 h1 hop htel hM hQ hr1 hr2 hr3 hW hrn hle fin hfrl hl
  unfold anO ppO at HY
  go_enter Tryd.func32, Tryd.ntmps32
  go_upto_region 2 with fail
  rw [HY.out]
  clear HY
  go_upto_region 6 with (go_at_call 28; refine (HI.out _ (Below.refl _ _)).mono ?_; rintro e w3 ⟨rfl, hb3⟩; have HB3 := Lib.hid hb3; clear hb3)
  clear HI c6
  refine wp_region_N 13 (fun X => Below Y.heap.size Y X) (by kernel_rfl) ?_
  refine wpAnyN_take (i := 0) (oi := { dst := some 23, op := Go.Op.move (Go.Operand.tmp 0), type := 24, pos := "hear.go:125", after := #[], guard := none }) (oL := { dst := some 22, op := Go.Op.assign (Go.Operand.tmp 35), type := 4, pos := "hear.go:125", after := #[{ on := 12, ground := Go.Ground.data }, { on := 3, ground := Go.Ground.chain }], guard := none }) (v := .pointer (some ⟨P, 0, none⟩)) rfl rfl (by kernel_rfl) (by kernel_rfl) (by kernel_rfl) (by kernel_rfl) (fun _ _ _ h => h) (Or.inl ⟨by kernel_rfl, ?_⟩) HB3.out.drew ?_
  · (intro X hX; obtain ⟨x0, x1, x2⟩ := HX.out X hX <;> (go_simp; try (with_reducible rfl)))
  (try simp only [Act.put, List.setIfInBounds_toArray, List.set_cons_zero, List.set_cons_succ])
  refine wpAnyN_one (i := 1) (o := { dst := some 24, op := Go.Op.call { callee := Go.Callee.value (Go.Operand.func 43), args := #[Go.Operand.tmp 23], argTypes := #[24] }, type := 4, pos := "hear.go:125", after := #[{ on := 0, ground := Go.Ground.data }], guard := none }) (by kernel_rfl) rfl (fun K hK => ?_)
  go_simp
  refine (HM.out _ HB3.out.drew).mono ?_
  rintro e w4 ⟨rfl, hb4⟩
  have HB4 := Lib.hid hb4
  clear hb4
  refine hK.out _ _ (fun _ => ((HB3.out.drew).trans (HB4.out.mono HB3.out.size))) ?_
  clear hK K
  (try simp only [Act.put, List.setIfInBounds_toArray, List.set_cons_zero, List.set_cons_succ])
  refine wpAnyN_take (i := 2) (oi := { dst := some 25, op := Go.Op.unOp Go.UnOp.not 4 (Go.Operand.tmp 24), type := 4, pos := "hear.go:125", after := #[{ on := 1, ground := Go.Ground.data }], guard := none }) (oL := { dst := some 22, op := Go.Op.assign (Go.Operand.tmp 35), type := 4, pos := "hear.go:125", after := #[{ on := 12, ground := Go.Ground.data }, { on := 3, ground := Go.Ground.chain }], guard := none }) (v := .bool false) rfl rfl (by kernel_rfl) (by kernel_rfl) (by kernel_rfl) (by kernel_rfl) (fun _ _ _ h => h) (Or.inl ⟨by kernel_rfl, ?_⟩) ((HB3.out.drew).trans (HB4.out.mono HB3.out.size)) ?_
  · (intro X hX; obtain ⟨x0, x1, x2⟩ := HX.out X hX <;> (go_simp; try (with_reducible rfl)))
  (try simp only [Act.put, List.setIfInBounds_toArray, List.set_cons_zero, List.set_cons_succ])
  refine wpAnyN_take (i := 3) (oi := { dst := some 26, op := Go.Op.move (Go.Operand.tmp 25), type := 4, pos := "hear.go:125", after := #[{ on := 2, ground := Go.Ground.data }, { on := 1, ground := Go.Ground.chain }], guard := none }) (oL := { dst := some 22, op := Go.Op.assign (Go.Operand.tmp 35), type := 4, pos := "hear.go:125", after := #[{ on := 12, ground := Go.Ground.data }, { on := 3, ground := Go.Ground.chain }], guard := none }) (v := .bool false) rfl rfl (by kernel_rfl) (by kernel_rfl) (by kernel_rfl) (by kernel_rfl) (fun _ _ _ h => h) (Or.inl ⟨by kernel_rfl, ?_⟩) ((HB3.out.drew).trans (HB4.out.mono HB3.out.size)) ?_
  · (intro X hX; obtain ⟨x0, x1, x2⟩ := HX.out X hX <;> (go_simp; try (with_reducible rfl)))
  (try simp only [Act.put, List.setIfInBounds_toArray, List.set_cons_zero, List.set_cons_succ])
  refine wpAnyN_take (i := 4) (oi := { dst := some 27, op := Go.Op.fieldAddr 43 (Go.Operand.tmp 3) 6, type := 0, pos := "hear.go:125", after := #[{ on := 3, ground := Go.Ground.guard }], guard := some (3, false) }) (oL := { dst := some 22, op := Go.Op.assign (Go.Operand.tmp 35), type := 4, pos := "hear.go:125", after := #[{ on := 12, ground := Go.Ground.data }, { on := 3, ground := Go.Ground.chain }], guard := none }) (v := .pointer (some ⟨w.heap.size, 6, none⟩)) rfl rfl (by kernel_rfl) (by kernel_rfl) (by kernel_rfl) (by kernel_rfl) (fun _ _ _ h => h) (Or.inl ⟨by kernel_rfl, ?_⟩) ((HB3.out.drew).trans (HB4.out.mono HB3.out.size)) ?_
  · (intro X hX; obtain ⟨x0, x1, x2⟩ := HX.out X hX <;> (go_simp; try (with_reducible rfl)))
  (try simp only [Act.put, List.setIfInBounds_toArray, List.set_cons_zero, List.set_cons_succ])
  refine wpAnyN_take (i := 5) (oi := { dst := some 28, op := Go.Op.load 3 (Go.Operand.tmp 27), type := 3, pos := "hear.go:125", after := #[{ on := 4, ground := Go.Ground.data }, { on := 3, ground := Go.Ground.guard }], guard := some (3, false) }) (oL := { dst := some 22, op := Go.Op.assign (Go.Operand.tmp 35), type := 4, pos := "hear.go:125", after := #[{ on := 12, ground := Go.Ground.data }, { on := 3, ground := Go.Ground.chain }], guard := none }) (v := .int .i64 a.num) rfl rfl (by kernel_rfl) (by kernel_rfl) (by kernel_rfl) (by kernel_rfl) (fun _ _ _ h => h) (Or.inl ⟨by kernel_rfl, ?_⟩) ((HB3.out.drew).trans (HB4.out.mono HB3.out.size)) ?_
  · (intro X hX; obtain ⟨x0, x1, x2⟩ := HX.out X hX <;> (go_simp; try (with_reducible rfl)))
  (try simp only [Act.put, List.setIfInBounds_toArray, List.set_cons_zero, List.set_cons_succ])
  refine wpAnyN_take (i := 6) (oi := { dst := some 29, op := Go.Op.load 96 (Go.Operand.tmp 5), type := 96, pos := "hear.go:125", after := #[{ on := 3, ground := Go.Ground.guard }], guard := some (3, false) }) (oL := { dst := some 22, op := Go.Op.assign (Go.Operand.tmp 35), type := 4, pos := "hear.go:125", after := #[{ on := 12, ground := Go.Ground.data }, { on := 3, ground := Go.Ground.chain }], guard := none }) (v := .pointer (some ⟨P, 1, none⟩)) rfl rfl (by kernel_rfl) (by kernel_rfl) (by kernel_rfl) (by kernel_rfl) (fun _ _ _ h => h) (Or.inl ⟨by kernel_rfl, ?_⟩) ((HB3.out.drew).trans (HB4.out.mono HB3.out.size)) ?_
  · (intro X hX; obtain ⟨x0, x1, x2⟩ := HX.out X hX <;> (go_simp; try (with_reducible rfl)))
  (try simp only [Act.put, List.setIfInBounds_toArray, List.set_cons_zero, List.set_cons_succ])
  refine wpAnyN_take (i := 7) (oi := { dst := some 30, op := Go.Op.nilCheck (Go.Operand.tmp 29), type := 0, pos := "hear.go:125", after := #[{ on := 6, ground := Go.Ground.data }, { on := 3, ground := Go.Ground.guard }], guard := some (3, false) }) (oL := { dst := some 22, op := Go.Op.assign (Go.Operand.tmp 35), type := 4, pos := "hear.go:125", after := #[{ on := 12, ground := Go.Ground.data }, { on := 3, ground := Go.Ground.chain }], guard := none }) (v := .pointer (some ⟨P, 1, none⟩)) rfl rfl (by kernel_rfl) (by kernel_rfl) (by kernel_rfl) (by kernel_rfl) (fun _ _ _ h => h) (Or.inl ⟨by kernel_rfl, ?_⟩) ((HB3.out.drew).trans (HB4.out.mono HB3.out.size)) ?_
  · (intro X hX; obtain ⟨x0, x1, x2⟩ := HX.out X hX <;> (go_simp; try (with_reducible rfl)))
  (try simp only [Act.put, List.setIfInBounds_toArray, List.set_cons_zero, List.set_cons_succ])
  refine wpAnyN_take (i := 8) (oi := { dst := some 31, op := Go.Op.fieldAddr 73 (Go.Operand.tmp 30) 4, type := 0, pos := "hear.go:125", after := #[{ on := 7, ground := Go.Ground.data }, { on := 3, ground := Go.Ground.guard }], guard := some (3, false) }) (oL := { dst := some 22, op := Go.Op.assign (Go.Operand.tmp 35), type := 4, pos := "hear.go:125", after := #[{ on := 12, ground := Go.Ground.data }, { on := 3, ground := Go.Ground.chain }], guard := none }) (v := .pointer (some ⟨P, 5, none⟩)) rfl rfl (by kernel_rfl) (by kernel_rfl) (by kernel_rfl) (by kernel_rfl) (fun _ _ _ h => h) (Or.inl ⟨by kernel_rfl, ?_⟩) ((HB3.out.drew).trans (HB4.out.mono HB3.out.size)) ?_
  · (intro X hX; obtain ⟨x0, x1, x2⟩ := HX.out X hX <;> (go_simp; try (with_reducible rfl)))
  (try simp only [Act.put, List.setIfInBounds_toArray, List.set_cons_zero, List.set_cons_succ])
  refine wpAnyN_take (i := 9) (oi := { dst := some 32, op := Go.Op.load 70 (Go.Operand.tmp 31), type := 70, pos := "hear.go:125", after := #[{ on := 8, ground := Go.Ground.data }, { on := 3, ground := Go.Ground.guard }], guard := some (3, false) }) (oL := { dst := some 22, op := Go.Op.assign (Go.Operand.tmp 35), type := 4, pos := "hear.go:125", after := #[{ on := 12, ground := Go.Ground.data }, { on := 3, ground := Go.Ground.chain }], guard := none }) (v := .slice ra rn rc) rfl rfl (by kernel_rfl) (by kernel_rfl) (by kernel_rfl) (by kernel_rfl) (fun _ _ _ h => h) (Or.inl ⟨by kernel_rfl, ?_⟩) ((HB3.out.drew).trans (HB4.out.mono HB3.out.size)) ?_
  · (intro X hX; obtain ⟨x0, x1, x2⟩ := HX.out X hX <;> (go_simp; try (with_reducible rfl)))
  (try simp only [Act.put, List.setIfInBounds_toArray, List.set_cons_zero, List.set_cons_succ])
  refine wpAnyN_take (i := 10) (oi := { dst := some 33, op := Go.Op.call { callee := Go.Callee.builtin Go.Builtin.len, args := #[Go.Operand.tmp 32], argTypes := #[70] }, type := 3, pos := "hear.go:125", after := #[{ on := 9, ground := Go.Ground.data }, { on := 3, ground := Go.Ground.guard }], guard := some (3, false) }) (oL := { dst := some 22, op := Go.Op.assign (Go.Operand.tmp 35), type := 4, pos := "hear.go:125", after := #[{ on := 12, ground := Go.Ground.data }, { on := 3, ground := Go.Ground.chain }], guard := none }) (v := .int .i64 (rn : Int)) rfl rfl (by kernel_rfl) (by kernel_rfl) (by kernel_rfl) (by kernel_rfl) (fun _ _ _ h => h) (Or.inl ⟨by kernel_rfl, ?_⟩) ((HB3.out.drew).trans (HB4.out.mono HB3.out.size)) ?_
  · (intro X hX; obtain ⟨x0, x1, x2⟩ := HX.out X hX <;> (go_simp; try (with_reducible rfl)))
  (try simp only [Act.put, List.setIfInBounds_toArray, List.set_cons_zero, List.set_cons_succ])
  refine wpAnyN_take (i := 11) (oi := { dst := some 34, op := Go.Op.binOp Go.BinOp.lss 3 (Go.Operand.tmp 28) (Go.Operand.tmp 33) 3, type := 4, pos := "hear.go:125", after := #[{ on := 5, ground := Go.Ground.data }, { on := 10, ground := Go.Ground.data }, { on := 3, ground := Go.Ground.guard }], guard := some (3, false) }) (oL := { dst := some 22, op := Go.Op.assign (Go.Operand.tmp 35), type := 4, pos := "hear.go:125", after := #[{ on := 12, ground := Go.Ground.data }, { on := 3, ground := Go.Ground.chain }], guard := none }) (v := .bool false) rfl rfl (by kernel_rfl) (by kernel_rfl) (by kernel_rfl) (by kernel_rfl) (fun _ _ _ h => h) (Or.inl ⟨by kernel_rfl, ?_⟩) ((HB3.out.drew).trans (HB4.out.mono HB3.out.size)) ?_
  · (intro X hX; obtain ⟨x0, x1, x2⟩ := HX.out X hX <;> (go_simp; try (with_reducible rfl)))
  (try simp only [Act.put, List.setIfInBounds_toArray, List.set_cons_zero, List.set_cons_succ])
  refine wpAnyN_take (i := 12) (oi := { dst := some 35, op := Go.Op.pick (Go.Operand.tmp 26) (Go.Operand.const (Go.Value.bool true)) (Go.Operand.tmp 34), type := 4, pos := "hear.go:125", after := #[{ on := 3, ground := Go.Ground.data }, { on := 11, ground := Go.Ground.data }], guard := none }) (oL := { dst := some 22, op := Go.Op.assign (Go.Operand.tmp 35), type := 4, pos := "hear.go:125", after := #[{ on := 12, ground := Go.Ground.data }, { on := 3, ground := Go.Ground.chain }], guard := none }) (v := .bool false) rfl rfl (by kernel_rfl) (by kernel_rfl) (by kernel_rfl) (by kernel_rfl) (fun _ _ _ h => h) (Or.inl ⟨by kernel_rfl, ?_⟩) ((HB3.out.drew).trans (HB4.out.mono HB3.out.size)) ?_
  · (intro X hX; obtain ⟨x0, x1, x2⟩ := HX.out X hX <;> (go_simp; try (with_reducible rfl)))
  (try simp only [Act.put, List.setIfInBounds_toArray, List.set_cons_zero, List.set_cons_succ])
  refine wpAnyN_one (i := 13) (o := { dst := some 22, op := Go.Op.assign (Go.Operand.tmp 35), type := 4, pos := "hear.go:125", after := #[{ on := 12, ground := Go.Ground.data }, { on := 3, ground := Go.Ground.chain }], guard := none }) (by kernel_rfl) rfl (fun K hK => ?_)
  go_simp
  refine hK.out _ _ (fun e => absurd (e.symm.trans (by kernel_rfl) : false = true) Bool.false_ne_true) ?_
  clear hK K
  (try simp only [Act.put, List.setIfInBounds_toArray, List.set_cons_zero, List.set_cons_succ])
  refine wpAnyN_of_H (S' := fun _ => True) _ _ _ _ (by kernel_rfl) ?_
  refine wpAnyH_done (by kernel_rfl) ?_ _
  go_wp2_with fail
  go_ret
  exact FIN.out _ ((HB3.out.drew).trans (HB4.out.mono HB3.out.size))
theorem exists_M (P : Nat) (fr : List Nat) (M : PM) (a : AN) (w : World) (h : MAt P fr M w) (hq : M.q.length ≤ 1000000) : Calls Tryd.prog 32 #[.pointer (some ⟨P, 0, none⟩), .agg (anC a)] w (ChgOut P fr M (exF M a.num) w) := by
  unfold exF
  by_cases hx : a.num > 262144 ∨ a.num < 0
  · rw [if_pos hx]
    exact exists_far P fr M a w hx
  · rw [if_neg hx]
    by_cases ho : opnM M = true
    · rw [if_pos ho]
      exact exists_op P fr M a w h hq (by omega) (by omega) ho
    · rw [if_neg ho]
      have ho' : opnM M = false := by simpa using ho
      by_cases ht : telM M = false
      · rw [if_pos (.inl ht)]
        exact exists_no P fr M a w h hq (by omega) (by omega) ho' ht
      · have ht' : telM M = true := by simpa using ht
        by_cases hl : a.num < (M.rows.length : Int)
        · rw [if_pos (.inr hl)]
          exact exists_few P fr M a w h hq (by omega) (by omega) ho' ht' hl
        · rw [if_neg (fun e => e.elim ht hl)]
          exact exists_more P fr M a w h hq (by omega) (by omega) ho' ht' (by omega)
end Go.Proofs.YtlmlbcnjohjnlaaDoor

/- mirror: has, keepsNumbers, leaves; the first that waits is dropped. -/
namespace Go.Proofs.YtlmlbcnjohjnlaaDoor
open Go.RowKit

set_option maxRecDepth 10000 in
theorem has_M {P : Nat} {fr : List Nat} {M : PM} {X : World} (h : MAt P fr M X) (x : Int) : Calls Tryd.prog 46 #[.pointer (some ⟨P, 1, none⟩), .int .i64 x] X fun e w' => e = .returned (.bool (hasM M x)) ∧ w' = X := by
  obtain ⟨q, rows, was, hM, hQ, ⟨rs, hr1, hr2, hr3⟩, hW⟩ := h.ex
  obtain ⟨ra, rc, rfl⟩ := hr1.shape
  have m5 := (mir_cells hM).c5
  unfold hasM
  generalize M.rows.length = rn at *
  clear hM hQ hr1 hr2 hr3 hW h
  by_cases h1 : 1 ≤ x
  · have e1 : decide (1 ≤ x) = true := by simpa using h1
    by_cases h2 : x ≤ (rn : Int)
    · have e2 : decide (x ≤ (rn : Int)) = true := by simpa using h2
      rw [e1, e2]
      go_enter Tryd.func46, Tryd.ntmps46
      go_wp2_with fail
      go_ret
      first | exact ⟨rfl, rfl⟩ | trivial
    · have e2 : decide (x ≤ (rn : Int)) = false := by simpa using h2
      rw [e1, e2]
      go_enter Tryd.func46, Tryd.ntmps46
      go_wp2_with fail
      go_ret
      first | exact ⟨rfl, rfl⟩ | trivial
  · have e1 : decide (1 ≤ x) = false := by simpa using h1
    rw [e1]
    go_enter Tryd.func46, Tryd.ntmps46
    go_wp2_with fail
    go_ret
    first | exact ⟨rfl, rfl⟩ | trivial
set_option maxRecDepth 10000 in
theorem keeps_any (k : AK) (hs : ∃ sa sn sc, k.set = .slice sa sn sc) (w : World) : Calls Tryd.prog 45 #[.agg (akC k)] w fun e w' => e = .returned (.bool ((k.verb == 21 || k.verb == 22 || k.verb == 20 || k.verb == 25 || k.verb == 26) && !k.uid)) ∧ Below w.heap.size w w' := by
  obtain ⟨t, vb, u, s, st⟩ := k
  obtain ⟨sa, sn, sc, hs⟩ := hs
  simp only at hs
  subst hs
  have q := Lib.hid ((Below.refl w.heap.size w).alloc (Nat.le_refl _) (.cells #[.string t, .int .i64 vb, .bool u, .bool s, .slice sa sn sc] 78))
  unfold akC
  dsimp only
  by_cases h0 : vb = 21
  · subst h0
    go_enter Tryd.func45, Tryd.ntmps45
    go_wp2_with fail
    go_ret
    first | exact ⟨by simp, q.out⟩ | exact ⟨rfl, q.out⟩ | exact q.out
  by_cases h1 : vb = 22
  · subst h1
    clear h0
    go_enter Tryd.func45, Tryd.ntmps45
    go_wp2_with fail
    go_ret
    first | exact ⟨by simp, q.out⟩ | exact ⟨rfl, q.out⟩ | exact q.out
  by_cases h2 : vb = 20
  · subst h2
    clear h0
    clear h1
    go_enter Tryd.func45, Tryd.ntmps45
    go_wp2_with fail
    go_ret
    first | exact ⟨by simp, q.out⟩ | exact ⟨rfl, q.out⟩ | exact q.out
  by_cases h3 : vb = 25
  · subst h3
    clear h0
    clear h1
    clear h2
    go_enter Tryd.func45, Tryd.ntmps45
    go_wp2_with fail
    go_ret
    first | exact ⟨by simp, q.out⟩ | exact ⟨rfl, q.out⟩ | exact q.out
  by_cases h4 : vb = 26
  · subst h4
    clear h0
    clear h1
    clear h2
    clear h3
    go_enter Tryd.func45, Tryd.ntmps45
    go_wp2_with fail
    go_ret
    first | exact ⟨by simp, q.out⟩ | exact ⟨rfl, q.out⟩ | exact q.out
  have e0 : (vb == 21) = false := by simpa using h0
  have e1 : (vb == 22) = false := by simpa using h1
  have e2 : (vb == 20) = false := by simpa using h2
  have e3 : (vb == 25) = false := by simpa using h3
  have e4 : (vb == 26) = false := by simpa using h4
  clear h0 h1 h2 h3 h4
  rw [e0, e1, e2, e3, e4]
  go_enter Tryd.func45, Tryd.ntmps45
  go_wp2_with fail
  go_ret
  first | exact ⟨rfl, q.out⟩ | (simp; exact q.out) | exact q.out
set_option maxRecDepth 10000 in
theorem leaves_any (k : AK) (hs : ∃ sa sn sc, k.set = .slice sa sn sc) (w : World) : Calls Tryd.prog 57 #[.agg (akC k)] w fun e w' => e = .returned (.bool (k.verb == 17 || k.verb == 18 || k.verb == 3)) ∧ Below w.heap.size w w' := by
  obtain ⟨t, vb, u, s, st⟩ := k
  obtain ⟨sa, sn, sc, hs⟩ := hs
  simp only at hs
  subst hs
  have q := Lib.hid ((Below.refl w.heap.size w).alloc (Nat.le_refl _) (.cells #[.string t, .int .i64 vb, .bool u, .bool s, .slice sa sn sc] 78))
  unfold akC
  dsimp only
  by_cases h0 : vb = 17
  · subst h0
    go_enter Tryd.func57, Tryd.ntmps57
    go_wp2_with fail
    go_ret
    first | exact ⟨by simp, q.out⟩ | exact ⟨rfl, q.out⟩ | exact q.out
  by_cases h1 : vb = 18
  · subst h1
    clear h0
    go_enter Tryd.func57, Tryd.ntmps57
    go_wp2_with fail
    go_ret
    first | exact ⟨by simp, q.out⟩ | exact ⟨rfl, q.out⟩ | exact q.out
  by_cases h2 : vb = 3
  · subst h2
    clear h0
    clear h1
    go_enter Tryd.func57, Tryd.ntmps57
    go_wp2_with fail
    go_ret
    first | exact ⟨by simp, q.out⟩ | exact ⟨rfl, q.out⟩ | exact q.out
  have e0 : (vb == 17) = false := by simpa using h0
  have e1 : (vb == 18) = false := by simpa using h1
  have e2 : (vb == 3) = false := by simpa using h2
  clear h0 h1 h2
  rw [e0, e1, e2]
  go_enter Tryd.func57, Tryd.ntmps57
  go_wp2_with fail
  go_ret
  first | exact ⟨rfl, q.out⟩ | (simp; exact q.out) | exact q.out
def DropOut (P g : Nat) (sel : Bool) (v nx h : Int) (rows was : Value) (bg : Bool) (n : Nat) (xs : List Value) (w : World) (e : Ending) (w' : World) : Prop := e = .returned (.tuple #[]) ∧ Stays [P, g] w w' ∧ ∃ q', w'.heap[P]? = some (mirO q' sel v nx h rows was bg) ∧ RowAt w' 78 5 q' n xs ∧ q'.ownBlock = some g
set_option maxRecDepth 10000 in
set_option maxHeartbeats 2000000 in
theorem drop_row (P : Nat) (sel : Bool) (v nx h : Int) (rows was : Value) (bg : Bool) (g o n c : Nat) (cur : Array Value) (xs : List Value) (w : World) (hM : w.heap[P]? = some (mirO (.slice (some ⟨g, o, none⟩) (n + 1) c) sel v nx h rows was bg)) (hG : w.heap[g]? = some (.cells cur 78 (0, 0))) (hnc : n + 1 ≤ c) (hs : o + c * 5 ≤ cur.size) (htk : (cur.toList.drop o).take ((n + 1) * 5) = xs) (hn : n ≤ 1000000) :
    Calls Tryd.prog 56 #[.pointer (some ⟨P, 0, none⟩)] w (DropOut P g sel v nx h rows was bg n (xs.drop 5) w) := by
  have hne : P ≠ g := kind_ne hM hG (by decide)
  have hPl := lt_of_heap hM
  have hGl := lt_of_heap hG
  obtain ⟨Y, hY⟩ : ∃ Y, w.alloc akZ = Y := ⟨_, rfl⟩
  have s0 : Stays [P, g] w Y := by rw [← hY]; exact (Stays.refl _ _).alloc _
  have yP : Y.heap[P]? = some (mirO (.slice (some ⟨g, o, none⟩) (n + 1) c) sel v nx h rows was bg) := by rw [← hY, Below.heap_alloc _ _ _ hPl]; exact hM
  have yG : Y.heap[g]? = some (.cells cur 78 (0, 0)) := by rw [← hY, Below.heap_alloc _ _ _ hGl]; exact hG
  have yZ : Y.heap[w.heap.size]? = some akZ := by rw [← hY]; exact heap_new _ _
  unfold akZ at yZ
  have z0 : Y.cell? ⟨w.heap.size, 0, none⟩ = some (.string ⟨#[]⟩) := cell_of yZ 0
  have z1 : Y.cell? ⟨w.heap.size, 1, none⟩ = some (.int .i64 0) := cell_of yZ 1
  have z2 : Y.cell? ⟨w.heap.size, 2, none⟩ = some (.bool false) := cell_of yZ 2
  have z3 : Y.cell? ⟨w.heap.size, 3, none⟩ = some (.bool false) := cell_of yZ 3
  have z4 : Y.cell? ⟨w.heap.size, 4, none⟩ = some (.slice none 0 0) := cell_of yZ 4
  have m0 := (mir_cells yP).c0
  have hc5 : o + 5 ≤ cur.size := by omega
  have k0 : Y.cell? ⟨g, o, none⟩ = some (cur[o]'(by omega)) := by rw [cell_of yG]; exact Array.getElem?_eq_getElem _
  have k1 : Y.cell? ⟨g, o + 1, none⟩ = some (cur[o + 1]'(by omega)) := by rw [cell_of yG]; exact Array.getElem?_eq_getElem _
  have k2 : Y.cell? ⟨g, o + 2, none⟩ = some (cur[o + 2]'(by omega)) := by rw [cell_of yG]; exact Array.getElem?_eq_getElem _
  have k3 : Y.cell? ⟨g, o + 3, none⟩ = some (cur[o + 3]'(by omega)) := by rw [cell_of yG]; exact Array.getElem?_eq_getElem _
  have k4 : Y.cell? ⟨g, o + 4, none⟩ = some (cur[o + 4]'(by omega)) := by rw [cell_of yG]; exact Array.getElem?_eq_getElem _
  generalize cur[o]'(by omega) = u0 at k0
  generalize cur[o + 1]'(by omega) = u1 at k1
  generalize cur[o + 2]'(by omega) = u2 at k2
  generalize cur[o + 3]'(by omega) = u3 at k3
  generalize cur[o + 4]'(by omega) = u4 at k4
  have f0 := frozen_of yG o
  have f1 := frozen_of yG (o + 1)
  have f2 := frozen_of yG (o + 2)
  have f3 := frozen_of yG (o + 3)
  have f4 := frozen_of yG (o + 4)
  have hi0 : (0 : Int) < (n : Int) + 1 := by omega
  have S0 := Lib.hid s0
  have YP := Lib.hid yP
  have YG := Lib.hid yG
  have HY := Lib.hid hY
  have HN := Lib.hid hne
  have HT := Lib.hid (And.intro htk (And.intro hs hnc))
  clear hM hG hPl hGl hY s0 yP yG yZ hne hc5 htk hs
  unfold akZ at HY
  go_enter Tryd.func56, Tryd.ntmps56
  go_upto_region 1 with fail
  rw [HY.out]
  clear HY
  refine wp_region_N 6 (fun X => X = Y.drew) (by kernel_rfl) ?_
  refine wpAnyN_take (i := 0) (oi := { dst := some 3, op := Go.Op.move (Go.Operand.tmp 0), type := 86, pos := "queue.go:22", after := #[], guard := none }) (oL := { dst := none, op := Go.Op.store 78 (Go.Operand.tmp 8) (Go.Operand.tmp 7), type := 0, pos := "queue.go:22", after := #[{ on := 5, ground := Go.Ground.data }, { on := 4, ground := Go.Ground.data }, { on := 0, ground := Go.Ground.phase }, { on := 1, ground := Go.Ground.phase }, { on := 2, ground := Go.Ground.phase }, { on := 3, ground := Go.Ground.phase }, { on := 4, ground := Go.Ground.phase }], guard := none }) (v := .pointer (some ⟨P, 0, none⟩)) rfl rfl (by kernel_rfl) (by kernel_rfl) (by kernel_rfl) (by kernel_rfl) (fun _ _ _ h => h) (Or.inl ⟨by kernel_rfl, ?_⟩) rfl ?_
  · (intro X hX; subst hX <;> (go_simp; try (with_reducible rfl)))
  (try simp only [Act.put, List.setIfInBounds_toArray, List.set_cons_zero, List.set_cons_succ])
  refine wpAnyN_take (i := 1) (oi := { dst := some 4, op := Go.Op.nilCheck (Go.Operand.tmp 3), type := 0, pos := "queue.go:22", after := #[{ on := 0, ground := Go.Ground.data }], guard := none }) (oL := { dst := none, op := Go.Op.store 78 (Go.Operand.tmp 8) (Go.Operand.tmp 7), type := 0, pos := "queue.go:22", after := #[{ on := 5, ground := Go.Ground.data }, { on := 4, ground := Go.Ground.data }, { on := 0, ground := Go.Ground.phase }, { on := 1, ground := Go.Ground.phase }, { on := 2, ground := Go.Ground.phase }, { on := 3, ground := Go.Ground.phase }, { on := 4, ground := Go.Ground.phase }], guard := none }) (v := .pointer (some ⟨P, 0, none⟩)) rfl rfl (by kernel_rfl) (by kernel_rfl) (by kernel_rfl) (by kernel_rfl) (fun _ _ _ h => h) (Or.inl ⟨by kernel_rfl, ?_⟩) rfl ?_
  · (intro X hX; subst hX <;> (go_simp; try (with_reducible rfl)))
  (try simp only [Act.put, List.setIfInBounds_toArray, List.set_cons_zero, List.set_cons_succ])
  refine wpAnyN_take (i := 2) (oi := { dst := some 5, op := Go.Op.fieldAddr 69 (Go.Operand.tmp 4) 0, type := 0, pos := "queue.go:22", after := #[{ on := 1, ground := Go.Ground.data }], guard := none }) (oL := { dst := none, op := Go.Op.store 78 (Go.Operand.tmp 8) (Go.Operand.tmp 7), type := 0, pos := "queue.go:22", after := #[{ on := 5, ground := Go.Ground.data }, { on := 4, ground := Go.Ground.data }, { on := 0, ground := Go.Ground.phase }, { on := 1, ground := Go.Ground.phase }, { on := 2, ground := Go.Ground.phase }, { on := 3, ground := Go.Ground.phase }, { on := 4, ground := Go.Ground.phase }], guard := none }) (v := .pointer (some ⟨P, 0, none⟩)) rfl rfl (by kernel_rfl) (by kernel_rfl) (by kernel_rfl) (by kernel_rfl) (fun _ _ _ h => h) (Or.inl ⟨by kernel_rfl, ?_⟩) rfl ?_
  · (intro X hX; subst hX <;> (go_simp; try (with_reducible rfl)))
  (try simp only [Act.put, List.setIfInBounds_toArray, List.set_cons_zero, List.set_cons_succ])
  refine wpAnyN_take (i := 3) (oi := { dst := some 6, op := Go.Op.load 67 (Go.Operand.tmp 5), type := 67, pos := "queue.go:22", after := #[{ on := 2, ground := Go.Ground.data }], guard := none }) (oL := { dst := none, op := Go.Op.store 78 (Go.Operand.tmp 8) (Go.Operand.tmp 7), type := 0, pos := "queue.go:22", after := #[{ on := 5, ground := Go.Ground.data }, { on := 4, ground := Go.Ground.data }, { on := 0, ground := Go.Ground.phase }, { on := 1, ground := Go.Ground.phase }, { on := 2, ground := Go.Ground.phase }, { on := 3, ground := Go.Ground.phase }, { on := 4, ground := Go.Ground.phase }], guard := none }) (v := .slice (some ⟨g, o, none⟩) (n + 1) c) rfl rfl (by kernel_rfl) (by kernel_rfl) (by kernel_rfl) (by kernel_rfl) (fun _ _ _ h => h) (Or.inl ⟨by kernel_rfl, ?_⟩) rfl ?_
  · (intro X hX; subst hX <;> (go_simp; try (with_reducible rfl)))
  (try simp only [Act.put, List.setIfInBounds_toArray, List.set_cons_zero, List.set_cons_succ])
  refine wpAnyN_take (i := 4) (oi := { dst := some 7, op := Go.Op.load 78 (Go.Operand.tmp 2), type := 78, pos := "queue.go:22", after := #[], guard := none }) (oL := { dst := none, op := Go.Op.store 78 (Go.Operand.tmp 8) (Go.Operand.tmp 7), type := 0, pos := "queue.go:22", after := #[{ on := 5, ground := Go.Ground.data }, { on := 4, ground := Go.Ground.data }, { on := 0, ground := Go.Ground.phase }, { on := 1, ground := Go.Ground.phase }, { on := 2, ground := Go.Ground.phase }, { on := 3, ground := Go.Ground.phase }, { on := 4, ground := Go.Ground.phase }], guard := none }) (v := .agg #[.string ⟨#[]⟩, .int .i64 0, .bool false, .bool false, .slice none 0 0]) rfl rfl (by kernel_rfl) (by kernel_rfl) (by kernel_rfl) (by kernel_rfl) (fun _ _ _ h => h) (Or.inl ⟨by kernel_rfl, ?_⟩) rfl ?_
  · (intro X hX; subst hX <;> (go_simp; try (with_reducible rfl)))
  (try simp only [Act.put, List.setIfInBounds_toArray, List.set_cons_zero, List.set_cons_succ])
  refine wpAnyN_take (i := 5) (oi := { dst := some 8, op := Go.Op.indexAddr 67 (Go.Operand.tmp 6) (Go.Operand.const (Go.Value.int Go.IntKind.i64 0)), type := 0, pos := "queue.go:22", after := #[{ on := 3, ground := Go.Ground.data }, { on := 0, ground := Go.Ground.phase }, { on := 1, ground := Go.Ground.phase }, { on := 2, ground := Go.Ground.phase }, { on := 3, ground := Go.Ground.phase }, { on := 4, ground := Go.Ground.phase }], guard := none }) (oL := { dst := none, op := Go.Op.store 78 (Go.Operand.tmp 8) (Go.Operand.tmp 7), type := 0, pos := "queue.go:22", after := #[{ on := 5, ground := Go.Ground.data }, { on := 4, ground := Go.Ground.data }, { on := 0, ground := Go.Ground.phase }, { on := 1, ground := Go.Ground.phase }, { on := 2, ground := Go.Ground.phase }, { on := 3, ground := Go.Ground.phase }, { on := 4, ground := Go.Ground.phase }], guard := none }) (v := .pointer (some ⟨g, o, none⟩)) rfl rfl (by kernel_rfl) (by kernel_rfl) (by kernel_rfl) (by kernel_rfl) (fun _ _ _ h => h) (Or.inl ⟨by kernel_rfl, ?_⟩) rfl ?_
  · (intro X hX; subst hX <;> (go_simp; try (with_reducible rfl)))
  (try simp only [Act.put, List.setIfInBounds_toArray, List.set_cons_zero, List.set_cons_succ])
  refine wpAnyN_one (i := 6) (o := { dst := none, op := Go.Op.store 78 (Go.Operand.tmp 8) (Go.Operand.tmp 7), type := 0, pos := "queue.go:22", after := #[{ on := 5, ground := Go.Ground.data }, { on := 4, ground := Go.Ground.data }, { on := 0, ground := Go.Ground.phase }, { on := 1, ground := Go.Ground.phase }, { on := 2, ground := Go.Ground.phase }, { on := 3, ground := Go.Ground.phase }, { on := 4, ground := Go.Ground.phase }], guard := none }) (by kernel_rfl) rfl (fun K hK => ?_)
  go_simp
  refine hK.out _ _ (fun e => absurd (e.symm.trans (by kernel_rfl) : false = true) Bool.false_ne_true) ?_
  clear hK K
  (try simp only [Act.put, List.setIfInBounds_toArray, List.set_cons_zero, List.set_cons_succ])
  refine wpAnyN_of_H (S' := fun _ => True) _ _ _ _ (by kernel_rfl) ?_
  refine wpAnyH_done (by kernel_rfl) ?_ _
  go_upto_region 2 with fail
  clear z0 z1 z2 z3 z4 m0 k0 k1 k2 k3 k4 f0 f1 f2 f3 f4
  refine wp_gen (fun Z hZ => ?_)
  have sc : ∀ (X : World) (o : Nat) (u : Value), (X.setCell ⟨g, o, none⟩ u).heap[P]? = X.heap[P]? := fun X o u => Below.heap_setCell _ _ _ _ HN.out
  have zP : Z.heap[P]? = some (mirO (.slice (some ⟨g, o, none⟩) (n + 1) c) sel v nx h rows was bg) := by
    rw [hZ]
    simp only [sc, World.drew]
    exact YP.out
  have zG : ∃ cur' : Array Value, Z.heap[g]? = some (.cells cur' 78 (0, 0)) ∧ cur'.size = cur.size ∧ cur'.toList.drop (o + 5) = cur.toList.drop (o + 5) := by
    rw [hZ]
    have y := YG.out
    have yd : Y.drew.heap[g]? = some (.cells cur 78 (0, 0)) := y
    first
      | refine ⟨_, heap_setCell_at _ (heap_setCell_at _ (heap_setCell_at _ (heap_setCell_at _ (heap_setCell_at _ yd)))), by simp, ?_⟩
      | refine ⟨_, heap_setCell_at _ (heap_setCell_at _ (heap_setCell_at _ (heap_setCell_at _ (heap_setCell_at _ y)))), by simp, ?_⟩
    simp only [Array.toList_setIfInBounds]
    rw [List.drop_set_of_lt (by omega), List.drop_set_of_lt (by omega), List.drop_set_of_lt (by omega), List.drop_set_of_lt (by omega), List.drop_set_of_lt (by omega)]
  have zS : Stays [P, g] w Z := by
    rw [hZ]
    repeat (first | exact S0.out | apply Stays.drew | refine Stays.setCell ?_ (.inl (by simp)) _)
  have m0 := (mir_cells zP).c0
  have f0 := mir_fz zP 0
  have FIN : Hid (∀ x, RowAt Z 78 5 x n (xs.drop 5) → x.ownBlock = some g → DropOut P g sel v nx h rows was bg n (xs.drop 5) w (.returned (.tuple #[])) (Z.setCell ⟨P, 0, none⟩ x)) := Lib.hid (fun x hx hg => by
    refine ⟨rfl, zS.setCell (.inl (by simp)) _, x, mir_set0 zP _, hx.same (fun b e => Below.heap_setCell _ _ _ _ (fun e' => ?_)), hg⟩
    rw [hg] at e
    have e1 : g = b := by injection e
    have e2 : b = P := e'
    exact HN.out (e2.symm.trans e1.symm))
  have HRw : Hid (∀ o' c', n ≤ c' → o' + c' * 5 ≤ cur.size → (n = 0 ∨ o' = o + 5) → RowAt Z 78 5 (.slice (some ⟨g, o', none⟩) n c') n (xs.drop 5)) := Lib.hid (fun o' c' h1 h2 h3 => by
    obtain ⟨cur', g1, g2, g3⟩ := zG
    obtain ⟨t1, t2, t3⟩ := HT.out
    have hxl : xs.length = (n + 1) * 5 := by rw [← t1, List.length_take, List.length_drop, Array.length_toList]; omega
    refine ⟨by rw [List.length_drop, hxl]; omega, .inr ⟨g, o', c', cur', rfl, g1, h1, by rw [g2]; exact h2, ?_⟩⟩
    rcases h3 with rfl | rfl
    · rw [Nat.zero_mul, List.take_zero]
      exact (List.drop_eq_nil_of_le (by rw [hxl]; omega)).symm
    · rw [g3, ← t1, List.drop_take, List.drop_drop, show (n + 1) * 5 - 5 = n * 5 from by omega])
  clear hZ sc zP zS S0 YP HN zG YG
  obtain ⟨_, hs2, hc2⟩ := HT.out
  by_cases hc1 : c = 1
  · subst hc1
    obtain rfl : n = 0 := by omega
    have R1 := Lib.hid (FIN.out _ (HRw.out o 0 (by omega) (by omega) (.inl rfl)) rfl)
    clear hs2 hc2 HRw FIN HT hnc
    go_wp2_with fail
    all_goals (
      first | refine bodyPost_end (results_none rfl _ _ _) rfl ?_ | refine bodyPost_ret (results_none rfl _ _ _) rfl ?_
      exact R1.out)
  · have R1 := Lib.hid (FIN.out _ (HRw.out (o + 5) (c - 1) (by omega) (by omega) (.inr rfl)) rfl)
    have hci : (1 : Int) ≤ (c : Int) := by omega
    have hcn : 1 ≤ c := by omega
    have hcl : 1 < c := by omega
    clear hs2 hc2 HRw FIN HT
    go_wp2_with fail
    trace_state
    all_goals (
      first | refine bodyPost_end (results_none rfl _ _ _) rfl ?_ | refine bodyPost_ret (results_none rfl _ _ _) rfl ?_
      exact R1.out)
end Go.Proofs.YtlmlbcnjohjnlaaDoor
