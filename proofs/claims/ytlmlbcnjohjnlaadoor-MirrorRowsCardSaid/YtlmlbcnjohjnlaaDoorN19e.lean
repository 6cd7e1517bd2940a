/- What stays by its type; one that waits, more. -/
import Derived.Test.YtlmlbcnjohjnlaaDoorN19d
import Derived.Test.YtlmlbcnjohjnlaaDoorZv
import Derived.Test.YtlmlbcnjohjnlaaDoorM19o
namespace Go.Proofs.YtlmlbcnjohjnlaaDoor
open Go.RowKit

/-- What is not of these types stays. -/
def KeepT (ts : List TypeId) (X X' : World) : Prop := ∀ (b : Nat) (o : Obj), X.heap[b]? = some o → (∀ cs t f, o = .cells cs t f → t ∉ ts) → X'.heap[b]? = some o
section
variable {ts : List TypeId} {fr fr' : List Nat} {X X' X2 : World} {v : Value}
theorem KeepT.of {fp : List Nat} (hs : Stays fp X X') (hfp : ∀ b, b ∈ fp → ∃ cs t f, X.heap[b]? = some (.cells cs t f) ∧ t ∈ ts) : KeepT ts X X' := fun b o ho hn => by
  rw [hs.block b (lt_of_heap ho) (fun hb => ?_)]
  · exact ho
  · obtain ⟨cs, t, f, h1, h2⟩ := hfp b hb
    rw [ho] at h1
    injection h1 with h1
    exact hn cs t f h1 h2
theorem KeepT.below (hb : Below X.heap.size X X') : KeepT ts X X' := fun b o ho _ => by rw [hb.block b (lt_of_heap ho)]; exact ho
theorem KeepT.trans (h : KeepT ts X X') (k : KeepT ts X' X2) : KeepT ts X X2 := fun b o ho hn => k b o (h b o ho hn) hn
theorem KeepT.cells (h : KeepT ts X X') {b : Nat} {cs : Array Value} {t : TypeId} {f : Nat × Nat} (ho : X.heap[b]? = some (.cells cs t f)) (ht : t ∉ ts) : X'.heap[b]? = some (.cells cs t f) := h b _ ho (fun cs' t' f' e => by injection e with _ e2; subst e2; exact ht)
theorem StrsIn.kt {l : List ByteArray} (h : StrsIn fr X v l) (k : KeepT ts X X') (ht : 9 ∉ ts) (hf : ∀ b, b ∈ fr → b ∈ fr') : StrsIn fr' X' v l := by
  obtain ⟨a, c, rfl, h⟩ := h
  refine ⟨a, c, rfl, fun h0 => ?_⟩
  obtain ⟨g, o, cs, rfl, hg, hh, hc⟩ := h h0
  exact ⟨g, o, cs, rfl, hf g hg, k.cells hh ht, hc⟩
theorem RgsIn.kt {l : List Rg} (h : RgsIn fr X v l) (k : KeepT ts X X') (ht : 91 ∉ ts) (hf : ∀ b, b ∈ fr → b ∈ fr') : RgsIn fr' X' v l := by
  obtain ⟨a, c, rfl, hn, h⟩ := h
  refine ⟨a, c, rfl, hn, fun h0 => ?_⟩
  obtain ⟨g, o, cs, rfl, hg, hh, hc⟩ := h h0
  exact ⟨g, o, cs, rfl, hf g hg, k.cells hh ht, hc⟩
theorem AKin.kt {a : AK} {p : PA} (h : AKin fr X a p) (k : KeepT ts X X') (ht : 91 ∉ ts) (hf : ∀ b, b ∈ fr → b ∈ fr') : AKin fr' X' a p := ⟨h.tag, h.verb, h.uid, h.sil, h.set.kt k ht hf⟩
theorem RWin.kt {a : RW} {p : PR} (h : RWin fr X a p) (k : KeepT ts X X') (ht : 9 ∉ ts) (hf : ∀ b, b ∈ fr → b ∈ fr') : RWin fr' X' a p := ⟨h.uid, h.kn, h.fl.kt k ht hf⟩
theorem RowAt.kt {e : TypeId} {z n : Nat} {xs : List Value} (h : RowAt X e z v n xs) (k : KeepT ts X X') (ht : e ∉ ts) : RowAt X' e z v n xs := by
  refine ⟨h.1, ?_⟩
  rcases h.2 with hn | ⟨g, o, cap, cur, rfl, hg, rest⟩
  · exact .inl hn
  · exact .inr ⟨g, o, cap, cur, rfl, k.cells hg ht, rest⟩
theorem QIn.kt {L : List PA} (h : QIn fr X v L) (k : KeepT ts X X') (ht : 91 ∉ ts) (ht' : 78 ∉ ts) (hf : ∀ b, b ∈ fr → b ∈ fr') : QIn fr' X' v L := by
  obtain ⟨ks, h1, h2, h3⟩ := h
  exact ⟨ks, h1.kt k ht', fun b e => hf b (h2 b e), h3.mono (fun _ _ r => r.kt k ht hf)⟩
theorem RIn.kt {L : List PR} (h : RIn fr X v L) (k : KeepT ts X X') (ht : 9 ∉ ts) (ht' : 98 ∉ ts) (hf : ∀ b, b ∈ fr → b ∈ fr') : RIn fr' X' v L := by
  obtain ⟨ks, h1, h2, h3⟩ := h
  exact ⟨ks, h1.kt k ht', fun b e => hf b (h2 b e), h3.mono (fun _ _ r => r.kt k ht hf)⟩
theorem WasIn.kt {f : Int → Option (List ByteArray)} (h : WasIn fr X v f) (k : KeepT ts X X') (ht : 9 ∉ ts) (hf : ∀ b, b ∈ fr → b ∈ fr') : WasIn fr' X' v f := by
  rcases h with h | ⟨m, clk, F, rfl, hm, hh, h1, h2⟩
  · exact .inl h
  · exact .inr ⟨m, clk, F, rfl, hf m hm, k m _ hh (fun cs t f e => by cases e), fun e he => by
      obtain ⟨l, h3, h4⟩ := h1 e he
      exact ⟨l, h3.kt k ht hf, h4⟩, h2⟩
end
def PutRow (P : Nat) (sel : Bool) (v n h : Int) (rows was : Value) (bg : Bool) (m : Nat) (xs : List Value) (fp : List Nat) (w w' : World) : Prop := ∃ a c, w'.heap[P]? = some (mirO (.slice a m c) sel v n h rows was bg) ∧ RowAt w' 78 5 (.slice a m c) m xs ∧ Stays fp w w' ∧ ∀ b, (Value.slice a m c).ownBlock = some b → b ∈ fp ∨ w.heap.size ≤ b
set_option maxRecDepth 20000 in
set_option maxHeartbeats 2000000 in
theorem put_row (P : Nat) (qa : Option Addr) (n qc : Nat) (sel : Bool) (v nx h : Int) (rows was : Value) (bg : Bool) (xs : List Value) (k : AK) (hk : ∃ sa sn sc, k.set = .slice sa sn sc) (w : World) (hM : w.heap[P]? = some (mirO (.slice qa n qc) sel v nx h rows was bg)) (hQ : RowAt w 78 5 (.slice qa n qc) n xs) (hn : n + 1 ≤ 4294967296) :
    Calls Tryd.prog 18 #[.pointer (some ⟨P, 0, none⟩), .agg (akC k)] w fun e w' => e = .returned (.tuple #[]) ∧ PutRow P sel v nx h rows was bg (n + 1) (xs ++ (akC k).toList) (P :: (Value.slice qa n qc).ownBlock.toList) w w' := by
  obtain ⟨kt, kv, ku, ks, kst⟩ := k
  obtain ⟨sa, sn, sc, hs⟩ := hk
  simp only at hs
  subst hs
  have hPl := lt_of_heap hM
  obtain ⟨Y, hY⟩ : ∃ Y, w.alloc (.cells #[.string kt, .int .i64 kv, .bool ku, .bool ks, .slice sa sn sc] 78) = Y := ⟨_, rfl⟩
  have b0 : Below w.heap.size w Y := by rw [← hY]; exact (Below.refl _ _).alloc (Nat.le_refl _) _
  have yM := bel_at b0 hPl hM
  have yQ : RowAt Y 78 5 (.slice qa n qc) n xs := hQ.same (fun b e => b0.block b (hQ.lt e))
  have yB : Y.heap[w.heap.size]? = some (.cells #[.string kt, .int .i64 kv, .bool ku, .bool ks, .slice sa sn sc] 78 (0, 0)) := by rw [← hY]; exact heap_new _ _
  have hpq : (Value.slice qa n qc).ownBlock ≠ some P := fun e => by
    obtain ⟨cs, hc⟩ := hQ.kind e
    exact kind_ne hc (by unfold mirO at hM; exact hM) (by decide) rfl
  obtain ⟨a, c, W3, hrun, hrow, hg, hown⟩ := RowAt.app (P := Tryd.prog) (w := Y.drew) 67 (.agg #[.string ⟨#[]⟩, .int .i64 0, .bool false, .bool false, .slice none 0 0]) 56 Tryd.underlying67 Tryd.infoAk rfl (v := .slice qa n qc) (n := n) (xs := xs) yQ #[.string kt, .int .i64 kv, .bool ku, .bool ks, .slice sa sn sc] rfl (by intro x hx; simp at hx; rcases hx with rfl | rfl | rfl | rfl | rfl <;> rfl) hn (by omega)
  have hyl : P < Y.heap.size := lt_of_heap yM
  have m3 : W3.heap[P]? = some (mirO (.slice qa n qc) sel v nx h rows was bg) := by rw [hg.block P hyl (fun e => hpq e.symm)]; exact yM
  have q0 := (mir_cells yM).c0
  have q0a : (Y.alloc (.cells #[.string kt, .int .i64 kv, .bool ku, .bool ks, .slice sa sn sc] 78)).cell? ⟨P, 0, none⟩ = some (.slice qa n qc) := by rw [((Below.refl Y.heap.size Y).alloc (Nat.le_refl _) _).cell (p := ⟨P, 0, none⟩) hyl]; exact q0
  have q3 := (mir_cells m3).c0
  have f3 := mir_fz m3 0
  have k0 : Y.cell? ⟨w.heap.size, 0, none⟩ = some (.string kt) := cell_of yB 0
  have k1 : Y.cell? ⟨w.heap.size, 1, none⟩ = some (.int .i64 kv) := cell_of yB 1
  have k2 : Y.cell? ⟨w.heap.size, 2, none⟩ = some (.bool ku) := cell_of yB 2
  have k3 : Y.cell? ⟨w.heap.size, 3, none⟩ = some (.bool ks) := cell_of yB 3
  have k4 : Y.cell? ⟨w.heap.size, 4, none⟩ = some (.slice sa sn sc) := cell_of yB 4
  have yB2 := bel_at ((Below.refl Y.heap.size Y).alloc (Nat.le_refl _) (.cells #[.string kt, .int .i64 kv, .bool ku, .bool ks, .slice sa sn sc] 78)) (lt_of_heap yB) yB
  have yB3 : W3.heap[w.heap.size]? = some (.cells #[.string kt, .int .i64 kv, .bool ku, .bool ks, .slice sa sn sc] 78 (0, 0)) := by
    rw [hg.block w.heap.size (lt_of_heap yB) (fun e => by have := hQ.lt e.symm; omega)]
    exact yB
  have k5 := And.intro (show _ = some (Value.string kt) from cell_of yB2 0) (And.intro (show _ = some (Value.int .i64 kv) from cell_of yB2 1) (And.intro (show _ = some (Value.bool ku) from cell_of yB2 2) (And.intro (show _ = some (Value.bool ks) from cell_of yB2 3) (show _ = some (Value.slice sa sn sc) from cell_of yB2 4))))
  have k6 := And.intro (show _ = some (Value.string kt) from cell_of yB3 0) (And.intro (show _ = some (Value.int .i64 kv) from cell_of yB3 1) (And.intro (show _ = some (Value.bool ku) from cell_of yB3 2) (And.intro (show _ = some (Value.bool ks) from cell_of yB3 3) (show _ = some (Value.slice sa sn sc) from cell_of yB3 4))))
  obtain ⟨k50, k51, k52, k53, k54⟩ := k5
  obtain ⟨k60, k61, k62, k63, k64⟩ := k6
  clear yB2 yB3
  have fin : PutRow P sel v nx h rows was bg (n + 1) (xs ++ (akC ⟨kt, kv, ku, ks, .slice sa sn sc⟩).toList) (P :: (Value.slice qa n qc).ownBlock.toList) w (W3.setCell ⟨P, 0, none⟩ (.slice a (n + 1) c)) := by
    refine ⟨a, c, mir_set0 m3 _, hrow.same (fun b e => Below.heap_setCell _ _ _ _ (fun e' => ?_)), ?_, fun b e => ?_⟩
    · have e2 : b = P := e'
      subst e2
      rcases hown _ e with e3 | e3
      · exact hpq e3
      · have e4 : Y.heap.size ≤ b := e3
        omega
    · refine Stays.setCell ?_ (.inl (by simp)) _
      have s1 : Stays (P :: (Value.slice qa n qc).ownBlock.toList) w Y := Stays.ofBelow b0
      have s2 : Stays (P :: (Value.slice qa n qc).ownBlock.toList) Y W3 := by
        have := Stays.ofGrown (fp := P :: (Value.slice qa n qc).ownBlock.toList) hg (fun b e => by simp [e])
        exact ⟨this.os, this.tape, this.output, this.size, this.block⟩
      exact s1.trans s2 (fun b hb => .inl hb)
    · rcases hown _ e with e3 | e3
      · exact .inl (by simp [e3])
      · have e4 : Y.heap.size ≤ b := e3
        have := b0.size
        exact .inr (by omega)
  have FIN := Lib.hid fin
  have HRun := Lib.hid hrun
  have HY := Lib.hid hY
  clear hM hQ hPl hY b0 yM yQ yB hpq hrun hrow hg hown hyl m3 fin hn
  unfold akC
  go_enter Tryd.func18, Tryd.ntmps18
  go_upto_region 1 with fail
  rw [HY.out]
  clear HY
  refine wp_region_N 10 (fun X => X = Y.drew ∨ X = Y.drew.alloc (.cells #[.string kt, .int .i64 kv, .bool ku, .bool ks, .slice sa sn sc] 78) ∨ X = W3) (by kernel_rfl) ?_
  refine wpAnyN_take (i := 0) (oi := { dst := some 4, op := Go.Op.move (Go.Operand.tmp 0), type := 86, pos := "queue.go:8", after := #[], guard := none }) (oL := { dst := none, op := Go.Op.store 67 (Go.Operand.tmp 13) (Go.Operand.tmp 11), type := 0, pos := "queue.go:8", after := #[{ on := 9, ground := Go.Ground.data }, { on := 7, ground := Go.Ground.data }, { on := 7, ground := Go.Ground.chain }, { on := 0, ground := Go.Ground.phase }, { on := 1, ground := Go.Ground.phase }, { on := 2, ground := Go.Ground.phase }, { on := 3, ground := Go.Ground.phase }, { on := 4, ground := Go.Ground.phase }, { on := 5, ground := Go.Ground.phase }, { on := 6, ground := Go.Ground.phase }, { on := 7, ground := Go.Ground.phase }], guard := none }) (v := .pointer (some ⟨P, 0, none⟩)) rfl rfl (by kernel_rfl) (by kernel_rfl) (by kernel_rfl) (by kernel_rfl) (fun _ _ _ h => h) (Or.inl ⟨by kernel_rfl, ?_⟩) (.inl rfl) ?_
  · (intro X hX; rcases hX with rfl | rfl | rfl <;> (go_simp; try (with_reducible rfl)))
  (try simp only [Act.put, List.setIfInBounds_toArray, List.set_cons_zero, List.set_cons_succ])
  refine wpAnyN_take (i := 1) (oi := { dst := some 5, op := Go.Op.move (Go.Operand.tmp 0), type := 86, pos := "queue.go:8", after := #[], guard := none }) (oL := { dst := none, op := Go.Op.store 67 (Go.Operand.tmp 13) (Go.Operand.tmp 11), type := 0, pos := "queue.go:8", after := #[{ on := 9, ground := Go.Ground.data }, { on := 7, ground := Go.Ground.data }, { on := 7, ground := Go.Ground.chain }, { on := 0, ground := Go.Ground.phase }, { on := 1, ground := Go.Ground.phase }, { on := 2, ground := Go.Ground.phase }, { on := 3, ground := Go.Ground.phase }, { on := 4, ground := Go.Ground.phase }, { on := 5, ground := Go.Ground.phase }, { on := 6, ground := Go.Ground.phase }, { on := 7, ground := Go.Ground.phase }], guard := none }) (v := .pointer (some ⟨P, 0, none⟩)) rfl rfl (by kernel_rfl) (by kernel_rfl) (by kernel_rfl) (by kernel_rfl) (fun _ _ _ h => h) (Or.inl ⟨by kernel_rfl, ?_⟩) (.inl rfl) ?_
  · (intro X hX; rcases hX with rfl | rfl | rfl <;> (go_simp; try (with_reducible rfl)))
  (try simp only [Act.put, List.setIfInBounds_toArray, List.set_cons_zero, List.set_cons_succ])
  refine wpAnyN_take (i := 2) (oi := { dst := some 6, op := Go.Op.nilCheck (Go.Operand.tmp 5), type := 0, pos := "queue.go:8", after := #[{ on := 1, ground := Go.Ground.data }], guard := none }) (oL := { dst := none, op := Go.Op.store 67 (Go.Operand.tmp 13) (Go.Operand.tmp 11), type := 0, pos := "queue.go:8", after := #[{ on := 9, ground := Go.Ground.data }, { on := 7, ground := Go.Ground.data }, { on := 7, ground := Go.Ground.chain }, { on := 0, ground := Go.Ground.phase }, { on := 1, ground := Go.Ground.phase }, { on := 2, ground := Go.Ground.phase }, { on := 3, ground := Go.Ground.phase }, { on := 4, ground := Go.Ground.phase }, { on := 5, ground := Go.Ground.phase }, { on := 6, ground := Go.Ground.phase }, { on := 7, ground := Go.Ground.phase }], guard := none }) (v := .pointer (some ⟨P, 0, none⟩)) rfl rfl (by kernel_rfl) (by kernel_rfl) (by kernel_rfl) (by kernel_rfl) (fun _ _ _ h => h) (Or.inl ⟨by kernel_rfl, ?_⟩) (.inl rfl) ?_
  · (intro X hX; rcases hX with rfl | rfl | rfl <;> (go_simp; try (with_reducible rfl)))
  (try simp only [Act.put, List.setIfInBounds_toArray, List.set_cons_zero, List.set_cons_succ])
  refine wpAnyN_take (i := 3) (oi := { dst := some 7, op := Go.Op.fieldAddr 69 (Go.Operand.tmp 6) 0, type := 0, pos := "queue.go:8", after := #[{ on := 2, ground := Go.Ground.data }], guard := none }) (oL := { dst := none, op := Go.Op.store 67 (Go.Operand.tmp 13) (Go.Operand.tmp 11), type := 0, pos := "queue.go:8", after := #[{ on := 9, ground := Go.Ground.data }, { on := 7, ground := Go.Ground.data }, { on := 7, ground := Go.Ground.chain }, { on := 0, ground := Go.Ground.phase }, { on := 1, ground := Go.Ground.phase }, { on := 2, ground := Go.Ground.phase }, { on := 3, ground := Go.Ground.phase }, { on := 4, ground := Go.Ground.phase }, { on := 5, ground := Go.Ground.phase }, { on := 6, ground := Go.Ground.phase }, { on := 7, ground := Go.Ground.phase }], guard := none }) (v := .pointer (some ⟨P, 0, none⟩)) rfl rfl (by kernel_rfl) (by kernel_rfl) (by kernel_rfl) (by kernel_rfl) (fun _ _ _ h => h) (Or.inl ⟨by kernel_rfl, ?_⟩) (.inl rfl) ?_
  · (intro X hX; rcases hX with rfl | rfl | rfl <;> (go_simp; try (with_reducible rfl)))
  (try simp only [Act.put, List.setIfInBounds_toArray, List.set_cons_zero, List.set_cons_succ])
  refine wpAnyN_take (i := 4) (oi := { dst := some 8, op := Go.Op.load 67 (Go.Operand.tmp 7), type := 67, pos := "queue.go:8", after := #[{ on := 3, ground := Go.Ground.data }], guard := none }) (oL := { dst := none, op := Go.Op.store 67 (Go.Operand.tmp 13) (Go.Operand.tmp 11), type := 0, pos := "queue.go:8", after := #[{ on := 9, ground := Go.Ground.data }, { on := 7, ground := Go.Ground.data }, { on := 7, ground := Go.Ground.chain }, { on := 0, ground := Go.Ground.phase }, { on := 1, ground := Go.Ground.phase }, { on := 2, ground := Go.Ground.phase }, { on := 3, ground := Go.Ground.phase }, { on := 4, ground := Go.Ground.phase }, { on := 5, ground := Go.Ground.phase }, { on := 6, ground := Go.Ground.phase }, { on := 7, ground := Go.Ground.phase }], guard := none }) (v := .slice qa n qc) rfl rfl (by kernel_rfl) (by kernel_rfl) (by kernel_rfl) (by kernel_rfl) (fun _ _ _ h => h) (Or.inl ⟨by kernel_rfl, ?_⟩) (.inl rfl) ?_
  · (intro X hX; rcases hX with rfl | rfl | rfl <;> (go_simp; try (with_reducible rfl)))
  (try simp only [Act.put, List.setIfInBounds_toArray, List.set_cons_zero, List.set_cons_succ])
  refine wpAnyN_take (i := 5) (oi := { dst := some 9, op := Go.Op.load 78 (Go.Operand.tmp 3), type := 78, pos := "queue.go:8", after := #[], guard := none }) (oL := { dst := none, op := Go.Op.store 67 (Go.Operand.tmp 13) (Go.Operand.tmp 11), type := 0, pos := "queue.go:8", after := #[{ on := 9, ground := Go.Ground.data }, { on := 7, ground := Go.Ground.data }, { on := 7, ground := Go.Ground.chain }, { on := 0, ground := Go.Ground.phase }, { on := 1, ground := Go.Ground.phase }, { on := 2, ground := Go.Ground.phase }, { on := 3, ground := Go.Ground.phase }, { on := 4, ground := Go.Ground.phase }, { on := 5, ground := Go.Ground.phase }, { on := 6, ground := Go.Ground.phase }, { on := 7, ground := Go.Ground.phase }], guard := none }) (v := .agg #[.string kt, .int .i64 kv, .bool ku, .bool ks, .slice sa sn sc]) rfl rfl (by kernel_rfl) (by kernel_rfl) (by kernel_rfl) (by kernel_rfl) (fun _ _ _ h => h) (Or.inl ⟨by kernel_rfl, ?_⟩) (.inl rfl) ?_
  · (intro X hX; rcases hX with rfl | rfl | rfl <;> (go_simp; try (with_reducible rfl)))
  (try simp only [Act.put, List.setIfInBounds_toArray, List.set_cons_zero, List.set_cons_succ])
  refine wpAnyN_one (i := 6) (o := { dst := some 10, op := Go.Op.buildSlice 67 1 #[(0, Go.Operand.tmp 9)], type := 67, pos := "queue.go:8", after := #[{ on := 5, ground := Go.Ground.data }], guard := none }) (by kernel_rfl) rfl (fun K hK => ?_)
  go_simp
  refine hK.out _ _ (fun _ => (.inr (.inl rfl))) ?_
  clear hK K
  (try simp only [Act.put, List.setIfInBounds_toArray, List.set_cons_zero, List.set_cons_succ])
  refine wpAnyN_one (i := 7) (o := { dst := some 11, op := Go.Op.call { callee := Go.Callee.builtin Go.Builtin.append, args := #[Go.Operand.tmp 8, Go.Operand.tmp 10], argTypes := #[67, 67] }, type := 67, pos := "queue.go:8", after := #[{ on := 4, ground := Go.Ground.data }, { on := 6, ground := Go.Ground.data }], guard := none }) (by kernel_rfl) rfl (fun K hK => ?_)
  refine step_append_run rfl _ _ _ rfl _ rfl _ _ rfl rfl _ _ HRun.out ?_
  refine hK.out _ _ (fun _ => (.inr (.inr rfl))) ?_
  clear hK K
  (try simp only [Act.put, List.setIfInBounds_toArray, List.set_cons_zero, List.set_cons_succ])
  refine wpAnyN_take (i := 8) (oi := { dst := some 12, op := Go.Op.nilCheck (Go.Operand.tmp 4), type := 0, pos := "queue.go:8", after := #[{ on := 0, ground := Go.Ground.data }, { on := 0, ground := Go.Ground.phase }, { on := 1, ground := Go.Ground.phase }, { on := 2, ground := Go.Ground.phase }, { on := 3, ground := Go.Ground.phase }, { on := 4, ground := Go.Ground.phase }, { on := 5, ground := Go.Ground.phase }, { on := 6, ground := Go.Ground.phase }, { on := 7, ground := Go.Ground.phase }], guard := none }) (oL := { dst := none, op := Go.Op.store 67 (Go.Operand.tmp 13) (Go.Operand.tmp 11), type := 0, pos := "queue.go:8", after := #[{ on := 9, ground := Go.Ground.data }, { on := 7, ground := Go.Ground.data }, { on := 7, ground := Go.Ground.chain }, { on := 0, ground := Go.Ground.phase }, { on := 1, ground := Go.Ground.phase }, { on := 2, ground := Go.Ground.phase }, { on := 3, ground := Go.Ground.phase }, { on := 4, ground := Go.Ground.phase }, { on := 5, ground := Go.Ground.phase }, { on := 6, ground := Go.Ground.phase }, { on := 7, ground := Go.Ground.phase }], guard := none }) (v := .pointer (some ⟨P, 0, none⟩)) rfl rfl (by kernel_rfl) (by kernel_rfl) (by kernel_rfl) (by kernel_rfl) (fun _ _ _ h => h) (Or.inl ⟨by kernel_rfl, ?_⟩) (.inr (.inr rfl)) ?_
  · (intro X hX; rcases hX with rfl | rfl | rfl <;> (go_simp; try (with_reducible rfl)))
  (try simp only [Act.put, List.setIfInBounds_toArray, List.set_cons_zero, List.set_cons_succ])
  refine wpAnyN_take (i := 9) (oi := { dst := some 13, op := Go.Op.fieldAddr 69 (Go.Operand.tmp 12) 0, type := 0, pos := "queue.go:8", after := #[{ on := 8, ground := Go.Ground.data }, { on := 0, ground := Go.Ground.phase }, { on := 1, ground := Go.Ground.phase }, { on := 2, ground := Go.Ground.phase }, { on := 3, ground := Go.Ground.phase }, { on := 4, ground := Go.Ground.phase }, { on := 5, ground := Go.Ground.phase }, { on := 6, ground := Go.Ground.phase }, { on := 7, ground := Go.Ground.phase }], guard := none }) (oL := { dst := none, op := Go.Op.store 67 (Go.Operand.tmp 13) (Go.Operand.tmp 11), type := 0, pos := "queue.go:8", after := #[{ on := 9, ground := Go.Ground.data }, { on := 7, ground := Go.Ground.data }, { on := 7, ground := Go.Ground.chain }, { on := 0, ground := Go.Ground.phase }, { on := 1, ground := Go.Ground.phase }, { on := 2, ground := Go.Ground.phase }, { on := 3, ground := Go.Ground.phase }, { on := 4, ground := Go.Ground.phase }, { on := 5, ground := Go.Ground.phase }, { on := 6, ground := Go.Ground.phase }, { on := 7, ground := Go.Ground.phase }], guard := none }) (v := .pointer (some ⟨P, 0, none⟩)) rfl rfl (by kernel_rfl) (by kernel_rfl) (by kernel_rfl) (by kernel_rfl) (fun _ _ _ h => h) (Or.inl ⟨by kernel_rfl, ?_⟩) (.inr (.inr rfl)) ?_
  · (intro X hX; rcases hX with rfl | rfl | rfl <;> (go_simp; try (with_reducible rfl)))
  (try simp only [Act.put, List.setIfInBounds_toArray, List.set_cons_zero, List.set_cons_succ])
  refine wpAnyN_one (i := 10) (o := { dst := none, op := Go.Op.store 67 (Go.Operand.tmp 13) (Go.Operand.tmp 11), type := 0, pos := "queue.go:8", after := #[{ on := 9, ground := Go.Ground.data }, { on := 7, ground := Go.Ground.data }, { on := 7, ground := Go.Ground.chain }, { on := 0, ground := Go.Ground.phase }, { on := 1, ground := Go.Ground.phase }, { on := 2, ground := Go.Ground.phase }, { on := 3, ground := Go.Ground.phase }, { on := 4, ground := Go.Ground.phase }, { on := 5, ground := Go.Ground.phase }, { on := 6, ground := Go.Ground.phase }, { on := 7, ground := Go.Ground.phase }], guard := none }) (by kernel_rfl) rfl (fun K hK => ?_)
  go_simp
  refine hK.out _ _ (fun e => absurd (e.symm.trans (by kernel_rfl) : false = true) Bool.false_ne_true) ?_
  clear hK K
  (try simp only [Act.put, List.setIfInBounds_toArray, List.set_cons_zero, List.set_cons_succ])
  refine wpAnyN_of_H (S' := fun _ => True) _ _ _ _ (by kernel_rfl) ?_
  refine wpAnyH_done (by kernel_rfl) ?_ _
  go_wp2_with fail
  first | refine bodyPost_end (results_none rfl _ _ _) rfl ?_ | refine bodyPost_ret (results_none rfl _ _ _) rfl ?_
  exact ⟨rfl, FIN.out⟩
end Go.Proofs.YtlmlbcnjohjnlaaDoor

/- mirror: Ask, of any command. -/
namespace Go.Proofs.YtlmlbcnjohjnlaaDoor
open Go.RowKit

/-- Whether a command is one. -/
def askB (tag : ByteArray) (verb : Int) : Bool := !tag.toList.isEmpty && decide (1 ≤ verb) && decide (verb ≤ 29)
def askM (M : PM) (tag : ByteArray) (verb : Int) (uid sil : Bool) (l : List Rg) : PM :=
  if askB tag verb then { M with q := M.q ++ [⟨tag, verb, uid, verb == 22 && sil, if (verb == 22 && sil) = true then l else []⟩] } else M
/-- A mirror behind a call. -/
def MG (P : Nat) (fr : List Nat) (M : PM) (w w' : World) : Prop := ∃ fr', MAt P fr' M w' ∧ FO fr fr' w w'
theorem MG.below {P : Nat} {fr : List Nat} {M : PM} {w w' : World} (h : MAt P fr M w) (hb : Below w.heap.size w w') : MG P fr M w w' := ⟨fr, h.bel hb, FO.below hb⟩
theorem setnew_shape {w w' : World} {sv : Value} {l : List Rg} (h : SetNew w w' sv l) : ∃ sa sn sc, sv = .slice sa sn sc := by
  obtain ⟨nb, h1, _⟩ := h
  exact h1.shape
theorem ask_out {P : Nat} {fr : List Nat} {M : PM} {w X w' : World} {q rows was : Value} {ks : List AK} {tag : ByteArray} {verb : Int} {uid sl : Bool} {sv : Value} {l : List Rg} (h : MAt P fr M w) (hM : w.heap[P]? = some (mirO q M.sel M.v M.n M.h rows was M.bg)) (hrow : RowAt w 78 5 q M.q.length (akL ks)) (hqb : ∀ b, q.ownBlock = some b → b ∈ fr) (hall : All2 (AKin fr w) ks M.q) (hR : RIn fr w rows M.rows) (hW : WasIn fr w was M.was)
    (hX : Below w.heap.size w X) (hs : SetNew w X sv l) (hp : PutRow P M.sel M.v M.n M.h rows was M.bg (M.q.length + 1) (akL ks ++ (akC ⟨tag, verb, uid, sl, sv⟩).toList) (P :: q.ownBlock.toList) X w') :
    MG P fr { M with q := M.q ++ [⟨tag, verb, uid, sl, l⟩] } w w' := by
  obtain ⟨a, c, hm, hr, hst, hlo⟩ := hp
  obtain ⟨nb, hs1, hs2⟩ := hs
  have hsz := hst.size
  have k1 : KeepT [75, 78] w w' := (KeepT.below hX).trans (KeepT.of hst (fun b hb => by
    rcases List.mem_cons.1 hb with rfl | hb
    · exact ⟨_, _, _, bel_at hX (lt_of_heap hM) hM, by simp⟩
    · have e : q.ownBlock = some b := by simpa using hb
      obtain ⟨cs, hc⟩ := hrow.kind e
      exact ⟨_, _, _, bel_at hX (lt_of_heap hc) hc, by simp⟩))
  have k2 : KeepT [75, 78] X w' := KeepT.of hst (fun b hb => by
    rcases List.mem_cons.1 hb with rfl | hb
    · exact ⟨_, _, _, bel_at hX (lt_of_heap hM) hM, by simp⟩
    · have e : q.ownBlock = some b := by simpa using hb
      obtain ⟨cs, hc⟩ := hrow.kind e
      exact ⟨_, _, _, bel_at hX (lt_of_heap hc) hc, by simp⟩)
  refine ⟨fr ++ nb ++ (Value.slice a (M.q.length + 1) c).ownBlock.toList, ⟨⟨_, rows, was, hm, ⟨ks ++ [⟨tag, verb, uid, sl, sv⟩], ?_, fun b e => by simp [e], ?_⟩, hR.kt k1 (by decide) (by decide) (fun b e => by simp [e]), hW.kt k1 (by decide) (fun b e => by simp [e])⟩, by simp [h.pin], fun b hb => ?_⟩, ?_, fun b hb => ?_⟩
  · have e1 : akL (ks ++ [⟨tag, verb, uid, sl, sv⟩]) = akL ks ++ (akC ⟨tag, verb, uid, sl, sv⟩).toList := by simp [akL]
    rw [e1, List.length_append]
    exact hr
  · refine (hall.mono (fun _ _ r => r.kt k1 (by decide) (fun b e => by simp [e]))).app ⟨⟨rfl, rfl, rfl, rfl, hs1.kt k2 (by decide) (fun b e => by simp [e])⟩, trivial⟩
  · simp only [List.mem_append] at hb
    rcases hb with (hb | hb) | hb
    · exact Nat.lt_of_lt_of_le (h.lt b hb) (Nat.le_trans hX.size hsz)
    · exact Nat.lt_of_lt_of_le (hs2 b hb).2 hsz
    · have e : (Value.slice a (M.q.length + 1) c).ownBlock = some b := by simpa using hb
      exact hr.lt e
  · refine (Stays.ofBelow (fp := fr) hX).trans hst (fun b hb => ?_)
    rcases List.mem_cons.1 hb with rfl | hb
    · exact .inl h.pin
    · exact .inl (hqb b (by simpa using hb))
  · simp only [List.mem_append] at hb
    rcases hb with (hb | hb) | hb
    · exact .inl hb
    · exact .inr (hs2 b hb).1
    · have e : (Value.slice a (M.q.length + 1) c).ownBlock = some b := by simpa using hb
      rcases hlo b e with e' | e'
      · rcases List.mem_cons.1 e' with rfl | e'
        · exact .inl h.pin
        · exact .inl (hqb b (by simpa using e'))
      · exact .inr (Nat.le_trans hX.size e')
def AskedYes (P : Nat) (fr : List Nat) (M : PM) (tag : ByteArray) (verb : Int) (uid sil : Bool) (l : List Rg) (w : World) (e : Ending) (w' : World) : Prop := e = .returned (.int .i64 0) ∧ MG P fr { M with q := M.q ++ [⟨tag, verb, uid, verb == 22 && sil, if (verb == 22 && sil) = true then l else []⟩] } w w'
def AskedOut (P : Nat) (fr : List Nat) (M : PM) (tag : ByteArray) (verb : Int) (uid sil : Bool) (l : List Rg) (w : World) (e : Ending) (w' : World) : Prop := e = .returned (.int .i64 (if askB tag verb then 0 else 190)) ∧ MG P fr (askM M tag verb uid sil l) w w'
set_option maxRecDepth 20000 in
set_option maxHeartbeats 2000000 in
theorem Ask_yes (P : Nat) (fr : List Nat) (M : PM) (cs : Array Value) (tag : ByteArray) (verb : Int) (uid sil : Bool) (sa : Option Addr) (sn sc : Nat) (l : List Rg) (w : World) (h : MAt P fr M w) (hc : CmA cs tag verb uid sil (.slice sa sn sc)) (hr : Rgs w (.slice sa sn sc) l) (hl : l.length ≤ 1000000) (hq : M.q.length ≤ 1000000) (ht : tag.toList.isEmpty = false) (h1 : 1 ≤ verb) (h2 : verb ≤ 29) :
    Calls Tryd.prog 8 #[.pointer (some ⟨P, 0, none⟩), .agg cs] w (AskedYes P fr M tag verb uid sil l w) := by
  obtain ⟨q, rows, was, hM, ⟨ks, hrow, hqb, hall⟩, hR, hW⟩ := h.ex
  obtain ⟨qa, qc, rfl⟩ := hrow.shape
  obtain ⟨Y, hY⟩ : ∃ Y, w.alloc (.cells cs 38) = Y := ⟨_, rfl⟩
  have b0 : Below w.heap.size w Y := by rw [← hY]; exact (Below.refl _ _).alloc (Nat.le_refl _) _
  have r0 : Y.heap[w.heap.size]? = some (.cells cs 38 (0, 0)) := by rw [← hY]; exact heap_new _ _
  have HC : Hid (Y.drew.rangeAt w.heap.size 0 cs.toList) := Lib.hid (by
    intro j u hj
    rw [Nat.zero_add, cell_of (show Y.drew.heap[w.heap.size]? = some (.cells cs 38 (0, 0)) from r0)]
    simpa using hj)
  have HSz : Hid ((Tryd.prog.info? 38).map (·.size) = some cs.toList.length) := Lib.hid (by rw [Tryd.sizeCm]; simp [hc.size])
  have c0 : Y.cell? ⟨w.heap.size, 0, none⟩ = some (.string tag) := by rw [cell_of r0]; exact hc.tag
  have c1 : Y.cell? ⟨w.heap.size, 1, none⟩ = some (.int .i64 verb) := by rw [cell_of r0]; exact hc.verb
  have HAs : Hid (∀ X, Below Y.heap.size Y X → Calls Tryd.prog 19 #[.agg cs.toList.toArray] X (AskOut tag verb uid sil l X)) := Lib.hid (fun X hX => by
    rw [Array.toArray_toList]
    by_cases hv : (verb == 22 && sil) = true
    · have hv2 := Bool.and_eq_true_iff.1 hv
      obtain rfl : verb = 22 := by simpa using hv2.1
      obtain rfl : sil = true := hv2.2
      exact asking_yes cs tag uid sa sn sc l X hc (hr.on (b0.trans (hX.mono b0.size))) hl
    · exact asking_no cs tag verb uid sil _ l X hc (by simpa using hv))
  have HPu : Hid (∀ X sv, Below Y.heap.size Y X → (∃ sa sn sc, sv = .slice sa sn sc) → Calls Tryd.prog 18 #[.pointer (some ⟨P, 0, none⟩), .agg (akC ⟨tag, verb, uid, verb == 22 && sil, sv⟩)] X fun e w' => e = .returned (.tuple #[]) ∧ PutRow P M.sel M.v M.n M.h rows was M.bg (M.q.length + 1) (akL ks ++ (akC ⟨tag, verb, uid, verb == 22 && sil, sv⟩).toList) (P :: (Value.slice qa M.q.length qc).ownBlock.toList) X w') := Lib.hid (fun X sv hX hsv => by
    have bX : Below w.heap.size w X := b0.trans (hX.mono b0.size)
    exact put_row P qa M.q.length qc M.sel M.v M.n M.h rows was M.bg (akL ks) ⟨tag, verb, uid, verb == 22 && sil, sv⟩ hsv X (bel_at bX (lt_of_heap hM) hM) (hrow.same (fun b e => bX.block b (hrow.lt e))) (by omega))
  have HFin : Hid (∀ sv w3 w', Below Y.heap.size Y w3 → SetNew Y.drew w3 sv (if (verb == 22 && sil) = true then l else []) → PutRow P M.sel M.v M.n M.h rows was M.bg (M.q.length + 1) (akL ks ++ (akC ⟨tag, verb, uid, verb == 22 && sil, sv⟩).toList) (P :: (Value.slice qa M.q.length qc).ownBlock.toList) w3 w' → MG P fr { M with q := M.q ++ [⟨tag, verb, uid, verb == 22 && sil, if (verb == 22 && sil) = true then l else []⟩] } w w') := Lib.hid (fun sv w3 w' hb hs hp => by
    obtain ⟨nb, s1, s2⟩ := hs
    exact ask_out h hM hrow hqb hall hR hW (b0.trans (hb.mono b0.size)) ⟨nb, s1, fun b hb => ⟨Nat.le_trans b0.size (s2 b hb).1, (s2 b hb).2⟩⟩ hp)
  have HBd : Hid (Below Y.heap.size Y Y.drew) := Lib.hid (Below.refl _ _).drew
  have n1 : ¬ verb < 1 := by omega
  have n2 : ¬ (29 : Int) < verb := by omega
  have HY := Lib.hid hY
  clear hY b0 r0 hM hrow hqb hall hR hW h1 h2 hr hc h
  go_enter Tryd.func8, Tryd.ntmps8
  go_upto_region 1 with fail
  rw [HY.out]
  clear HY
  go_upto_region 3 with fail
  clear c0 c1
  refine wp_region_N 5 (fun X => Below Y.heap.size Y X) (by kernel_rfl) ?_
  refine wpAnyN_take (i := 0) (oi := { dst := some 22, op := Go.Op.move (Go.Operand.tmp 0), type := 24, pos := "mirror.go:25", after := #[], guard := none }) (oL := { dst := some 27, op := Go.Op.call { callee := Go.Callee.value (Go.Operand.func 18), args := #[Go.Operand.tmp 24, Go.Operand.tmp 26], argTypes := #[69, 78] }, type := 0, pos := "mirror.go:25", after := #[{ on := 2, ground := Go.Ground.data }, { on := 4, ground := Go.Ground.data }, { on := 4, ground := Go.Ground.chain }], guard := none }) (v := .pointer (some ⟨P, 0, none⟩)) rfl rfl (by kernel_rfl) (by kernel_rfl) (by kernel_rfl) (by kernel_rfl) (fun _ _ _ h => h) (Or.inl ⟨by kernel_rfl, ?_⟩) HBd.out ?_
  · (intro X hX; have _hX := hX <;> (go_simp; try (with_reducible rfl)))
  (try simp only [Act.put, List.setIfInBounds_toArray, List.set_cons_zero, List.set_cons_succ])
  refine wpAnyN_take (i := 1) (oi := { dst := some 23, op := Go.Op.nilCheck (Go.Operand.tmp 22), type := 0, pos := "mirror.go:25", after := #[{ on := 0, ground := Go.Ground.data }], guard := none }) (oL := { dst := some 27, op := Go.Op.call { callee := Go.Callee.value (Go.Operand.func 18), args := #[Go.Operand.tmp 24, Go.Operand.tmp 26], argTypes := #[69, 78] }, type := 0, pos := "mirror.go:25", after := #[{ on := 2, ground := Go.Ground.data }, { on := 4, ground := Go.Ground.data }, { on := 4, ground := Go.Ground.chain }], guard := none }) (v := .pointer (some ⟨P, 0, none⟩)) rfl rfl (by kernel_rfl) (by kernel_rfl) (by kernel_rfl) (by kernel_rfl) (fun _ _ _ h => h) (Or.inl ⟨by kernel_rfl, ?_⟩) HBd.out ?_
  · (intro X hX; have _hX := hX <;> (go_simp; try (with_reducible rfl)))
  (try simp only [Act.put, List.setIfInBounds_toArray, List.set_cons_zero, List.set_cons_succ])
  refine wpAnyN_take (i := 2) (oi := { dst := some 24, op := Go.Op.fieldAddr 75 (Go.Operand.tmp 23) 0, type := 0, pos := "mirror.go:25", after := #[{ on := 1, ground := Go.Ground.data }], guard := none }) (oL := { dst := some 27, op := Go.Op.call { callee := Go.Callee.value (Go.Operand.func 18), args := #[Go.Operand.tmp 24, Go.Operand.tmp 26], argTypes := #[69, 78] }, type := 0, pos := "mirror.go:25", after := #[{ on := 2, ground := Go.Ground.data }, { on := 4, ground := Go.Ground.data }, { on := 4, ground := Go.Ground.chain }], guard := none }) (v := .pointer (some ⟨P, 0, none⟩)) rfl rfl (by kernel_rfl) (by kernel_rfl) (by kernel_rfl) (by kernel_rfl) (fun _ _ _ h => h) (Or.inl ⟨by kernel_rfl, ?_⟩) HBd.out ?_
  · (intro X hX; have _hX := hX <;> (go_simp; try (with_reducible rfl)))
  (try simp only [Act.put, List.setIfInBounds_toArray, List.set_cons_zero, List.set_cons_succ])
  refine wpAnyN_one (i := 3) (o := { dst := some 25, op := Go.Op.load 38 (Go.Operand.tmp 3), type := 38, pos := "mirror.go:25", after := #[], guard := none }) (by kernel_rfl) rfl (fun K hK => ?_)
  refine wp_load_mid 38 _ rfl w.heap.size 0 rfl _ _ HC.out Tryd.underlying38 rfl HSz.out ?_
  refine hK.out _ _ (fun _ => HBd.out) ?_
  clear hK K
  (try simp only [Act.put, List.setIfInBounds_toArray, List.set_cons_zero, List.set_cons_succ])
  refine wpAnyN_one (i := 4) (o := { dst := some 26, op := Go.Op.call { callee := Go.Callee.value (Go.Operand.func 19), args := #[Go.Operand.tmp 25], argTypes := #[38] }, type := 78, pos := "mirror.go:25", after := #[{ on := 3, ground := Go.Ground.data }], guard := none }) (by kernel_rfl) rfl (fun K hK => ?_)
  go_simp
  refine (HAs.out _ HBd.out).mono ?_
  rintro e w3 ⟨sv, rfl, hb3, hs3⟩
  have HB3 := Lib.hid (undrew hb3)
  have HS3 := Lib.hid hs3
  clear hb3 hs3
  refine hK.out _ _ (fun _ => HB3.out) ?_
  clear hK K
  (try simp only [Act.put, List.setIfInBounds_toArray, List.set_cons_zero, List.set_cons_succ])
  refine wpAnyN_one (i := 5) (o := { dst := some 27, op := Go.Op.call { callee := Go.Callee.value (Go.Operand.func 18), args := #[Go.Operand.tmp 24, Go.Operand.tmp 26], argTypes := #[69, 78] }, type := 0, pos := "mirror.go:25", after := #[{ on := 2, ground := Go.Ground.data }, { on := 4, ground := Go.Ground.data }, { on := 4, ground := Go.Ground.chain }], guard := none }) (by kernel_rfl) rfl (fun K hK => ?_)
  go_simp
  refine (HPu.out _ _ HB3.out (setnew_shape HS3.out)).mono ?_
  rintro e w4 ⟨rfl, hp⟩
  have HP4 := Lib.hid hp
  clear hp
  refine hK.out _ _ (fun e => absurd (e.symm.trans (by kernel_rfl) : false = true) Bool.false_ne_true) ?_
  clear hK K
  (try simp only [Act.put, List.setIfInBounds_toArray, List.set_cons_zero, List.set_cons_succ])
  refine wpAnyN_of_H (S' := fun _ => True) _ _ _ _ (by kernel_rfl) ?_
  refine wpAnyH_done (by kernel_rfl) ?_ _
  go_wp2_with fail
  go_ret
  first | exact ⟨rfl, HFin.out _ _ _ HB3.out HS3.out HP4.out⟩ | exact HFin.out _ _ _ HB3.out HS3.out HP4.out
set_option maxRecDepth 20000 in
set_option maxHeartbeats 2000000 in
theorem Ask_no (P : Nat) (cs : Array Value) (tag : ByteArray) (verb : Int) (uid sil : Bool) (sv : Value) (w : World) (hc : CmA cs tag verb uid sil sv) (hn : askB tag verb = false) :
    Calls Tryd.prog 8 #[.pointer (some ⟨P, 0, none⟩), .agg cs] w fun e w' => e = .returned (.int .i64 190) ∧ Below w.heap.size w w' := by
  obtain ⟨Y, hY⟩ : ∃ Y, w.alloc (.cells cs 38) = Y := ⟨_, rfl⟩
  have b0 : Below w.heap.size w Y := by rw [← hY]; exact (Below.refl _ _).alloc (Nat.le_refl _) _
  have r0 : Y.heap[w.heap.size]? = some (.cells cs 38 (0, 0)) := by rw [← hY]; exact heap_new _ _
  have c0 : Y.cell? ⟨w.heap.size, 0, none⟩ = some (.string tag) := by rw [cell_of r0]; exact hc.tag
  have c1 : Y.cell? ⟨w.heap.size, 1, none⟩ = some (.int .i64 verb) := by rw [cell_of r0]; exact hc.verb
  have HY := Lib.hid hY
  have B0 := Lib.hid b0
  clear hY b0 r0 hc
  unfold askB at hn
  by_cases ht : tag.toList.isEmpty = true
  · clear hn
    go_enter Tryd.func8, Tryd.ntmps8
    go_upto_region 1 with fail
    rw [HY.out]
    go_wp2_with fail
    go_ret
    first | exact ⟨rfl, B0.out⟩ | exact B0.out
  · have ht' : tag.toList.isEmpty = false := by simpa using ht
    rw [ht'] at hn
    clear ht
    by_cases h1 : verb < 1
    · clear hn
      go_enter Tryd.func8, Tryd.ntmps8
      go_upto_region 1 with fail
      rw [HY.out]
      go_wp2_with fail
      go_ret
      first | exact ⟨rfl, B0.out⟩ | exact B0.out
    · have h2 : (29 : Int) < verb := by
        simp at hn
        omega
      clear hn
      go_enter Tryd.func8, Tryd.ntmps8
      go_upto_region 1 with fail
      rw [HY.out]
      go_wp2_with fail
      go_ret
      first | exact ⟨rfl, B0.out⟩ | exact B0.out
theorem Ask_any (P : Nat) (fr : List Nat) (M : PM) (cs : Array Value) (tag : ByteArray) (verb : Int) (uid sil : Bool) (sa : Option Addr) (sn sc : Nat) (l : List Rg) (w : World) (h : MAt P fr M w) (hc : CmA cs tag verb uid sil (.slice sa sn sc)) (hr : Rgs w (.slice sa sn sc) l) (hl : l.length ≤ 1000000) (hq : M.q.length ≤ 1000000) :
    Calls Tryd.prog 8 #[.pointer (some ⟨P, 0, none⟩), .agg cs] w (AskedOut P fr M tag verb uid sil l w) := by
  unfold AskedOut askM
  cases hb : askB tag verb with
  | false =>
    refine (Ask_no P cs tag verb uid sil _ w hc hb).mono ?_
    rintro e w' ⟨rfl, hbel⟩
    exact ⟨rfl, MG.below h hbel⟩
  | true =>
    have h3 := hb
    simp only [askB, Bool.and_eq_true, Bool.not_eq_true', decide_eq_true_eq] at h3
    refine (Ask_yes P fr M cs tag verb uid sil sa sn sc l w h hc hr hl hq h3.1.1 h3.1.2 h3.2).mono ?_
    rintro e w' ⟨rfl, hg⟩
    exact ⟨rfl, hg⟩
end Go.Proofs.YtlmlbcnjohjnlaaDoor
