/- DiskKeeps: does. -/
import Derived.Test.YtbnicjpkfldcdaaDoorK9a
import Derived.Test.YtbnicjpkfldcdaaDoorD9xf
import Derived.Test.YtbnicjpkfldcdaaDoorD9ya
namespace Go.Proofs.YtbnicjpkfldcdaaDoor
open Go.RowKit Go.Lib

/-- Behind an operation of a script. -/
def DoneK (A : Whys) (w0 : World) (d : Nat) (S : DS) (P : List PF) (q : ActR) (K : List (Nat × Obj)) (s : ByteArray) (r : Value) (w' : World) : Prop :=
  ∃ K' op nm, Dk A w0 d S.next (nextF S (codeK S P q) P (doneK P q) (partK P q)) K' w' ∧ ErrK A op nm (errS S) (errC S (codeK S P q)) r K K' ∧ s = (if q.kind = 3 then readT S P q.name else ⟨#[]⟩)
theorem codeK_93 (S : DS) (P : List PF) (q : ActR) : codeK S P q ≠ 93 := by
  unfold codeK
  split
  · exact appCode_93 _ _ _ _
  split
  · exact renC_93 _ _ _
  split
  · exact truC_93 _ _ _
  · exact lookC_93 _ _
theorem doneK_1 {A : Whys} {w0 w' : World} {d : Nat} {S : DS} {P : List PF} {K K' : List (Nat × Obj)} {on : Int} {name dest data : ByteArray} {n : Int} {sa : Option Addr} {sn sc : Nat} {r : Value} (h : Dk A w0 d S.next (nextF S (appCode S P name data) P (growP name (L data) P) (fun y => growP name ((L data).take (wth y (data.size : Int)).toNat) P)) K' w') (he : ErrK A sApp name (errS S) (errC S (appCode S P name data)) r K K') :
    DoneK A w0 d S P ⟨1, on, name, dest, data, n, sa, sn, sc⟩ K (⟨#[]⟩) r w' := by
  have e1 : codeK S P ⟨1, on, name, dest, data, n, sa, sn, sc⟩ = appCode S P name data := by simp [codeK]
  have e2 : doneK P ⟨1, on, name, dest, data, n, sa, sn, sc⟩ = growP name (L data) P := by simp [doneK]
  have e3 : partK P ⟨1, on, name, dest, data, n, sa, sn, sc⟩ = fun y => growP name ((L data).take (wth y (data.size : Int)).toNat) P := by
    funext y
    simp [partK]
  exact ⟨K', _, _, by rw [e1, e2, e3]; exact h, by rw [e1]; exact he, by simp⟩
theorem doneK_2 {A : Whys} {w0 w' : World} {d : Nat} {S : DS} {P : List PF} {K K' : List (Nat × Obj)} {on : Int} {name dest data : ByteArray} {n : Int} {sa : Option Addr} {sn sc : Nat} {r : Value} (h : Dk A w0 d S.next (nextF S (lookC P name) P (modP name syncP P) (fun y => if 1 ≤ y then modP name syncP P else P)) K' w') (he : ErrK A sSync name (errS S) (errC S (lookC P name)) r K K') :
    DoneK A w0 d S P ⟨2, on, name, dest, data, n, sa, sn, sc⟩ K (⟨#[]⟩) r w' := by
  have e1 : codeK S P ⟨2, on, name, dest, data, n, sa, sn, sc⟩ = lookC P name := by simp [codeK]
  have e2 : doneK P ⟨2, on, name, dest, data, n, sa, sn, sc⟩ = modP name syncP P := by simp [doneK]
  have e3 : partK P ⟨2, on, name, dest, data, n, sa, sn, sc⟩ = fun y => if 1 ≤ y then modP name syncP P else P := by
    funext y
    simp [partK, doneK]
  exact ⟨K', _, _, by rw [e1, e2, e3]; exact h, by rw [e1]; exact he, by simp⟩
theorem doneK_3 {A : Whys} {w0 w' : World} {d : Nat} {S : DS} {P : List PF} {K K' : List (Nat × Obj)} {on : Int} {name dest data : ByteArray} {n : Int} {sa : Option Addr} {sn sc : Nat} {r : Value} (h : Dk A w0 d S.next (nextF S (lookC P name) P (P) (fun _ => P)) K' w') (he : ErrK A sRead name (errS S) (errC S (lookC P name)) r K K') :
    DoneK A w0 d S P ⟨3, on, name, dest, data, n, sa, sn, sc⟩ K (readT S P name) r w' := by
  have e1 : codeK S P ⟨3, on, name, dest, data, n, sa, sn, sc⟩ = lookC P name := by simp [codeK]
  have e2 : doneK P ⟨3, on, name, dest, data, n, sa, sn, sc⟩ = P := by simp [doneK]
  have e3 : partK P ⟨3, on, name, dest, data, n, sa, sn, sc⟩ = fun _ => P := by
    funext y
    simp [partK, doneK]
  exact ⟨K', _, _, by rw [e1, e2, e3]; exact h, by rw [e1]; exact he, by simp⟩
theorem doneK_4 {A : Whys} {w0 w' : World} {d : Nat} {S : DS} {P : List PF} {K K' : List (Nat × Obj)} {on : Int} {name dest data : ByteArray} {n : Int} {sa : Option Addr} {sn sc : Nat} {r : Value} (h : Dk A w0 d S.next (nextF S (renC P name dest) P (moveP name dest P) (fun y => if 1 ≤ y then moveP name dest P else P)) K' w') (he : ErrK A sRename name (errS S) (errC S (renC P name dest)) r K K') :
    DoneK A w0 d S P ⟨4, on, name, dest, data, n, sa, sn, sc⟩ K (⟨#[]⟩) r w' := by
  have e1 : codeK S P ⟨4, on, name, dest, data, n, sa, sn, sc⟩ = renC P name dest := by simp [codeK]
  have e2 : doneK P ⟨4, on, name, dest, data, n, sa, sn, sc⟩ = moveP name dest P := by simp [doneK]
  have e3 : partK P ⟨4, on, name, dest, data, n, sa, sn, sc⟩ = fun y => if 1 ≤ y then moveP name dest P else P := by
    funext y
    simp [partK, doneK]
  exact ⟨K', _, _, by rw [e1, e2, e3]; exact h, by rw [e1]; exact he, by simp⟩
theorem doneK_5 {A : Whys} {w0 w' : World} {d : Nat} {S : DS} {P : List PF} {K K' : List (Nat × Obj)} {on : Int} {name dest data : ByteArray} {n : Int} {sa : Option Addr} {sn sc : Nat} {r : Value} (h : Dk A w0 d S.next (nextF S (lookC P name) P (dropP name P) (fun y => if 1 ≤ y then dropP name P else P)) K' w') (he : ErrK A sRemove name (errS S) (errC S (lookC P name)) r K K') :
    DoneK A w0 d S P ⟨5, on, name, dest, data, n, sa, sn, sc⟩ K (⟨#[]⟩) r w' := by
  have e1 : codeK S P ⟨5, on, name, dest, data, n, sa, sn, sc⟩ = lookC P name := by simp [codeK]
  have e2 : doneK P ⟨5, on, name, dest, data, n, sa, sn, sc⟩ = dropP name P := by simp [doneK]
  have e3 : partK P ⟨5, on, name, dest, data, n, sa, sn, sc⟩ = fun y => if 1 ≤ y then dropP name P else P := by
    funext y
    simp [partK, doneK]
  exact ⟨K', _, _, by rw [e1, e2, e3]; exact h, by rw [e1]; exact he, by simp⟩
theorem doneK_6 {A : Whys} {w0 w' : World} {d : Nat} {S : DS} {P : List PF} {K K' : List (Nat × Obj)} {on : Int} {name dest data : ByteArray} {n : Int} {sa : Option Addr} {sn sc : Nat} {r : Value} (h : Dk A w0 d S.next (nextF S (truC P name n) P (modP name (cutF n.toNat) P) (fun y => if 1 ≤ y then modP name (cutF n.toNat) P else P)) K' w') (he : ErrK A sTrunc name (errS S) (errC S (truC P name n)) r K K') :
    DoneK A w0 d S P ⟨6, on, name, dest, data, n, sa, sn, sc⟩ K (⟨#[]⟩) r w' := by
  have e1 : codeK S P ⟨6, on, name, dest, data, n, sa, sn, sc⟩ = truC P name n := by simp [codeK]
  have e2 : doneK P ⟨6, on, name, dest, data, n, sa, sn, sc⟩ = modP name (cutF n.toNat) P := by simp [doneK]
  have e3 : partK P ⟨6, on, name, dest, data, n, sa, sn, sc⟩ = fun y => if 1 ≤ y then modP name (cutF n.toNat) P else P := by
    funext y
    simp [partK, doneK]
  exact ⟨K', _, _, by rw [e1, e2, e3]; exact h, by rw [e1]; exact he, by simp⟩
set_option maxHeartbeats 4000000 in
theorem doesK_any {A : Whys} {w0 w : World} {d : Nat} {S : DS} {P : List PF} {K : List (Nat × Obj)} (h : Dk A w0 d S P K w) (hok : S.ok) (hn : S.steps < 1000000000) (q : ActR) (hk : 1 ≤ q.kind ∧ q.kind ≤ 6) (hns : q.name.size ≤ 140737488355328) (hts : q.dest.size ≤ 140737488355328) :
    Calls Tryd.prog 8 #[.pointer (some ⟨d, 0, none⟩), .agg q.cells] w fun e w' => ∃ s r, e = .returned (.tuple #[.string s, r]) ∧ DoneK A w0 d S P q K s r w' := by
  obtain ⟨kind, on, name, dest, data, n, sa, sn, sc⟩ := q
  simp only [ActR.cells] at *
  have hbx : Below w.heap.size w (w.alloc (.cells #[.int .i64 kind, .int .i64 on, .string name, .string dest, .string data, .int .i64 n, .slice sa sn sc] 35)) := (Below.refl _ _).alloc (Nat.le_refl _) _
  have hob := heap_alloc_new w (.cells #[.int .i64 kind, .int .i64 on, .string name, .string dest, .string data, .int .i64 n, .slice sa sn sc] 35)
  obtain ⟨W, hW⟩ : ∃ W, w.alloc (.cells #[.int .i64 kind, .int .i64 on, .string name, .string dest, .string data, .int .i64 n, .slice sa sn sc] 35) = W := ⟨_, rfl⟩
  rw [hW] at hbx hob
  have c0 := cell_of hob 0
  have c2 := cell_of hob 2
  have c3 := cell_of hob 3
  have c4 := cell_of hob 4
  have c5 := cell_of hob 5
  simp only [List.getElem?_toArray, List.getElem?_cons_zero, List.getElem?_cons_succ] at c0 c2 c3 c4 c5
  have hD := h.up hbx
  have HW := Lib.hid hW
  by_cases h1 : kind = 1
  · subst h1
    have HC := Lib.hid (AppendD hD hok hn name data hns)
    clear h hok hn hns hts hbx hob hD hW hk
    go_enter Tryd.func8, Tryd.ntmps8
    go_upto_region 1 with fail
    rw [HW.out]
    go_wp2_with (go_at_call 16; refine HC.out.mono ?_; rintro e w2 ⟨r, K', rfl, hD2, hE2⟩; have HE := Lib.hid (And.intro hD2 hE2); clear hD2 hE2)
    go_ret2
    exact ⟨_, r, rfl, doneK_1 HE.out.1 HE.out.2⟩
  by_cases h2 : kind = 2
  · subst h2
    clear h1
    have HC := Lib.hid (SyncD hD hok hn name hns)
    clear h hok hn hns hts hbx hob hD hW hk
    go_enter Tryd.func8, Tryd.ntmps8
    go_upto_region 1 with fail
    rw [HW.out]
    go_wp2_with (go_at_call 22; refine HC.out.mono ?_; rintro e w2 ⟨r, K', rfl, hD2, hE2⟩; have HE := Lib.hid (And.intro hD2 hE2); clear hD2 hE2)
    go_ret2
    exact ⟨_, r, rfl, doneK_2 HE.out.1 HE.out.2⟩
  by_cases h3 : kind = 3
  · subst h3
    clear h1
    clear h2
    have HC := Lib.hid (ReadD hD hok hn name hns)
    clear h hok hn hns hts hbx hob hD hW hk
    go_enter Tryd.func8, Tryd.ntmps8
    go_upto_region 1 with fail
    rw [HW.out]
    go_wp2_with (go_at_call 17; refine HC.out.mono ?_; rintro e w2 ⟨r, K', rfl, hD2, hE2⟩; have HE := Lib.hid (And.intro hD2 hE2); clear hD2 hE2)
    go_ret2
    exact ⟨_, r, rfl, doneK_3 HE.out.1 HE.out.2⟩
  by_cases h4 : kind = 4
  · subst h4
    clear h1
    clear h2
    clear h3
    have HC := Lib.hid (RenameD hD hok hn name dest hns hts)
    clear h hok hn hns hts hbx hob hD hW hk
    go_enter Tryd.func8, Tryd.ntmps8
    go_upto_region 1 with fail
    rw [HW.out]
    go_wp2_with (go_at_call 23; refine HC.out.mono ?_; rintro e w2 ⟨r, K', rfl, hD2, hE2⟩; have HE := Lib.hid (And.intro hD2 hE2); clear hD2 hE2)
    go_ret2
    exact ⟨_, r, rfl, doneK_4 HE.out.1 HE.out.2⟩
  by_cases h5 : kind = 5
  · subst h5
    clear h1
    clear h2
    clear h3
    clear h4
    have HC := Lib.hid (RemoveD hD hok hn name hns)
    clear h hok hn hns hts hbx hob hD hW hk
    go_enter Tryd.func8, Tryd.ntmps8
    go_upto_region 1 with fail
    rw [HW.out]
    go_wp2_with (go_at_call 24; refine HC.out.mono ?_; rintro e w2 ⟨r, K', rfl, hD2, hE2⟩; have HE := Lib.hid (And.intro hD2 hE2); clear hD2 hE2)
    go_ret2
    exact ⟨_, r, rfl, doneK_5 HE.out.1 HE.out.2⟩
  have h6 : kind = 6 := by omega
  subst h6
  clear h1 h2 h3 h4 h5
  have HC := Lib.hid (TruncateD hD hok hn name n hns)
  clear h hok hn hns hts hbx hob hD hW hk
  go_enter Tryd.func8, Tryd.ntmps8
  go_upto_region 1 with fail
  rw [HW.out]
  go_wp2_with (go_at_call 25; refine HC.out.mono ?_; rintro e w2 ⟨r, K', rfl, hD2, hE2⟩; have HE := Lib.hid (And.intro hD2 hE2); clear hD2 hE2)
  go_ret2
  exact ⟨_, r, rfl, doneK_6 HE.out.1 HE.out.2⟩
end Go.Proofs.YtbnicjpkfldcdaaDoor

/- DiskKeeps: one step on one of the log's rows. -/
namespace Go.Proofs.YtbnicjpkfldcdaaDoor
open Go.RowKit Go.Lib

/-- What changes is there or new; the same of what is there behind it. -/
def FO (f f' : List Nat) (w w' : World) : Prop := Stays f w w' ∧ ∀ b, b ∈ f' → b ∈ f ∨ w.heap.size ≤ b
theorem FO.refl (f : List Nat) (w : World) : FO f f w w := ⟨Stays.refl _ _, fun _ h => .inl h⟩
theorem FO.below {f : List Nat} {w w' : World} (h : Below w.heap.size w w') : FO f f w w' := ⟨Stays.ofBelow h, fun _ h => .inl h⟩
theorem FO.trans {f f' f'' : List Nat} {w w' w'' : World} (h : FO f f' w w') (k : FO f' f'' w' w'') : FO f f'' w w'' := by
  refine ⟨h.1.trans k.1 h.2, fun b hb => ?_⟩
  rcases k.2 b hb with e | e
  · exact h.2 b e
  · exact .inr (Nat.le_trans h.1.size e)
theorem row_app {w : World} {B : Nat} {v : Value} {l : List ByteArray} (h : w.ownsRow B 9 1 v l.length (l.map Value.string)) (hB : B ≤ w.heap.size) (x : ByteArray) (hl : l.length ≤ 1000000) :
    ∃ a c W1, (Builtin.append_ #[30, 30] 30 #[v, .slice (some ⟨w.heap.size, 0, none⟩) 1 1]).run Tryd.prog (w.alloc (.cells #[.string x] 9)) = .ok (.slice a (l.length + 1) c) W1 ∧
      W1.ownsRow B 9 1 (.slice a (l.length + 1) c) (l ++ [x]).length ((l ++ [x]).map Value.string) ∧ w.grownBy W1 v.ownBlock ∧ ∀ b, (Value.slice a (l.length + 1) c).ownBlock = some b → v.ownBlock = some b ∨ w.heap.size ≤ b := by
  obtain ⟨i0, hi, hz0, hz1, hz2⟩ := info_parts' Tryd.infoStr
  have hrowY : (w.alloc (.cells #[.string x] 9)).ownsRow B 9 1 v l.length (l.map Value.string) := h.alloc _
  have hnew : (w.alloc (.cells #[.string x] 9)).heap[w.heap.size]? = some (.cells #[.string x] 9 (0, 0)) := heap_alloc_new w _
  obtain ⟨v', W3, hrun, hrow3, hgr, _, hat⟩ := run_append_own_at (P := Tryd.prog) (w.alloc (.cells #[.string x] 9)) B 30 30 9 i0 _ 1 16 Tryd.underlying30 hi hz0 hz1 hz2 rfl (by decide) v l.length (l.map Value.string) hrowY ⟨w.heap.size, 0, none⟩ 1 1 [.string x] rfl (by
      intro j u hj
      match j, hj with
      | 0, hj => simp at hj; subst hj; exact cell_of hnew 0
      | (j + 1), hj => simp at hj) (by
      intro u hu
      simp at hu
      subst hu; rfl) (by unfold maxLen; omega) (by omega) (by simp; omega)
  obtain ⟨a, c, rfl⟩ := ownsRow_shape hrow3
  refine ⟨a, c, W3, hrun, ?_, ⟨hgr.os, hgr.tape, hgr.output, by have := hgr.size; simp at this; omega, fun k hk hne => by rw [hgr.block k (by simp; omega) hne, Below.heap_alloc _ _ _ hk]⟩, fun b hb => ?_⟩
  · rw [List.map_append, List.length_append]
    exact hrow3
  · rcases hat with hat | hat
    · exact .inl (by rw [← hat]; exact hb)
    · rw [hat] at hb
      simp at hb
      exact .inr (by omega)
theorem row_at {w : World} {B : Nat} {v : Value} {l : List ByteArray} (h : w.ownsRow B 9 1 v l.length (l.map Value.string)) {i : Nat} {x : ByteArray} (hx : l[i]? = some x) : ∃ g c, v = .slice (some ⟨g, 0, none⟩) l.length c ∧ w.cell? ⟨g, i, none⟩ = some (.string x) ∧ w.frozen? ⟨g, i, none⟩ = false := by
  have hi : i < l.length := (List.getElem?_eq_some_iff.1 hx).1
  rcases h.2 with ⟨rfl, h0⟩ | ⟨g, cap, cur, rfl, _⟩
  · omega
  · refine ⟨g, cap, rfl, ?_, h.frozenAt i⟩
    rw [h.cellAt i (by omega), List.getElem?_map, hx]
    rfl
theorem L3.app0 {B bp : Nat} {vn va vs : Value} {ln la ls : List ByteArray} {w : World} (h : L3 B bp vn va vs ln la ls w) (hB : B ≤ w.heap.size) (x : ByteArray) (hl : ln.length ≤ 1000000) :
    ∃ a c W1, (Builtin.append_ #[30, 30] 30 #[vn, .slice (some ⟨w.heap.size, 0, none⟩) 1 1]).run Tryd.prog (w.alloc (.cells #[.string x] 9)) = .ok (.slice a (ln.length + 1) c) W1 ∧ W1.heap[bp]? = some (.cells #[vn, va, vs] 32 (0, 0)) ∧
      L3 B bp (.slice a (ln.length + 1) c) va vs (ln ++ [x]) la ls (W1.setCell ⟨bp, 0, none⟩ (.slice a (ln.length + 1) c)) ∧ FO (fpG bp vn va vs) (fpG bp (.slice a (ln.length + 1) c) va vs) w (W1.setCell ⟨bp, 0, none⟩ (.slice a (ln.length + 1) c)) := by
  obtain ⟨a, c, W1, hrun, hrow, hg, hown⟩ := row_app h.rn hB x hl
  have hbl := lt_of_heap h.self
  have hs1 : W1.heap[bp]? = some (.cells #[vn, va, vs] 32 (0, 0)) := by rw [hg.block bp hbl (fun e => h.apart.p0 e.symm)]; exact h.self
  refine ⟨a, c, W1, hrun, hs1, ⟨?_, ownsRow_same hrow (fun b e => Below.heap_setCell _ _ _ _ (fun e' => by subst e'; rcases hown _ e with e2 | e2 <;> first | exact h.apart.p0 e2 | omega)), ownsRow_same h.ra (fun b e => by rw [Below.heap_setCell _ _ _ _ (fun e' => h.apart.p1 (e.trans (congrArg some e'))), hg.block b (h.ra.lt b e).2 (fun e' => (fun b e0 e1 => h.apart.x01 b e1 e0) b e e'.symm)]), ownsRow_same h.rs (fun b e => by rw [Below.heap_setCell _ _ _ _ (fun e' => h.apart.p2 (e.trans (congrArg some e'))), hg.block b (h.rs.lt b e).2 (fun e' => (fun b e0 e1 => h.apart.x02 b e1 e0) b e e'.symm)]), ⟨fun e => by rcases hown _ e with e' | e' <;> first | exact h.apart.p0 e' | omega, h.apart.p1, h.apart.p2, fun b e e2 => by rcases hown b e with e' | e' <;> first | exact h.apart.x01 b e' e2 | (have := (h.ra.lt b e2).2; omega), fun b e e2 => by rcases hown b e with e' | e' <;> first | exact h.apart.x02 b e' e2 | (have := (h.rs.lt b e2).2; omega), h.apart.x12⟩, h.lo⟩, ?_, ?_⟩
  · rw [heap_setCell_at _ hs1]
    rfl
  · exact Stays.setCell (p := ⟨bp, 0, none⟩) (Stays.ofGrown hg (fun b e => mem_fpG_n e)) (.inl mem_fpG_p) _
  · intro b hb
    simp only [fpG, List.mem_cons, List.mem_append, Option.mem_toList] at hb
    rcases hb with rfl | hb | hb | hb
    · exact .inl mem_fpG_p
    · exact (hown b hb).imp (fun e => mem_fpG_n e) id
    · exact .inl (mem_fpG_a hb)
    · exact .inl (mem_fpG_s hb)
theorem L3.put0 {B bp : Nat} {vn va vs : Value} {ln la ls : List ByteArray} {w : World} (h : L3 B bp vn va vs ln la ls w) {i : Nat} {y : ByteArray} (hi : ln[i]? = some y) :
    ∃ g c, vn = .slice (some ⟨g, 0, none⟩) ln.length c ∧ w.cell? ⟨g, i, none⟩ = some (.string y) ∧ w.frozen? ⟨g, i, none⟩ = false ∧ ∀ x, L3 B bp vn va vs (ln.set i x) la ls (w.setCell ⟨g, i, none⟩ (.string x)) ∧ FO (fpG bp vn va vs) (fpG bp vn va vs) w (w.setCell ⟨g, i, none⟩ (.string x)) := by
  obtain ⟨g, c, hv, hc, hf⟩ := row_at h.rn hi
  subst hv
  refine ⟨g, c, rfl, hc, hf, fun x => ?_⟩
  have hst := h.rn.stored i (.string x)
  have hgb : g ≠ bp := fun e => h.apart.p0 (by rw [← e]; rfl)
  refine ⟨⟨?_, by rw [List.length_set, List.map_set]; exact hst.1, ownsRow_same h.ra (fun b e => Below.heap_setCell _ _ _ _ (fun e' => (fun b e0 e1 => h.apart.x01 b e1 e0) b e (by rw [e']; rfl))), ownsRow_same h.rs (fun b e => Below.heap_setCell _ _ _ _ (fun e' => (fun b e0 e1 => h.apart.x02 b e1 e0) b e (by rw [e']; rfl))), h.apart, h.lo⟩, Stays.setCell (p := ⟨g, i, none⟩) (Stays.refl _ _) (.inl (mem_fpG_n rfl)) _, fun b hb => .inl hb⟩
  rw [Below.heap_setCell _ _ _ _ hgb.symm]
  exact h.self
theorem L3.cut0 {B bp : Nat} {vn va vs : Value} {ln la ls : List ByteArray} {w : World} (h : L3 B bp vn va vs ln la ls w) {m : List ByteArray} {z : ByteArray} (hm : ln = m ++ [z]) :
    ∃ g c, vn = .slice (some ⟨g, 0, none⟩) (m.length + 1) c ∧ m.length + 1 ≤ c ∧ c ≤ maxLen ∧ L3 B bp (.slice (some ⟨g, 0, none⟩) m.length c) va vs m la ls (w.setCell ⟨bp, 0, none⟩ (.slice (some ⟨g, 0, none⟩) m.length c)) ∧ FO (fpG bp vn va vs) (fpG bp (.slice (some ⟨g, 0, none⟩) m.length c) va vs) w (w.setCell ⟨bp, 0, none⟩ (.slice (some ⟨g, 0, none⟩) m.length c)) := by
  subst hm
  have hrow := h.rn
  rw [List.length_append, List.map_append] at hrow
  obtain ⟨g, c, hv, hc1, hc2⟩ : ∃ g c, vn = .slice (some ⟨g, 0, none⟩) (m.length + 1) c ∧ m.length + 1 ≤ c ∧ c ≤ maxLen := by
    rcases hrow.2 with ⟨_, h0⟩ | ⟨g, cap, cur, hv, _, _, h1, h2, _⟩
    · simp at h0
    · exact ⟨g, cap, hv, h1, h2⟩
  subst hv
  refine ⟨g, c, rfl, hc1, hc2, ⟨?_, ownsRow_same (ownsRow_pop (by simp) hrow) (fun b e => Below.heap_setCell _ _ _ _ (fun e' => h.apart.p0 (e.trans (congrArg some e')))), ownsRow_same h.ra (fun b e => Below.heap_setCell _ _ _ _ (fun e' => h.apart.p1 (e.trans (congrArg some e')))), ownsRow_same h.rs (fun b e => Below.heap_setCell _ _ _ _ (fun e' => h.apart.p2 (e.trans (congrArg some e')))), ⟨h.apart.p0, h.apart.p1, h.apart.p2, h.apart.x01, h.apart.x02, h.apart.x12⟩, h.lo⟩, Stays.setCell (p := ⟨bp, 0, none⟩) (Stays.refl _ _) (.inl mem_fpG_p) _, fun b hb => .inl hb⟩
  rw [heap_setCell_at _ h.self]
  rfl
theorem L3.app1 {B bp : Nat} {vn va vs : Value} {ln la ls : List ByteArray} {w : World} (h : L3 B bp vn va vs ln la ls w) (hB : B ≤ w.heap.size) (x : ByteArray) (hl : la.length ≤ 1000000) :
    ∃ a c W1, (Builtin.append_ #[30, 30] 30 #[va, .slice (some ⟨w.heap.size, 0, none⟩) 1 1]).run Tryd.prog (w.alloc (.cells #[.string x] 9)) = .ok (.slice a (la.length + 1) c) W1 ∧ W1.heap[bp]? = some (.cells #[vn, va, vs] 32 (0, 0)) ∧
      L3 B bp vn (.slice a (la.length + 1) c) vs ln (la ++ [x]) ls (W1.setCell ⟨bp, 1, none⟩ (.slice a (la.length + 1) c)) ∧ FO (fpG bp vn va vs) (fpG bp vn (.slice a (la.length + 1) c) vs) w (W1.setCell ⟨bp, 1, none⟩ (.slice a (la.length + 1) c)) := by
  obtain ⟨a, c, W1, hrun, hrow, hg, hown⟩ := row_app h.ra hB x hl
  have hbl := lt_of_heap h.self
  have hs1 : W1.heap[bp]? = some (.cells #[vn, va, vs] 32 (0, 0)) := by rw [hg.block bp hbl (fun e => h.apart.p1 e.symm)]; exact h.self
  refine ⟨a, c, W1, hrun, hs1, ⟨?_, ownsRow_same h.rn (fun b e => by rw [Below.heap_setCell _ _ _ _ (fun e' => h.apart.p0 (e.trans (congrArg some e'))), hg.block b (h.rn.lt b e).2 (fun e' => h.apart.x01 b e e'.symm)]), ownsRow_same hrow (fun b e => Below.heap_setCell _ _ _ _ (fun e' => by subst e'; rcases hown _ e with e2 | e2 <;> first | exact h.apart.p1 e2 | omega)), ownsRow_same h.rs (fun b e => by rw [Below.heap_setCell _ _ _ _ (fun e' => h.apart.p2 (e.trans (congrArg some e'))), hg.block b (h.rs.lt b e).2 (fun e' => (fun b e0 e1 => h.apart.x12 b e1 e0) b e e'.symm)]), ⟨h.apart.p0, fun e => by rcases hown _ e with e' | e' <;> first | exact h.apart.p1 e' | omega, h.apart.p2, fun b e2 e => by rcases hown b e with e' | e' <;> first | exact (fun b e0 e1 => h.apart.x01 b e1 e0) b e' e2 | (have := (h.rn.lt b e2).2; omega), h.apart.x02, fun b e e2 => by rcases hown b e with e' | e' <;> first | exact h.apart.x12 b e' e2 | (have := (h.rs.lt b e2).2; omega)⟩, h.lo⟩, ?_, ?_⟩
  · rw [heap_setCell_at _ hs1]
    rfl
  · exact Stays.setCell (p := ⟨bp, 1, none⟩) (Stays.ofGrown hg (fun b e => mem_fpG_a e)) (.inl mem_fpG_p) _
  · intro b hb
    simp only [fpG, List.mem_cons, List.mem_append, Option.mem_toList] at hb
    rcases hb with rfl | hb | hb | hb
    · exact .inl mem_fpG_p
    · exact .inl (mem_fpG_n hb)
    · exact (hown b hb).imp (fun e => mem_fpG_a e) id
    · exact .inl (mem_fpG_s hb)
theorem L3.put1 {B bp : Nat} {vn va vs : Value} {ln la ls : List ByteArray} {w : World} (h : L3 B bp vn va vs ln la ls w) {i : Nat} {y : ByteArray} (hi : la[i]? = some y) :
    ∃ g c, va = .slice (some ⟨g, 0, none⟩) la.length c ∧ w.cell? ⟨g, i, none⟩ = some (.string y) ∧ w.frozen? ⟨g, i, none⟩ = false ∧ ∀ x, L3 B bp vn va vs ln (la.set i x) ls (w.setCell ⟨g, i, none⟩ (.string x)) ∧ FO (fpG bp vn va vs) (fpG bp vn va vs) w (w.setCell ⟨g, i, none⟩ (.string x)) := by
  obtain ⟨g, c, hv, hc, hf⟩ := row_at h.ra hi
  subst hv
  refine ⟨g, c, rfl, hc, hf, fun x => ?_⟩
  have hst := h.ra.stored i (.string x)
  have hgb : g ≠ bp := fun e => h.apart.p1 (by rw [← e]; rfl)
  refine ⟨⟨?_, ownsRow_same h.rn (fun b e => Below.heap_setCell _ _ _ _ (fun e' => h.apart.x01 b e (by rw [e']; rfl))), by rw [List.length_set, List.map_set]; exact hst.1, ownsRow_same h.rs (fun b e => Below.heap_setCell _ _ _ _ (fun e' => (fun b e0 e1 => h.apart.x12 b e1 e0) b e (by rw [e']; rfl))), h.apart, h.lo⟩, Stays.setCell (p := ⟨g, i, none⟩) (Stays.refl _ _) (.inl (mem_fpG_a rfl)) _, fun b hb => .inl hb⟩
  rw [Below.heap_setCell _ _ _ _ hgb.symm]
  exact h.self
theorem L3.cut1 {B bp : Nat} {vn va vs : Value} {ln la ls : List ByteArray} {w : World} (h : L3 B bp vn va vs ln la ls w) {m : List ByteArray} {z : ByteArray} (hm : la = m ++ [z]) :
    ∃ g c, va = .slice (some ⟨g, 0, none⟩) (m.length + 1) c ∧ m.length + 1 ≤ c ∧ c ≤ maxLen ∧ L3 B bp vn (.slice (some ⟨g, 0, none⟩) m.length c) vs ln m ls (w.setCell ⟨bp, 1, none⟩ (.slice (some ⟨g, 0, none⟩) m.length c)) ∧ FO (fpG bp vn va vs) (fpG bp vn (.slice (some ⟨g, 0, none⟩) m.length c) vs) w (w.setCell ⟨bp, 1, none⟩ (.slice (some ⟨g, 0, none⟩) m.length c)) := by
  subst hm
  have hrow := h.ra
  rw [List.length_append, List.map_append] at hrow
  obtain ⟨g, c, hv, hc1, hc2⟩ : ∃ g c, va = .slice (some ⟨g, 0, none⟩) (m.length + 1) c ∧ m.length + 1 ≤ c ∧ c ≤ maxLen := by
    rcases hrow.2 with ⟨_, h0⟩ | ⟨g, cap, cur, hv, _, _, h1, h2, _⟩
    · simp at h0
    · exact ⟨g, cap, hv, h1, h2⟩
  subst hv
  refine ⟨g, c, rfl, hc1, hc2, ⟨?_, ownsRow_same h.rn (fun b e => Below.heap_setCell _ _ _ _ (fun e' => h.apart.p0 (e.trans (congrArg some e')))), ownsRow_same (ownsRow_pop (by simp) hrow) (fun b e => Below.heap_setCell _ _ _ _ (fun e' => h.apart.p1 (e.trans (congrArg some e')))), ownsRow_same h.rs (fun b e => Below.heap_setCell _ _ _ _ (fun e' => h.apart.p2 (e.trans (congrArg some e')))), ⟨h.apart.p0, h.apart.p1, h.apart.p2, h.apart.x01, h.apart.x02, h.apart.x12⟩, h.lo⟩, Stays.setCell (p := ⟨bp, 1, none⟩) (Stays.refl _ _) (.inl mem_fpG_p) _, fun b hb => .inl hb⟩
  rw [heap_setCell_at _ h.self]
  rfl
theorem L3.app2 {B bp : Nat} {vn va vs : Value} {ln la ls : List ByteArray} {w : World} (h : L3 B bp vn va vs ln la ls w) (hB : B ≤ w.heap.size) (x : ByteArray) (hl : ls.length ≤ 1000000) :
    ∃ a c W1, (Builtin.append_ #[30, 30] 30 #[vs, .slice (some ⟨w.heap.size, 0, none⟩) 1 1]).run Tryd.prog (w.alloc (.cells #[.string x] 9)) = .ok (.slice a (ls.length + 1) c) W1 ∧ W1.heap[bp]? = some (.cells #[vn, va, vs] 32 (0, 0)) ∧
      L3 B bp vn va (.slice a (ls.length + 1) c) ln la (ls ++ [x]) (W1.setCell ⟨bp, 2, none⟩ (.slice a (ls.length + 1) c)) ∧ FO (fpG bp vn va vs) (fpG bp vn va (.slice a (ls.length + 1) c)) w (W1.setCell ⟨bp, 2, none⟩ (.slice a (ls.length + 1) c)) := by
  obtain ⟨a, c, W1, hrun, hrow, hg, hown⟩ := row_app h.rs hB x hl
  have hbl := lt_of_heap h.self
  have hs1 : W1.heap[bp]? = some (.cells #[vn, va, vs] 32 (0, 0)) := by rw [hg.block bp hbl (fun e => h.apart.p2 e.symm)]; exact h.self
  refine ⟨a, c, W1, hrun, hs1, ⟨?_, ownsRow_same h.rn (fun b e => by rw [Below.heap_setCell _ _ _ _ (fun e' => h.apart.p0 (e.trans (congrArg some e'))), hg.block b (h.rn.lt b e).2 (fun e' => h.apart.x02 b e e'.symm)]), ownsRow_same h.ra (fun b e => by rw [Below.heap_setCell _ _ _ _ (fun e' => h.apart.p1 (e.trans (congrArg some e'))), hg.block b (h.ra.lt b e).2 (fun e' => h.apart.x12 b e e'.symm)]), ownsRow_same hrow (fun b e => Below.heap_setCell _ _ _ _ (fun e' => by subst e'; rcases hown _ e with e2 | e2 <;> first | exact h.apart.p2 e2 | omega)), ⟨h.apart.p0, h.apart.p1, fun e => by rcases hown _ e with e' | e' <;> first | exact h.apart.p2 e' | omega, h.apart.x01, fun b e2 e => by rcases hown b e with e' | e' <;> first | exact (fun b e0 e1 => h.apart.x02 b e1 e0) b e' e2 | (have := (h.rn.lt b e2).2; omega), fun b e2 e => by rcases hown b e with e' | e' <;> first | exact (fun b e0 e1 => h.apart.x12 b e1 e0) b e' e2 | (have := (h.ra.lt b e2).2; omega)⟩, h.lo⟩, ?_, ?_⟩
  · rw [heap_setCell_at _ hs1]
    rfl
  · exact Stays.setCell (p := ⟨bp, 2, none⟩) (Stays.ofGrown hg (fun b e => mem_fpG_s e)) (.inl mem_fpG_p) _
  · intro b hb
    simp only [fpG, List.mem_cons, List.mem_append, Option.mem_toList] at hb
    rcases hb with rfl | hb | hb | hb
    · exact .inl mem_fpG_p
    · exact .inl (mem_fpG_n hb)
    · exact .inl (mem_fpG_a hb)
    · exact (hown b hb).imp (fun e => mem_fpG_s e) id
theorem L3.put2 {B bp : Nat} {vn va vs : Value} {ln la ls : List ByteArray} {w : World} (h : L3 B bp vn va vs ln la ls w) {i : Nat} {y : ByteArray} (hi : ls[i]? = some y) :
    ∃ g c, vs = .slice (some ⟨g, 0, none⟩) ls.length c ∧ w.cell? ⟨g, i, none⟩ = some (.string y) ∧ w.frozen? ⟨g, i, none⟩ = false ∧ ∀ x, L3 B bp vn va vs ln la (ls.set i x) (w.setCell ⟨g, i, none⟩ (.string x)) ∧ FO (fpG bp vn va vs) (fpG bp vn va vs) w (w.setCell ⟨g, i, none⟩ (.string x)) := by
  obtain ⟨g, c, hv, hc, hf⟩ := row_at h.rs hi
  subst hv
  refine ⟨g, c, rfl, hc, hf, fun x => ?_⟩
  have hst := h.rs.stored i (.string x)
  have hgb : g ≠ bp := fun e => h.apart.p2 (by rw [← e]; rfl)
  refine ⟨⟨?_, ownsRow_same h.rn (fun b e => Below.heap_setCell _ _ _ _ (fun e' => h.apart.x02 b e (by rw [e']; rfl))), ownsRow_same h.ra (fun b e => Below.heap_setCell _ _ _ _ (fun e' => h.apart.x12 b e (by rw [e']; rfl))), by rw [List.length_set, List.map_set]; exact hst.1, h.apart, h.lo⟩, Stays.setCell (p := ⟨g, i, none⟩) (Stays.refl _ _) (.inl (mem_fpG_s rfl)) _, fun b hb => .inl hb⟩
  rw [Below.heap_setCell _ _ _ _ hgb.symm]
  exact h.self
theorem L3.cut2 {B bp : Nat} {vn va vs : Value} {ln la ls : List ByteArray} {w : World} (h : L3 B bp vn va vs ln la ls w) {m : List ByteArray} {z : ByteArray} (hm : ls = m ++ [z]) :
    ∃ g c, vs = .slice (some ⟨g, 0, none⟩) (m.length + 1) c ∧ m.length + 1 ≤ c ∧ c ≤ maxLen ∧ L3 B bp vn va (.slice (some ⟨g, 0, none⟩) m.length c) ln la m (w.setCell ⟨bp, 2, none⟩ (.slice (some ⟨g, 0, none⟩) m.length c)) ∧ FO (fpG bp vn va vs) (fpG bp vn va (.slice (some ⟨g, 0, none⟩) m.length c)) w (w.setCell ⟨bp, 2, none⟩ (.slice (some ⟨g, 0, none⟩) m.length c)) := by
  subst hm
  have hrow := h.rs
  rw [List.length_append, List.map_append] at hrow
  obtain ⟨g, c, hv, hc1, hc2⟩ : ∃ g c, vs = .slice (some ⟨g, 0, none⟩) (m.length + 1) c ∧ m.length + 1 ≤ c ∧ c ≤ maxLen := by
    rcases hrow.2 with ⟨_, h0⟩ | ⟨g, cap, cur, hv, _, _, h1, h2, _⟩
    · simp at h0
    · exact ⟨g, cap, hv, h1, h2⟩
  subst hv
  refine ⟨g, c, rfl, hc1, hc2, ⟨?_, ownsRow_same h.rn (fun b e => Below.heap_setCell _ _ _ _ (fun e' => h.apart.p0 (e.trans (congrArg some e')))), ownsRow_same h.ra (fun b e => Below.heap_setCell _ _ _ _ (fun e' => h.apart.p1 (e.trans (congrArg some e')))), ownsRow_same (ownsRow_pop (by simp) hrow) (fun b e => Below.heap_setCell _ _ _ _ (fun e' => h.apart.p2 (e.trans (congrArg some e')))), ⟨h.apart.p0, h.apart.p1, h.apart.p2, h.apart.x01, h.apart.x02, h.apart.x12⟩, h.lo⟩, Stays.setCell (p := ⟨bp, 2, none⟩) (Stays.refl _ _) (.inl mem_fpG_p) _, fun b hb => .inl hb⟩
  rw [heap_setCell_at _ h.self]
  rfl
end Go.Proofs.YtbnicjpkfldcdaaDoor
