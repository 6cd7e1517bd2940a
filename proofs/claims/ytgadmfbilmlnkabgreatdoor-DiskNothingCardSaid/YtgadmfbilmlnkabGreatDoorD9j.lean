/- disk: grow where there is no such file; drop. -/
import Derived.Test.YtgadmfbilmlnkabGreatDoorD9i
import Derived.Maps.OwnSet
namespace Go.Proofs.YtgadmfbilmlnkabGreatDoor
open Go.RowKit Go.Lib

def freshF (n : ByteArray) (k clk : Nat) : FE := ⟨n, [], 0, k, .slice none 0 0, clk⟩
theorem come_put {B d m clk : Nat} {sv : Value} {S : DS} {F : List FE} {w w1 : World} (h : DiskAt B d m clk sv S F w) (n : ByteArray) (hnew : ∀ g, g ∈ F → g.name ≠ n)
    (hb : Below (w.alloc (.cells #[.slice none 0 0, .int .i64 0] 83)).heap.size (w.alloc (.cells #[.slice none 0 0, .int .i64 0] 83)) w1) :
    DiskAt B d m (clk + 1) sv S (F ++ [freshF n w.heap.size clk]) (putObj w1 m (.map ((F.map FE.entry).toArray.push { key := .string n, val := .pointer (some ⟨w.heap.size, 0, none⟩), born := clk }) (clk + 1))) ∧
    Stays (fpOf d m sv F) w (putObj w1 m (.map ((F.map FE.entry).toArray.push { key := .string n, val := .pointer (some ⟨w.heap.size, 0, none⟩), born := clk }) (clk + 1))) ∧
    ∀ b, b ∈ fpOf d m sv (F ++ [freshF n w.heap.size clk]) → b ∈ fpOf d m sv F ∨ w.heap.size ≤ b := by
  have hz := hb.size
  simp at hz
  have hml := lt_of_heap h.map
  have hst : Stays (fpOf d m sv F) w w1 := ((Stays.refl _ w).alloc (.cells #[.slice none 0 0, .int .i64 0] 83)).trans (Stays.ofBelow (fp := []) hb) (fun b e => by cases e)
  have hnf : w.heap.size ∉ fpOf d m sv F := fun e => Nat.lt_irrefl _ (h.lt e)
  refine ⟨h.come (freshF n w.heap.size clk) hnew rfl rfl rfl rfl ?_ hnf h.size ?_ (by rw [putObj_size]; omega) ?_, hst.put (.inl mem_fp_map) _, ?_⟩
  · show (putObj w1 m _).heap[w.heap.size]? = _
    rw [putObj_ne _ (by omega), hb.block _ (by simp)]
    exact heap_alloc_new w _
  · rw [putObj_at _ (by omega), ← map_push]
    rfl
  · intro b hbm hne
    rw [putObj_ne _ hne, hb.block b (by have := h.lt hbm; simp; omega), Below.heap_alloc _ _ _ (h.lt hbm)]
  · intro b e
    have hfp : fpOf d m sv (F ++ [freshF n w.heap.size clk]) = fpOf d m sv F ++ [w.heap.size] := by simp [fpOf, FE.blks, freshF, Value.ownBlock]
    rw [hfp] at e
    rcases List.mem_append.1 e with e | e
    · exact .inl e
    · simp at e; exact .inr (by omega)
set_option maxHeartbeats 2000000 in
theorem grow_new {B d m clk : Nat} {sv : Value} {S : DS} {F : List FE} {w : World} (h : DiskAt B d m clk sv S F w) (n s : ByteArray) (hns : n.size ≤ 140737488355328) (hnew : ∀ g, g ∈ F → g.name ≠ n) (hs : usedF F + s.size ≤ S.quota) :
    Calls Tryz.prog 36 #[.pointer (some ⟨d, 0, none⟩), .string n, .string s] w fun e w' => e = .returned (.tuple #[]) ∧ Did B d m sv S F w (growP n (L s) (F.map FE.pl)) w' := by
  have hF := Lib.hid (find_no h n hnew)
  have hq := h.quota
  have hdl := lt_of_heap h.self
  have hml := lt_of_heap h.map
  have hPut := Lib.hid (put_raw (d := d) (m := m) (clk := clk) (k := w.heap.size) (es := (F.map FE.entry).toArray) (w := w.alloc (.cells #[.slice none 0 0, .int .i64 0] 83)) n hns
    (by rw [World.cell?_of_block (Below.heap_alloc _ _ _ hdl)]; exact h.cells.c5) (by rw [Below.heap_alloc _ _ _ hml]; exact h.map) (by simpa using findNow_no n F hnew 0))
  have HP := Lib.hid (fun w1 => come_put (w1 := w1) h n hnew)
  have HG : Hid (growP n (L s) (F.map FE.pl) = F.map FE.pl ++ [⟨n, L s, 0⟩]) := Lib.hid (by
    unfold growP
    rw [hasP_no hnew]
    rfl)
  have HU : Hid (usedF (F ++ [freshF n w.heap.size clk]) = usedF F) := Lib.hid (by rw [usedF_snoc]; rfl)
  have HS := Lib.hid hs
  have HQ := Lib.hid hq
  clear h hnew hns hs hq
  go_enter Tryz.func36, Tryz.ntmps36
  go_upto_region 4 with (first | (go_at_call 64; refine hF.out.mono ?_; rintro e w' ⟨rfl, rfl⟩) | (go_at_call 65; refine hPut.out.mono ?_; rintro e w2 ⟨rfl, w1, hb, hw⟩; have HW := Lib.hid hw; clear hw))
  obtain ⟨hD2, hS2, hM2⟩ := HP.out w1 hb
  rw [← HW.out] at hD2 hS2
  clear HW
  clear hb HP hPut hF
  obtain ⟨a, c, a', c', W1, ⟨happ, c0, k0, fz, hu, huf⟩, hD, hS, hP⟩ := grow_tail hD2 s (by rw [HU.out]; exact HS.out)
  have hub : usedF F + s.size ≤ 1048576 := by have := HS.out; have := HQ.out; omega
  rw [HU.out] at hu hD hS
  have hE := Lib.hid (And.intro hD (And.intro (hS2.trans hS hM2) (fun b hb => show b ∈ fpOf d m sv F ∨ w'.heap.size ≤ b from by
    rcases hP b hb with e | e
    · exact hM2 b e
    · exact .inr (Nat.le_trans hS2.size e))))
  have HA := Lib.hid happ
  clear hD hS hP hS2 hM2 hD2 happ
  generalize (freshF n w'.heap.size clk).data.length = fl at *
  generalize usedF F = us at *
  simp only [show (freshF n w'.heap.size clk).blk = w'.heap.size from rfl] at c0 k0 fz hu huf
  go_wp2_with (at_builtin; refine append_by_run rfl _ _ _ rfl _ rfl _ _ rfl rfl _ _ HA.out ?_)
  first | refine bodyPost_end (results_none rfl _ _ _) rfl ?_ | refine bodyPost_ret (results_none rfl _ _ _) rfl ?_
  refine ⟨rfl, _, _, hE.out.1, ?_, hE.out.2.1, hE.out.2.2⟩
  rw [HG.out]
  simp [FE.pl, freshF]
def dropP (n : ByteArray) (P : List PF) : List PF := P.filter fun p => !decide (p.name = n)
theorem dropP_no {F : List FE} {n : ByteArray} (h : ∀ g, g ∈ F → g.name ≠ n) : dropP n (F.map FE.pl) = F.map FE.pl := by
  unfold dropP
  rw [List.filter_eq_self]
  intro p hp
  obtain ⟨g, hg, rfl⟩ := List.mem_map.1 hp
  simp [FE.pl, h g hg]
theorem dropP_hit {F1 F2 : List FE} {f : FE} {n : ByteArray} (hn : f.name = n) (hnd : ((F1 ++ f :: F2).map FE.name).Nodup) : dropP n ((F1 ++ f :: F2).map FE.pl) = (F1 ++ F2).map FE.pl := by
  subst hn
  obtain ⟨h1, h2⟩ := names_tail hnd
  have e1 := dropP_no h1
  have e2 := dropP_no h2
  unfold dropP at *
  rw [List.map_append, List.map_cons, List.filter_append, List.filter_cons, e1, e2]
  simp [FE.pl]
theorem delete_by_run {ops : Array Oper} {rest : List Oper} {o : Oper} {a : Act} {Q : Exit → Act → World → Prop} {w : World} (hgd : o.guard = none) (s x : Operand) (ts : Array TypeId)
    (ho : o.op = .call { callee := .builtin .delete, args := #[s, x], argTypes := ts }) (u v : Value) (hs : a.eval s = u) (hx : a.eval x = v) (v' : Value) (w' : World)
    (hr : (Builtin.delete_ ts o.type #[u, v]).run Tryz.prog w = .ok v' w') (h : wpList Tryz.prog ops Q rest (a.put o.dst v') w') : wpList Tryz.prog ops Q (o :: rest) a w := by
  refine wpList_plain hgd fun K hK => ?_
  unfold Oper.wp execOp
  simp only [ho, resolve, invoke, builtin, Sem.run_bind, Sem.run_pure, Result.andThen_ok, List.map_toArray, List.map_cons, List.map_nil, hs, hx, hr]
  exact hK _ _ h
theorem drop_no {B d m clk : Nat} {sv : Value} {S : DS} {F : List FE} {w : World} (h : DiskAt B d m clk sv S F w) (n : ByteArray) (hnew : ∀ g, g ∈ F → g.name ≠ n) :
    Calls Tryz.prog 76 #[.pointer (some ⟨d, 0, none⟩), .string n] w fun e w' => e = .returned (.tuple #[]) ∧ w' = w := by
  have hF := Lib.hid (find_no h n hnew)
  clear h hnew
  go_enter Tryz.func76, Tryz.ntmps76
  go_wp2_with (go_at_call 64; refine hF.out.mono ?_; rintro e w' ⟨rfl, rfl⟩)
  first | refine bodyPost_end (results_none rfl _ _ _) rfl ?_ | refine bodyPost_ret (results_none rfl _ _ _) rfl ?_
  exact ⟨rfl, rfl⟩
def mapObj (F : List FE) (clk : Nat) : Obj := .map (F.map FE.entry).toArray clk
theorem gone_world {B d m clk : Nat} {sv : Value} {S : DS} {F1 F2 : List FE} {f : FE} {w : World} (h : DiskAt B d m clk sv S (F1 ++ f :: F2) w) (W : World) (hW : W = putObj (w.setCell ⟨d, 1, none⟩ (.int .i64 ((usedF (F1 ++ f :: F2) : Int) - (f.data.length : Int)))).drew m (mapObj (F1 ++ F2) clk)) :
    DiskAt B d m clk sv S (F1 ++ F2) W ∧ Stays (fpOf d m sv (F1 ++ f :: F2)) w W := by
  subst hW
  obtain ⟨hdb, hrd, hrb, hmd, hmb, hrm⟩ := apart_self h
  have hml := lt_of_heap h.map
  refine ⟨h.gone (f := f) ?_ ?_ ?_ ?_, ?_⟩
  · rw [putObj_ne _ (fun e => hmd e.symm)]
    have hs := h.self
    unfold selfObj at hs
    show (w.setCell ⟨d, 1, none⟩ (.int .i64 ((usedF (F1 ++ f :: F2) : Int) - (f.data.length : Int)))).heap[d]? = _
    rw [heap_setCell_at _ hs]
    have e : ((usedF (F1 ++ f :: F2) : Nat) : Int) - (f.data.length : Int) = ((usedF (F1 ++ F2) : Nat) : Int) := by rw [usedF_mid]; omega
    rw [e]
    rfl
  · rw [putObj_at _ (by simp [World.setCell]; exact hml)]; rfl
  · rw [putObj_size]; simp [World.setCell]
  · intro b hb h1 h2
    rw [putObj_ne _ h2]
    exact Below.heap_setCell _ _ _ _ h1
  · exact Stays.put (Stays.setCell (p := ⟨d, 1, none⟩) (Stays.refl _ _) (.inl mem_fp_self) _).drew (.inl mem_fp_map) _
set_option maxHeartbeats 2000000 in
theorem drop_hit {B d m clk : Nat} {sv : Value} {S : DS} {F1 F2 : List FE} {f : FE} {w : World} (h : DiskAt B d m clk sv S (F1 ++ f :: F2) w) (n : ByteArray) (hn : f.name = n) :
    Calls Tryz.prog 76 #[.pointer (some ⟨d, 0, none⟩), .string n] w fun e w' => e = .returned (.tuple #[]) ∧ DiskAt B d m clk sv S (F1 ++ F2) w' ∧ Stays (fpOf d m sv (F1 ++ f :: F2)) w w' := by
  have h1 : ∀ g, g ∈ F1 → g.name ≠ n := by rw [← hn]; exact (names_tail h.names).1
  have hF := Lib.hid (find_hit h n hn h1)
  have hf := h.files f (by simp)
  obtain ⟨hdb, hrd, hrb, hmd, hmb, hrm⟩ := apart_self h
  obtain ⟨a, c, hsh⟩ := ownsRow_shape hf.row
  have hq := h.quota
  have hfits := h.fits
  have hub : usedF (F1 ++ f :: F2) ≤ 1048576 := by omega
  have hle : f.data.length ≤ usedF (F1 ++ f :: F2) := by rw [usedF_mid]; omega
  have c1 := h.cells.c1
  have f1 := h.cells.f1
  have c5 := h.cells.c5
  have hob := hf.obj
  unfold FE.obj at hob
  rw [hsh] at hob
  have b0 := cell_of hob 0
  simp only [List.getElem?_toArray, List.getElem?_cons_zero] at b0
  have HD : Hid (∀ (ty : TypeId) (W : World), W = (w.setCell ⟨d, 1, none⟩ (.int .i64 ((usedF (F1 ++ f :: F2) : Int) - (f.data.length : Int)))).drew → (Builtin.delete_ #[26, 9] ty #[.map (some m), .string n]).run Tryz.prog W = .ok (.tuple #[]) (putObj W m (mapObj (F1 ++ F2) clk))) :=
    Lib.hid (fun ty W hW => by
      subst hW
      have hm : (w.setCell ⟨d, 1, none⟩ (.int .i64 ((usedF (F1 ++ f :: F2) : Int) - (f.data.length : Int)))).drew.heap[m]? = some (.map ((F1 ++ f :: F2).map FE.entry).toArray clk) := by
        exact (Below.heap_setCell _ _ _ _ hmd).trans h.map
      have hx := findNow_hit n F1 f F2 hn h1 0
      rw [Nat.zero_add] at hx
      have hr := run_delete ty n hm (by simpa using hx)
      rw [map_erase] at hr
      exact hr)
  have HE := Lib.hid (fun W hW => gone_world h W hW)
  clear h hn h1 hf hq hfits hob
  generalize usedF (F1 ++ f :: F2) = us at *
  generalize f.data.length = fl at *
  generalize fpOf d m sv (F1 ++ f :: F2) = fp at *
  go_enter Tryz.func76, Tryz.ntmps76
  go_upto_region 3 with (first | (go_at_call 64; refine hF.out.mono ?_; rintro e w' ⟨rfl, rfl⟩))
  go_region
  have k5 : ∀ v, (w'.setCell ⟨d, 1, none⟩ v).drew.cell? ⟨d, 5, none⟩ = some (.map (some m)) := fun v => by
    show (w'.setCell ⟨d, 1, none⟩ v).cell? ⟨d, 5, none⟩ = _
    rw [World.cell?_setCell_other _ _ _ _ (by simp)]
    exact c5
  have HD2 := HD.out
  generalize hWW : (w'.setCell ⟨d, 1, none⟩ (.int .i64 ((us : Int) - (fl : Int)))).drew = WW at *
  have k6 : WW.cell? ⟨d, 5, none⟩ = some (.map (some m)) := by rw [← hWW]; exact k5 _
  have HWW := Lib.hid hWW
  have HD3 := Lib.hid (fun ty => HD2 ty WW rfl)
  clear k5 hWW HD HD2
  go_wp2_with (at_delete; refine delete_by_run rfl _ _ _ rfl _ _ rfl rfl _ _ (HD3.out _) ?_)
  first | refine bodyPost_end (results_none rfl _ _ _) rfl ?_ | refine bodyPost_ret (results_none rfl _ _ _) rfl ?_
  exact ⟨rfl, HE.out _ rfl⟩
end Go.Proofs.YtgadmfbilmlnkabGreatDoor
