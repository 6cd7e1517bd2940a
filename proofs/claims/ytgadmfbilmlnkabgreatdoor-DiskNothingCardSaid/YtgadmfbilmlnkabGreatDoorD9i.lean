/- disk: grow, its walk. -/
import Derived.Test.YtgadmfbilmlnkabGreatDoorD9h
namespace Go.Proofs.YtgadmfbilmlnkabGreatDoor
open Go.RowKit Go.Lib

/-- append(row, text...), its run told. -/
theorem append_by_run {ops : Array Oper} {rest : List Oper} {o : Oper} {a : Act} {Q : Exit → Act → World → Prop} {w : World} (hgd : o.guard = none) (s x : Operand) (ts : Array TypeId)
    (ho : o.op = .call { callee := .builtin .append, args := #[s, x], argTypes := ts }) (ty : TypeId) (hty : o.type = ty) (u v : Value) (hs : a.eval s = u) (hx : a.eval x = v) (v' : Value) (w' : World)
    (hr : (Builtin.append_ ts ty #[u, v]).run Tryz.prog w = .ok v' w') (h : wpList Tryz.prog ops Q rest (a.put o.dst v') w') : wpList Tryz.prog ops Q (o :: rest) a w := by
  subst hty
  refine wpList_plain hgd fun K hK => ?_
  unfold Oper.wp execOp
  simp only [ho, resolve, invoke, builtin, Sem.run_bind, Sem.run_pure, Result.andThen_ok, List.map_toArray, List.map_cons, List.map_nil, hs, hx, hr]
  exact hK _ _ h
/-- What grow's last two statements want of the world, and what they leave. -/
structure GT (W : World) (d k : Nat) (a : Option Addr) (n c : Nat) (s : ByteArray) (used : Nat) (a' : Option Addr) (c' : Nat) (W1 : World) : Prop where
  app : (Builtin.append_ #[81, 9] 81 #[.slice a n c, .string s]).run Tryz.prog W = .ok (.slice a' (n + s.size) c') W1
  c0 : W.cell? ⟨k, 0, none⟩ = some (.slice a n c)
  k0 : W1.cell? ⟨k, 0, none⟩ = some (.slice a n c)
  fz : W1.frozen? ⟨k, 0, none⟩ = false
  u : ∀ v, (W1.setCell ⟨k, 0, none⟩ v).cell? ⟨d, 1, none⟩ = some (.int .i64 (used : Int))
  uf : ∀ v, (W1.setCell ⟨k, 0, none⟩ v).frozen? ⟨d, 1, none⟩ = false
theorem apart_self {B d m clk : Nat} {sv : Value} {S : DS} {F1 F2 : List FE} {f : FE} {w : World} (h : DiskAt B d m clk sv S (F1 ++ f :: F2) w) : d ≠ f.blk ∧ f.row.ownBlock ≠ some d ∧ f.row.ownBlock ≠ some f.blk ∧ m ≠ d ∧ m ≠ f.blk ∧ f.row.ownBlock ≠ some m := by
  have hnd : (f.row.ownBlock.toList ++ restOf d m sv F1 f.blk F2).Nodup := (fp_perm d m sv F1 f F2).nodup_iff.1 h.apart
  rw [List.nodup_append] at hnd
  obtain ⟨_, hr, hx⟩ := hnd
  have hk : f.blk ∈ restOf d m sv F1 f.blk F2 := by simp [restOf]
  have hd : d ∈ restOf d m sv F1 f.blk F2 := by simp [restOf]
  have hm : m ∈ restOf d m sv F1 f.blk F2 := by simp [restOf]
  have hr' := hr
  unfold restOf at hr'
  rw [List.nodup_cons, List.nodup_cons] at hr'
  refine ⟨fun e => hr'.1 (by rw [e]; simp), fun e => hx d (by simp [e]) d hd rfl, fun e => hx _ (by simp [e]) _ hk rfl, fun e => hr'.1 (by rw [e]; simp), fun e => hr'.2.1 (by rw [e]; simp), fun e => hx m (by simp [e]) m hm rfl⟩
theorem grow_tail {B d m clk : Nat} {sv : Value} {S : DS} {F1 F2 : List FE} {f : FE} {w : World} (h : DiskAt B d m clk sv S (F1 ++ f :: F2) w) (s : ByteArray) (hs : usedF (F1 ++ f :: F2) + s.size ≤ S.quota) :
    ∃ a c a' c' W1, GT w d f.blk a f.data.length c s (usedF (F1 ++ f :: F2)) a' c' W1 ∧
      let W := (W1.setCell ⟨f.blk, 0, none⟩ (.slice a' (f.data.length + s.size) c')).setCell ⟨d, 1, none⟩ (.int .i64 ((usedF (F1 ++ f :: F2) : Int) + (s.size : Int)))
      DiskAt B d m clk sv S (F1 ++ { f with data := f.data ++ L s, row := .slice a' (f.data.length + s.size) c' } :: F2) W ∧ Stays (fpOf d m sv (F1 ++ f :: F2)) w W ∧
        ∀ b, b ∈ fpOf d m sv (F1 ++ { f with data := f.data ++ L s, row := .slice a' (f.data.length + s.size) c' } :: F2) → b ∈ fpOf d m sv (F1 ++ f :: F2) ∨ w.heap.size ≤ b := by
  have hf := h.files f (by simp)
  obtain ⟨hdb, hrd, hrb, hmd, hmb, hrm⟩ := apart_self h
  have hq := h.quota
  have hle : f.data.length ≤ usedF (F1 ++ f :: F2) := by rw [usedF_mid]; omega
  obtain ⟨a, c, hsh⟩ := ownsRow_shape hf.row
  obtain ⟨a', c', W1, happ, hrow, hg, hown⟩ := app_text 81 hf.row h.size s (by omega)
  have hfl := lt_of_heap hf.obj
  have hdl := lt_of_heap h.self
  have hb1 : W1.heap[f.blk]? = some f.obj := by rw [hg.block _ hfl (fun e => hrb e.symm)]; exact hf.obj
  have hd1 : W1.heap[d]? = some (selfObj S (usedF (F1 ++ f :: F2)) sv m) := by rw [hg.block _ hdl (fun e => hrd e.symm)]; exact h.self
  have hd2 : ∀ v, (W1.setCell ⟨f.blk, 0, none⟩ v).heap[d]? = some (selfObj S (usedF (F1 ++ f :: F2)) sv m) := fun v => by rw [Below.heap_setCell _ _ _ _ hdb]; exact hd1
  have hob := hf.obj
  unfold FE.obj at hob hb1
  unfold selfObj at hd1 hd2
  rw [hsh] at happ hob hb1
  refine ⟨a, c, a', c', W1, ⟨happ, cell_of hob 0, cell_of hb1 0, frozen_of hb1 0, fun v => cell_of (hd2 v) 1, fun v => frozen_of (hd2 v) 1⟩, ?_⟩
  have hz : w.heap.size ≤ ((W1.setCell ⟨f.blk, 0, none⟩ (.slice a' (f.data.length + s.size) c')).setCell ⟨d, 1, none⟩ (.int .i64 ((usedF (F1 ++ f :: F2) : Int) + (s.size : Int)))).heap.size := by
    have := hg.size
    simp [World.setCell]; omega
  have hrow2 : ∀ b, b ≠ d → b ≠ f.blk → ((W1.setCell ⟨f.blk, 0, none⟩ (.slice a' (f.data.length + s.size) c')).setCell ⟨d, 1, none⟩ (.int .i64 ((usedF (F1 ++ f :: F2) : Int) + (s.size : Int)))).heap[b]? = W1.heap[b]? := fun b h1 h2 => by
    rw [Below.heap_setCell _ _ _ _ h1, Below.heap_setCell _ _ _ _ h2]
  have hus : usedF (F1 ++ { f with data := f.data ++ L s, row := .slice a' (f.data.length + s.size) c' } :: F2) = usedF (F1 ++ f :: F2) + s.size := by
    rw [usedF_mid, usedF_mid]; simp only [List.length_append, L_length]; omega
  have hnd : ∀ b, (Value.slice a' (f.data.length + s.size) c').ownBlock = some b → b ≠ d ∧ b ≠ f.blk := by
    intro b e
    rcases hown b e with e' | e'
    · exact ⟨fun x => hrd (x ▸ e'), fun x => hrb (x ▸ e')⟩
    · omega
  refine ⟨h.refile { f with data := f.data ++ L s, row := .slice a' (f.data.length + s.size) c' } rfl rfl rfl ?_ ?_ ?_ hown ?_ hz ?_ ?_, ?_, fp_same_blk rfl hown⟩
  · rw [Below.heap_setCell _ _ _ _ (fun e => hdb e.symm), heap_setCell_at _ hb1]
    rfl
  · exact ownsRow_same hrow (fun b e => hrow2 b (hnd b e).1 (hnd b e).2)
  · have := hf.dur
    simp only [List.length_append]; omega
  · rw [heap_setCell_at _ (hd2 _), hus]
    simp [selfObj]
  · intro b hb h1 h2 h3
    rw [hrow2 b h1 h2, hg.block b (h.lt hb) (fun e => h3 e.symm)]
  · rw [hus]; exact hs
  · refine Stays.setCell (p := ⟨d, 1, none⟩) (Stays.setCell (p := ⟨f.blk, 0, none⟩) (Stays.ofGrown hg (fun b e => ?_)) (.inl (mem_fp_file (f := f) (by simp) (by simp [FE.blks]))) _) (.inl mem_fp_self) _
    exact mem_fp_file (f := f) (by simp) (by simp [FE.blks, e])
set_option maxHeartbeats 2000000 in
theorem grow_hit {B d m clk : Nat} {sv : Value} {S : DS} {F1 F2 : List FE} {f : FE} {w : World} (h : DiskAt B d m clk sv S (F1 ++ f :: F2) w) (n s : ByteArray) (hn : f.name = n) (hs : usedF (F1 ++ f :: F2) + s.size ≤ S.quota) :
    Calls Tryz.prog 36 #[.pointer (some ⟨d, 0, none⟩), .string n, .string s] w fun e w' => e = .returned (.tuple #[]) ∧ Did B d m sv S (F1 ++ f :: F2) w (growP n (L s) ((F1 ++ f :: F2).map FE.pl)) w' := by
  have hF := Lib.hid (find_hit h n hn (by rw [← hn]; exact (names_tail h.names).1))
  obtain ⟨a, c, a', c', W1, ⟨happ, c0, k0, fz, hu, huf⟩, hD, hS, hP⟩ := grow_tail h s hs
  have hq := h.quota
  have HG : Hid (growP n (L s) ((F1 ++ f :: F2).map FE.pl) = (F1 ++ { f with data := f.data ++ L s, row := .slice a' (f.data.length + s.size) c' } :: F2).map FE.pl) := Lib.hid (by
    unfold growP
    rw [hasP_hit hn, if_pos rfl]
    exact (modP_hit hn h.names rfl).symm)
  have hE := Lib.hid (And.intro hD (And.intro hS hP))
  have hub : usedF (F1 ++ f :: F2) + s.size ≤ 1048576 := by omega
  have HA := Lib.hid happ
  clear hD hS hP hs h hn happ
  generalize usedF (F1 ++ f :: F2) = us at *
  generalize f.data.length = fl at *
  generalize growP n (L s) ((F1 ++ f :: F2).map FE.pl) = G at *
  go_enter Tryz.func36, Tryz.ntmps36
  go_wp2_with (first | (go_at_call 64; refine hF.out.mono ?_; rintro e w' ⟨rfl, rfl⟩) | (at_builtin; refine append_by_run rfl _ _ _ rfl _ rfl _ _ rfl rfl _ _ HA.out ?_))
  first | refine bodyPost_end (results_none rfl _ _ _) rfl ?_ | refine bodyPost_ret (results_none rfl _ _ _) rfl ?_
  exact ⟨rfl, _, _, hE.out.1, HG.out.symm, hE.out.2.1, hE.out.2.2⟩
end Go.Proofs.YtgadmfbilmlnkabGreatDoor
