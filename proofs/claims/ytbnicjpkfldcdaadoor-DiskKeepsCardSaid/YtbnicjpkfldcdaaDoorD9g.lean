/- disk: put, drop, grow. -/
import Derived.Test.YtbnicjpkfldcdaaDoorD9d
import Derived.Test.YtbnicjpkfldcdaaDoorSh
import Derived.Lib.AppendStr
import Derived.Maps.OwnSet
namespace Go.Proofs.YtbnicjpkfldcdaaDoor
open Go.RowKit

theorem Clone_any (s : ByteArray) (w : World) (hs : s.size ≤ 140737488355328) :
    Calls Tryd.prog 61 #[.string s] w fun e w' => e = .returned (.string s) ∧ Below w.heap.size w w' := by
  have hC := Lib.hid (fun W => Tryd.stringslite_Clone s W (by omega))
  go_enter Tryd.func61, Tryd.ntmps61
  go_wp2_with (go_at_call 73; refine (hC.out _).mono ?_; rintro e w' ⟨rfl, hb⟩)
  go_ret
  exact ⟨rfl, hb⟩
set_option maxHeartbeats 1000000 in
theorem put_raw {d m clk k : Nat} {es : Array MapEntry} {w : World} (n : ByteArray) (hs : n.size ≤ 140737488355328) (c5 : w.cell? ⟨d, 5, none⟩ = some (.map (some m))) (hm : w.heap[m]? = some (.map es clk)) (hf : Instr.findNow .string (.string n) es.toList 0 = some none) :
    Calls Tryd.prog 54 #[.pointer (some ⟨d, 0, none⟩), .string n, .pointer (some ⟨k, 0, none⟩)] w fun e w' => e = .returned (.tuple #[]) ∧ ∃ w1, Below w.heap.size w w1 ∧ w' = putObj w1 m (.map (es.push { key := .string n, val := .pointer (some ⟨k, 0, none⟩), born := clk }) (clk + 1)) := by
  have hC := Lib.hid (fun W => Clone_any n W hs)
  have hdl : d < w.heap.size := World.block_lt_of_cell? w ⟨d, 5, none⟩ c5
  have hml := lt_of_heap hm
  have K5 : Hid (∀ W, Below w.heap.size w W → W.cell? ⟨d, 5, none⟩ = some (.map (some m))) := Lib.hid (fun W hW => by rw [World.cell?_of_block (hW.block d hdl)]; exact c5)
  have KI : Hid (∀ W, Below w.heap.size w W → (Instr.mapUpdate 52 (.map (some m)) (.string n) (.pointer (some ⟨k, 0, none⟩))).run Tryd.prog W = .ok () (putObj W m (.map (es.push { key := .string n, val := .pointer (some ⟨k, 0, none⟩), born := clk }) (clk + 1)))) :=
    Lib.hid (fun W hW => run_insert n _ (by rw [hW.block m hml]; exact hm) hf)
  have HS := Lib.hid hs
  clear hs hf hm
  go_enter Tryd.func54, Tryd.ntmps54
  go_region_with (go_at_call 61; refine (hC.out _).mono ?_; rintro e w2 ⟨rfl, hb⟩; have hbb : Below w.heap.size w w2 := (Below.refl _ _).drew.trans hb; have k5 := K5.out w2 hbb; have ki := KI.out w2 hbb)
  all_goals (first | refine bodyPost_end (results_none rfl _ _ _) rfl ?_ | refine bodyPost_ret (results_none rfl _ _ _) rfl ?_)
  all_goals exact ⟨rfl, _, hbb, rfl⟩
end Go.Proofs.YtbnicjpkfldcdaaDoor

/- disk: grow. -/
namespace Go.Proofs.YtbnicjpkfldcdaaDoor
open Go.RowKit Go.Lib

theorem Tryd.infoByte : (Tryd.prog.info? 5).map (fun i => (i.zero, i.size, i.bytes)) = some (some (.int .u8 0), 1, 1) := by kernel_rfl
theorem info_parts' {P : Program} {t : TypeId} {z : Value} {a b : Nat} (h : (P.info? t).map (fun i => (i.zero, i.size, i.bytes)) = some (some z, a, b)) : ∃ i, P.info? t = some i ∧ i.zero = some z ∧ i.size = a ∧ i.bytes = b := by
  obtain ⟨i, hi, he⟩ := Option.map_eq_some_iff.1 h
  simp only [Prod.mk.injEq] at he
  exact ⟨i, hi, he.1, he.2.1, he.2.2⟩
theorem run_append_string_at {P : Program} (w : World) (base : Nat) (t u ty e : TypeId) (i : TypeInfo) (ht : P.underlying t = some (.slice e)) (hu : P.underlying u = some .string) (hi : P.info? e = some i) (hz : i.zero = some (.int .u8 0))
    (hsize : i.size = 1) (hby : i.bytes = 1) (v : Value) (n : Nat) (xs : List Value) (hown : w.ownsRow base e 1 v n xs) (s : ByteArray)
    (h63 : n + s.size ≤ maxLen) (hbytes : n + s.size ≤ 140737488355328) (hbase : base ≤ w.heap.size) :
    ∃ v' w', (Builtin.append_ #[t, u] ty #[v, .string s]).run P w = .ok v' w' ∧ w'.ownsRow base e 1 v' (n + s.size) (xs ++ strCells s) ∧ w.grownBy w' v.ownBlock ∧ (v'.ownBlock = v.ownBlock ∨ v'.ownBlock = some w.heap.size) := by
  obtain ⟨v', w', hr, h2, h3, h4⟩ := run_append_own_string (P := P) w base t u ty e i ht hu hi hz hsize hby v n xs hown s h63 hbytes hbase
  refine ⟨v', w', hr, h2, h3, ?_⟩
  have hsmall : n + s.size ≤ 9223372036854775807 := by simp only [maxLen] at h63; omega
  have hxl : xs.length = n := by simpa using hown.1
  rcases hown.2 with ⟨rfl, rfl⟩ | ⟨g, cap, cur, rfl, hbg, hg, hnc, hcm, hcs, htake⟩
  · by_cases hm : s.size = 0
    · left; rw [h4.2 ⟨rfl, hm⟩]
    · have hr2 := run_append_nil_string (P := P) w t u ty e i (.int .u8 0) ht hu hi hz s (by omega) (by omega) (by rw [hby]; omega)
      rw [hr] at hr2
      injection hr2 with e1 e2
      right; rw [e1]; rfl
  · by_cases hroom : n + s.size ≤ cap
    · have hr2 := run_append_room_string (P := P) w t u ty e i ht hu hi hsize g n cap cur hg s hroom (by have : cur.size = cap := (by simpa using hcs); omega)
      rw [hr] at hr2
      injection hr2 with e1 e2
      left; rw [e1]; rfl
    · have holds : ∀ j u, xs[j]? = some u → w.cell? ((⟨g, 0, none⟩ : Addr).add j) = some u := hown.cells (g := g) rfl
      have hr2 := run_append_grow_string (P := P) w t u ty e i (.int .u8 0) ht hu hi hz ⟨g, 0, none⟩ n cap xs (by rw [hsize]; simpa using hxl) holds s (by omega) (by omega) (by rw [hby]; exact growslice_fits (by omega) (by omega))
      rw [hr] at hr2
      injection hr2 with e1 e2
      right; rw [e1]; rfl
theorem bc_strCells (s : ByteArray) : strCells s = bc (L s) := by
  simp [strCells, bc, L]
theorem ownsRow_shape {w : World} {B : Nat} {e : TypeId} {size : Nat} {v : Value} {n : Nat} {xs : List Value} (h : w.ownsRow B e size v n xs) : ∃ a c, v = .slice a n c := by
  rcases h.2 with ⟨rfl, rfl⟩ | ⟨g, cap, cur, rfl, _⟩
  · exact ⟨none, 0, rfl⟩
  · exact ⟨_, _, rfl⟩
/-- A row of bytes behind append(row, text...). -/
theorem app_text {B : Nat} {v : Value} {l : List UInt8} {w : World} (ty : Nat) (h : w.ownsRow B 5 1 v l.length (bc l)) (hB : B ≤ w.heap.size) (s : ByteArray) (hl : l.length + s.size ≤ 140737488355328) :
    ∃ a c w', (Builtin.append_ #[69, 9] ty #[v, .string s]).run Tryd.prog w = .ok (.slice a (l.length + s.size) c) w' ∧ w'.ownsRow B 5 1 (.slice a (l.length + s.size) c) (l ++ L s).length (bc (l ++ L s)) ∧ w.grownBy w' v.ownBlock ∧
      ∀ b, (Value.slice a (l.length + s.size) c).ownBlock = some b → v.ownBlock = some b ∨ w.heap.size ≤ b := by
  obtain ⟨i0, hi, hz0, hz1, hz2⟩ := info_parts' Tryd.infoByte
  obtain ⟨v', w', hr, h2, h3, h4⟩ := run_append_string_at (P := Tryd.prog) w B 69 9 ty 5 i0 Tryd.underlying69 Tryd.underlying9 hi hz0 hz1 hz2 v l.length (bc l) h s (by unfold maxLen; omega) hl hB
  obtain ⟨a, c, rfl⟩ := ownsRow_shape h2
  refine ⟨a, c, w', hr, ?_, h3, ?_⟩
  · rw [List.length_append, bc_append, L_length, ← bc_strCells]; exact h2
  · intro b e
    rcases h4 with h4 | h4
    · left; rw [← h4]; exact e
    · right
      rw [h4] at e
      injection e with e
      omega
/-- What an operation did to the files. -/
def Did (B d m : Nat) (sv : Value) (S : DS) (F : List FE) (w : World) (G : List PF) (w' : World) : Prop :=
  ∃ clk' F', DiskAt B d m clk' sv S F' w' ∧ F'.map FE.pl = G ∧ Stays (fpOf d m sv F) w w' ∧ ∀ b, b ∈ fpOf d m sv F' → b ∈ fpOf d m sv F ∨ w.heap.size ≤ b
theorem Did.refl {B d m clk : Nat} {sv : Value} {S : DS} {F : List FE} {w : World} (h : DiskAt B d m clk sv S F w) : Did B d m sv S F w (F.map FE.pl) w := ⟨clk, F, h, rfl, Stays.refl _ _, fun _ hb => .inl hb⟩
/-- Another file of that name. -/
def modP (n : ByteArray) (g : PF → PF) (P : List PF) : List PF := P.map fun p => if p.name = n then g p else p
def hasP (n : ByteArray) (P : List PF) : Bool := P.any fun p => decide (p.name = n)
def growP (n : ByteArray) (x : List UInt8) (P : List PF) : List PF := if hasP n P then modP n (fun p => { p with data := p.data ++ x }) P else P ++ [⟨n, x, 0⟩]
theorem names_tail {F1 F2 : List FE} {f : FE} (h : ((F1 ++ f :: F2).map FE.name).Nodup) : (∀ g, g ∈ F1 → g.name ≠ f.name) ∧ ∀ g, g ∈ F2 → g.name ≠ f.name := by
  rw [List.map_append, List.map_cons, List.nodup_append] at h
  refine ⟨fun g hg e => h.2.2 g.name (List.mem_map.2 ⟨g, hg, rfl⟩) f.name (by simp) e, fun g hg e => ?_⟩
  exact (List.nodup_cons.1 h.2.1).1 (e ▸ List.mem_map.2 ⟨g, hg, rfl⟩)
theorem hasP_hit {F1 F2 : List FE} {f : FE} {n : ByteArray} (hn : f.name = n) : hasP n ((F1 ++ f :: F2).map FE.pl) = true := by
  simp [hasP, FE.pl, hn]
theorem hasP_no {F : List FE} {n : ByteArray} (h : ∀ g, g ∈ F → g.name ≠ n) : hasP n (F.map FE.pl) = false := by
  simp only [hasP, List.any_eq_false, List.mem_map, decide_eq_true_iff]
  rintro p ⟨g, hg, rfl⟩
  exact h g hg
theorem modP_no {F : List FE} {n : ByteArray} {k : PF → PF} (h : ∀ g, g ∈ F → g.name ≠ n) : modP n k (F.map FE.pl) = F.map FE.pl := by
  unfold modP
  rw [List.map_map]
  refine List.map_congr_left (fun g hg => ?_)
  exact if_neg (h g hg)
theorem modP_hit {F1 F2 : List FE} {f f' : FE} {n : ByteArray} {k : PF → PF} (hn : f.name = n) (hnd : ((F1 ++ f :: F2).map FE.name).Nodup) (hk : f'.pl = k f.pl) : (F1 ++ f' :: F2).map FE.pl = modP n k ((F1 ++ f :: F2).map FE.pl) := by
  subst hn
  obtain ⟨h1, h2⟩ := names_tail hnd
  have e1 := modP_no (k := k) h1
  have e2 := modP_no (k := k) h2
  unfold modP at *
  rw [List.map_append, List.map_append, List.map_append, List.map_cons, List.map_cons, List.map_cons, e1, e2, hk]
  congr 2
  exact (if_pos rfl).symm
end Go.Proofs.YtbnicjpkfldcdaaDoor

/- disk: grow, its walk. -/
namespace Go.Proofs.YtbnicjpkfldcdaaDoor
open Go.RowKit Go.Lib

/-- append(row, text...), its run told. -/
theorem append_by_run {ops : Array Oper} {rest : List Oper} {o : Oper} {a : Act} {Q : Exit → Act → World → Prop} {w : World} (hgd : o.guard = none) (s x : Operand) (ts : Array TypeId)
    (ho : o.op = .call { callee := .builtin .append, args := #[s, x], argTypes := ts }) (ty : TypeId) (hty : o.type = ty) (u v : Value) (hs : a.eval s = u) (hx : a.eval x = v) (v' : Value) (w' : World)
    (hr : (Builtin.append_ ts ty #[u, v]).run Tryd.prog w = .ok v' w') (h : wpList Tryd.prog ops Q rest (a.put o.dst v') w') : wpList Tryd.prog ops Q (o :: rest) a w := by
  subst hty
  refine wpList_plain hgd fun K hK => ?_
  unfold Oper.wp execOp
  simp only [ho, resolve, invoke, builtin, Sem.run_bind, Sem.run_pure, Result.andThen_ok, List.map_toArray, List.map_cons, List.map_nil, hs, hx, hr]
  exact hK _ _ h
/-- What grow's last two statements want of the world, and what they leave. -/
structure GT (W : World) (d k : Nat) (a : Option Addr) (n c : Nat) (s : ByteArray) (used : Nat) (a' : Option Addr) (c' : Nat) (W1 : World) : Prop where
  app : (Builtin.append_ #[69, 9] 69 #[.slice a n c, .string s]).run Tryd.prog W = .ok (.slice a' (n + s.size) c') W1
  c0 : W.cell? ⟨k, 0, none⟩ = some (.slice a n c)
  k0 : W1.cell? ⟨k, 0, none⟩ = some (.slice a n c)
  fz : W1.frozen? ⟨k, 0, none⟩ = false
  u : ∀ v, (W1.setCell ⟨k, 0, none⟩ v).cell? ⟨d, 1, none⟩ = some (.int .i64 (used : Int))
  uf : ∀ v, (W1.setCell ⟨k, 0, none⟩ v).frozen? ⟨d, 1, none⟩ = false
theorem apart_self {B d m clk : Nat} {sv : Value} {S : DS} {F1 F2 : List FE} {f : FE} {w : World} (h : DiskAt B d m clk sv S (F1 ++ f :: F2) w) : d ≠ f.blk ∧ f.row.ownBlock ≠ some d ∧ f.row.ownBlock ≠ some f.blk ∧ m ≠ d ∧ m ≠ f.blk ∧ f.row.ownBlock ≠ some m := by
  have hnd : (f.row.ownBlock.toList ++ restOf d m sv F1 f.blk F2).Nodup := (fp_perm d m sv F1 f F2).nodup_iff.1 h.apart
  rw [List.nodup_append] at hnd
  obtain ⟨_, hr, hx⟩ := hnd
  have hk : f.blk ∈ restOf d m sv F1 f.blk F2 := by simp [restOf]
  have hd : d ∈ restOf d m sv F1 f.blk F2 := by simp [restOf]
  have hm : m ∈ restOf d m sv F1 f.blk F2 := by simp [restOf]
  have hr' := hr
  unfold restOf at hr'
  rw [List.nodup_cons, List.nodup_cons] at hr'
  refine ⟨fun e => hr'.1 (by rw [e]; simp), fun e => hx d (by simp [e]) d hd rfl, fun e => hx _ (by simp [e]) _ hk rfl, fun e => hr'.1 (by rw [e]; simp), fun e => hr'.2.1 (by rw [e]; simp), fun e => hx m (by simp [e]) m hm rfl⟩
theorem grow_tail {B d m clk : Nat} {sv : Value} {S : DS} {F1 F2 : List FE} {f : FE} {w : World} (h : DiskAt B d m clk sv S (F1 ++ f :: F2) w) (s : ByteArray) (hs : usedF (F1 ++ f :: F2) + s.size ≤ S.quota) :
    ∃ a c a' c' W1, GT w d f.blk a f.data.length c s (usedF (F1 ++ f :: F2)) a' c' W1 ∧
      let W := (W1.setCell ⟨f.blk, 0, none⟩ (.slice a' (f.data.length + s.size) c')).setCell ⟨d, 1, none⟩ (.int .i64 ((usedF (F1 ++ f :: F2) : Int) + (s.size : Int)))
      DiskAt B d m clk sv S (F1 ++ { f with data := f.data ++ L s, row := .slice a' (f.data.length + s.size) c' } :: F2) W ∧ Stays (fpOf d m sv (F1 ++ f :: F2)) w W ∧
        ∀ b, b ∈ fpOf d m sv (F1 ++ { f with data := f.data ++ L s, row := .slice a' (f.data.length + s.size) c' } :: F2) → b ∈ fpOf d m sv (F1 ++ f :: F2) ∨ w.heap.size ≤ b := by
  have hf := h.files f (by simp)
  obtain ⟨hdb, hrd, hrb, hmd, hmb, hrm⟩ := apart_self h
  have hq := h.quota
  have hle : f.data.length ≤ usedF (F1 ++ f :: F2) := by rw [usedF_mid]; omega
  obtain ⟨a, c, hsh⟩ := ownsRow_shape hf.row
  obtain ⟨a', c', W1, happ, hrow, hg, hown⟩ := app_text 69 hf.row h.size s (by omega)
  have hfl := lt_of_heap hf.obj
  have hdl := lt_of_heap h.self
  have hb1 : W1.heap[f.blk]? = some f.obj := by rw [hg.block _ hfl (fun e => hrb e.symm)]; exact hf.obj
  have hd1 : W1.heap[d]? = some (selfObj S (usedF (F1 ++ f :: F2)) sv m) := by rw [hg.block _ hdl (fun e => hrd e.symm)]; exact h.self
  have hd2 : ∀ v, (W1.setCell ⟨f.blk, 0, none⟩ v).heap[d]? = some (selfObj S (usedF (F1 ++ f :: F2)) sv m) := fun v => by rw [Below.heap_setCell _ _ _ _ hdb]; exact hd1
  have hob := hf.obj
  unfold FE.obj at hob hb1
  unfold selfObj at hd1 hd2
  rw [hsh] at happ hob hb1
  refine ⟨a, c, a', c', W1, ⟨happ, cell_of hob 0, cell_of hb1 0, frozen_of hb1 0, fun v => cell_of (hd2 v) 1, fun v => frozen_of (hd2 v) 1⟩, ?_⟩
  have hz : w.heap.size ≤ ((W1.setCell ⟨f.blk, 0, none⟩ (.slice a' (f.data.length + s.size) c')).setCell ⟨d, 1, none⟩ (.int .i64 ((usedF (F1 ++ f :: F2) : Int) + (s.size : Int)))).heap.size := by
    have := hg.size
    simp [World.setCell]; omega
  have hrow2 : ∀ b, b ≠ d → b ≠ f.blk → ((W1.setCell ⟨f.blk, 0, none⟩ (.slice a' (f.data.length + s.size) c')).setCell ⟨d, 1, none⟩ (.int .i64 ((usedF (F1 ++ f :: F2) : Int) + (s.size : Int)))).heap[b]? = W1.heap[b]? := fun b h1 h2 => by
    rw [Below.heap_setCell _ _ _ _ h1, Below.heap_setCell _ _ _ _ h2]
  have hus : usedF (F1 ++ { f with data := f.data ++ L s, row := .slice a' (f.data.length + s.size) c' } :: F2) = usedF (F1 ++ f :: F2) + s.size := by
    rw [usedF_mid, usedF_mid]; simp only [List.length_append, L_length]; omega
  have hnd : ∀ b, (Value.slice a' (f.data.length + s.size) c').ownBlock = some b → b ≠ d ∧ b ≠ f.blk := by
    intro b e
    rcases hown b e with e' | e'
    · exact ⟨fun x => hrd (x ▸ e'), fun x => hrb (x ▸ e')⟩
    · omega
  refine ⟨h.refile { f with data := f.data ++ L s, row := .slice a' (f.data.length + s.size) c' } rfl rfl rfl ?_ ?_ ?_ hown ?_ hz ?_ ?_, ?_, fp_same_blk rfl hown⟩
  · rw [Below.heap_setCell _ _ _ _ (fun e => hdb e.symm), heap_setCell_at _ hb1]
    rfl
  · exact ownsRow_same hrow (fun b e => hrow2 b (hnd b e).1 (hnd b e).2)
  · have := hf.dur
    simp only [List.length_append]; omega
  · rw [heap_setCell_at _ (hd2 _), hus]
    simp [selfObj]
  · intro b hb h1 h2 h3
    rw [hrow2 b h1 h2, hg.block b (h.lt hb) (fun e => h3 e.symm)]
  · rw [hus]; exact hs
  · refine Stays.setCell (p := ⟨d, 1, none⟩) (Stays.setCell (p := ⟨f.blk, 0, none⟩) (Stays.ofGrown hg (fun b e => ?_)) (.inl (mem_fp_file (f := f) (by simp) (by simp [FE.blks]))) _) (.inl mem_fp_self) _
    exact mem_fp_file (f := f) (by simp) (by simp [FE.blks, e])
set_option maxHeartbeats 2000000 in
theorem grow_hit {B d m clk : Nat} {sv : Value} {S : DS} {F1 F2 : List FE} {f : FE} {w : World} (h : DiskAt B d m clk sv S (F1 ++ f :: F2) w) (n s : ByteArray) (hn : f.name = n) (hs : usedF (F1 ++ f :: F2) + s.size ≤ S.quota) :
    Calls Tryd.prog 36 #[.pointer (some ⟨d, 0, none⟩), .string n, .string s] w fun e w' => e = .returned (.tuple #[]) ∧ Did B d m sv S (F1 ++ f :: F2) w (growP n (L s) ((F1 ++ f :: F2).map FE.pl)) w' := by
  have hF := Lib.hid (find_hit h n hn (by rw [← hn]; exact (names_tail h.names).1))
  obtain ⟨a, c, a', c', W1, ⟨happ, c0, k0, fz, hu, huf⟩, hD, hS, hP⟩ := grow_tail h s hs
  have hq := h.quota
  have HG : Hid (growP n (L s) ((F1 ++ f :: F2).map FE.pl) = (F1 ++ { f with data := f.data ++ L s, row := .slice a' (f.data.length + s.size) c' } :: F2).map FE.pl) := Lib.hid (by
    unfold growP
    rw [hasP_hit hn, if_pos rfl]
    exact (modP_hit hn h.names rfl).symm)
  have hE := Lib.hid (And.intro hD (And.intro hS hP))
  have hub : usedF (F1 ++ f :: F2) + s.size ≤ 1048576 := by omega
  have HA := Lib.hid happ
  clear hD hS hP hs h hn happ
  generalize usedF (F1 ++ f :: F2) = us at *
  generalize f.data.length = fl at *
  generalize growP n (L s) ((F1 ++ f :: F2).map FE.pl) = G at *
  go_enter Tryd.func36, Tryd.ntmps36
  go_wp2_with (first | (go_at_call 32; refine hF.out.mono ?_; rintro e w' ⟨rfl, rfl⟩) | (at_builtin; refine append_by_run rfl _ _ _ rfl _ rfl _ _ rfl rfl _ _ HA.out ?_))
  first | refine bodyPost_end (results_none rfl _ _ _) rfl ?_ | refine bodyPost_ret (results_none rfl _ _ _) rfl ?_
  exact ⟨rfl, _, _, hE.out.1, HG.out.symm, hE.out.2.1, hE.out.2.2⟩
end Go.Proofs.YtbnicjpkfldcdaaDoor

/- disk: grow where there is no such file; drop. -/
namespace Go.Proofs.YtbnicjpkfldcdaaDoor
open Go.RowKit Go.Lib

def freshF (n : ByteArray) (k clk : Nat) : FE := ⟨n, [], 0, k, .slice none 0 0, clk⟩
theorem come_put {B d m clk : Nat} {sv : Value} {S : DS} {F : List FE} {w w1 : World} (h : DiskAt B d m clk sv S F w) (n : ByteArray) (hnew : ∀ g, g ∈ F → g.name ≠ n)
    (hb : Below (w.alloc (.cells #[.slice none 0 0, .int .i64 0] 71)).heap.size (w.alloc (.cells #[.slice none 0 0, .int .i64 0] 71)) w1) :
    DiskAt B d m (clk + 1) sv S (F ++ [freshF n w.heap.size clk]) (putObj w1 m (.map ((F.map FE.entry).toArray.push { key := .string n, val := .pointer (some ⟨w.heap.size, 0, none⟩), born := clk }) (clk + 1))) ∧
    Stays (fpOf d m sv F) w (putObj w1 m (.map ((F.map FE.entry).toArray.push { key := .string n, val := .pointer (some ⟨w.heap.size, 0, none⟩), born := clk }) (clk + 1))) ∧
    ∀ b, b ∈ fpOf d m sv (F ++ [freshF n w.heap.size clk]) → b ∈ fpOf d m sv F ∨ w.heap.size ≤ b := by
  have hz := hb.size
  simp at hz
  have hml := lt_of_heap h.map
  have hst : Stays (fpOf d m sv F) w w1 := ((Stays.refl _ w).alloc (.cells #[.slice none 0 0, .int .i64 0] 71)).trans (Stays.ofBelow (fp := []) hb) (fun b e => by cases e)
  have hnf : w.heap.size ∉ fpOf d m sv F := fun e => Nat.lt_irrefl _ (h.lt e)
  refine ⟨h.come (freshF n w.heap.size clk) hnew rfl rfl rfl rfl ?_ hnf h.size ?_ (by rw [putObj_size]; omega) ?_, hst.put (.inl mem_fp_map) _, ?_⟩
  · show (putObj w1 m _).heap[w.heap.size]? = _
    rw [putObj_ne _ (by omega), hb.block _ (by simp)]
    exact heap_alloc_new w _
  · rw [putObj_at _ (by omega), ← map_push]
    rfl
  · intro b hbm hne
    rw [putObj_ne _ hne, hb.block b (by have := h.lt hbm; simp; omega), Below.heap_alloc _ _ _ (h.lt hbm)]
  · intro b e
    have hfp : fpOf d m sv (F ++ [freshF n w.heap.size clk]) = fpOf d m sv F ++ [w.heap.size] := by simp [fpOf, FE.blks, freshF, Value.ownBlock]
    rw [hfp] at e
    rcases List.mem_append.1 e with e | e
    · exact .inl e
    · simp at e; exact .inr (by omega)
set_option maxHeartbeats 2000000 in
theorem grow_new {B d m clk : Nat} {sv : Value} {S : DS} {F : List FE} {w : World} (h : DiskAt B d m clk sv S F w) (n s : ByteArray) (hns : n.size ≤ 140737488355328) (hnew : ∀ g, g ∈ F → g.name ≠ n) (hs : usedF F + s.size ≤ S.quota) :
    Calls Tryd.prog 36 #[.pointer (some ⟨d, 0, none⟩), .string n, .string s] w fun e w' => e = .returned (.tuple #[]) ∧ Did B d m sv S F w (growP n (L s) (F.map FE.pl)) w' := by
  have hF := Lib.hid (find_no h n hnew)
  have hq := h.quota
  have hdl := lt_of_heap h.self
  have hml := lt_of_heap h.map
  have hPut := Lib.hid (put_raw (d := d) (m := m) (clk := clk) (k := w.heap.size) (es := (F.map FE.entry).toArray) (w := w.alloc (.cells #[.slice none 0 0, .int .i64 0] 71)) n hns
    (by rw [World.cell?_of_block (Below.heap_alloc _ _ _ hdl)]; exact h.cells.c5) (by rw [Below.heap_alloc _ _ _ hml]; exact h.map) (by simpa using findNow_no n F hnew 0))
  have HP := Lib.hid (fun w1 => come_put (w1 := w1) h n hnew)
  have HG : Hid (growP n (L s) (F.map FE.pl) = F.map FE.pl ++ [⟨n, L s, 0⟩]) := Lib.hid (by
    unfold growP
    rw [hasP_no hnew]
    rfl)
  have HU : Hid (usedF (F ++ [freshF n w.heap.size clk]) = usedF F) := Lib.hid (by rw [usedF_snoc]; rfl)
  have HS := Lib.hid hs
  have HQ := Lib.hid hq
  clear h hnew hns hs hq
  go_enter Tryd.func36, Tryd.ntmps36
  go_upto_region 4 with (first | (go_at_call 32; refine hF.out.mono ?_; rintro e w' ⟨rfl, rfl⟩) | (go_at_call 54; refine hPut.out.mono ?_; rintro e w2 ⟨rfl, w1, hb, hw⟩; have HW := Lib.hid hw; clear hw))
  obtain ⟨hD2, hS2, hM2⟩ := HP.out w1 hb
  rw [← HW.out] at hD2 hS2
  clear HW
  clear hb HP hPut hF
  obtain ⟨a, c, a', c', W1, ⟨happ, c0, k0, fz, hu, huf⟩, hD, hS, hP⟩ := grow_tail hD2 s (by rw [HU.out]; exact HS.out)
  have hub : usedF F + s.size ≤ 1048576 := by have := HS.out; have := HQ.out; omega
  rw [HU.out] at hu hD hS
  have hE := Lib.hid (And.intro hD (And.intro (hS2.trans hS hM2) (fun b hb => show b ∈ fpOf d m sv F ∨ w'.heap.size ≤ b from by
    rcases hP b hb with e | e
    · exact hM2 b e
    · exact .inr (Nat.le_trans hS2.size e))))
  have HA := Lib.hid happ
  clear hD hS hP hS2 hM2 hD2 happ
  generalize (freshF n w'.heap.size clk).data.length = fl at *
  generalize usedF F = us at *
  simp only [show (freshF n w'.heap.size clk).blk = w'.heap.size from rfl] at c0 k0 fz hu huf
  go_wp2_with (at_builtin; refine append_by_run rfl _ _ _ rfl _ rfl _ _ rfl rfl _ _ HA.out ?_)
  first | refine bodyPost_end (results_none rfl _ _ _) rfl ?_ | refine bodyPost_ret (results_none rfl _ _ _) rfl ?_
  refine ⟨rfl, _, _, hE.out.1, ?_, hE.out.2.1, hE.out.2.2⟩
  rw [HG.out]
  simp [FE.pl, freshF]
def dropP (n : ByteArray) (P : List PF) : List PF := P.filter fun p => !decide (p.name = n)
theorem dropP_no {F : List FE} {n : ByteArray} (h : ∀ g, g ∈ F → g.name ≠ n) : dropP n (F.map FE.pl) = F.map FE.pl := by
  unfold dropP
  rw [List.filter_eq_self]
  intro p hp
  obtain ⟨g, hg, rfl⟩ := List.mem_map.1 hp
  simp [FE.pl, h g hg]
theorem dropP_hit {F1 F2 : List FE} {f : FE} {n : ByteArray} (hn : f.name = n) (hnd : ((F1 ++ f :: F2).map FE.name).Nodup) : dropP n ((F1 ++ f :: F2).map FE.pl) = (F1 ++ F2).map FE.pl := by
  subst hn
  obtain ⟨h1, h2⟩ := names_tail hnd
  have e1 := dropP_no h1
  have e2 := dropP_no h2
  unfold dropP at *
  rw [List.map_append, List.map_cons, List.filter_append, List.filter_cons, e1, e2]
  simp [FE.pl]
theorem delete_by_run {ops : Array Oper} {rest : List Oper} {o : Oper} {a : Act} {Q : Exit → Act → World → Prop} {w : World} (hgd : o.guard = none) (s x : Operand) (ts : Array TypeId)
    (ho : o.op = .call { callee := .builtin .delete, args := #[s, x], argTypes := ts }) (u v : Value) (hs : a.eval s = u) (hx : a.eval x = v) (v' : Value) (w' : World)
    (hr : (Builtin.delete_ ts o.type #[u, v]).run Tryd.prog w = .ok v' w') (h : wpList Tryd.prog ops Q rest (a.put o.dst v') w') : wpList Tryd.prog ops Q (o :: rest) a w := by
  refine wpList_plain hgd fun K hK => ?_
  unfold Oper.wp execOp
  simp only [ho, resolve, invoke, builtin, Sem.run_bind, Sem.run_pure, Result.andThen_ok, List.map_toArray, List.map_cons, List.map_nil, hs, hx, hr]
  exact hK _ _ h
theorem drop_no {B d m clk : Nat} {sv : Value} {S : DS} {F : List FE} {w : World} (h : DiskAt B d m clk sv S F w) (n : ByteArray) (hnew : ∀ g, g ∈ F → g.name ≠ n) :
    Calls Tryd.prog 49 #[.pointer (some ⟨d, 0, none⟩), .string n] w fun e w' => e = .returned (.tuple #[]) ∧ w' = w := by
  have hF := Lib.hid (find_no h n hnew)
  clear h hnew
  go_enter Tryd.func49, Tryd.ntmps49
  go_wp2_with (go_at_call 32; refine hF.out.mono ?_; rintro e w' ⟨rfl, rfl⟩)
  first | refine bodyPost_end (results_none rfl _ _ _) rfl ?_ | refine bodyPost_ret (results_none rfl _ _ _) rfl ?_
  exact ⟨rfl, rfl⟩
def mapObj (F : List FE) (clk : Nat) : Obj := .map (F.map FE.entry).toArray clk
theorem gone_world {B d m clk : Nat} {sv : Value} {S : DS} {F1 F2 : List FE} {f : FE} {w : World} (h : DiskAt B d m clk sv S (F1 ++ f :: F2) w) (W : World) (hW : W = putObj (w.setCell ⟨d, 1, none⟩ (.int .i64 ((usedF (F1 ++ f :: F2) : Int) - (f.data.length : Int)))).drew m (mapObj (F1 ++ F2) clk)) :
    DiskAt B d m clk sv S (F1 ++ F2) W ∧ Stays (fpOf d m sv (F1 ++ f :: F2)) w W := by
  subst hW
  obtain ⟨hdb, hrd, hrb, hmd, hmb, hrm⟩ := apart_self h
  have hml := lt_of_heap h.map
  refine ⟨h.gone (f := f) ?_ ?_ ?_ ?_, ?_⟩
  · rw [putObj_ne _ (fun e => hmd e.symm)]
    have hs := h.self
    unfold selfObj at hs
    show (w.setCell ⟨d, 1, none⟩ (.int .i64 ((usedF (F1 ++ f :: F2) : Int) - (f.data.length : Int)))).heap[d]? = _
    rw [heap_setCell_at _ hs]
    have e : ((usedF (F1 ++ f :: F2) : Nat) : Int) - (f.data.length : Int) = ((usedF (F1 ++ F2) : Nat) : Int) := by rw [usedF_mid]; omega
    rw [e]
    rfl
  · rw [putObj_at _ (by simp [World.setCell]; exact hml)]; rfl
  · rw [putObj_size]; simp [World.setCell]
  · intro b hb h1 h2
    rw [putObj_ne _ h2]
    exact Below.heap_setCell _ _ _ _ h1
  · exact Stays.put (Stays.setCell (p := ⟨d, 1, none⟩) (Stays.refl _ _) (.inl mem_fp_self) _).drew (.inl mem_fp_map) _
set_option maxHeartbeats 2000000 in
theorem drop_hit {B d m clk : Nat} {sv : Value} {S : DS} {F1 F2 : List FE} {f : FE} {w : World} (h : DiskAt B d m clk sv S (F1 ++ f :: F2) w) (n : ByteArray) (hn : f.name = n) :
    Calls Tryd.prog 49 #[.pointer (some ⟨d, 0, none⟩), .string n] w fun e w' => e = .returned (.tuple #[]) ∧ DiskAt B d m clk sv S (F1 ++ F2) w' ∧ Stays (fpOf d m sv (F1 ++ f :: F2)) w w' := by
  have h1 : ∀ g, g ∈ F1 → g.name ≠ n := by rw [← hn]; exact (names_tail h.names).1
  have hF := Lib.hid (find_hit h n hn h1)
  have hf := h.files f (by simp)
  obtain ⟨hdb, hrd, hrb, hmd, hmb, hrm⟩ := apart_self h
  obtain ⟨a, c, hsh⟩ := ownsRow_shape hf.row
  have hq := h.quota
  have hfits := h.fits
  have hub : usedF (F1 ++ f :: F2) ≤ 1048576 := by omega
  have hle : f.data.length ≤ usedF (F1 ++ f :: F2) := by rw [usedF_mid]; omega
  have c1 := h.cells.c1
  have f1 := h.cells.f1
  have c5 := h.cells.c5
  have hob := hf.obj
  unfold FE.obj at hob
  rw [hsh] at hob
  have b0 := cell_of hob 0
  simp only [List.getElem?_toArray, List.getElem?_cons_zero] at b0
  have HD : Hid (∀ (ty : TypeId) (W : World), W = (w.setCell ⟨d, 1, none⟩ (.int .i64 ((usedF (F1 ++ f :: F2) : Int) - (f.data.length : Int)))).drew → (Builtin.delete_ #[52, 9] ty #[.map (some m), .string n]).run Tryd.prog W = .ok (.tuple #[]) (putObj W m (mapObj (F1 ++ F2) clk))) :=
    Lib.hid (fun ty W hW => by
      subst hW
      have hm : (w.setCell ⟨d, 1, none⟩ (.int .i64 ((usedF (F1 ++ f :: F2) : Int) - (f.data.length : Int)))).drew.heap[m]? = some (.map ((F1 ++ f :: F2).map FE.entry).toArray clk) := by
        exact (Below.heap_setCell _ _ _ _ hmd).trans h.map
      have hx := findNow_hit n F1 f F2 hn h1 0
      rw [Nat.zero_add] at hx
      have hr := run_delete ty n hm (by simpa using hx)
      rw [map_erase] at hr
      exact hr)
  have HE := Lib.hid (fun W hW => gone_world h W hW)
  clear h hn h1 hf hq hfits hob
  generalize usedF (F1 ++ f :: F2) = us at *
  generalize f.data.length = fl at *
  generalize fpOf d m sv (F1 ++ f :: F2) = fp at *
  go_enter Tryd.func49, Tryd.ntmps49
  go_upto_region 3 with (first | (go_at_call 32; refine hF.out.mono ?_; rintro e w' ⟨rfl, rfl⟩))
  go_region
  have k5 : ∀ v, (w'.setCell ⟨d, 1, none⟩ v).drew.cell? ⟨d, 5, none⟩ = some (.map (some m)) := fun v => by
    show (w'.setCell ⟨d, 1, none⟩ v).cell? ⟨d, 5, none⟩ = _
    rw [World.cell?_setCell_other _ _ _ _ (by simp)]
    exact c5
  have HD2 := HD.out
  generalize hWW : (w'.setCell ⟨d, 1, none⟩ (.int .i64 ((us : Int) - (fl : Int)))).drew = WW at *
  have k6 : WW.cell? ⟨d, 5, none⟩ = some (.map (some m)) := by rw [← hWW]; exact k5 _
  have HWW := Lib.hid hWW
  have HD3 := Lib.hid (fun ty => HD2 ty WW rfl)
  clear k5 hWW HD HD2
  go_wp2_with (at_delete; refine delete_by_run rfl _ _ _ rfl _ _ rfl rfl _ _ (HD3.out _) ?_)
  first | refine bodyPost_end (results_none rfl _ _ _) rfl ?_ | refine bodyPost_ret (results_none rfl _ _ _) rfl ?_
  exact ⟨rfl, HE.out _ rfl⟩
end Go.Proofs.YtbnicjpkfldcdaaDoor
