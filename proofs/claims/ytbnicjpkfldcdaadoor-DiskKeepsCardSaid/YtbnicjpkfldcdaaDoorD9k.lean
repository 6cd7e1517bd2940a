/- disk: move. -/
import Derived.Test.YtbnicjpkfldcdaaDoorD9g
namespace Go.Proofs.YtbnicjpkfldcdaaDoor
open Go.RowKit Go.Lib

def FE.to (f : FE) (b : ByteArray) (clk : Nat) : FE := { f with name := b, born := clk }
theorem fp_to (d m : Nat) (sv : Value) (F1 F2 : List FE) (f : FE) (b : ByteArray) (clk : Nat) : (fpOf d m sv (F1 ++ (F2 ++ [f.to b clk]))).Perm (fpOf d m sv (F1 ++ f :: F2)) := by
  unfold fpOf
  refine ((List.Perm.append_left _ ?_).cons _).cons _
  have e : (f.to b clk).blks = f.blks := rfl
  simp only [List.flatMap_append, List.flatMap_cons, List.flatMap_nil, List.append_nil, e]
  exact List.Perm.append_left _ List.perm_append_comm
theorem usedF_to (F1 F2 : List FE) (f : FE) (b : ByteArray) (clk : Nat) : usedF (F1 ++ (F2 ++ [f.to b clk])) = usedF (F1 ++ f :: F2) := by
  have e : (f.to b clk).data = f.data := rfl
  rw [usedF_mid, ← List.append_assoc, usedF_snoc, e]
theorem DiskAt.renamed {B d m clk : Nat} {sv : Value} {S : DS} {F1 F2 : List FE} {f : FE} {w w' : World} (h : DiskAt B d m clk sv S (F1 ++ f :: F2) w) (b : ByteArray) (hnew : ∀ g, g ∈ F1 ++ f :: F2 → g.name ≠ b)
    (hmap : w'.heap[m]? = some (mapObj (F1 ++ (F2 ++ [f.to b clk])) (clk + 1))) (hz : w.heap.size ≤ w'.heap.size) (hs : ∀ k, k ∈ fpOf d m sv (F1 ++ f :: F2) → k ≠ m → w'.heap[k]? = w.heap[k]?) :
    DiskAt B d m (clk + 1) sv S (F1 ++ (F2 ++ [f.to b clk])) w' := by
  have hp := fp_to d m sv F1 F2 f b clk
  have hap := h.apart
  have hdm : d ≠ m := fun e => (apart_self h).2.2.2.1 e.symm
  have hm : ∀ k, k ∈ (svBlk sv).toList ++ (F1 ++ f :: F2).flatMap FE.blks → k ≠ m := by
    intro k hk
    unfold fpOf at hap
    rw [List.nodup_cons, List.nodup_cons] at hap
    exact fun e => hap.2.1 (by rw [← e]; exact hk)
  have hsub : ∀ g, g ∈ F1 ∨ g ∈ F2 → g ∈ F1 ++ f :: F2 := by
    intro g hg
    rcases hg with hg | hg <;> simp [hg]
  have hfile : ∀ g, g ∈ F1 ++ f :: F2 → FileAt B w' g := fun g hg => (h.files g hg).same (fun k hk => hs k (mem_fp_file hg hk) (hm k (List.mem_append.2 (.inr (List.mem_flatMap.2 ⟨g, hg, hk⟩)))))
  have hcase : ∀ g, g ∈ F1 ++ (F2 ++ [f.to b clk]) → (g ∈ F1 ∨ g ∈ F2) ∨ g = f.to b clk := by
    intro g hg
    rcases List.mem_append.1 hg with hg | hg
    · exact .inl (.inl hg)
    · rcases List.mem_append.1 hg with hg | hg
      · exact .inl (.inr hg)
      · simp at hg; exact .inr hg
  refine ⟨?_, hmap, ?_, ?_, ?_, ?_, ?_, hp.nodup_iff.2 h.apart, fun k hk => h.base k (hp.mem_iff.1 hk), Nat.le_trans h.size hz, by rw [usedF_to]; exact h.fits, h.quota, h.steps⟩
  · rw [hs d mem_fp_self hdm, usedF_to]; exact h.self
  · intro g hg
    rcases hcase g hg with hg | rfl
    · exact Nat.lt_succ_of_lt (h.born g (hsub g hg))
    · exact Nat.lt_succ_self _
  · have hb := h.borns
    rw [List.map_append, List.map_cons, List.nodup_append, List.nodup_cons] at hb
    rw [← List.append_assoc, List.map_append, List.nodup_append, List.map_append, List.nodup_append]
    refine ⟨⟨hb.1, hb.2.1.2, fun a ha c hc => hb.2.2 a ha c (by simp [hc])⟩, by simp, ?_⟩
    intro a ha c hc
    simp [FE.to] at hc
    subst hc
    have : ∃ g, (g ∈ F1 ∨ g ∈ F2) ∧ g.born = a := by
      rcases List.mem_append.1 ha with ha | ha
      · obtain ⟨g, hg, rfl⟩ := List.mem_map.1 ha; exact ⟨g, .inl hg, rfl⟩
      · obtain ⟨g, hg, rfl⟩ := List.mem_map.1 ha; exact ⟨g, .inr hg, rfl⟩
    obtain ⟨g, hg, rfl⟩ := this
    have := h.born g (hsub g hg)
    omega
  · have hb := h.names
    rw [List.map_append, List.map_cons, List.nodup_append, List.nodup_cons] at hb
    rw [← List.append_assoc, List.map_append, List.nodup_append, List.map_append, List.nodup_append]
    refine ⟨⟨hb.1, hb.2.1.2, fun a ha c hc => hb.2.2 a ha c (by simp [hc])⟩, by simp, ?_⟩
    intro a ha c hc
    simp [FE.to] at hc
    subst hc
    rcases List.mem_append.1 ha with ha | ha
    · obtain ⟨g, hg, rfl⟩ := List.mem_map.1 ha; exact hnew g (hsub g (.inl hg))
    · obtain ⟨g, hg, rfl⟩ := List.mem_map.1 ha; exact hnew g (hsub g (.inr hg))
  · intro g hg
    rcases hcase g hg with hg | rfl
    · exact hfile g (hsub g hg)
    · have := hfile f (by simp)
      exact ⟨this.obj, this.row, this.dur⟩
  · exact h.stops.same (fun k hk => hs k (mem_fp_sv hk) (hm k (by simp [hk])))
theorem ts_no {a b : ByteArray} (h : a ≠ b) : (a.toList == b.toList) = false := by
  rw [beq_eq_false_iff_ne]
  intro e
  apply h
  rw [toList_L, toList_L] at e
  rw [← S_L a, ← S_L b, e]
theorem move_same {d : Nat} (n : ByteArray) (w : World) :
    Calls Tryd.prog 47 #[.pointer (some ⟨d, 0, none⟩), .string n, .string n] w fun e w' => e = .returned (.tuple #[]) ∧ w' = w := by
  go_enter Tryd.func47, Tryd.ntmps47
  go_wp2
  first | refine bodyPost_end (results_none rfl _ _ _) rfl ?_ | refine bodyPost_ret (results_none rfl _ _ _) rfl ?_
  exact ⟨rfl, rfl⟩
theorem ren_world {B d m clk : Nat} {sv : Value} {S : DS} {F1 F2 : List FE} {f : FE} {w w1 : World} (h : DiskAt B d m clk sv S (F1 ++ f :: F2) w) (b : ByteArray) (hnew : ∀ g, g ∈ F1 ++ f :: F2 → g.name ≠ b) (hb : Below w.heap.size w w1) (w2 : World)
    (hw : w2 = putObj w1 m (.map (((F1 ++ f :: F2).map FE.entry).toArray.push { key := .string b, val := .pointer (some ⟨f.blk, 0, none⟩), born := clk }) (clk + 1))) :
    w2.cell? ⟨d, 5, none⟩ = some (.map (some m)) ∧ (∀ ty, (Builtin.delete_ #[52, 9] ty #[.map (some m), .string f.name]).run Tryd.prog w2 = .ok (.tuple #[]) (putObj w2 m (mapObj (F1 ++ (F2 ++ [f.to b clk])) (clk + 1)))) ∧
    DiskAt B d m (clk + 1) sv S (F1 ++ (F2 ++ [f.to b clk])) (putObj w2 m (mapObj (F1 ++ (F2 ++ [f.to b clk])) (clk + 1))) ∧ Stays (fpOf d m sv (F1 ++ f :: F2)) w (putObj w2 m (mapObj (F1 ++ (F2 ++ [f.to b clk])) (clk + 1))) := by
  have hdm : d ≠ m := fun e => (apart_self h).2.2.2.1 e.symm
  have hml := lt_of_heap h.map
  have hz := hb.size
  have hm2 : w2.heap[m]? = some (mapObj (F1 ++ f :: (F2 ++ [f.to b clk])) (clk + 1)) := by
    rw [hw, putObj_at _ (by omega)]
    unfold mapObj
    simp [FE.entry, FE.to]
  have h1 : ∀ g, g ∈ F1 → g.name ≠ f.name := (names_tail h.names).1
  have hs : ∀ k, k ∈ fpOf d m sv (F1 ++ f :: F2) → k ≠ m → (putObj w2 m (mapObj (F1 ++ (F2 ++ [f.to b clk])) (clk + 1))).heap[k]? = w.heap[k]? := by
    intro k hk hne
    rw [putObj_ne _ hne, hw, putObj_ne _ hne, hb.block k (h.lt hk)]
  refine ⟨?_, ?_, h.renamed b hnew ?_ ?_ hs, ?_⟩
  · have : w2.heap[d]? = w.heap[d]? := by rw [hw, putObj_ne _ hdm, hb.block d (h.lt mem_fp_self)]
    rw [World.cell?_of_block this]; exact h.cells.c5
  · intro ty
    have hx := findNow_hit f.name F1 f (F2 ++ [f.to b clk]) rfl h1 0
    rw [Nat.zero_add] at hx
    unfold mapObj at hm2
    have hr := run_delete ty f.name hm2 (by simpa using hx)
    rw [map_erase] at hr
    exact hr
  · rw [putObj_at _ (by rw [hw, putObj_size]; omega)]
  · rw [putObj_size, hw, putObj_size]; exact hz
  · rw [hw]
    exact ((Stays.ofBelow hb).put (.inl mem_fp_map) _).put (.inl mem_fp_map) _
set_option maxHeartbeats 2000000 in
theorem move_walk {B d m clk : Nat} {sv : Value} {S : DS} {F1 F2 : List FE} {f : FE} {w : World} (fp : List Nat) (a b : ByteArray) (hfn : f.name = a) (hab : a ≠ b) (hbs : b.size ≤ 140737488355328) (hnew : ∀ g, g ∈ F1 ++ f :: F2 → g.name ≠ b)
    (hdrop : Calls Tryd.prog 49 #[.pointer (some ⟨d, 0, none⟩), .string b] w fun e w' => e = .returned (.tuple #[]) ∧ DiskAt B d m clk sv S (F1 ++ f :: F2) w' ∧ Stays fp w w')
    (hfp : ∀ k, k ∈ fpOf d m sv (F1 ++ f :: F2) → k ∈ fp) :
    Calls Tryd.prog 47 #[.pointer (some ⟨d, 0, none⟩), .string a, .string b] w fun e w' => e = .returned (.tuple #[]) ∧ DiskAt B d m (clk + 1) sv S (F1 ++ (F2 ++ [f.to b clk])) w' ∧ Stays fp w w' := by
  have hDr := Lib.hid hdrop
  have e0 := ts_no hab
  have HF := Lib.hid (fun W (hW : DiskAt B d m clk sv S (F1 ++ f :: F2) W) => find_hit hW a hfn (by rw [← hfn]; exact (names_tail hW.names).1))
  have HP := Lib.hid (fun W (hW : DiskAt B d m clk sv S (F1 ++ f :: F2) W) => put_raw (k := f.blk) (w := W) b hbs hW.cells.c5 hW.map (by simpa using findNow_no b _ hnew 0))
  have HR := Lib.hid (fun W (hW : DiskAt B d m clk sv S (F1 ++ f :: F2) W) w1 hb w2 hw => ren_world (w1 := w1) hW b hnew hb w2 hw)
  have HS := Lib.hid hfp
  have HN := Lib.hid hfn
  clear hdrop hab hnew hfp hbs hfn
  go_enter Tryd.func47, Tryd.ntmps47
  go_upto_region 3 with (first | (go_at_call 49; refine hDr.out.mono ?_; rintro e w3 ⟨rfl, hD3, hS3⟩; have HD3 := Lib.hid hD3; have HS3 := Lib.hid hS3; clear hD3 hS3) | (go_at_call 32; refine (HF.out _ HD3.out).mono ?_; rintro e w4 ⟨rfl, rfl⟩) | (go_at_call 54; refine (HP.out _ HD3.out).mono ?_; rintro e w2 ⟨rfl, w1, hb, hw⟩; have HW := Lib.hid hw; clear hw))
  obtain ⟨k5, hdel, hD, hS⟩ := HR.out _ HD3.out w1 hb w2 HW.out
  rw [HN.out] at hdel
  have HDel := Lib.hid hdel
  have HE := Lib.hid (And.intro hD (HS3.out.trans hS (fun k hk => .inl (HS.out k hk))))
  clear hdel hD hS HW hb
  go_wp2_with (at_delete; refine delete_by_run rfl _ _ _ rfl _ _ rfl rfl _ _ (HDel.out _) ?_)
  first | refine bodyPost_end (results_none rfl _ _ _) rfl ?_ | refine bodyPost_ret (results_none rfl _ _ _) rfl ?_
  exact ⟨rfl, HE.out⟩
end Go.Proofs.YtbnicjpkfldcdaaDoor

/- disk: cut. -/
namespace Go.Proofs.YtbnicjpkfldcdaaDoor
open Go.RowKit Go.Lib

theorem cut_whole {B d m clk : Nat} {sv : Value} {S : DS} {F1 F2 : List FE} {f : FE} {w : World} (h : DiskAt B d m clk sv S (F1 ++ f :: F2) w) :
    Calls Tryd.prog 51 #[.pointer (some ⟨d, 0, none⟩), .pointer (some ⟨f.blk, 0, none⟩), .int .i64 (f.data.length : Int)] w fun e w' => e = .returned (.tuple #[]) ∧ w' = w := by
  have hf := h.files f (by simp)
  obtain ⟨a, c, hsh⟩ := ownsRow_shape hf.row
  have hob := hf.obj
  unfold FE.obj at hob
  rw [hsh] at hob
  have b0 := cell_of hob 0
  simp only [List.getElem?_toArray, List.getElem?_cons_zero] at b0
  clear h hf hob hsh
  go_enter Tryd.func51, Tryd.ntmps51
  go_wp2
  first | refine bodyPost_end (results_none rfl _ _ _) rfl ?_ | refine bodyPost_ret (results_none rfl _ _ _) rfl ?_
  exact ⟨rfl, rfl⟩
def FE.cutTo (f : FE) (k : Nat) (v : Value) : FE := { f with data := f.data.take k, dur := min f.dur k, row := v }
theorem usedF_cut (F1 F2 : List FE) (f : FE) (k : Nat) (v : Value) (hk : k ≤ f.data.length) : ((usedF (F1 ++ f :: F2) : Nat) : Int) - ((f.data.length : Int) - (k : Int)) = ((usedF (F1 ++ f.cutTo k v :: F2) : Nat) : Int) := by
  rw [usedF_mid, usedF_mid]
  have : (f.cutTo k v).data.length = k := by simp [FE.cutTo]; omega
  rw [this]; omega
theorem cut_world {B d m clk : Nat} {sv : Value} {S : DS} {F1 F2 : List FE} {f : FE} {w w1 w2 : World} (h : DiskAt B d m clk sv S (F1 ++ f :: F2) w) (k : Nat) (hk : k < f.data.length)
    (hw1 : w1 = (w.setCell ⟨d, 1, none⟩ (.int .i64 ((usedF (F1 ++ f :: F2) : Int) - ((f.data.length : Int) - (k : Int))))).drew) (a' : Option Addr) (c' : Nat) (hb : Below w1.heap.size w1 w2)
    (hrow : w2.ownsRow w1.heap.size 5 1 (.slice a' k c') k (bc (f.data.take k))) (q : Int) (hq : q = ((min f.dur k : Nat) : Int)) :
    w2.cell? ⟨f.blk, 0, none⟩ = some f.row ∧ w2.frozen? ⟨f.blk, 0, none⟩ = false ∧ (w2.setCell ⟨f.blk, 0, none⟩ (.slice a' k c')).cell? ⟨f.blk, 1, none⟩ = some (.int .i64 (f.dur : Int)) ∧ (w2.setCell ⟨f.blk, 0, none⟩ (.slice a' k c')).frozen? ⟨f.blk, 1, none⟩ = false ∧
    DiskAt B d m clk sv S (F1 ++ f.cutTo k (.slice a' k c') :: F2) ((w2.setCell ⟨f.blk, 0, none⟩ (.slice a' k c')).setCell ⟨f.blk, 1, none⟩ (.int .i64 q)) ∧
    Stays (fpOf d m sv (F1 ++ f :: F2)) w ((w2.setCell ⟨f.blk, 0, none⟩ (.slice a' k c')).setCell ⟨f.blk, 1, none⟩ (.int .i64 q)) ∧
    ∀ b, b ∈ fpOf d m sv (F1 ++ f.cutTo k (.slice a' k c') :: F2) → b ∈ fpOf d m sv (F1 ++ f :: F2) ∨ w.heap.size ≤ b := by
  subst hq
  have hf := h.files f (by simp)
  obtain ⟨hdb, hrd, hrb, hmd, hmb, hrm⟩ := apart_self h
  have hz1 : w1.heap.size = w.heap.size := by rw [hw1]; simp [World.setCell]
  have hfl := lt_of_heap hf.obj
  have hdl := lt_of_heap h.self
  have g1 : ∀ b, b ≠ d → w1.heap[b]? = w.heap[b]? := fun b hb' => by rw [hw1]; exact Below.heap_setCell _ _ _ _ hb'
  have hob2 : w2.heap[f.blk]? = some f.obj := by rw [hb.block _ (by omega), g1 _ (fun e => hdb e.symm)]; exact hf.obj
  have hlt := hrow.lt
  unfold FE.obj at hob2
  have hob3 := heap_setCell_at (o := 0) (.slice a' k c') hob2
  have hd2 : w2.heap[d]? = some (selfObj S (usedF (F1 ++ f.cutTo k (.slice a' k c') :: F2)) sv m) := by
    rw [hb.block _ (by omega), hw1]
    show (w.setCell ⟨d, 1, none⟩ (.int .i64 ((usedF (F1 ++ f :: F2) : Int) - ((f.data.length : Int) - (k : Int))))).heap[d]? = _
    have hs := h.self
    unfold selfObj at hs
    rw [heap_setCell_at _ hs, usedF_cut F1 F2 f k (.slice a' k c') (by omega)]
    rfl
  have hown : ∀ b, (f.cutTo k (.slice a' k c')).row.ownBlock = some b → f.row.ownBlock = some b ∨ w.heap.size ≤ b := fun b hb' => .inr (by have := (hlt b hb').1; omega)
  have g2 : ∀ b, b ≠ f.blk → ((w2.setCell ⟨f.blk, 0, none⟩ (.slice a' k c')).setCell ⟨f.blk, 1, none⟩ (.int .i64 ((min f.dur k : Nat) : Int))).heap[b]? = w2.heap[b]? := fun b hb' => by
    rw [Below.heap_setCell _ _ _ _ hb', Below.heap_setCell _ _ _ _ hb']
  refine ⟨cell_of hob2 0, frozen_of hob2 0, cell_of hob3 1, frozen_of hob3 1, h.refile (f.cutTo k (.slice a' k c')) rfl rfl rfl ?_ ?_ ?_ hown ?_ ?_ ?_ ?_, ?_, fp_same_blk rfl hown⟩
  · rw [heap_setCell_at _ hob3]
    rfl
  · have hr : ((w2.setCell ⟨f.blk, 0, none⟩ (.slice a' k c')).setCell ⟨f.blk, 1, none⟩ (.int .i64 ((min f.dur k : Nat) : Int))).ownsRow B 5 1 (.slice a' k c') k (bc (f.data.take k)) :=
      ownsRow_base (ownsRow_same hrow (fun b hb' => g2 b (fun e => by have := (hlt b hb').1; omega))) (by have := h.size; omega)
    have e : (f.cutTo k (.slice a' k c')).data.length = k := by simp [FE.cutTo]; omega
    rw [e]
    exact hr
  · simp only [FE.cutTo, List.length_take]
    have := hf.dur
    omega
  · rw [g2 d hdb]; exact hd2
  · have := hb.size
    simp [World.setCell]; omega
  · intro b hbm h1 h2 h3
    rw [g2 b h2, hb.block b (by have := h.lt hbm; omega), g1 b h1]
  · have := h.fits
    have e := usedF_cut F1 F2 f k (.slice a' k c') (by omega)
    omega
  · have hs1 : Stays (fpOf d m sv (F1 ++ f :: F2)) w w1 := by rw [hw1]; exact (Stays.setCell (p := ⟨d, 1, none⟩) (Stays.refl _ _) (.inl mem_fp_self) _).drew
    have hs2 : Stays (fpOf d m sv (F1 ++ f :: F2)) w w2 := hs1.trans (Stays.ofBelow (fp := []) hb) (fun b e => by cases e)
    have hm : f.blk ∈ fpOf d m sv (F1 ++ f :: F2) := mem_fp_file (f := f) (by simp) (by simp [FE.blks])
    exact Stays.setCell (p := ⟨f.blk, 1, none⟩) (Stays.setCell (p := ⟨f.blk, 0, none⟩) hs2 (.inl hm) _) (.inl hm) _
theorem bc_ints (l : List UInt8) : (l.map fun c => (c.toNat : Int)).map (Value.int .u8) = bc l := by simp [bc]
theorem clone_at {w : World} {B : Nat} {v : Value} {l : List UInt8} {g cap : Nat} (h : w.ownsRow B 5 1 v l.length (bc l)) (hv : v = .slice (some ⟨g, 0, none⟩) l.length cap) (k c : Nat) (hk : k ≤ l.length) (hl : l.length ≤ 1048576) :
    Calls Tryd.prog 58 #[.slice (some ⟨g, 0, none⟩) k c] w fun e w' => ∃ a' c', e = .returned (.slice a' k c') ∧ w'.ownsRow w.heap.size 5 1 (.slice a' k c') k (bc (l.take k)) ∧ Below w.heap.size w w' := by
  subst hv
  refine (Tryd.bytes_Clone_at ⟨g, 0, none⟩ k c ((l.take k).map fun c => (c.toNat : Int)) w (by simp; omega) (by omega) ?_).mono ?_
  · intro i hi
    have := h.cells (g := g) rfl i (.int .u8 ((((l.take k).map fun c => (c.toNat : Int)).getD i 0))) (by
      have hi2 : i < l.length := by omega
      simp [bc, List.getD, hi, hi2])
    exact this
  · rintro e w' ⟨v', rfl, hr, _, hb⟩
    rw [bc_ints] at hr
    obtain ⟨a', c', rfl⟩ := ownsRow_shape hr
    exact ⟨a', c', rfl, hr, hb⟩
set_option maxHeartbeats 2000000 in
theorem cut_part {B d m clk : Nat} {sv : Value} {S : DS} {F1 F2 : List FE} {f : FE} {w : World} (h : DiskAt B d m clk sv S (F1 ++ f :: F2) w) (k : Nat) (hk : k < f.data.length) :
    Calls Tryd.prog 51 #[.pointer (some ⟨d, 0, none⟩), .pointer (some ⟨f.blk, 0, none⟩), .int .i64 (k : Int)] w fun e w' => e = .returned (.tuple #[]) ∧ ∃ v, DiskAt B d m clk sv S (F1 ++ f.cutTo k v :: F2) w' ∧ Stays (fpOf d m sv (F1 ++ f :: F2)) w w' ∧
      ∀ b, b ∈ fpOf d m sv (F1 ++ f.cutTo k v :: F2) → b ∈ fpOf d m sv (F1 ++ f :: F2) ∨ w.heap.size ≤ b := by
  have hf := h.files f (by simp)
  obtain ⟨hdb, hrd, hrb, hmd, hmb, hrm⟩ := apart_self h
  have hq := h.quota
  have hfits := h.fits
  have hub : usedF (F1 ++ f :: F2) ≤ 1048576 := by omega
  have hle : f.data.length ≤ usedF (F1 ++ f :: F2) := by rw [usedF_mid]; omega
  have c1 := h.cells.c1
  have f1 := h.cells.f1
  rcases hf.row.2 with ⟨hv, h0⟩ | ⟨g, cap, cur, hv, hbg, hg, hnc, hcm, hcs, htake⟩
  · exfalso; omega
  have hob := hf.obj
  unfold FE.obj at hob
  rw [hv] at hob
  have b0 := cell_of hob 0
  simp only [List.getElem?_toArray, List.getElem?_cons_zero] at b0
  have hgd : g ≠ d := fun e => hrd (by rw [hv, e]; rfl)
  have HC : Hid (∀ W, W = (w.setCell ⟨d, 1, none⟩ (.int .i64 ((usedF (F1 ++ f :: F2) : Int) - ((f.data.length : Int) - (k : Int))))).drew → Calls Tryd.prog 58 #[.slice (some ⟨g, 0, none⟩) k cap] W fun e w' => ∃ a' c', e = .returned (.slice a' k c') ∧ w'.ownsRow W.heap.size 5 1 (.slice a' k c') k (bc (f.data.take k)) ∧ Below W.heap.size W w') :=
    Lib.hid (fun W hW => clone_at (B := B) (ownsRow_same hf.row (fun b hb => by
      have : b = g := by rw [hv] at hb; simp [Value.ownBlock] at hb; exact hb.symm
      subst this
      rw [hW]; exact Below.heap_setCell _ _ _ _ hgd)) hv k cap (by omega) (by omega))
  have HW := Lib.hid (fun w1 w2 hw1 a' c' hb hrow q hq => cut_world (w1 := w1) (w2 := w2) h k hk hw1 a' c' hb hrow q hq)
  have kb0 : ∀ v, (w.setCell ⟨d, 1, none⟩ v).drew.cell? ⟨f.blk, 0, none⟩ = some (.slice (some ⟨g, 0, none⟩) f.data.length cap) := fun v => by
    show (w.setCell ⟨d, 1, none⟩ v).cell? ⟨f.blk, 0, none⟩ = _
    rw [World.cell?_setCell_other _ _ _ _ (by intro e; simp at e)]
    exact b0
  have hkl : ¬ ((k : Int) = (f.data.length : Int)) := by omega
  have hkb := beqI_no hkl
  have hk2 : (k : Int) ≤ (f.data.length : Int) := by omega
  have hkc : (k : Int) ≤ (cap : Int) := by omega
  clear h hf hq hfits hob hv hbg hg hcm hcs htake
  generalize usedF (F1 ++ f :: F2) = us at *
  generalize f.data.length = fl at *
  go_enter Tryd.func51, Tryd.ntmps51
  go_wp2
  go_region
  generalize hWW : (w.setCell ⟨d, 1, none⟩ (.int .i64 ((us : Int) - ((fl : Int) - (k : Int))))).drew = WW at *
  have kb := kb0 (.int .i64 ((us : Int) - ((fl : Int) - (k : Int))))
  rw [hWW] at kb
  have HCC := Lib.hid (HC.out WW rfl)
  have HW2 := Lib.hid (fun w2 => HW.out WW w2 rfl)
  clear kb0 hWW HC HW
  go_wp2_with (go_at_call 58; refine HCC.out.mono ?_; rintro e w2 ⟨a', c', rfl, hrow, hb⟩; obtain ⟨x0, x1, x2, x3, hD, hS, hM⟩ := HW2.out w2 a' c' hb hrow (min (f.dur : Int) (k : Int)) (by omega); have HE := Lib.hid (And.intro hD (And.intro hS hM)); clear hrow hb hD hS hM)
  first | refine bodyPost_end (results_none rfl _ _ _) rfl ?_ | refine bodyPost_ret (results_none rfl _ _ _) rfl ?_
  exact ⟨rfl, _, HE.out⟩
end Go.Proofs.YtbnicjpkfldcdaaDoor

/- disk: due. -/
namespace Go.Proofs.YtbnicjpkfldcdaaDoor
open Go.RowKit Go.Lib

theorem res2 {P : Program} {fn : Func} {p u : Tmp} {ty : TypeId} (h : fn.results = #[.cell p ty, .tmp u]) (tmps : Array Value) (w : World) (g : Nat) (t : TypeId) (cs : Array Value) (fr : Nat × Nat) (d : TypeDesc)
    (hp : tmps.getD p undef = .pointer (some ⟨g, 0, none⟩)) (hg : w.heap[g]? = some (.cells cs t fr))
    (hu : P.underlying ty = some d) (hd : (match d with | .struct _ | .array _ _ => true | _ => false) = true) (hi : (P.info? ty).map (·.size) = some cs.size) :
    (results fn tmps).run P w = .ok (.tuple #[.agg cs, tmps.getD u undef]) w := by
  rw [results_cell_tmp h, hp]
  simp [asAddr, Result.andThen, run_loadVar_row w g t ty cs fr d hg hu hd hi]
theorem Tryd.sizeStop : (Tryd.prog.info? 56).map (·.size) = some 3 := by kernel_rfl
/-- Its stops alone have turned, and cells of its own. -/
theorem DiskAt.restop {B d m clk : Nat} {sv sv' : Value} {S S' : DS} {F : List FE} {w w' : World} (h : DiskAt B d m clk sv S F w) (hq : S'.quota = S.quota) (hstep : S'.steps ≤ 1000000000)
    (hself : w'.heap[d]? = some (selfObj S' (usedF F) sv' m)) (hst : StopsAt w' sv' S'.stops) (hsv : ∀ b, svBlk sv' = some b → svBlk sv = some b ∨ w.heap.size ≤ b) (hz : w.heap.size ≤ w'.heap.size)
    (hs : ∀ b, b ∈ fpOf d m sv F → b ≠ d → svBlk sv ≠ some b → w'.heap[b]? = w.heap[b]?) : DiskAt B d m clk sv' S' F w' ∧ ∀ b, b ∈ fpOf d m sv' F → b ∈ fpOf d m sv F ∨ w.heap.size ≤ b := by
  have hap := h.apart
  unfold fpOf at hap
  rw [List.nodup_cons, List.nodup_cons, List.nodup_append] at hap
  obtain ⟨hd, hm, _, hF, hx⟩ := hap
  have hfr : ∀ b, b ∈ fpOf d m sv' F → b ∈ fpOf d m sv F ∨ w.heap.size ≤ b := by
    intro b hb
    simp only [fpOf, List.mem_cons, List.mem_append, Option.mem_toList] at hb ⊢
    rcases hb with hb | hb | hb | hb
    · exact .inl (.inl hb)
    · exact .inl (.inr (.inl hb))
    · rcases hsv b hb with e | e
      · exact .inl (.inr (.inr (.inl e)))
      · exact .inr e
    · exact .inl (.inr (.inr (.inr hb)))
  have hblk : ∀ b, b ∈ F.flatMap FE.blks → b ≠ d ∧ svBlk sv ≠ some b := fun b hb => ⟨fun e => hd (by rw [← e]; simp only [List.mem_cons, List.mem_append]; exact .inr (.inr hb)), fun e => hx b (by simp [e]) b hb rfl⟩
  refine ⟨⟨hself, ?_, h.born, h.borns, h.names, ?_, hst, ?_, ?_, Nat.le_trans h.size hz, by rw [hq]; exact h.fits, by rw [hq]; exact h.quota, hstep⟩, hfr⟩
  · rw [hs m mem_fp_map (fun e => hd (by rw [← e]; simp)) (fun e => hm (by simp [e]))]; exact h.map
  · intro f hf
    refine (h.files f hf).same (fun b hb => ?_)
    obtain ⟨x, y⟩ := hblk b (List.mem_flatMap.2 ⟨f, hf, hb⟩)
    exact hs b (mem_fp_file hf hb) x y
  · unfold fpOf
    rw [List.nodup_cons, List.nodup_cons, List.nodup_append]
    have hlt : ∀ b, b ∈ fpOf d m sv F → b < w.heap.size := fun b hb => h.lt hb
    have hdl := hlt d mem_fp_self
    have hml := hlt m mem_fp_map
    refine ⟨?_, ?_, by cases svBlk sv' <;> simp, hF, ?_⟩
    · intro e
      simp only [List.mem_cons, List.mem_append, Option.mem_toList] at e
      rcases e with e | e | e
      · exact hd (by rw [e]; simp)
      · rcases hsv d e with e' | e'
        · exact hd (by simp [e'])
        · omega
      · exact hd (by simp only [List.mem_cons, List.mem_append]; exact .inr (.inr e))
    · intro e
      simp only [List.mem_append, Option.mem_toList] at e
      rcases e with e | e
      · rcases hsv m e with e' | e'
        · exact hm (by simp [e'])
        · omega
      · exact hm (by simp only [List.mem_append]; exact .inr e)
    · intro a ha b hb
      rw [Option.mem_toList] at ha
      rintro rfl
      rcases hsv a ha with e' | e'
      · exact (hblk a hb).2 e'
      · have := hlt a (by simp only [fpOf, List.mem_cons, List.mem_append]; exact .inr (.inr (.inr hb)))
        omega
  · intro b hb
    rcases hfr b hb with e | e
    · exact h.base b e
    · exact Nat.le_trans h.size e
theorem stops_head {w : World} {sv : Value} {x y z : Int} {l : List (Int × Int × Int)} (h : StopsAt w sv ((x, y, z) :: l)) :
    ∃ g o c cur, sv = .slice (some ⟨g, o, none⟩) (l.length + 1) c ∧ l.length + 1 ≤ c ∧ w.heap[g]? = some (.cells cur 56 (0, 0)) ∧ cur[o]? = some (.int .i64 x) ∧ cur[o + 1]? = some (.int .i64 y) ∧ cur[o + 2]? = some (.int .i64 z) ∧ (cur.toList.drop (o + 3)).take (3 * l.length) = stopCells l := by
  obtain ⟨a, c, rfl, hl⟩ := h
  rcases hl with hl | ⟨g, o, cur, rfl, hc, hg, ht⟩
  · cases hl
  · have e : stopCells ((x, y, z) :: l) = [.int .i64 x, .int .i64 y, .int .i64 z] ++ stopCells l := by simp [stopCells]
    rw [e, List.length_cons] at ht
    have hx : ∀ j : Nat, ((cur.toList.drop o).take (3 * (l.length + 1)))[j]? = (([.int .i64 x, .int .i64 y, .int .i64 z] : List Value) ++ stopCells l)[j]? := fun j => by rw [ht]
    refine ⟨g, o, c, cur, rfl, hc, hg, ?_, ?_, ?_, ?_⟩
    · have := hx 0
      rw [List.getElem?_take, if_pos (by omega), List.getElem?_drop] at this
      simpa using this
    · have := hx 1
      rw [List.getElem?_take, if_pos (by omega), List.getElem?_drop] at this
      simpa using this
    · have := hx 2
      rw [List.getElem?_take, if_pos (by omega), List.getElem?_drop] at this
      simpa using this
    · apply List.ext_getElem?
      intro j
      by_cases hj : j < 3 * l.length
      · have := hx (3 + j)
        rw [List.getElem?_take, if_pos (by omega), List.getElem?_drop, List.getElem?_append_right (by simp)] at this
        rw [List.getElem?_take, if_pos hj, List.getElem?_drop, show o + 3 + j = o + (3 + j) by omega, this]
        simp
      · rw [List.getElem?_take, if_neg hj, List.getElem?_eq_none (by rw [stopCells_length]; omega)]
theorem stops_make {w : World} {g o c : Nat} {cur : Array Value} {x y z : Int} {l : List (Int × Int × Int)} (hc : l.length + 1 ≤ c) (hg : w.heap[g]? = some (.cells cur 56 (0, 0))) (h0 : cur[o]? = some (.int .i64 x)) (h1 : cur[o + 1]? = some (.int .i64 y)) (h2 : cur[o + 2]? = some (.int .i64 z))
    (ht : (cur.toList.drop (o + 3)).take (3 * l.length) = stopCells l) : StopsAt w (.slice (some ⟨g, o, none⟩) (l.length + 1) c) ((x, y, z) :: l) := by
  refine ⟨_, c, by rw [List.length_cons], .inr ⟨g, o, cur, rfl, by rw [List.length_cons]; exact hc, hg, ?_⟩⟩
  have e : stopCells ((x, y, z) :: l) = [.int .i64 x, .int .i64 y, .int .i64 z] ++ stopCells l := by simp [stopCells]
  rw [e, ← ht, List.length_cons]
  apply List.ext_getElem?
  intro j
  by_cases hj : j < 3 * (l.length + 1)
  · rw [List.getElem?_take, if_pos hj, List.getElem?_drop]
    match j, hj with
    | 0, _ => simpa using h0
    | 1, _ => simpa using h1
    | 2, _ => simpa using h2
    | j + 3, hj =>
      rw [List.getElem?_append_right (by simp)]
      simp only [List.length_cons, List.length_nil]
      rw [List.getElem?_take, if_pos (by omega), List.getElem?_drop]
      congr 1
      omega
  · rw [List.getElem?_take, if_neg hj, List.getElem?_eq_none]
    simp only [List.length_append, List.length_cons, List.length_nil, List.length_take]
    omega
set_option maxHeartbeats 2000000 in
theorem due_none {B d m clk : Nat} {sv : Value} {S : DS} {F : List FE} {w : World} (h : DiskAt B d m clk sv S F w) (hst : S.stops = []) :
    Calls Tryd.prog 55 #[.pointer (some ⟨d, 0, none⟩)] w fun e w' => e = .returned (.tuple #[.agg #[.int .i64 0, .int .i64 0, .int .i64 0], .bool false]) ∧ Below w.heap.size w w' := by
  have c4 := h.cells.c4
  obtain ⟨a, c, hsv, _⟩ := h.stops
  rw [hst] at hsv
  have hdl := lt_of_heap h.self
  subst hsv
  have k4 : ∀ o, (w.alloc o).cell? ⟨d, 4, none⟩ = some (.slice a 0 c) := fun o => by rw [World.cell?_of_block (Below.heap_alloc _ _ _ hdl)]; exact c4
  clear c4 h hst
  go_enter Tryd.func55, Tryd.ntmps55
  go_wp2
  exact bodyPost_ret (v := .tuple #[.agg #[.int .i64 0, .int .i64 0, .int .i64 0], .bool false]) (res2 Tryd.results55 _ _ w.heap.size 56 _ (0, 0) _ rfl (heap_alloc_new w _) Tryd.underlying56 rfl Tryd.sizeStop) rfl ⟨rfl, (Below.refl _ _).alloc (Nat.le_refl _) _⟩
/-- The first stop's count goes down. -/
theorem tick_world {B d m clk : Nat} {sv : Value} {S : DS} {F : List FE} {w w1 : World} (h : DiskAt B d m clk sv S F w) (x y z : Int) (l : List (Int × Int × Int)) {g o c : Nat} {cur : Array Value} (hsv : sv = .slice (some ⟨g, o, none⟩) (l.length + 1) c) (hc : l.length + 1 ≤ c)
    (hg : w.heap[g]? = some (.cells cur 56 (0, 0))) (h0 : cur[o]? = some (.int .i64 x)) (h1 : cur[o + 1]? = some (.int .i64 y)) (h2 : cur[o + 2]? = some (.int .i64 z)) (ht : (cur.toList.drop (o + 3)).take (3 * l.length) = stopCells l)
    (hb : Below w.heap.size w w1) : DiskAt B d m clk sv { S with stops := (x - 1, y, z) :: l } F (w1.setCell ⟨g, o, none⟩ (.int .i64 (x - 1))) ∧ Stays (fpOf d m sv F) w (w1.setCell ⟨g, o, none⟩ (.int .i64 (x - 1))) := by
  have hgl := lt_of_heap hg
  have hdl := lt_of_heap h.self
  have hgsv : svBlk sv = some g := by rw [hsv]; rfl
  have hgd : d ≠ g := by
    have := h.apart
    simp only [fpOf, List.nodup_cons, List.mem_cons, List.mem_append, Option.mem_toList] at this
    exact fun e => this.1 (.inr (.inl (by rw [hgsv, e])))
  have hg1 : w1.heap[g]? = some (.cells cur 56 (0, 0)) := by rw [hb.block g hgl]; exact hg
  have hol : o < cur.size := (Array.getElem?_eq_some_iff.1 h0).1
  refine ⟨(h.restop (S' := { S with stops := (x - 1, y, z) :: l }) rfl h.steps ?_ ?_ (fun b e => .inl e) ?_ ?_).1, ?_⟩
  · rw [Below.heap_setCell _ _ _ _ hgd, hb.block d hdl]; exact h.self
  · rw [hsv]
    refine stops_make (cur := cur.setIfInBounds o (.int .i64 (x - 1))) hc (heap_setCell_at _ hg1) ?_ ?_ ?_ ?_
    · rw [Array.getElem?_setIfInBounds_self_of_lt hol]
    · rw [Array.getElem?_setIfInBounds_ne (by omega)]; exact h1
    · rw [Array.getElem?_setIfInBounds_ne (by omega)]; exact h2
    · rw [Array.toList_setIfInBounds, List.drop_set_of_lt (by omega)]; exact ht
  · have := hb.size
    simp [World.setCell]; omega
  · intro b hbm h1' h2'
    rw [Below.heap_setCell _ _ _ _ (fun e => h2' (by rw [hgsv, e])), hb.block b (h.lt hbm)]
  · exact Stays.setCell (p := ⟨g, o, none⟩) (Stays.ofBelow hb) (.inl (mem_fp_sv hgsv)) _
set_option maxHeartbeats 2000000 in
theorem due_later {B d m clk : Nat} {sv : Value} {S : DS} {F : List FE} {w : World} (h : DiskAt B d m clk sv S F w) (x y z : Int) (l : List (Int × Int × Int)) (hst : S.stops = (x, y, z) :: l) (hx : 1 < x) (hx' : x ≤ 9223372036854775807) :
    Calls Tryd.prog 55 #[.pointer (some ⟨d, 0, none⟩)] w fun e w' => e = .returned (.tuple #[.agg #[.int .i64 0, .int .i64 0, .int .i64 0], .bool false]) ∧ DiskAt B d m clk sv { S with stops := (x - 1, y, z) :: l } F w' ∧ Stays (fpOf d m sv F) w w' := by
  have c4 := h.cells.c4
  have hss := h.stops
  rw [hst] at hss
  obtain ⟨g, o, c, cur, hsv, hc, hg, h0, h1, h2, ht⟩ := stops_head hss
  have hdl := lt_of_heap h.self
  have hgl := lt_of_heap hg
  have HE := Lib.hid (fun w1 (hb : Below w.heap.size w w1) => tick_world h x y z l hsv hc hg h0 h1 h2 ht hb)
  rw [hsv] at c4
  have k4 : ∀ o', (w.alloc o').cell? ⟨d, 4, none⟩ = some (.slice (some ⟨g, o, none⟩) (l.length + 1) c) := fun o' => by rw [World.cell?_of_block (Below.heap_alloc _ _ _ hdl)]; exact c4
  have k4' : ∀ o' o'', ((w.alloc o').alloc o'').cell? ⟨d, 4, none⟩ = some (.slice (some ⟨g, o, none⟩) (l.length + 1) c) := fun o' o'' => by rw [World.cell?_of_block (Below.heap_alloc _ _ _ (by simp; omega))]; exact k4 o'
  have q0 : ∀ o', (w.alloc o').cell? ⟨g, o, none⟩ = some (.int .i64 x) := fun o' => by rw [World.cell?_of_block (Below.heap_alloc _ _ _ hgl), cell_of hg]; exact h0
  have q1 : ∀ o', (w.alloc o').cell? ⟨g, o + 1, none⟩ = some (.int .i64 y) := fun o' => by rw [World.cell?_of_block (Below.heap_alloc _ _ _ hgl), cell_of hg]; exact h1
  have q2 : ∀ o', (w.alloc o').cell? ⟨g, o + 2, none⟩ = some (.int .i64 z) := fun o' => by rw [World.cell?_of_block (Below.heap_alloc _ _ _ hgl), cell_of hg]; exact h2
  have q3 : ∀ o' o'', ((w.alloc o').alloc o'').cell? ⟨g, o, none⟩ = some (.int .i64 x) := fun o' o'' => by rw [World.cell?_of_block (Below.heap_alloc _ _ _ (by simp; omega))]; exact q0 o'
  have q4 : ∀ o' o'', ((w.alloc o').alloc o'').frozen? ⟨g, o, none⟩ = false := fun o' o'' => by rw [World.frozen?_of_block (Below.heap_alloc _ _ _ (by simp; omega)), World.frozen?_of_block (Below.heap_alloc _ _ _ hgl)]; exact frozen_of hg o
  clear c4 h hst hss hg h0 h1 h2 ht hc hsv
  go_enter Tryd.func55, Tryd.ntmps55
  go_wp2
  have hr : (((w.setCell ⟨g, o, none⟩ (.int .i64 (x - 1))).alloc (.cells #[.int .i64 0, .int .i64 0, .int .i64 0] 56)).alloc (.cells #[.int .i64 x, .int .i64 y, .int .i64 z] 56)).heap[w.heap.size]? = some (.cells #[.int .i64 0, .int .i64 0, .int .i64 0] 56 (0, 0)) := by
    have hz : (w.setCell ⟨g, o, none⟩ (.int .i64 (x - 1))).heap.size = w.heap.size := by simp [World.setCell]
    rw [Below.heap_alloc _ _ _ (by simp [World.setCell]), ← hz]
    exact heap_alloc_new _ _
  obtain ⟨hD, hS⟩ := HE.out w (Below.refl _ _)
  exact bodyPost_ret (v := .tuple #[.agg #[.int .i64 0, .int .i64 0, .int .i64 0], .bool false]) (res2 Tryd.results55 _ _ w.heap.size 56 _ (0, 0) _ rfl hr Tryd.underlying56 rfl Tryd.sizeStop) rfl ⟨rfl, (hD.alloc _).alloc _, (hS.alloc _).alloc _⟩
/-- The first stop is taken off. -/
theorem off_world {B d m clk : Nat} {sv : Value} {S : DS} {F : List FE} {w : World} (h : DiskAt B d m clk sv S F w) (x y z : Int) (l : List (Int × Int × Int)) (hst : S.stops = (x, y, z) :: l) {g o c : Nat} {cur : Array Value} (hsv : sv = .slice (some ⟨g, o, none⟩) (l.length + 1) c) (hc : l.length + 1 ≤ c)
    (hg : w.heap[g]? = some (.cells cur 56 (0, 0))) (ht : (cur.toList.drop (o + 3)).take (3 * l.length) = stopCells l) (a' : Addr) (ha : a' = ⟨g, o + 3, none⟩ ∨ (l = [] ∧ a' = ⟨g, o, none⟩)) :
    DiskAt B d m clk (.slice (some a') l.length (c - 1)) { S with stops := l } F (w.setCell ⟨d, 4, none⟩ (.slice (some a') l.length (c - 1))) ∧ Stays (fpOf d m sv F) w (w.setCell ⟨d, 4, none⟩ (.slice (some a') l.length (c - 1))) ∧
    ∀ b, b ∈ fpOf d m (.slice (some a') l.length (c - 1)) F → b ∈ fpOf d m sv F := by
  have hgsv : svBlk sv = some g := by rw [hsv]; rfl
  have hgd : g ≠ d := by
    have := h.apart
    simp only [fpOf, List.nodup_cons, List.mem_cons, List.mem_append, Option.mem_toList] at this
    exact fun e => this.1 (.inr (.inl (by rw [hgsv, e])))
  have hblk : ∀ b, svBlk (.slice (some a') l.length (c - 1)) = some b → svBlk sv = some b := by
    intro b hb
    cases l with
    | nil => simp [svBlk] at hb
    | cons p l' =>
      rcases ha with rfl | ⟨e, _⟩
      · simp [svBlk] at hb
        rw [hgsv, hb]
      · cases e
  have hR := h.restop (S' := { S with stops := l }) (sv' := .slice (some a') l.length (c - 1)) (w' := w.setCell ⟨d, 4, none⟩ (.slice (some a') l.length (c - 1))) rfl h.steps ?_ ?_ (fun b e => .inl (hblk b e)) (by simp [World.setCell]) (fun b _ hb _ => Below.heap_setCell _ _ _ _ hb)
  · refine ⟨hR.1, Stays.setCell (p := ⟨d, 4, none⟩) (Stays.refl _ _) (.inl mem_fp_self) _, ?_⟩
    intro b hb
    simp only [fpOf, List.mem_cons, List.mem_append, Option.mem_toList] at hb ⊢
    rcases hb with hb | hb | hb | hb
    · exact .inl hb
    · exact .inr (.inl hb)
    · exact .inr (.inr (.inl (hblk b hb)))
    · exact .inr (.inr (.inr hb))
  · have hs := h.self
    unfold selfObj at hs
    rw [heap_setCell_at _ hs]
    rfl
  · refine ⟨_, c - 1, rfl, ?_⟩
    rcases ha with rfl | ⟨e, _⟩
    · refine .inr ⟨g, o + 3, cur, rfl, (by show l.length ≤ c - 1; omega), ?_, ht⟩
      rw [Below.heap_setCell _ _ _ _ hgd]; exact hg
    · exact .inl e
set_option maxHeartbeats 2000000 in
theorem due_now {B d m clk : Nat} {sv : Value} {S : DS} {F : List FE} {w : World} (h : DiskAt B d m clk sv S F w) (x y z : Int) (l : List (Int × Int × Int)) (hst : S.stops = (x, y, z) :: l) (hx : ¬ 1 < x) :
    Calls Tryd.prog 55 #[.pointer (some ⟨d, 0, none⟩)] w fun e w' => e = .returned (.tuple #[.agg #[.int .i64 x, .int .i64 y, .int .i64 z], .bool true]) ∧ ∃ sv', DiskAt B d m clk sv' { S with stops := l } F w' ∧ Stays (fpOf d m sv F) w w' ∧ ∀ b, b ∈ fpOf d m sv' F → b ∈ fpOf d m sv F := by
  have c4 := h.cells.c4
  have f4 := h.cells.f4
  have hss := h.stops
  rw [hst] at hss
  obtain ⟨g, o, c, cur, hsv, hc, hg, h0, h1, h2, ht⟩ := stops_head hss
  have hdl := lt_of_heap h.self
  have hgl := lt_of_heap hg
  have HE := Lib.hid (fun a' ha => off_world h x y z l hst hsv hc hg ht a' ha)
  have HL : Hid (c = 1 → l = []) := Lib.hid (fun e => List.eq_nil_of_length_eq_zero (by omega))
  rw [hsv] at c4
  have k4 : ∀ o', (w.alloc o').cell? ⟨d, 4, none⟩ = some (.slice (some ⟨g, o, none⟩) (l.length + 1) c) := fun o' => by rw [World.cell?_of_block (Below.heap_alloc _ _ _ hdl)]; exact c4
  have k4' : ∀ o' o'', ((w.alloc o').alloc o'').cell? ⟨d, 4, none⟩ = some (.slice (some ⟨g, o, none⟩) (l.length + 1) c) := fun o' o'' => by rw [World.cell?_of_block (Below.heap_alloc _ _ _ (by simp; omega))]; exact k4 o'
  have k4f : ∀ o' o'', ((w.alloc o').alloc o'').frozen? ⟨d, 4, none⟩ = false := fun o' o'' => by rw [World.frozen?_of_block (Below.heap_alloc _ _ _ (by simp; omega)), World.frozen?_of_block (Below.heap_alloc _ _ _ hdl)]; exact f4
  have q0 : ∀ o', (w.alloc o').cell? ⟨g, o, none⟩ = some (.int .i64 x) := fun o' => by rw [World.cell?_of_block (Below.heap_alloc _ _ _ hgl), cell_of hg]; exact h0
  have q1 : ∀ o', (w.alloc o').cell? ⟨g, o + 1, none⟩ = some (.int .i64 y) := fun o' => by rw [World.cell?_of_block (Below.heap_alloc _ _ _ hgl), cell_of hg]; exact h1
  have q2 : ∀ o', (w.alloc o').cell? ⟨g, o + 2, none⟩ = some (.int .i64 z) := fun o' => by rw [World.cell?_of_block (Below.heap_alloc _ _ _ hgl), cell_of hg]; exact h2
  have hcl : (1 : Int) ≤ (c : Int) := by omega
  clear c4 f4 h hst hss hg h0 h1 h2 ht hsv
  by_cases hc1 : c = 1
  · have hl := HL.out hc1
    clear HL
    subst hc1
    subst hl
    go_enter Tryd.func55, Tryd.ntmps55
    go_wp2
    have hr : (((w.setCell ⟨d, 4, none⟩ (.slice (some ⟨g, o, none⟩) 0 0)).alloc (.cells #[.int .i64 x, .int .i64 y, .int .i64 z] 56)).alloc (.cells #[.int .i64 x, .int .i64 y, .int .i64 z] 56)).heap[w.heap.size]? = some (.cells #[.int .i64 x, .int .i64 y, .int .i64 z] 56 (0, 0)) := by
      have hz : (w.setCell ⟨d, 4, none⟩ (.slice (some ⟨g, o, none⟩) 0 0)).heap.size = w.heap.size := by simp [World.setCell]
      rw [Below.heap_alloc _ _ _ (by simp [World.setCell]), ← hz]
      exact heap_alloc_new _ _
    obtain ⟨hD, hS, hM⟩ := HE.out ⟨g, o, none⟩ (.inr (by simp))
    exact bodyPost_ret (v := .tuple #[.agg #[.int .i64 x, .int .i64 y, .int .i64 z], .bool true]) (res2 Tryd.results55 _ _ w.heap.size 56 _ (0, 0) _ rfl hr Tryd.underlying56 rfl Tryd.sizeStop) rfl ⟨rfl, _, (hD.alloc _).alloc _, (hS.alloc _).alloc _, hM⟩
  · go_enter Tryd.func55, Tryd.ntmps55
    go_wp2
    have hr : (((w.setCell ⟨d, 4, none⟩ (.slice (some ⟨g, o + 3, none⟩) l.length (c - 1))).alloc (.cells #[.int .i64 x, .int .i64 y, .int .i64 z] 56)).alloc (.cells #[.int .i64 x, .int .i64 y, .int .i64 z] 56)).heap[w.heap.size]? = some (.cells #[.int .i64 x, .int .i64 y, .int .i64 z] 56 (0, 0)) := by
      have hz : (w.setCell ⟨d, 4, none⟩ (.slice (some ⟨g, o + 3, none⟩) l.length (c - 1))).heap.size = w.heap.size := by simp [World.setCell]
      rw [Below.heap_alloc _ _ _ (by simp [World.setCell]), ← hz]
      exact heap_alloc_new _ _
    obtain ⟨hD, hS, hM⟩ := HE.out ⟨g, o + 3, none⟩ (.inl rfl)
    exact bodyPost_ret (v := .tuple #[.agg #[.int .i64 x, .int .i64 y, .int .i64 z], .bool true]) (res2 Tryd.results55 _ _ w.heap.size 56 _ (0, 0) _ rfl hr Tryd.underlying56 rfl Tryd.sizeStop) rfl ⟨rfl, _, (hD.alloc _).alloc _, (hS.alloc _).alloc _, hM⟩
end Go.Proofs.YtbnicjpkfldcdaaDoor
