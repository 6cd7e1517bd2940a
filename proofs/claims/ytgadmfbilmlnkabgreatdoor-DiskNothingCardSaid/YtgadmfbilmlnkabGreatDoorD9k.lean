/- disk: move. -/
import Derived.Test.YtgadmfbilmlnkabGreatDoorD9j
namespace Go.Proofs.YtgadmfbilmlnkabGreatDoor
open Go.RowKit Go.Lib

def FE.to (f : FE) (b : ByteArray) (clk : Nat) : FE := { f with name := b, born := clk }
theorem fp_to (d m : Nat) (sv : Value) (F1 F2 : List FE) (f : FE) (b : ByteArray) (clk : Nat) : (fpOf d m sv (F1 ++ (F2 ++ [f.to b clk]))).Perm (fpOf d m sv (F1 ++ f :: F2)) := by
  unfold fpOf
  refine ((List.Perm.append_left _ ?_).cons _).cons _
  have e : (f.to b clk).blks = f.blks := rfl
  simp only [List.flatMap_append, List.flatMap_cons, List.flatMap_nil, List.append_nil, e]
  exact List.Perm.append_left _ List.perm_append_comm
theorem usedF_to (F1 F2 : List FE) (f : FE) (b : ByteArray) (clk : Nat) : usedF (F1 ++ (F2 ++ [f.to b clk])) = usedF (F1 ++ f :: F2) := by
  have e : (f.to b clk).data = f.data := rfl
  rw [usedF_mid, ← List.append_assoc, usedF_snoc, e]
theorem DiskAt.renamed {B d m clk : Nat} {sv : Value} {S : DS} {F1 F2 : List FE} {f : FE} {w w' : World} (h : DiskAt B d m clk sv S (F1 ++ f :: F2) w) (b : ByteArray) (hnew : ∀ g, g ∈ F1 ++ f :: F2 → g.name ≠ b)
    (hmap : w'.heap[m]? = some (mapObj (F1 ++ (F2 ++ [f.to b clk])) (clk + 1))) (hz : w.heap.size ≤ w'.heap.size) (hs : ∀ k, k ∈ fpOf d m sv (F1 ++ f :: F2) → k ≠ m → w'.heap[k]? = w.heap[k]?) :
    DiskAt B d m (clk + 1) sv S (F1 ++ (F2 ++ [f.to b clk])) w' := by
  have hp := fp_to d m sv F1 F2 f b clk
  have hap := h.apart
  have hdm : d ≠ m := fun e => (apart_self h).2.2.2.1 e.symm
  have hm : ∀ k, k ∈ (svBlk sv).toList ++ (F1 ++ f :: F2).flatMap FE.blks → k ≠ m := by
    intro k hk
    unfold fpOf at hap
    rw [List.nodup_cons, List.nodup_cons] at hap
    exact fun e => hap.2.1 (by rw [← e]; exact hk)
  have hsub : ∀ g, g ∈ F1 ∨ g ∈ F2 → g ∈ F1 ++ f :: F2 := by
    intro g hg
    rcases hg with hg | hg <;> simp [hg]
  have hfile : ∀ g, g ∈ F1 ++ f :: F2 → FileAt B w' g := fun g hg => (h.files g hg).same (fun k hk => hs k (mem_fp_file hg hk) (hm k (List.mem_append.2 (.inr (List.mem_flatMap.2 ⟨g, hg, hk⟩)))))
  have hcase : ∀ g, g ∈ F1 ++ (F2 ++ [f.to b clk]) → (g ∈ F1 ∨ g ∈ F2) ∨ g = f.to b clk := by
    intro g hg
    rcases List.mem_append.1 hg with hg | hg
    · exact .inl (.inl hg)
    · rcases List.mem_append.1 hg with hg | hg
      · exact .inl (.inr hg)
      · simp at hg; exact .inr hg
  refine ⟨?_, hmap, ?_, ?_, ?_, ?_, ?_, hp.nodup_iff.2 h.apart, fun k hk => h.base k (hp.mem_iff.1 hk), Nat.le_trans h.size hz, by rw [usedF_to]; exact h.fits, h.quota, h.steps⟩
  · rw [hs d mem_fp_self hdm, usedF_to]; exact h.self
  · intro g hg
    rcases hcase g hg with hg | rfl
    · exact Nat.lt_succ_of_lt (h.born g (hsub g hg))
    · exact Nat.lt_succ_self _
  · have hb := h.borns
    rw [List.map_append, List.map_cons, List.nodup_append, List.nodup_cons] at hb
    rw [← List.append_assoc, List.map_append, List.nodup_append, List.map_append, List.nodup_append]
    refine ⟨⟨hb.1, hb.2.1.2, fun a ha c hc => hb.2.2 a ha c (by simp [hc])⟩, by simp, ?_⟩
    intro a ha c hc
    simp [FE.to] at hc
    subst hc
    have : ∃ g, (g ∈ F1 ∨ g ∈ F2) ∧ g.born = a := by
      rcases List.mem_append.1 ha with ha | ha
      · obtain ⟨g, hg, rfl⟩ := List.mem_map.1 ha; exact ⟨g, .inl hg, rfl⟩
      · obtain ⟨g, hg, rfl⟩ := List.mem_map.1 ha; exact ⟨g, .inr hg, rfl⟩
    obtain ⟨g, hg, rfl⟩ := this
    have := h.born g (hsub g hg)
    omega
  · have hb := h.names
    rw [List.map_append, List.map_cons, List.nodup_append, List.nodup_cons] at hb
    rw [← List.append_assoc, List.map_append, List.nodup_append, List.map_append, List.nodup_append]
    refine ⟨⟨hb.1, hb.2.1.2, fun a ha c hc => hb.2.2 a ha c (by simp [hc])⟩, by simp, ?_⟩
    intro a ha c hc
    simp [FE.to] at hc
    subst hc
    rcases List.mem_append.1 ha with ha | ha
    · obtain ⟨g, hg, rfl⟩ := List.mem_map.1 ha; exact hnew g (hsub g (.inl hg))
    · obtain ⟨g, hg, rfl⟩ := List.mem_map.1 ha; exact hnew g (hsub g (.inr hg))
  · intro g hg
    rcases hcase g hg with hg | rfl
    · exact hfile g (hsub g hg)
    · have := hfile f (by simp)
      exact ⟨this.obj, this.row, this.dur⟩
  · exact h.stops.same (fun k hk => hs k (mem_fp_sv hk) (hm k (by simp [hk])))
theorem ts_no {a b : ByteArray} (h : a ≠ b) : (a.toList == b.toList) = false := by
  rw [beq_eq_false_iff_ne]
  intro e
  apply h
  rw [toList_L, toList_L] at e
  rw [← S_L a, ← S_L b, e]
theorem move_same {d : Nat} (n : ByteArray) (w : World) :
    Calls Tryz.prog 74 #[.pointer (some ⟨d, 0, none⟩), .string n, .string n] w fun e w' => e = .returned (.tuple #[]) ∧ w' = w := by
  go_enter Tryz.func74, Tryz.ntmps74
  go_wp2
  first | refine bodyPost_end (results_none rfl _ _ _) rfl ?_ | refine bodyPost_ret (results_none rfl _ _ _) rfl ?_
  exact ⟨rfl, rfl⟩
theorem ren_world {B d m clk : Nat} {sv : Value} {S : DS} {F1 F2 : List FE} {f : FE} {w w1 : World} (h : DiskAt B d m clk sv S (F1 ++ f :: F2) w) (b : ByteArray) (hnew : ∀ g, g ∈ F1 ++ f :: F2 → g.name ≠ b) (hb : Below w.heap.size w w1) (w2 : World)
    (hw : w2 = putObj w1 m (.map (((F1 ++ f :: F2).map FE.entry).toArray.push { key := .string b, val := .pointer (some ⟨f.blk, 0, none⟩), born := clk }) (clk + 1))) :
    w2.cell? ⟨d, 5, none⟩ = some (.map (some m)) ∧ (∀ ty, (Builtin.delete_ #[26, 9] ty #[.map (some m), .string f.name]).run Tryz.prog w2 = .ok (.tuple #[]) (putObj w2 m (mapObj (F1 ++ (F2 ++ [f.to b clk])) (clk + 1)))) ∧
    DiskAt B d m (clk + 1) sv S (F1 ++ (F2 ++ [f.to b clk])) (putObj w2 m (mapObj (F1 ++ (F2 ++ [f.to b clk])) (clk + 1))) ∧ Stays (fpOf d m sv (F1 ++ f :: F2)) w (putObj w2 m (mapObj (F1 ++ (F2 ++ [f.to b clk])) (clk + 1))) := by
  have hdm : d ≠ m := fun e => (apart_self h).2.2.2.1 e.symm
  have hml := lt_of_heap h.map
  have hz := hb.size
  have hm2 : w2.heap[m]? = some (mapObj (F1 ++ f :: (F2 ++ [f.to b clk])) (clk + 1)) := by
    rw [hw, putObj_at _ (by omega)]
    unfold mapObj
    simp [FE.entry, FE.to]
  have h1 : ∀ g, g ∈ F1 → g.name ≠ f.name := (names_tail h.names).1
  have hs : ∀ k, k ∈ fpOf d m sv (F1 ++ f :: F2) → k ≠ m → (putObj w2 m (mapObj (F1 ++ (F2 ++ [f.to b clk])) (clk + 1))).heap[k]? = w.heap[k]? := by
    intro k hk hne
    rw [putObj_ne _ hne, hw, putObj_ne _ hne, hb.block k (h.lt hk)]
  refine ⟨?_, ?_, h.renamed b hnew ?_ ?_ hs, ?_⟩
  · have : w2.heap[d]? = w.heap[d]? := by rw [hw, putObj_ne _ hdm, hb.block d (h.lt mem_fp_self)]
    rw [World.cell?_of_block this]; exact h.cells.c5
  · intro ty
    have hx := findNow_hit f.name F1 f (F2 ++ [f.to b clk]) rfl h1 0
    rw [Nat.zero_add] at hx
    unfold mapObj at hm2
    have hr := run_delete ty f.name hm2 (by simpa using hx)
    rw [map_erase] at hr
    exact hr
  · rw [putObj_at _ (by rw [hw, putObj_size]; omega)]
  · rw [putObj_size, hw, putObj_size]; exact hz
  · rw [hw]
    exact ((Stays.ofBelow hb).put (.inl mem_fp_map) _).put (.inl mem_fp_map) _
set_option maxHeartbeats 2000000 in
theorem move_walk {B d m clk : Nat} {sv : Value} {S : DS} {F1 F2 : List FE} {f : FE} {w : World} (fp : List Nat) (a b : ByteArray) (hfn : f.name = a) (hab : a ≠ b) (hbs : b.size ≤ 140737488355328) (hnew : ∀ g, g ∈ F1 ++ f :: F2 → g.name ≠ b)
    (hdrop : Calls Tryz.prog 76 #[.pointer (some ⟨d, 0, none⟩), .string b] w fun e w' => e = .returned (.tuple #[]) ∧ DiskAt B d m clk sv S (F1 ++ f :: F2) w' ∧ Stays fp w w')
    (hfp : ∀ k, k ∈ fpOf d m sv (F1 ++ f :: F2) → k ∈ fp) :
    Calls Tryz.prog 74 #[.pointer (some ⟨d, 0, none⟩), .string a, .string b] w fun e w' => e = .returned (.tuple #[]) ∧ DiskAt B d m (clk + 1) sv S (F1 ++ (F2 ++ [f.to b clk])) w' ∧ Stays fp w w' := by
  have hDr := Lib.hid hdrop
  have e0 := ts_no hab
  have HF := Lib.hid (fun W (hW : DiskAt B d m clk sv S (F1 ++ f :: F2) W) => find_hit hW a hfn (by rw [← hfn]; exact (names_tail hW.names).1))
  have HP := Lib.hid (fun W (hW : DiskAt B d m clk sv S (F1 ++ f :: F2) W) => put_raw (k := f.blk) (w := W) b hbs hW.cells.c5 hW.map (by simpa using findNow_no b _ hnew 0))
  have HR := Lib.hid (fun W (hW : DiskAt B d m clk sv S (F1 ++ f :: F2) W) w1 hb w2 hw => ren_world (w1 := w1) hW b hnew hb w2 hw)
  have HS := Lib.hid hfp
  have HN := Lib.hid hfn
  clear hdrop hab hnew hfp hbs hfn
  go_enter Tryz.func74, Tryz.ntmps74
  go_upto_region 3 with (first | (go_at_call 76; refine hDr.out.mono ?_; rintro e w3 ⟨rfl, hD3, hS3⟩; have HD3 := Lib.hid hD3; have HS3 := Lib.hid hS3; clear hD3 hS3) | (go_at_call 64; refine (HF.out _ HD3.out).mono ?_; rintro e w4 ⟨rfl, rfl⟩) | (go_at_call 65; refine (HP.out _ HD3.out).mono ?_; rintro e w2 ⟨rfl, w1, hb, hw⟩; have HW := Lib.hid hw; clear hw))
  obtain ⟨k5, hdel, hD, hS⟩ := HR.out _ HD3.out w1 hb w2 HW.out
  rw [HN.out] at hdel
  have HDel := Lib.hid hdel
  have HE := Lib.hid (And.intro hD (HS3.out.trans hS (fun k hk => .inl (HS.out k hk))))
  clear hdel hD hS HW hb
  go_wp2_with (at_delete; refine delete_by_run rfl _ _ _ rfl _ _ rfl rfl _ _ (HDel.out _) ?_)
  first | refine bodyPost_end (results_none rfl _ _ _) rfl ?_ | refine bodyPost_ret (results_none rfl _ _ _) rfl ?_
  exact ⟨rfl, HE.out⟩
end Go.Proofs.YtgadmfbilmlnkabGreatDoor
