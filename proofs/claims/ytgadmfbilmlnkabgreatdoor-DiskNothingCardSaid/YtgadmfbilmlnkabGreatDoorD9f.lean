/- disk: files that come, go and change. -/
import Derived.Test.YtgadmfbilmlnkabGreatDoorD9e
namespace Go.Proofs.YtgadmfbilmlnkabGreatDoor
open Go.RowKit

theorem ownsRow_base {w : World} {B B' : Nat} {e : TypeId} {size : Nat} {v : Value} {n : Nat} {xs : List Value} (h : w.ownsRow B' e size v n xs) (hB : B ≤ B') : w.ownsRow B e size v n xs := by
  refine ⟨h.1, ?_⟩
  rcases h.2 with hn | ⟨g, cap, cur, rfl, hb, rest⟩
  · exact .inl hn
  · exact .inr ⟨g, cap, cur, rfl, Nat.le_trans hB hb, rest⟩
def restOf (d m : Nat) (sv : Value) (F1 : List FE) (k : Nat) (F2 : List FE) : List Nat := d :: m :: ((svBlk sv).toList ++ (F1.flatMap FE.blks ++ k :: F2.flatMap FE.blks))
theorem fp_perm (d m : Nat) (sv : Value) (F1 : List FE) (f : FE) (F2 : List FE) : (fpOf d m sv (F1 ++ f :: F2)).Perm (f.row.ownBlock.toList ++ restOf d m sv F1 f.blk F2) := by
  unfold fpOf restOf
  have e : (F1 ++ f :: F2).flatMap FE.blks = F1.flatMap FE.blks ++ (f.blk :: (f.row.ownBlock.toList ++ F2.flatMap FE.blks)) := by simp [FE.blks, List.flatMap_append]
  rw [e]
  generalize f.row.ownBlock.toList = o
  generalize (svBlk sv).toList = s
  generalize F1.flatMap FE.blks = A
  generalize F2.flatMap FE.blks = C
  have h : (d :: m :: (s ++ (A ++ f.blk :: (o ++ C)))) = (d :: m :: (s ++ (A ++ [f.blk]))) ++ (o ++ C) := by simp
  have h2 : (o ++ (d :: m :: (s ++ (A ++ f.blk :: C)))) = o ++ ((d :: m :: (s ++ (A ++ [f.blk]))) ++ C) := by simp
  rw [h, h2]
  generalize (d :: m :: (s ++ (A ++ [f.blk]))) = X
  rw [← List.append_assoc, ← List.append_assoc]
  exact List.Perm.append_right C List.perm_append_comm
theorem mem_fp_iff (d m : Nat) (sv : Value) (F1 : List FE) (f : FE) (F2 : List FE) (b : Nat) : b ∈ fpOf d m sv (F1 ++ f :: F2) ↔ f.row.ownBlock = some b ∨ b ∈ restOf d m sv F1 f.blk F2 := by
  rw [(fp_perm d m sv F1 f F2).mem_iff, List.mem_append, Option.mem_toList]
theorem usedF_mid (F1 : List FE) (f : FE) (F2 : List FE) : usedF (F1 ++ f :: F2) = usedF (F1 ++ F2) + f.data.length := by
  simp only [usedF, List.map_append, List.map_cons, List.sum_append, List.sum_cons]; omega
theorem usedF_snoc (F : List FE) (f : FE) : usedF (F ++ [f]) = usedF F + f.data.length := by
  simp [usedF]
/-- One file has changed. -/
theorem DiskAt.refile {B d m clk : Nat} {sv : Value} {S : DS} {F1 F2 : List FE} {f : FE} {w w' : World} (h : DiskAt B d m clk sv S (F1 ++ f :: F2) w) (f' : FE) (hn : f'.name = f.name) (hb : f'.blk = f.blk) (hbo : f'.born = f.born)
    (hobj : w'.heap[f.blk]? = some f'.obj) (hrow : w'.ownsRow B 5 1 f'.row f'.data.length (bc f'.data)) (hdur : f'.dur ≤ f'.data.length)
    (hown : ∀ b, f'.row.ownBlock = some b → f.row.ownBlock = some b ∨ w.heap.size ≤ b)
    (hself : w'.heap[d]? = some (selfObj S (usedF (F1 ++ f' :: F2)) sv m)) (hz : w.heap.size ≤ w'.heap.size)
    (hs : ∀ b, b ∈ fpOf d m sv (F1 ++ f :: F2) → b ≠ d → b ≠ f.blk → f.row.ownBlock ≠ some b → w'.heap[b]? = w.heap[b]?)
    (hfit : usedF (F1 ++ f' :: F2) ≤ S.quota) : DiskAt B d m clk sv S (F1 ++ f' :: F2) w' := by
  have hnd : (f.row.ownBlock.toList ++ restOf d m sv F1 f.blk F2).Nodup := (fp_perm d m sv F1 f F2).nodup_iff.1 h.apart
  have hap := h.apart
  have hmem : ∀ b, b ∈ fpOf d m sv (F1 ++ f' :: F2) → b ∈ fpOf d m sv (F1 ++ f :: F2) ∨ w.heap.size ≤ b := by
    intro b hb'
    rw [mem_fp_iff, hb] at hb'
    rw [mem_fp_iff]
    rcases hb' with e | e
    · rcases hown b e with e' | e'
      · exact .inl (.inl e')
      · exact .inr e'
    · exact .inl (.inr e)
  -- blocks of other things are other blocks
  have hdm : m ≠ d := by
    simp only [fpOf, List.nodup_cons, List.mem_cons] at hap
    exact fun e => hap.1 (.inl e.symm)
  have hblk : ∀ b, b ∈ restOf d m sv F1 f.blk F2 → f.row.ownBlock ≠ some b := by
    intro b hb' e
    rw [List.nodup_append] at hnd
    exact hnd.2.2 b (by simp [e]) b hb' rfl
  have hrest : (restOf d m sv F1 f.blk F2).Nodup := (List.nodup_append.1 hnd).2.1
  have hother : ∀ g, g ∈ F1 ∨ g ∈ F2 → ∀ b, b ∈ g.blks → b ≠ d ∧ b ≠ f.blk ∧ f.row.ownBlock ≠ some b ∧ b ∈ fpOf d m sv (F1 ++ f :: F2) := by
    intro g hg b hb'
    have hin : b ∈ F1.flatMap FE.blks ∨ b ∈ F2.flatMap FE.blks := by
      rcases hg with hg | hg
      · exact .inl (List.mem_flatMap.2 ⟨g, hg, hb'⟩)
      · exact .inr (List.mem_flatMap.2 ⟨g, hg, hb'⟩)
    have hr : b ∈ restOf d m sv F1 f.blk F2 := by
      unfold restOf
      rcases hin with e | e <;> simp [e]
    refine ⟨?_, ?_, hblk b hr, (mem_fp_iff _ _ _ _ _ _ _).2 (.inr hr)⟩
    · rintro rfl
      unfold restOf at hrest
      rw [List.nodup_cons] at hrest
      apply hrest.1
      rcases hin with e | e <;> simp [e]
    · rintro rfl
      unfold restOf at hrest
      have h3 : (F1.flatMap FE.blks ++ f.blk :: F2.flatMap FE.blks).Nodup := (List.nodup_append.1 (List.nodup_cons.1 (List.nodup_cons.1 hrest).2).2).2.1
      rw [List.nodup_append] at h3
      rcases hin with e | e
      · exact h3.2.2 _ e _ (by simp) rfl
      · exact (List.nodup_cons.1 h3.2.1).1 e
  have hm : m ≠ f.blk ∧ f.row.ownBlock ≠ some m := by
    have hmr : m ∈ restOf d m sv F1 f.blk F2 := by simp [restOf]
    refine ⟨?_, hblk m hmr⟩
    intro e
    unfold restOf at hrest
    have := (List.nodup_cons.1 (List.nodup_cons.1 hrest).2).1
    apply this
    rw [← e]; simp
  refine ⟨hself, ?_, ?_, ?_, ?_, ?_, ?_, ?_, ?_, Nat.le_trans h.size hz, hfit, h.quota, h.steps⟩
  · rw [hs m mem_fp_map hdm hm.1 hm.2, h.map]
    have : (F1 ++ f' :: F2).map FE.entry = (F1 ++ f :: F2).map FE.entry := by simp [FE.entry, hn, hb, hbo]
    rw [this]
  · intro g hg
    rcases List.mem_append.1 hg with hg | hg
    · exact h.born g (by simp [hg])
    · rcases List.mem_cons.1 hg with rfl | hg
      · rw [hbo]; exact h.born f (by simp)
      · exact h.born g (by simp [hg])
  · have := h.borns
    simpa [hbo] using this
  · have := h.names
    simpa [hn] using this
  · intro g hg
    rcases List.mem_append.1 hg with hg | hg
    · exact (h.files g (by simp [hg])).same (fun b hb' => by obtain ⟨x, y, z, u⟩ := hother g (.inl hg) b hb'; exact hs b u x y z)
    · rcases List.mem_cons.1 hg with rfl | hg
      · exact ⟨by rw [hb]; exact hobj, hrow, hdur⟩
      · exact (h.files g (by simp [hg])).same (fun b hb' => by obtain ⟨x, y, z, u⟩ := hother g (.inr hg) b hb'; exact hs b u x y z)
  · refine h.stops.same (fun b hb' => ?_)
    have hr : b ∈ restOf d m sv F1 f.blk F2 := by simp [restOf, hb']
    refine hs b (mem_fp_sv hb') ?_ ?_ (hblk b hr)
    · rintro rfl
      unfold restOf at hrest
      exact (List.nodup_cons.1 hrest).1 (by simp [hb'])
    · rintro rfl
      unfold restOf at hrest
      have := (List.nodup_append.1 (List.nodup_cons.1 (List.nodup_cons.1 hrest).2).2).2.2
      exact this f.blk (by simp [hb']) f.blk (by simp) rfl
  · rw [(fp_perm d m sv F1 f' F2).nodup_iff, hb]
    rw [List.nodup_append]
    refine ⟨?_, hrest, ?_⟩
    · cases f'.row.ownBlock <;> simp
    · intro a ha b hb'
      rw [Option.mem_toList] at ha
      rcases hown a ha with e | e
      · rintro rfl; exact hblk a hb' e
      · have := h.lt ((mem_fp_iff d m sv F1 f F2 b).2 (.inr hb'))
        omega
  · intro b hb'
    rcases hmem b hb' with e | e
    · exact h.base b e
    · exact Nat.le_trans h.size e
theorem fp_same_blk {d m : Nat} {sv : Value} {F1 F2 : List FE} {f f' : FE} {N : Nat} (hb : f'.blk = f.blk) (hown : ∀ b, f'.row.ownBlock = some b → f.row.ownBlock = some b ∨ N ≤ b) (b : Nat) (h : b ∈ fpOf d m sv (F1 ++ f' :: F2)) : b ∈ fpOf d m sv (F1 ++ f :: F2) ∨ N ≤ b := by
  rw [mem_fp_iff, hb] at h
  rw [mem_fp_iff]
  rcases h with e | e
  · rcases hown b e with e' | e'
    · exact .inl (.inl e')
    · exact .inr e'
  · exact .inl (.inr e)
theorem fp_drop {d m : Nat} {sv : Value} {F1 F2 : List FE} {f : FE} : (fpOf d m sv (F1 ++ F2)).Sublist (fpOf d m sv (F1 ++ f :: F2)) := by
  unfold fpOf
  refine ((List.Sublist.append (List.Sublist.refl _) ?_).cons_cons _).cons_cons _
  rw [List.flatMap_append, List.flatMap_append, List.flatMap_cons]
  exact List.Sublist.append (List.Sublist.refl _) (List.sublist_append_right _ _)
theorem map_erase (F1 F2 : List FE) (f : FE) : ((F1 ++ f :: F2).map FE.entry).toArray.eraseIdxIfInBounds F1.length = ((F1 ++ F2).map FE.entry).toArray := by
  simp [Array.eraseIdxIfInBounds, List.eraseIdx_append_of_length_le]
/-- A file is gone. -/
theorem DiskAt.gone {B d m clk : Nat} {sv : Value} {S : DS} {F1 F2 : List FE} {f : FE} {w w' : World} (h : DiskAt B d m clk sv S (F1 ++ f :: F2) w)
    (hself : w'.heap[d]? = some (selfObj S (usedF (F1 ++ F2)) sv m)) (hmap : w'.heap[m]? = some (.map ((F1 ++ F2).map FE.entry).toArray clk)) (hz : w.heap.size ≤ w'.heap.size)
    (hs : ∀ b, b ∈ fpOf d m sv (F1 ++ f :: F2) → b ≠ d → b ≠ m → w'.heap[b]? = w.heap[b]?) : DiskAt B d m clk sv S (F1 ++ F2) w' := by
  have hap : (fpOf d m sv (F1 ++ F2)).Nodup := fp_drop.nodup h.apart
  have hsub : ∀ g, g ∈ F1 ++ F2 → g ∈ F1 ++ f :: F2 := by
    intro g hg
    rcases List.mem_append.1 hg with hg | hg <;> simp [hg]
  have hne : ∀ b, b ∈ (svBlk sv).toList ++ (F1 ++ F2).flatMap FE.blks → b ≠ d ∧ b ≠ m := by
    intro b hb
    unfold fpOf at hap
    rw [List.nodup_cons, List.nodup_cons] at hap
    exact ⟨fun e => hap.1 (by rw [← e]; simp only [List.mem_cons]; exact .inr hb), fun e => hap.2.1 (by rw [← e]; exact hb)⟩
  refine ⟨hself, hmap, fun g hg => h.born g (hsub g hg), ?_, ?_, ?_, ?_, hap, fun b hb => h.base b (fp_drop.subset hb), Nat.le_trans h.size hz, ?_, h.quota, h.steps⟩
  · refine List.Sublist.nodup ?_ h.borns
    rw [List.map_append, List.map_append, List.map_cons]
    exact List.Sublist.append (List.Sublist.refl _) (List.sublist_cons_self _ _)
  · refine List.Sublist.nodup ?_ h.names
    rw [List.map_append, List.map_append, List.map_cons]
    exact List.Sublist.append (List.Sublist.refl _) (List.sublist_cons_self _ _)
  · intro g hg
    refine (h.files g (hsub g hg)).same (fun b hb => ?_)
    obtain ⟨x, y⟩ := hne b (List.mem_append.2 (.inr (List.mem_flatMap.2 ⟨g, hg, hb⟩)))
    exact hs b (mem_fp_file (hsub g hg) hb) x y
  · refine h.stops.same (fun b hb => ?_)
    obtain ⟨x, y⟩ := hne b (by simp [hb])
    exact hs b (mem_fp_sv hb) x y
  · have := h.fits
    rw [usedF_mid] at this
    omega
theorem map_push (F : List FE) (f : FE) : ((F.map FE.entry).toArray).push f.entry = ((F ++ [f]).map FE.entry).toArray := by simp
/-- A file has come, without a byte, in a block of its own. -/
theorem DiskAt.come {B d m clk : Nat} {sv : Value} {S : DS} {F : List FE} {w w' : World} (h : DiskAt B d m clk sv S F w) (f : FE) (hnew : ∀ g, g ∈ F → g.name ≠ f.name) (hborn : f.born = clk) (hdata : f.data = []) (hdur : f.dur = 0) (hrow : f.row = .slice none 0 0)
    (hblk : w'.heap[f.blk]? = some f.obj) (hout : f.blk ∉ fpOf d m sv F) (hB : B ≤ f.blk) (hmap : w'.heap[m]? = some (.map ((F ++ [f]).map FE.entry).toArray (clk + 1))) (hz : w.heap.size ≤ w'.heap.size)
    (hs : ∀ b, b ∈ fpOf d m sv F → b ≠ m → w'.heap[b]? = w.heap[b]?) : DiskAt B d m (clk + 1) sv S (F ++ [f]) w' := by
  have hfp : fpOf d m sv (F ++ [f]) = fpOf d m sv F ++ [f.blk] := by simp [fpOf, FE.blks, hrow, Value.ownBlock]
  have hap := h.apart
  have hm : ∀ b, b ∈ (svBlk sv).toList ++ F.flatMap FE.blks → b ≠ m := by
    intro b hb
    unfold fpOf at hap
    rw [List.nodup_cons, List.nodup_cons] at hap
    exact fun e => hap.2.1 (by rw [← e]; exact hb)
  have hdm : d ≠ m := by
    unfold fpOf at hap
    rw [List.nodup_cons] at hap
    exact fun e => hap.1 (by rw [e]; simp)
  have hu : usedF (F ++ [f]) = usedF F := by rw [usedF_snoc, hdata]; rfl
  refine ⟨?_, hmap, ?_, ?_, ?_, ?_, ?_, ?_, ?_, Nat.le_trans h.size hz, by rw [hu]; exact h.fits, h.quota, h.steps⟩
  · rw [hs d mem_fp_self hdm, hu]; exact h.self
  · intro g hg
    rcases List.mem_append.1 hg with hg | hg
    · exact Nat.lt_succ_of_lt (h.born g hg)
    · simp at hg; subst hg; omega
  · rw [List.map_append, List.nodup_append]
    refine ⟨h.borns, by simp, ?_⟩
    intro a ha b hb
    obtain ⟨g, hg, rfl⟩ := List.mem_map.1 ha
    simp at hb; subst hb
    have := h.born g hg
    omega
  · rw [List.map_append, List.nodup_append]
    refine ⟨h.names, by simp, ?_⟩
    intro a ha b hb
    obtain ⟨g, hg, rfl⟩ := List.mem_map.1 ha
    simp at hb; subst hb
    exact hnew g hg
  · intro g hg
    rcases List.mem_append.1 hg with hg | hg
    · exact (h.files g hg).same (fun b hb => hs b (mem_fp_file hg hb) (hm b (List.mem_append.2 (.inr (List.mem_flatMap.2 ⟨g, hg, hb⟩)))))
    · simp at hg; subst hg
      refine ⟨hblk, ?_, by omega⟩
      rw [hrow, hdata]
      exact World.ownsRow_nil _ _ _ _
  · exact h.stops.same (fun b hb => hs b (mem_fp_sv hb) (hm b (by simp [hb])))
  · rw [hfp, List.nodup_append]
    refine ⟨h.apart, by simp, ?_⟩
    intro a ha b hb
    simp at hb; subst hb
    rintro rfl
    exact hout ha
  · intro b hb
    rw [hfp] at hb
    rcases List.mem_append.1 hb with hb | hb
    · exact h.base b hb
    · simp at hb; subst hb; exact hB
end Go.Proofs.YtgadmfbilmlnkabGreatDoor
