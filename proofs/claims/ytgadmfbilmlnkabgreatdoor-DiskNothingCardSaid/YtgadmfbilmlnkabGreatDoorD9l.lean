/- disk: cut. -/
import Derived.Test.YtgadmfbilmlnkabGreatDoorD9k
namespace Go.Proofs.YtgadmfbilmlnkabGreatDoor
open Go.RowKit Go.Lib

theorem cut_whole {B d m clk : Nat} {sv : Value} {S : DS} {F1 F2 : List FE} {f : FE} {w : World} (h : DiskAt B d m clk sv S (F1 ++ f :: F2) w) :
    Calls Tryz.prog 78 #[.pointer (some ⟨d, 0, none⟩), .pointer (some ⟨f.blk, 0, none⟩), .int .i64 (f.data.length : Int)] w fun e w' => e = .returned (.tuple #[]) ∧ w' = w := by
  have hf := h.files f (by simp)
  obtain ⟨a, c, hsh⟩ := ownsRow_shape hf.row
  have hob := hf.obj
  unfold FE.obj at hob
  rw [hsh] at hob
  have b0 := cell_of hob 0
  simp only [List.getElem?_toArray, List.getElem?_cons_zero] at b0
  clear h hf hob hsh
  go_enter Tryz.func78, Tryz.ntmps78
  go_wp2
  first | refine bodyPost_end (results_none rfl _ _ _) rfl ?_ | refine bodyPost_ret (results_none rfl _ _ _) rfl ?_
  exact ⟨rfl, rfl⟩
def FE.cutTo (f : FE) (k : Nat) (v : Value) : FE := { f with data := f.data.take k, dur := min f.dur k, row := v }
theorem usedF_cut (F1 F2 : List FE) (f : FE) (k : Nat) (v : Value) (hk : k ≤ f.data.length) : ((usedF (F1 ++ f :: F2) : Nat) : Int) - ((f.data.length : Int) - (k : Int)) = ((usedF (F1 ++ f.cutTo k v :: F2) : Nat) : Int) := by
  rw [usedF_mid, usedF_mid]
  have : (f.cutTo k v).data.length = k := by simp [FE.cutTo]; omega
  rw [this]; omega
theorem cut_world {B d m clk : Nat} {sv : Value} {S : DS} {F1 F2 : List FE} {f : FE} {w w1 w2 : World} (h : DiskAt B d m clk sv S (F1 ++ f :: F2) w) (k : Nat) (hk : k < f.data.length)
    (hw1 : w1 = (w.setCell ⟨d, 1, none⟩ (.int .i64 ((usedF (F1 ++ f :: F2) : Int) - ((f.data.length : Int) - (k : Int))))).drew) (a' : Option Addr) (c' : Nat) (hb : Below w1.heap.size w1 w2)
    (hrow : w2.ownsRow w1.heap.size 5 1 (.slice a' k c') k (bc (f.data.take k))) (q : Int) (hq : q = ((min f.dur k : Nat) : Int)) :
    w2.cell? ⟨f.blk, 0, none⟩ = some f.row ∧ w2.frozen? ⟨f.blk, 0, none⟩ = false ∧ (w2.setCell ⟨f.blk, 0, none⟩ (.slice a' k c')).cell? ⟨f.blk, 1, none⟩ = some (.int .i64 (f.dur : Int)) ∧ (w2.setCell ⟨f.blk, 0, none⟩ (.slice a' k c')).frozen? ⟨f.blk, 1, none⟩ = false ∧
    DiskAt B d m clk sv S (F1 ++ f.cutTo k (.slice a' k c') :: F2) ((w2.setCell ⟨f.blk, 0, none⟩ (.slice a' k c')).setCell ⟨f.blk, 1, none⟩ (.int .i64 q)) ∧
    Stays (fpOf d m sv (F1 ++ f :: F2)) w ((w2.setCell ⟨f.blk, 0, none⟩ (.slice a' k c')).setCell ⟨f.blk, 1, none⟩ (.int .i64 q)) ∧
    ∀ b, b ∈ fpOf d m sv (F1 ++ f.cutTo k (.slice a' k c') :: F2) → b ∈ fpOf d m sv (F1 ++ f :: F2) ∨ w.heap.size ≤ b := by
  subst hq
  have hf := h.files f (by simp)
  obtain ⟨hdb, hrd, hrb, hmd, hmb, hrm⟩ := apart_self h
  have hz1 : w1.heap.size = w.heap.size := by rw [hw1]; simp [World.setCell]
  have hfl := lt_of_heap hf.obj
  have hdl := lt_of_heap h.self
  have g1 : ∀ b, b ≠ d → w1.heap[b]? = w.heap[b]? := fun b hb' => by rw [hw1]; exact Below.heap_setCell _ _ _ _ hb'
  have hob2 : w2.heap[f.blk]? = some f.obj := by rw [hb.block _ (by omega), g1 _ (fun e => hdb e.symm)]; exact hf.obj
  have hlt := hrow.lt
  unfold FE.obj at hob2
  have hob3 := heap_setCell_at (o := 0) (.slice a' k c') hob2
  have hd2 : w2.heap[d]? = some (selfObj S (usedF (F1 ++ f.cutTo k (.slice a' k c') :: F2)) sv m) := by
    rw [hb.block _ (by omega), hw1]
    show (w.setCell ⟨d, 1, none⟩ (.int .i64 ((usedF (F1 ++ f :: F2) : Int) - ((f.data.length : Int) - (k : Int))))).heap[d]? = _
    have hs := h.self
    unfold selfObj at hs
    rw [heap_setCell_at _ hs, usedF_cut F1 F2 f k (.slice a' k c') (by omega)]
    rfl
  have hown : ∀ b, (f.cutTo k (.slice a' k c')).row.ownBlock = some b → f.row.ownBlock = some b ∨ w.heap.size ≤ b := fun b hb' => .inr (by have := (hlt b hb').1; omega)
  have g2 : ∀ b, b ≠ f.blk → ((w2.setCell ⟨f.blk, 0, none⟩ (.slice a' k c')).setCell ⟨f.blk, 1, none⟩ (.int .i64 ((min f.dur k : Nat) : Int))).heap[b]? = w2.heap[b]? := fun b hb' => by
    rw [Below.heap_setCell _ _ _ _ hb', Below.heap_setCell _ _ _ _ hb']
  refine ⟨cell_of hob2 0, frozen_of hob2 0, cell_of hob3 1, frozen_of hob3 1, h.refile (f.cutTo k (.slice a' k c')) rfl rfl rfl ?_ ?_ ?_ hown ?_ ?_ ?_ ?_, ?_, fp_same_blk rfl hown⟩
  · rw [heap_setCell_at _ hob3]
    rfl
  · have hr : ((w2.setCell ⟨f.blk, 0, none⟩ (.slice a' k c')).setCell ⟨f.blk, 1, none⟩ (.int .i64 ((min f.dur k : Nat) : Int))).ownsRow B 5 1 (.slice a' k c') k (bc (f.data.take k)) :=
      ownsRow_base (ownsRow_same hrow (fun b hb' => g2 b (fun e => by have := (hlt b hb').1; omega))) (by have := h.size; omega)
    have e : (f.cutTo k (.slice a' k c')).data.length = k := by simp [FE.cutTo]; omega
    rw [e]
    exact hr
  · simp only [FE.cutTo, List.length_take]
    have := hf.dur
    omega
  · rw [g2 d hdb]; exact hd2
  · have := hb.size
    simp [World.setCell]; omega
  · intro b hbm h1 h2 h3
    rw [g2 b h2, hb.block b (by have := h.lt hbm; omega), g1 b h1]
  · have := h.fits
    have e := usedF_cut F1 F2 f k (.slice a' k c') (by omega)
    omega
  · have hs1 : Stays (fpOf d m sv (F1 ++ f :: F2)) w w1 := by rw [hw1]; exact (Stays.setCell (p := ⟨d, 1, none⟩) (Stays.refl _ _) (.inl mem_fp_self) _).drew
    have hs2 : Stays (fpOf d m sv (F1 ++ f :: F2)) w w2 := hs1.trans (Stays.ofBelow (fp := []) hb) (fun b e => by cases e)
    have hm : f.blk ∈ fpOf d m sv (F1 ++ f :: F2) := mem_fp_file (f := f) (by simp) (by simp [FE.blks])
    exact Stays.setCell (p := ⟨f.blk, 1, none⟩) (Stays.setCell (p := ⟨f.blk, 0, none⟩) hs2 (.inl hm) _) (.inl hm) _
theorem bc_ints (l : List UInt8) : (l.map fun c => (c.toNat : Int)).map (Value.int .u8) = bc l := by simp [bc]
theorem clone_at {w : World} {B : Nat} {v : Value} {l : List UInt8} {g cap : Nat} (h : w.ownsRow B 5 1 v l.length (bc l)) (hv : v = .slice (some ⟨g, 0, none⟩) l.length cap) (k c : Nat) (hk : k ≤ l.length) (hl : l.length ≤ 1048576) :
    Calls Tryz.prog 87 #[.slice (some ⟨g, 0, none⟩) k c] w fun e w' => ∃ a' c', e = .returned (.slice a' k c') ∧ w'.ownsRow w.heap.size 5 1 (.slice a' k c') k (bc (l.take k)) ∧ Below w.heap.size w w' := by
  subst hv
  refine (Tryz.bytes_Clone_at ⟨g, 0, none⟩ k c ((l.take k).map fun c => (c.toNat : Int)) w (by simp; omega) (by omega) ?_).mono ?_
  · intro i hi
    have := h.cells (g := g) rfl i (.int .u8 ((((l.take k).map fun c => (c.toNat : Int)).getD i 0))) (by
      have hi2 : i < l.length := by omega
      simp [bc, List.getD, hi, hi2])
    exact this
  · rintro e w' ⟨v', rfl, hr, _, hb⟩
    rw [bc_ints] at hr
    obtain ⟨a', c', rfl⟩ := ownsRow_shape hr
    exact ⟨a', c', rfl, hr, hb⟩
set_option maxHeartbeats 2000000 in
theorem cut_part {B d m clk : Nat} {sv : Value} {S : DS} {F1 F2 : List FE} {f : FE} {w : World} (h : DiskAt B d m clk sv S (F1 ++ f :: F2) w) (k : Nat) (hk : k < f.data.length) :
    Calls Tryz.prog 78 #[.pointer (some ⟨d, 0, none⟩), .pointer (some ⟨f.blk, 0, none⟩), .int .i64 (k : Int)] w fun e w' => e = .returned (.tuple #[]) ∧ ∃ v, DiskAt B d m clk sv S (F1 ++ f.cutTo k v :: F2) w' ∧ Stays (fpOf d m sv (F1 ++ f :: F2)) w w' ∧
      ∀ b, b ∈ fpOf d m sv (F1 ++ f.cutTo k v :: F2) → b ∈ fpOf d m sv (F1 ++ f :: F2) ∨ w.heap.size ≤ b := by
  have hf := h.files f (by simp)
  obtain ⟨hdb, hrd, hrb, hmd, hmb, hrm⟩ := apart_self h
  have hq := h.quota
  have hfits := h.fits
  have hub : usedF (F1 ++ f :: F2) ≤ 1048576 := by omega
  have hle : f.data.length ≤ usedF (F1 ++ f :: F2) := by rw [usedF_mid]; omega
  have c1 := h.cells.c1
  have f1 := h.cells.f1
  rcases hf.row.2 with ⟨hv, h0⟩ | ⟨g, cap, cur, hv, hbg, hg, hnc, hcm, hcs, htake⟩
  · exfalso; omega
  have hob := hf.obj
  unfold FE.obj at hob
  rw [hv] at hob
  have b0 := cell_of hob 0
  simp only [List.getElem?_toArray, List.getElem?_cons_zero] at b0
  have hgd : g ≠ d := fun e => hrd (by rw [hv, e]; rfl)
  have HC : Hid (∀ W, W = (w.setCell ⟨d, 1, none⟩ (.int .i64 ((usedF (F1 ++ f :: F2) : Int) - ((f.data.length : Int) - (k : Int))))).drew → Calls Tryz.prog 87 #[.slice (some ⟨g, 0, none⟩) k cap] W fun e w' => ∃ a' c', e = .returned (.slice a' k c') ∧ w'.ownsRow W.heap.size 5 1 (.slice a' k c') k (bc (f.data.take k)) ∧ Below W.heap.size W w') :=
    Lib.hid (fun W hW => clone_at (B := B) (ownsRow_same hf.row (fun b hb => by
      have : b = g := by rw [hv] at hb; simp [Value.ownBlock] at hb; exact hb.symm
      subst this
      rw [hW]; exact Below.heap_setCell _ _ _ _ hgd)) hv k cap (by omega) (by omega))
  have HW := Lib.hid (fun w1 w2 hw1 a' c' hb hrow q hq => cut_world (w1 := w1) (w2 := w2) h k hk hw1 a' c' hb hrow q hq)
  have kb0 : ∀ v, (w.setCell ⟨d, 1, none⟩ v).drew.cell? ⟨f.blk, 0, none⟩ = some (.slice (some ⟨g, 0, none⟩) f.data.length cap) := fun v => by
    show (w.setCell ⟨d, 1, none⟩ v).cell? ⟨f.blk, 0, none⟩ = _
    rw [World.cell?_setCell_other _ _ _ _ (by intro e; simp at e)]
    exact b0
  have hkl : ¬ ((k : Int) = (f.data.length : Int)) := by omega
  have hkb := beqI_no hkl
  have hk2 : (k : Int) ≤ (f.data.length : Int) := by omega
  have hkc : (k : Int) ≤ (cap : Int) := by omega
  clear h hf hq hfits hob hv hbg hg hcm hcs htake
  generalize usedF (F1 ++ f :: F2) = us at *
  generalize f.data.length = fl at *
  go_enter Tryz.func78, Tryz.ntmps78
  go_wp2
  go_region
  generalize hWW : (w.setCell ⟨d, 1, none⟩ (.int .i64 ((us : Int) - ((fl : Int) - (k : Int))))).drew = WW at *
  have kb := kb0 (.int .i64 ((us : Int) - ((fl : Int) - (k : Int))))
  rw [hWW] at kb
  have HCC := Lib.hid (HC.out WW rfl)
  have HW2 := Lib.hid (fun w2 => HW.out WW w2 rfl)
  clear kb0 hWW HC HW
  go_wp2_with (go_at_call 87; refine HCC.out.mono ?_; rintro e w2 ⟨a', c', rfl, hrow, hb⟩; obtain ⟨x0, x1, x2, x3, hD, hS, hM⟩ := HW2.out w2 a' c' hb hrow (min (f.dur : Int) (k : Int)) (by omega); have HE := Lib.hid (And.intro hD (And.intro hS hM)); clear hrow hb hD hS hM)
  first | refine bodyPost_end (results_none rfl _ _ _) rfl ?_ | refine bodyPost_ret (results_none rfl _ _ _) rfl ?_
  exact ⟨rfl, _, HE.out⟩
end Go.Proofs.YtgadmfbilmlnkabGreatDoor
