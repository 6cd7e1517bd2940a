/- frame: goes: what it hands to the scan. -/
import Derived.Test.YtkdmicpfinjpgaaG10c
import Derived.Test.YtkdmicpfinjpgaaF10p
import Derived.BigRegion
namespace Go.Proofs.Ytkdmicpfinjpgaa
open Go.RowKit

/-- What goes has in memory, from B on. -/
structure Gs (B : Nat) (st : Int) (v3 v4 : Value) (k : Nat) (ov : Bool) (X : World) : Prop where
  want : X.heap[B]? = some (.cells #[v3] 41)
  plac : X.heap[B + 1]? = some (.cells #[v4] 42)
  stop : X.heap[B + 2]? = some (.cells #[.int .i64 st] 3)
  num : X.heap[B + 3]? = some (.cells #[.int .i64 (k : Int)] 3)
  over : X.heap[B + 4]? = some (.cells #[.bool ov] 4)
  right : X.heap[B + 5]? = some (.cells #[.bool true] 4)
theorem Gs.on {B : Nat} {st : Int} {v3 v4 : Value} {k : Nat} {ov : Bool} {X Y : World} (h : Gs B st v3 v4 k ov X) (hb : Below X.heap.size X Y) : Gs B st v3 v4 k ov Y :=
  ⟨keeps hb h.want, keeps hb h.plac, keeps hb h.stop, keeps hb h.num, keeps hb h.over, keeps hb h.right⟩
set_option maxHeartbeats 4000000 in
theorem goes1 {B g h c d : Nat} {st : Int} {F : List Fr} {k : Nat} {f : Fr} (X : World) (hG : Gs B st (.slice (some ⟨g, 0, none⟩) F.length c) (.slice (some ⟨h, 0, none⟩) F.length d) k false X)
    (hL : Lay g F h (F.map Fr.ends) X) (hf : F[k]? = some f) (hF : F.length ≤ 1099511627776) :
    Calls Try.prog 28 #[.int .i64 (f.ends : Nat), frV f.kind f.num f.at' (S f.body), .pointer (some ⟨B + 5, 0, none⟩), .pointer (some ⟨B + 4, 0, none⟩), .pointer (some ⟨B + 3, 0, none⟩), .pointer (some ⟨B, 0, none⟩), .pointer (some ⟨B + 1, 0, none⟩), .pointer (some ⟨B + 2, 0, none⟩)] X fun e X' =>
      e = .returned (.bool (!(((k + 1 : Nat) : Int) == st))) ∧ Gs B st (.slice (some ⟨g, 0, none⟩) F.length c) (.slice (some ⟨h, 0, none⟩) F.length d) (k + 1) (((k + 1 : Nat) : Int) == st) X' ∧ (∀ b, b < X.heap.size → b ≠ B + 3 → b ≠ B + 4 → b ≠ B + 5 → X'.heap[b]? = X.heap[b]?) ∧ Below (B + 3) X X' := by
  have hk : k < F.length := (List.getElem?_eq_some_iff.1 hf).1
  obtain ⟨l0, l1, l2, l3⟩ := hL.fr k f hf
  have l4 : X.cell? ⟨h, k, none⟩ = some (.int .i64 (f.ends : Nat)) := hL.nu k _ (by simp [hf])
  have hgl := hL.lt1
  have hhl := hL.lt2
  have hki : (k : Int) < (F.length : Int) := by omega
  have hk0 : (0 : Int) ≤ (k : Int) := by omega
  have hkn : ((k : Int)).toNat = k := by omega
  unfold frV
  generalize F.length = M at *
  have HG := Lib.hid hG
  have hEq := Try.eqlFrame
  obtain ⟨k1, hk1⟩ : ∃ k1, k1 = k + 1 := ⟨_, rfl⟩
  have hw1 : IntKind.i64.wrap ((k : Int) + 1) = (k1 : Int) := by rw [IntKind.wrap_i64]; omega
  rw [← hk1]
  go_enter Try.func28, Try.ntmps28
  go_wp2_with fail
  have hb : Below X.heap.size X (X.alloc (.cells #[.int .i64 (f.kind : Int), .int .i64 (f.num : Int), .int .i64 (f.at' : Int), .string (S f.body)] 47)) := (Below.refl _ _).alloc (Nat.le_refl _) _
  have hY := HG.out.on hb
  have hfr : (X.alloc (.cells #[.int .i64 (f.kind : Int), .int .i64 (f.num : Int), .int .i64 (f.at' : Int), .string (S f.body)] 47)).heap[X.heap.size]? = some (.cells #[.int .i64 (f.kind : Int), .int .i64 (f.num : Int), .int .i64 (f.at' : Int), .string (S f.body)] 47) := heap_alloc_last X _
  rw [← hb.cell (p := ⟨g, k * 4, none⟩) hgl] at l0
  rw [← hb.cell (p := ⟨g, k * 4 + 1, none⟩) hgl] at l1
  rw [← hb.cell (p := ⟨g, k * 4 + 2, none⟩) hgl] at l2
  rw [← hb.cell (p := ⟨g, k * 4 + 3, none⟩) hgl] at l3
  rw [← hb.cell (p := ⟨h, k, none⟩) hhl] at l4
  generalize X.alloc (.cells #[.int .i64 (f.kind : Int), .int .i64 (f.num : Int), .int .i64 (f.at' : Int), .string (S f.body)] 47) = Y at *
  have e0 : Y.cell? ⟨X.heap.size, 0, none⟩ = some (.int .i64 (f.kind : Int)) := cell_of_row _ _ 0 _ _ _ hfr
  have e1 : Y.cell? ⟨X.heap.size, 1, none⟩ = some (.int .i64 (f.num : Int)) := cell_of_row _ _ 1 _ _ _ hfr
  have e2 : Y.cell? ⟨X.heap.size, 2, none⟩ = some (.int .i64 (f.at' : Int)) := cell_of_row _ _ 2 _ _ _ hfr
  have e3 : Y.cell? ⟨X.heap.size, 3, none⟩ = some (.string (S f.body)) := cell_of_row _ _ 3 _ _ _ hfr
  have c0 : Y.cell? ⟨B, 0, none⟩ = some (.slice (some ⟨g, 0, none⟩) M c) := cell_of_row _ _ 0 _ _ _ hY.want
  have c1 : Y.cell? ⟨B + 1, 0, none⟩ = some (.slice (some ⟨h, 0, none⟩) M d) := cell_of_row _ _ 0 _ _ _ hY.plac
  have c2 : Y.cell? ⟨B + 2, 0, none⟩ = some (.int .i64 st) := cell_of_row _ _ 0 _ _ _ hY.stop
  have c3 : Y.cell? ⟨B + 3, 0, none⟩ = some (.int .i64 (k : Int)) := cell_of_row _ _ 0 _ _ _ hY.num
  have c4 : Y.cell? ⟨B + 4, 0, none⟩ = some (.bool false) := cell_of_row _ _ 0 _ _ _ hY.over
  have c5 : Y.cell? ⟨B + 5, 0, none⟩ = some (.bool true) := cell_of_row _ _ 0 _ _ _ hY.right
  have f3 := frozen_of_row _ _ 0 _ _ hY.num
  have f4 := frozen_of_row _ _ 0 _ _ hY.over
  have f5 := frozen_of_row _ _ 0 _ _ hY.right
  have HY := Lib.hid hY
  have HBb := Lib.hid hb
  have HK := Lib.hid hk
  have HLt := Lib.hid (heap_lt HG.out.right)
  have HK1 := Lib.hid hk1
  clear hY hb hfr HG hG hL hk hf hF hk1 hgl hhl
  go_region
  simp only [Exit.then]
  have fin : ∀ (bb : Bool), bb = ((k1 : Int) == st) → Gs B st (.slice (some ⟨g, 0, none⟩) M c) (.slice (some ⟨h, 0, none⟩) M d) k1 bb ((((Y.setCell ⟨B + 5, 0, none⟩ (.bool true)).drew.setCell ⟨B + 3, 0, none⟩ (.int .i64 (k1 : Int))).setCell ⟨B + 4, 0, none⟩ (.bool bb))) ∧ (∀ b, b < X.heap.size → b ≠ B + 3 → b ≠ B + 4 → b ≠ B + 5 → ((((Y.setCell ⟨B + 5, 0, none⟩ (.bool true)).drew.setCell ⟨B + 3, 0, none⟩ (.int .i64 (k1 : Int))).setCell ⟨B + 4, 0, none⟩ (.bool bb))).heap[b]? = X.heap[b]?) ∧ Below (B + 3) X ((((Y.setCell ⟨B + 5, 0, none⟩ (.bool true)).drew.setCell ⟨B + 3, 0, none⟩ (.int .i64 (k1 : Int))).setCell ⟨B + 4, 0, none⟩ (.bool bb))) := by
    intro bb _
    have key : ∀ b, b ≠ B + 3 → b ≠ B + 4 → b ≠ B + 5 → ((((Y.setCell ⟨B + 5, 0, none⟩ (.bool true)).drew.setCell ⟨B + 3, 0, none⟩ (.int .i64 (k1 : Int))).setCell ⟨B + 4, 0, none⟩ (.bool bb))).heap[b]? = Y.heap[b]? := by
      intro b h1 h2 h3
      rw [heap_setCell_other _ _ _ _ (by exact h2), heap_setCell_other _ _ _ _ (by exact h1)]
      show (Y.setCell ⟨B + 5, 0, none⟩ (.bool true)).heap[b]? = _
      rw [heap_setCell_other _ _ _ _ (by exact h3)]
    refine ⟨⟨?_, ?_, ?_, ?_, ?_, ?_⟩, fun b h0 h1 h2 h3 => ?_, ?_⟩
    · rw [key _ (by omega) (by omega) (by omega)]; exact HY.out.want
    · rw [key _ (by omega) (by omega) (by omega)]; exact HY.out.plac
    · rw [key _ (by omega) (by omega) (by omega)]; exact HY.out.stop
    · rw [heap_setCell_other _ _ _ _ (by simp)]
      have h1 : (Y.setCell ⟨B + 5, 0, none⟩ (.bool true)).drew.heap[B + 3]? = some (.cells #[.int .i64 (k : Int)] 3) := by
        show (Y.setCell ⟨B + 5, 0, none⟩ (.bool true)).heap[B + 3]? = _
        rw [heap_setCell_other _ _ _ _ (by simp)]; exact HY.out.num
      rw [heap_setCell_same _ _ 0 _ _ _ h1]; rfl
    · have h1 : ((Y.setCell ⟨B + 5, 0, none⟩ (.bool true)).drew.setCell ⟨B + 3, 0, none⟩ (.int .i64 (k1 : Int))).heap[B + 4]? = some (.cells #[.bool false] 4) := by
        rw [heap_setCell_other _ _ _ _ (by simp)]
        show (Y.setCell ⟨B + 5, 0, none⟩ (.bool true)).heap[B + 4]? = _
        rw [heap_setCell_other _ _ _ _ (by simp)]; exact HY.out.over
      rw [heap_setCell_same _ _ 0 _ _ _ h1]; rfl
    · rw [heap_setCell_other _ _ _ _ (by simp), heap_setCell_other _ _ _ _ (by simp)]
      show (Y.setCell ⟨B + 5, 0, none⟩ (.bool true)).heap[B + 5]? = _
      rw [heap_setCell_same _ _ 0 _ _ _ HY.out.right]; rfl
    · rw [key b h1 h2 h3, HBb.out.block b h0]
    · have hlt := HLt.out
      exact ((((HBb.out.mono (by omega)).setCell (p := ⟨B + 5, 0, none⟩) (by simp) _).drew).setCell (p := ⟨B + 3, 0, none⟩) (by simp) _).setCell (p := ⟨B + 4, 0, none⟩) (by simp) _
  have FIN := Lib.hid fin
  clear fin
  obtain ⟨bb, hbb⟩ : ∃ bb, bb = ((k1 : Int) == st) := ⟨_, rfl⟩
  have hb2 := hbb.symm
  have HBB := Lib.hid hbb
  clear hbb
  cases bb with
  | true =>
    go_wp2_with fail
    go_ret
    have F1 := FIN.out true HBB.out
    rw [← HBB.out]
    exact ⟨rfl, F1.1, F1.2.1, F1.2.2⟩
  | false =>
    go_wp2_with fail
    go_ret
    have F1 := FIN.out false HBB.out
    rw [← HBB.out]
    exact ⟨rfl, F1.1, F1.2.1, F1.2.2⟩
end Go.Proofs.Ytkdmicpfinjpgaa
