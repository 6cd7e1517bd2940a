/- frame: the sum by the table; Sum; the reference's Sum. -/
import Derived.Test.YtkdmicpfinjpgaaF10c
namespace Go.Proofs.Ytkdmicpfinjpgaa
open Go.RowKit

theorem tab_cell {w : World} {b : Nat} (h : w.heap[b]? = some (.cells (tabC 256) 54)) {j : Nat} (hj : j < 256) : w.cell? ⟨b, j, none⟩ = some (.int .u32 (csn 8 j : Nat)) := by
  rw [cell_of_row _ _ j _ _ _ h, tabC_at hj, if_pos hj]
set_option maxHeartbeats 1000000 in
set_option maxRecDepth 100000 in
theorem sum_any (s : ByteArray) (b : Nat) (w : World) (hs : s.size ≤ 140737488355328) (hT : w.heap[b]? = some (.cells (tabC 256) 54)) :
    Calls Try.prog 32 #[.pointer (some ⟨b, 0, none⟩), .string s] w fun e w' => e = .returned (.int .i64 (crc (L s) : Nat)) ∧ ∃ n, w' = w.drewN n := by
  have HT := Lib.hid (fun n j hj => tab_cell (w := w.drewN n) (b := b) hT (j := j) hj)
  clear hT
  go_enter Try.func32, Try.ntmps32
  go_wp2
  go_loopw [5, 9] (fun r i wr => ∃ (k n : Nat), r = .int .u32 (crcR 4294967295 ((L s).take k) : Nat) ∧ i = .int .i64 (k : Int) ∧ k ≤ s.size ∧ wr = w.drewN n) (fun _ i _ => match i with | .int _ k => ((s.size : Int) - k).toNat | _ => 0)
  case atStart => exact ⟨0, 0, rfl, rfl, by omega, rfl⟩
  case round =>
    obtain ⟨k, n, rfl, rfl, hk, rfl⟩ := hrel
    by_cases hd : k < s.size
    · have hlt := crcR_lt ((L s).take k) (v := 4294967295) (by decide)
      have hstep : crcR 4294967295 ((L s).take (k + 1)) = crcB (crcR 4294967295 ((L s).take k)) (bt (L s) k) := by
        rw [take_snoc (L s) k hd, crcR_append]; rfl
      rw [crcB_table] at hstep
      have HS := Lib.hid hstep
      clear hstep
      generalize crcR 4294967295 ((L s).take k) = v at *
      have hbk : bt (L s) k = s[k] := (bt_getElem (L s) k hd).trans rfl
      rw [hbk] at HS
      have hbt := s[k].toNat_lt
      obtain ⟨j, hj⟩ : ∃ j, j = (v % 256) ^^^ s[k].toNat := ⟨_, rfl⟩
      have hx : bits .xor .u8 ((v : Int) % 256) s[k].toNat = (j : Int) := by
        have := u8_xor_nat (v % 256) s[k].toNat (by omega) (by omega)
        rw [hj, ← this]; rfl
      have hj2 : j < 256 := by rw [hj]; exact Nat.xor_lt_two_pow (n := 8) (by omega) (by omega)
      rw [← hj] at HS
      clear hj hbk
      have hc := HT.out (n + 1) _ hj2
      obtain ⟨v', hv'⟩ : ∃ v', v' = (v >>> 8) ^^^ csn 8 j := ⟨_, rfl⟩
      have hy : bits .xor .u32 ((v : Int) / 256) (csn 8 j : Nat) = (v' : Int) := by
        have := u32_xor_nat (v >>> 8) (csn 8 j) (by rw [Nat.shiftRight_eq_div_pow]; omega) (csn_lt 8 (by omega))
        rw [hv', ← this, Nat.shiftRight_eq_div_pow]; rfl
      rw [← hv'] at HS
      clear hv'
      go_wp2
      go_region
      go_wp2
      go_roundw
      case rel => exact ⟨k + 1, n + 1, by rw [HS.out], rfl, by omega, rfl⟩
      case measure => simp only []; omega
    · obtain rfl : k = s.size := by omega
      have e : (L s).take s.size = L s := List.take_of_length_le (Nat.le_refl _)
      rw [e]
      have hlt := crcR_lt (L s) (v := 4294967295) (by decide)
      have hx : bits .xor .u32 (crcR 4294967295 (L s) : Nat) 4294967295 = (crc (L s) : Nat) := u32_xor_nat _ _ hlt (by decide)
      have hlt2 := crc_lt (L s)
      go_wp2
      go_ret
      exact ⟨rfl, n, rfl⟩
/-- A new variable that a whole table is laid into. -/
theorem wpList_newTable {ops : Array Oper} {rest : List Oper} {o1 o2 : Oper} {a : Act} {w : World} {Q : Exit → Act → World → Prop} (x y : Operand) (g1 : o1.guard = none) (g2 : o2.guard = none)
    (ho1 : o1.op = .alloc 54) (ho2 : o2.op = .store 54 x y)
    (hx : (a.put o1.dst (.pointer (some ⟨w.heap.size, 0, none⟩))).eval x = .pointer (some ⟨w.heap.size, 0, none⟩)) (hy : (a.put o1.dst (.pointer (some ⟨w.heap.size, 0, none⟩))).eval y = .agg (tabC 256))
    (h : wpList Try.prog ops Q rest ((a.put o1.dst (.pointer (some ⟨w.heap.size, 0, none⟩))).put o2.dst undef) (w.alloc (.cells (tabC 256) 54))) : wpList Try.prog ops Q (o1 :: o2 :: rest) a w := by
  obtain ⟨hz, hi⟩ := zero_of_info (P := Try.prog) tab_info
  refine wpList_plain g1 fun K hK => ?_
  unfold Oper.wp execOp
  simp only [ho1]
  have key : (Instr.alloc 54 true (.tuple #[])).run Try.prog w = .ok (.pointer (some ⟨w.heap.size, 0, none⟩)) (w.alloc (.cells (tabC 0) 54)) := by
    simp [Instr.alloc, go_sem, hz, Result.andThen]
  simp only [Sem.run_bind, key, Result.andThen, Sem.run_pure]
  refine hK _ _ (wpList_plain g2 fun K2 hK2 => ?_)
  refine wp_store_row 54 x y ho2 w.heap.size (tabC 256) hx hy 54 (tabC 0) (heap_alloc_last w _) (by rw [hi, tabC_size]) (by rw [tabC_size, tabC_size]) (tab_one 256) ?_
  rw [World.setRow_alloc_new]
  exact hK2 _ _ h
set_option maxHeartbeats 1000000 in
set_option maxRecDepth 100000 in
theorem Sum_any (s : ByteArray) (w : World) (hs : s.size ≤ 140737488355328) :
    Calls Try.prog 23 #[.string s] w fun e w' => e = .returned (.int .i64 (crc (L s) : Nat)) ∧ Below w.heap.size w w' := by
  go_enter Try.func23, Try.ntmps23
  go_wp2_with fail
  refine (newTable_any _).mono ?_
  rintro e w1 ⟨rfl, rfl⟩
  rename_i K0 hK0
  have hb : Below w.heap.size w ((w.alloc (.cells (tabC 256) 54)).alloc (.cells (tabC 256) 54)) := ((Below.refl _ _).alloc (Nat.le_refl _) _).alloc (by simp) _
  generalize (w.alloc (.cells (tabC 256) 54)).alloc (.cells (tabC 256) 54) = w2 at hb ⊢
  refine hK0 _ _ (wpList_newTable (.tmp 3) (.tmp 4) rfl rfl rfl rfl rfl rfl ?_)
  have hl := heap_alloc_last w2 (.cells (tabC 256) 54)
  have hb2 := hb.alloc hb.size (.cells (tabC 256) 54)
  generalize w2.alloc (.cells (tabC 256) 54) = w3 at hl hb2 ⊢
  have HL := Lib.hid hl
  have HB := Lib.hid hb2
  clear hl hb2 hb
  go_wp2_with fail
  refine (sum_any s _ _ hs HL.out).mono ?_
  rintro e w4 ⟨rfl, n, rfl⟩
  go_wp2_with fail
  go_ret
  exact ⟨rfl, below_drewN HB.out n⟩
end Go.Proofs.Ytkdmicpfinjpgaa
