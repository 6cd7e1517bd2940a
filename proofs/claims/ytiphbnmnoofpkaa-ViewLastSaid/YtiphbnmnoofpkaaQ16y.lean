/- view: takes, numbered. -/
import Derived.Test.YtiphbnmnoofpkaaQ16x
import Derived.Test.YtiphbnmnoofpkaaVn
namespace Go.Proofs.Ytiphbnmnoofpkaa
open Go.RowKit

def takesB (n : Nat) (p : Rg) : Bool := if min p.1 p.2 < 0 then false else if min p.1 p.2 = 0 then (decide (max p.1 p.2 ≤ 4294967295) && decide (0 < n)) else decide (max p.1 p.2 ≤ (n : Int))
section
variable {P : Nat} {val : Int} {rv cv : Value} {R : List RE} {C : List Int} {w : World} {N : Nat}
set_option maxHeartbeats 1000000 in
set_option maxRecDepth 20000 in
theorem takes_any (h : VAt P val rv cv R C w) (a b : Int) :
    Calls Try.prog 34 #[.pointer (some ⟨P, 0, none⟩), rgV a b] w fun e w' => e = .returned (.bool (takesB R.length (a, b))) ∧ Below w.heap.size w w' := by
  obtain ⟨W1, hW1⟩ : ∃ W1, w.alloc (.cells #[.int .i64 a, .int .i64 b] 53) = W1 := ⟨_, rfl⟩
  have h1 : W1.heap[w.heap.size]? = some (.cells #[.int .i64 a, .int .i64 b] 53 (0, 0)) := by rw [← hW1]; exact heap_new _ _
  have hb1 : Below w.heap.size w W1 := by rw [← hW1]; exact (Below.refl _ _).alloc (Nat.le_refl _) _
  have c0 : W1.cell? ⟨w.heap.size, 0, none⟩ = some (.int .i64 a) := cell_of h1 0
  have c1 : W1.cell? ⟨w.heap.size, 1, none⟩ = some (.int .i64 b) := cell_of h1 1
  have hV1 := h.on hb1
  obtain ⟨ar, cr, hrv⟩ := ownsRow_shape h.rows
  have d2 := hV1.cells.c2
  rw [hrv] at d2
  have HB := Lib.hid hb1.drew
  have HT : Hid (takesB R.length (a, b) = if min a b < 0 then false else if min a b = 0 then (decide (max a b ≤ 4294967295) && decide (0 < R.length)) else decide (max a b ≤ (R.length : Int))) := Lib.hid rfl
  generalize takesB R.length (a, b) = tb at *
  generalize hn : R.length = n at *
  clear h h1 hb1 hV1 hrv hn
  by_cases l0 : min a b < 0
  · have HE : Hid (tb = false) := Lib.hid (by rw [HT.out, if_pos l0])
    clear HT
    go_enter Try.func34, Try.ntmps34
    go_upto_region 1 with fail
    (try rw [hW1])
    clear hW1
    go_region
    generalize min a b = lo at *
    generalize max a b = hi at *
    go_wp2_with fail
    go_ret
    exact ⟨ret_bool HE.out.symm, HB.out⟩
  · by_cases l1 : min a b = 0
    · have l1b : (min a b == 0) = true := by simpa using l1
      by_cases h2 : max a b ≤ 4294967295
      · have HE : Hid (tb = decide (0 < n)) := Lib.hid (by rw [HT.out, if_neg l0, if_pos l1]; simp [h2])
        clear HT l1
        go_enter Try.func34, Try.ntmps34
        go_upto_region 1 with fail
        (try rw [hW1])
        clear hW1
        go_region
        generalize min a b = lo at *
        generalize max a b = hi at *
        go_wp2_with fail
        go_ret
        exact ⟨ret_bool (by rw [HE.out]), HB.out⟩
      · have HE : Hid (tb = false) := Lib.hid (by rw [HT.out, if_neg l0, if_pos l1]; simp [h2])
        clear HT l1
        go_enter Try.func34, Try.ntmps34
        go_upto_region 1 with fail
        (try rw [hW1])
        clear hW1
        go_region
        generalize min a b = lo at *
        generalize max a b = hi at *
        go_wp2_with fail
        go_ret
        exact ⟨ret_bool HE.out.symm, HB.out⟩
    · have l1b : (min a b == 0) = false := by simpa using l1
      have HE : Hid (tb = decide (max a b ≤ (n : Int))) := Lib.hid (by rw [HT.out, if_neg l0, if_neg l1])
      clear HT l1
      go_enter Try.func34, Try.ntmps34
      go_upto_region 1 with fail
      (try rw [hW1])
      clear hW1
      go_region
      generalize min a b = lo at *
      generalize max a b = hi at *
      go_wp2_with fail
      go_ret
      exact ⟨ret_bool HE.out.symm, HB.out⟩
end
end Go.Proofs.Ytiphbnmnoofpkaa
