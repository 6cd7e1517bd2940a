/- moment: the calendar's small functions. -/
import Derived.Test.YtckdmbeokajdjaaGreatDoorCm
import Derived.Handy
import Derived.Lib.LaidTab
import Derived.Lib.ItoaNum
namespace Go.Proofs.YtckdmbeokajdjaaGreatDoor
open Go.RowKit

def lenT : List Int := [31, 28, 31, 30, 31, 30, 31, 31, 30, 31, 30, 31]
def monT : List (List UInt8) := [[74, 97, 110], [70, 101, 98], [77, 97, 114], [65, 112, 114], [77, 97, 121], [74, 117, 110], [74, 117, 108], [65, 117, 103], [83, 101, 112], [79, 99, 116], [78, 111, 118], [68, 101, 99]]
def wdT : List (List UInt8) := [[83, 117, 110], [77, 111, 110], [84, 117, 101], [87, 101, 100], [84, 104, 117], [70, 114, 105], [83, 97, 116]]
def monN (i : Nat) : List UInt8 := monT.getD i []
def wdN (i : Nat) : List UInt8 := wdT.getD i []
def monA : Array Value := (monT.map fun l => Value.string (S l)).toArray
def wdA : Array Value := (wdT.map fun l => Value.string (S l)).toArray
/-- What a world must hold: the tables. -/
structure Env (w : World) : Prop where
  len : Lib.TabIs Tryz.prog w "postbag/moment.monthLengths" .i64 lenT
  mon : ∃ t fr, w.heap[0]? = some (.cells monA t fr)
  wd : ∃ t fr, w.heap[1]? = some (.cells wdA t fr)
  pow : Lib.TabIs Tryz.prog w "internal/strconv.uint64pow10" .u64 Lib.pow10Tab
theorem Tryz.gLen : Tryz.prog.globalNamed "postbag/moment.monthLengths" = some 2 := by kernel_rfl
theorem Tryz.gPow : Tryz.prog.globalNamed "internal/strconv.uint64pow10" = some 3 := by kernel_rfl
theorem tab_on {n : String} {g : Nat} {k : IntKind} {zs : List Int} {w w' : World} (hg : Tryz.prog.globalNamed n = some g) (h : Lib.TabIs Tryz.prog w n k zs) (hb : Below w.heap.size w w') : Lib.TabIs Tryz.prog w' n k zs := by
  unfold Lib.TabIs World.var? at *
  rw [hg] at *
  simp only [Option.bind_some] at *
  have hlt : g < w.heap.size := by
    rcases Nat.lt_or_ge g w.heap.size with k | k
    · exact k
    · rw [Array.getElem?_eq_none k] at h; cases h
  rw [hb.block g hlt]
  exact h
theorem Env.on {w w' : World} (h : Env w) (hb : Below w.heap.size w w') : Env w' := by
  refine ⟨tab_on Tryz.gLen h.len hb, ?_, ?_, tab_on Tryz.gPow h.pow hb⟩
  · obtain ⟨t, fr, k⟩ := h.mon
    exact ⟨t, fr, by rw [hb.block _ (Array.getElem?_eq_some_iff.1 k).1]; exact k⟩
  · obtain ⟨t, fr, k⟩ := h.wd
    exact ⟨t, fr, by rw [hb.block _ (Array.getElem?_eq_some_iff.1 k).1]; exact k⟩
/-- Above the tables. -/
def Over (B : Nat) : Prop := 2 < B ∧ 0 < B ∧ 1 < B ∧ 3 < B
theorem Over.mono {A B : Nat} (h : Over A) (hb : A ≤ B) : Over B := ⟨by have := h.1; omega, by have := h.2.1; omega, by have := h.2.2.1; omega, by have := h.2.2.2; omega⟩
theorem tab_onB {n : String} {g B : Nat} {k : IntKind} {zs : List Int} {w w' : World} (hg : Tryz.prog.globalNamed n = some g) (h : Lib.TabIs Tryz.prog w n k zs) (hb : Below B w w') (hB : g < B) : Lib.TabIs Tryz.prog w' n k zs := by
  unfold Lib.TabIs World.var? at *
  rw [hg] at *
  simp only [Option.bind_some] at *
  rw [hb.block g hB]
  exact h
theorem tab_lt {n : String} {g : Nat} {k : IntKind} {zs : List Int} {w : World} (hg : Tryz.prog.globalNamed n = some g) (h : Lib.TabIs Tryz.prog w n k zs) : g < w.heap.size := by
  unfold Lib.TabIs World.var? at h
  rw [hg] at h
  simp only [Option.bind_some] at h
  rcases Nat.lt_or_ge g w.heap.size with k | k
  · exact k
  · rw [Array.getElem?_eq_none k] at h; cases h
theorem Env.over {w : World} (h : Env w) : Over w.heap.size := by
  obtain ⟨_, _, k1⟩ := h.mon
  obtain ⟨_, _, k2⟩ := h.wd
  exact ⟨tab_lt Tryz.gLen h.len, (Array.getElem?_eq_some_iff.1 k1).1, (Array.getElem?_eq_some_iff.1 k2).1, tab_lt Tryz.gPow h.pow⟩
theorem Env.onB {w w' : World} {B : Nat} (h : Env w) (hb : Below B w w') (hB : Over B) : Env w' := by
  refine ⟨tab_onB Tryz.gLen h.len hb hB.1, ?_, ?_, tab_onB Tryz.gPow h.pow hb hB.2.2.2⟩
  · obtain ⟨t, fr, k⟩ := h.mon
    exact ⟨t, fr, by rw [hb.block _ hB.2.1]; exact k⟩
  · obtain ⟨t, fr, k⟩ := h.wd
    exact ⟨t, fr, by rw [hb.block _ hB.2.2.1]; exact k⟩
theorem Env.lenC {w : World} (h : Env w) (i : Nat) (hi : i < 12) : w.cell? ⟨2, i, none⟩ = some (.int .i64 (lenT.getD i 0)) := h.len.cell Tryz.gLen i hi
theorem Env.monC {w : World} (h : Env w) (i : Nat) (hi : i < 12) : w.cell? ⟨0, i, none⟩ = some (.string (S (monN i))) := by
  obtain ⟨t, fr, k⟩ := h.mon
  rw [cell_of_row _ _ i _ _ _ k]
  rcases (by omega : i = 0 ∨ i = 1 ∨ i = 2 ∨ i = 3 ∨ i = 4 ∨ i = 5 ∨ i = 6 ∨ i = 7 ∨ i = 8 ∨ i = 9 ∨ i = 10 ∨ i = 11) with rfl | rfl | rfl | rfl | rfl | rfl | rfl | rfl | rfl | rfl | rfl | rfl <;> rfl
theorem Env.wdC {w : World} (h : Env w) (i : Nat) (hi : i < 7) : w.cell? ⟨1, i, none⟩ = some (.string (S (wdN i))) := by
  obtain ⟨t, fr, k⟩ := h.wd
  rw [cell_of_row _ _ i _ _ _ k]
  rcases (by omega : i = 0 ∨ i = 1 ∨ i = 2 ∨ i = 3 ∨ i = 4 ∨ i = 5 ∨ i = 6) with rfl | rfl | rfl | rfl | rfl | rfl | rfl <;> rfl
theorem Env.drewN {w : World} (h : Env w) (n : Nat) : Env (w.drewN n) := h.on (below_drewN (Below.refl _ _) n)
theorem Env.drew {w : World} (h : Env w) : Env w.drew := h.on (Below.refl _ _).drew

set_option maxHeartbeats 400000 in
theorem isLeap_any (y : Nat) (w : World) (hy : y ≤ 20000) :
    Calls Tryz.prog 78 #[.int .i64 y] w fun e w' => e = .returned (.bool (leapY y)) ∧ w' = w := by
  have hl := Lib.hid (leapY_iff y)
  have hn := Lib.hid (leapY_not y)
  cases h4 : (((y : Int) % 4) == 0) with
  | false =>
    have HR : Hid (leapY y = false) := Lib.hid (hn.out.2 (fun h => by rw [beq_eq_false_iff_ne] at h4; omega))
    go_enter Tryz.func78, Tryz.ntmps78
    go_wp2
    go_ret
    exact ⟨ret_bool HR.out.symm, rfl⟩
  | true =>
    rw [beq_iff_eq] at h4
    have h4' : ((y : Int) % 4 == 0) = true := by rw [beq_iff_eq]; exact h4
    cases h100 : (((y : Int) % 100) != 0) with
    | true =>
      have HR : Hid (leapY y = true) := Lib.hid (hl.out.2 ⟨by omega, .inl (by rw [bne_iff_ne] at h100; omega)⟩)
      clear h4
      go_enter Tryz.func78, Tryz.ntmps78
      go_wp2
      go_ret
      exact ⟨ret_bool HR.out.symm, rfl⟩
    | false =>
      cases h400 : (((y : Int) % 400) == 0) with
      | true =>
        have HR : Hid (leapY y = true) := Lib.hid (hl.out.2 ⟨by omega, .inr (by rw [beq_iff_eq] at h400; omega)⟩)
        clear h4
        go_enter Tryz.func78, Tryz.ntmps78
        go_wp2
        go_ret
        exact ⟨ret_bool HR.out.symm, rfl⟩
      | false =>
        have HR : Hid (leapY y = false) := Lib.hid (hn.out.2 (fun h => by rw [beq_eq_false_iff_ne] at h400; simp at h100; omega))
        clear h4
        go_enter Tryz.func78, Tryz.ntmps78
        go_wp2
        go_ret
        exact ⟨ret_bool HR.out.symm, rfl⟩

set_option maxHeartbeats 800000 in
theorem monthLength_any (y m : Nat) (w : World) (he : Env w) (hy : y ≤ 20000) (hm1 : 1 ≤ m) (hm : m ≤ 12) :
    Calls Tryz.prog 55 #[.int .i64 y, .int .i64 m] w fun e w' => e = .returned (.int .i64 (mlen y m : Nat)) ∧ w' = w := by
  have hL := Lib.hid (fun W => isLeap_any y W hy)
  have HM : Hid (mlen y m = if m = 4 ∨ m = 6 ∨ m = 9 ∨ m = 11 then 30 else if m = 2 then (if leapY y then 29 else 28) else 31) := Lib.hid rfl
  have c0 := he.lenC (m - 1) (by omega)
  cases hl : leapY y <;> rw [hl] at hL HM
  all_goals (
    rcases (by omega : m = 1 ∨ m = 2 ∨ m = 3 ∨ m = 4 ∨ m = 5 ∨ m = 6 ∨ m = 7 ∨ m = 8 ∨ m = 9 ∨ m = 10 ∨ m = 11 ∨ m = 12) with rfl | rfl | rfl | rfl | rfl | rfl | rfl | rfl | rfl | rfl | rfl | rfl
    all_goals (
      simp [lenT] at c0
      clear he
      go_enter Tryz.func55, Tryz.ntmps55
      go_wp2_with (go_at_call 78; refine (hL.out _).mono ?_; rintro e w' ⟨rfl, rfl⟩)
      go_ret
      exact ⟨ret_int (by rw [HM.out]; rfl), rfl⟩))
theorem monthLength_int (y m : Int) (w : World) (he : Env w) (hy0 : 0 ≤ y) (hy : y ≤ 20000) (hm0 : 1 ≤ m) (hm : m ≤ 12) :
    Calls Tryz.prog 55 #[.int .i64 y, .int .i64 m] w fun e w' => e = .returned (.int .i64 (mlen y.toNat m.toNat : Nat)) ∧ w' = w := by
  obtain ⟨a, rfl⟩ := Int.eq_ofNat_of_zero_le hy0
  obtain ⟨b, rfl⟩ := Int.eq_ofNat_of_zero_le (show 0 ≤ m by omega)
  exact monthLength_any a b w he (by omega) (by omega) (by omega)

def wi (n a b : Int) : Bool := decide (a ≤ n) && decide (n ≤ b)
theorem wi_true {n a b : Int} (h1 : a ≤ n) (h2 : n ≤ b) : wi n a b = true := by unfold wi; rw [decide_eq_true h1, decide_eq_true h2]; rfl
theorem wi_false {n a b : Int} (h : ¬ (a ≤ n ∧ n ≤ b)) : wi n a b = false := by
  unfold wi
  rw [Bool.and_eq_false_iff, decide_eq_false_iff_not, decide_eq_false_iff_not]
  omega
theorem wi_iff (n a b : Int) : wi n a b = true ↔ (a ≤ n ∧ n ≤ b) := by
  unfold wi
  rw [Bool.and_eq_true, decide_eq_true_iff, decide_eq_true_iff]
set_option maxHeartbeats 400000 in
theorem within_any (n a b : Int) (w : World) :
    Calls Tryz.prog 32 #[.int .i64 n, .int .i64 a, .int .i64 b] w fun e w' => e = .returned (.bool (wi n a b)) ∧ w' = w := by
  by_cases h1 : a ≤ n
  · have HR : Hid (wi n a b = decide (n ≤ b)) := Lib.hid (by unfold wi; rw [decide_eq_true h1]; rfl)
    go_enter Tryz.func32, Tryz.ntmps32
    go_wp2
    go_ret
    exact ⟨ret_bool HR.out.symm, rfl⟩
  · have HR : Hid (wi n a b = false) := Lib.hid (wi_false (fun h => h1 h.1))
    go_enter Tryz.func32, Tryz.ntmps32
    go_wp2
    go_ret
    exact ⟨ret_bool HR.out.symm, rfl⟩
theorem within_val (n a b : Int) (r : Bool) (w : World) (h : wi n a b = r) :
    Calls Tryz.prog 32 #[.int .i64 n, .int .i64 a, .int .i64 b] w fun e w' => e = .returned (.bool r) ∧ w' = w := by
  subst h
  exact within_any n a b w

theorem div_bounds (n b : Int) (hb : 0 < b) (h1 : -1000000000000 ≤ n) (h2 : n ≤ 1000000000000) : -1000000000000 ≤ n / b ∧ n / b ≤ 1000000000000 := by
  refine ⟨(Int.le_ediv_iff_mul_le hb).2 (by omega), ?_⟩
  have := (Int.ediv_lt_iff_lt_mul (a := n) (b := 1000000000001) hb).2 (by omega)
  omega
theorem div_neg (n b : Int) (hb : 0 < b) (h : n.tmod b < 0) : n.tdiv b - 1 = n / b ∧ n.tmod b + b = n % b := by
  have h1 := Int.mul_tdiv_add_tmod n b
  have h5 : -b < n.tmod b := Int.lt_tmod_of_pos n hb
  have e : n.tmod b + b + b * (n.tdiv b - 1) = n := by rw [Int.mul_sub, Int.mul_one]; omega
  have := (Int.ediv_emod_unique hb).2 ⟨e, by omega, by omega⟩
  exact ⟨this.1.symm, this.2.symm⟩
theorem div_pos (n b : Int) (hb : 0 < b) (h : ¬ n.tmod b < 0) : n.tdiv b = n / b ∧ n.tmod b = n % b := by
  have h1 := Int.mul_tdiv_add_tmod n b
  have h3 := Int.tmod_lt_of_pos n hb
  have e : n.tmod b + b * n.tdiv b = n := by omega
  have := (Int.ediv_emod_unique hb).2 ⟨e, by omega, by omega⟩
  exact ⟨this.1.symm, this.2.symm⟩
theorem ret_two {a b c d : Int} (h1 : a = c) (h2 : b = d) : Ending.returned (.tuple #[.int .i64 a, .int .i64 b]) = .returned (.tuple #[.int .i64 c, .int .i64 d]) := by rw [h1, h2]
set_option maxHeartbeats 400000 in
theorem split_any (n b : Int) (w : World) (hb : 0 < b) (hb2 : b ≤ 1000000) (h1 : -1000000000000 ≤ n) (h2 : n ≤ 1000000000000) :
    Calls Tryz.prog 33 #[.int .i64 n, .int .i64 b] w fun e w' => e = .returned (.tuple #[.int .i64 (n / b), .int .i64 (n % b)]) ∧ w' = w.drew := by
  have hne : (b == 0) = false := by rw [beq_eq_false_iff_ne]; omega
  have hx1 : -b < n.tmod b := Int.lt_tmod_of_pos n hb
  have hx2 : n.tmod b < b := Int.tmod_lt_of_pos n hb
  have HB := Lib.hid (div_bounds n b hb h1 h2)
  by_cases hneg : n.tmod b < 0
  · have HN := Lib.hid (div_neg n b hb hneg)
    go_enter Tryz.func33, Tryz.ntmps33
    go_wp2
    go_region
    go_wp2
    go_ret2
    exact ⟨ret_two (by rw [HN.out.1]; have := HB.out; unfold wrap64; omega) HN.out.2, rfl⟩
  · have HN := Lib.hid (div_pos n b hb hneg)
    go_enter Tryz.func33, Tryz.ntmps33
    go_wp2
    go_region
    go_wp2
    go_ret2
    exact ⟨ret_two HN.out.1 HN.out.2, rfl⟩
end Go.Proofs.YtckdmbeokajdjaaGreatDoor
