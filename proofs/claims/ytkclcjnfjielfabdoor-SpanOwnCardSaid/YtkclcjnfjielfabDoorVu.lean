/- The law's own known. -/
import Derived.Test.YtkclcjnfjielfabDoorVt
namespace Go.Proofs.YtkclcjnfjielfabDoor
open Go.RowKit

theorem lit1 (w : World) (a b : Int) (t : TypeId) : Rgs (w.alloc (.cells #[.int .i64 a, .int .i64 b] t)) (.slice (some ⟨w.heap.size, 0, none⟩) 1 1) [(a, b)] := by
  refine .inr ⟨w.heap.size, 0, 1, rfl, by simp, by simp, fun i hi => ?_⟩
  have : i = 0 := by simpa using hi
  subst this
  exact ⟨by simp, by simp⟩
theorem lit2 (w : World) (a b c d : Int) (t : TypeId) : Rgs (w.alloc (.cells #[.int .i64 a, .int .i64 b, .int .i64 c, .int .i64 d] t)) (.slice (some ⟨w.heap.size, 0, none⟩) 2 2) [(a, b), (c, d)] := by
  refine .inr ⟨w.heap.size, 0, 2, rfl, by simp, by simp, fun i hi => ?_⟩
  have : i = 0 ∨ i = 1 := by simp at hi; omega
  rcases this with rfl | rfl
  · exact ⟨by simp, by simp⟩
  · exact ⟨by simp, by simp⟩
theorem litI2 (w : World) (N : Nat) (a b : Int) (t : TypeId) (hN : N = w.heap.size) : Ints (w.alloc (.cells #[.int .i64 a, .int .i64 b] t)) (.slice (some ⟨N, 0, none⟩) 2 2) [a, b] := by
  subst hN
  refine .inr ⟨w.heap.size, 0, 2, rfl, by simp, by simp, fun i hi => ?_⟩
  have : i = 0 ∨ i = 1 := by simp at hi; omega
  rcases this with rfl | rfl
  · simp
  · simp
theorem litI3 (w : World) (a b c : Int) (t : TypeId) : Ints (w.alloc (.cells #[.int .i64 a, .int .i64 b, .int .i64 c] t)) (.slice (some ⟨w.heap.size, 0, none⟩) 3 3) [a, b, c] := by
  refine .inr ⟨w.heap.size, 0, 3, rfl, by simp, by simp, fun i hi => ?_⟩
  have : i = 0 ∨ i = 1 ∨ i = 2 := by simp at hi; omega
  rcases this with rfl | rfl | rfl
  · simp
  · simp
  · simp
theorem litS2 (w : World) (N : Nat) (v1 v2 : Value) (l1 l2 : List Rg) (t : TypeId) (h1 : Rgs w v1 l1) (h2 : Rgs w v2 l2) (hN : N = w.heap.size) : Sets (w.alloc (.cells #[v1, v2] t)) (.slice (some ⟨N, 0, none⟩) 2 2) [l1, l2] := by
  subst hN
  refine .inr ⟨w.heap.size, 0, 2, fun i => if i = 0 then v1 else v2, rfl, by simp, by simp, fun i hi => ?_⟩
  have hb : Below w.heap.size w (w.alloc (.cells #[v1, v2] t)) := (Below.refl _ _).alloc (Nat.le_refl _) _
  have : i = 0 ∨ i = 1 := by simp at hi; omega
  rcases this with rfl | rfl
  · exact ⟨by simp, h1.on hb⟩
  · exact ⟨by simp, h2.on hb⟩
theorem k_parse : parseL [50, 58, 52, 44, 42] = [(2, 4), (0, 0)] ∧ parseE [50, 58, 52, 44, 42] = 0 := by decide +kernel
theorem k_print : printT [(4, 2), (0, 9)] = [52, 58, 50, 44, 42, 58, 57] ∧ printE [(4, 2), (0, 9)] = 0 := by
  have e4 : Lib.itoa 4 = [52] := by rw [show (4 : Int) = ((4 : Nat) : Int) from rfl, Lib.itoa_nonneg, Lib.decDigits_one (by omega)]; rfl
  have e2 : Lib.itoa 2 = [50] := by rw [show (2 : Int) = ((2 : Nat) : Int) from rfl, Lib.itoa_nonneg, Lib.decDigits_one (by omega)]; rfl
  have e9 : Lib.itoa 9 = [57] := by rw [show (9 : Int) = ((9 : Nat) : Int) from rfl, Lib.itoa_nonneg, Lib.decDigits_one (by omega)]; rfl
  have hs : setB [(4, 2), (0, 9)] = true := by decide +kernel
  have h64 : ¬ 64 < [((4 : Int), (2 : Int)), (0, 9)].length := by decide
  refine ⟨?_, ?_⟩
  · unfold printT
    rw [if_neg h64, if_pos hs]
    simp [textK, pieceT, endT, e4, e2, e9]
  · unfold printE
    rw [if_neg h64, if_pos hs]
theorem k_of : ofL [(20, 0)] [1, 9] = [9] := by decide +kernel
theorem k_has : hasB [(2, 4), (0, 0)] 3 9 = true ∧ hasB [(2, 4), (0, 0)] 5 9 = false := by decide +kernel
theorem k_least : leastL [4, 3, 7] = [(3, 4), (7, 7)] := by decide +kernel
theorem k_join : joinL [[(3, 0)], [(2, 4), (0, 0)]] = [(2, 4), (3, 0)] := by decide +kernel

theorem same_yes {v1 v2 : Value} {l : List Rg} {w : World} (h1 : Rgs w v1 l) (h2 : Rgs w v2 l) (hl : l.length ≤ 1000000) : Calls Tryd.prog 14 #[v1, v2] w fun e w' => e = .returned (.bool true) ∧ Below w.heap.size w w' := by
  have := same_any v1 v2 l l w h1 h2 hl
  rwa [decide_eq_true rfl] at this
theorem has_is {v : Value} {l : List Rg} {n g : Int} {w : World} (b : Bool) (hr : Rgs w v l) (hb : hasB l n g = b) : Calls Tryd.prog 22 #[v, .int .i64 n, .int .i64 g] w fun e w' => e = .returned (.bool b) ∧ Below w.heap.size w w' := by
  rw [← hb]; exact has_any v l n g w hr
theorem of_is {v v2 : Value} {l : List Rg} {list r : List Int} {w : World} (hr : Rgs w v l) (hr2 : Ints w v2 list) (hl : l.length ≤ 1000000) (hl2 : list.length ≤ 1000000) (hmax : ∀ n ∈ list, n ≤ 9223372036854775807) (h : ofL l list = r) : Calls Tryd.prog 29 #[v, v2] w fun e w' => ∃ v', e = .returned v' ∧ OwnI w.heap.size v' r w w' := by
  rw [← h]; exact of_any v v2 l list w hr hr2 hl hl2 hmax
theorem least_is {v : Value} {l : List Int} {r : List Rg} {w : World} (hr : Ints w v l) (hl : l.length ≤ 1000000) (h : leastL l = r) : Calls Tryd.prog 12 #[v] w fun e w' => ∃ v', e = .returned v' ∧ OwnR w.heap.size v' r w w' := by
  rw [← h]; exact least_any v l w hr hl
theorem join_is {v : Value} {ll : List (List Rg)} {r : List Rg} {w : World} (hr : Sets w v ll) (hl : ll.flatten.length ≤ 1000000) (h : joinL ll = r) : Calls Tryd.prog 25 #[v] w fun e w' => ∃ v', e = .returned v' ∧ OwnR w.heap.size v' r w w' := by
  rw [← h]; exact join_any v ll w hr hl
theorem print_is {v : Value} {l : List Rg} {w : World} (t : ByteArray) (c : Int) (he : Env w) (hr : Rgs w v l) (h1 : S (printT l) = t) (h2 : printE l = c) : Calls Tryd.prog 18 #[v] w fun e w' => e = .returned (.tuple #[.string t, .int .i64 c]) ∧ Below w.heap.size w w' := by
  rw [← h1, ← h2]; exact print_any v l w he hr

set_option maxRecDepth 100000 in
set_option maxHeartbeats 1000000 in
theorem known_any (w : World) (he : Env w) :
    Calls Tryd.prog 16 #[] w fun e w' => e = .returned (.bool true) ∧ Below w.heap.size w w' := by
  have HV := Lib.hid he
  have HP := Lib.hid (parse_any (S [50, 58, 52, 44, 42]) w he (by show 5 ≤ 140737488355328; omega))
  rw [L_S, k_parse.1, k_parse.2] at HP
  clear he
  go_enter Tryd.func16, Tryd.ntmps16
  go_wp2_with fail
  refine HP.out.mono ?_
  rintro e w1 ⟨v1, rfl, ho1⟩
  have HB1 := Lib.hid ho1.below
  obtain ⟨ao1, cap1, hv1, _⟩ := (ho1.rgs (by simp)).shape
  subst hv1
  have HA := Lib.hid (ho1.rgs (by simp))
  clear ho1 HP
  go_wp2_with fail
  refine (print_is ⟨#[52, 58, 50, 44, 42, 58, 57]⟩ 0 ((HV.out.on HB1.out).alloc _) (lit2 w1 4 2 0 9 _) (by rw [k_print.1]; rfl) k_print.2).mono ?_
  rintro e w2 ⟨rfl, hb2⟩
  have HB2 : Hid (Below w1.heap.size w1 w2) := Lib.hid (((Below.refl _ _).alloc (Nat.le_refl _) _).trans (hb2.mono (by simp)))
  clear hb2
  have hq1 : ((⟨#[52, 58, 50, 44, 42, 58, 57]⟩ : ByteArray).toList == [52, 58, 50, 44, 42, 58, 57]) = true := by decide +kernel
  have hq2 : ((⟨#[52, 58, 50, 44, 42, 58, 57]⟩ : ByteArray).toList != [52, 58, 50, 44, 42, 58, 57]) = false := by decide +kernel
  go_wp2_with (go_at_call 20; refine (num_any _ _).mono ?_; rintro e w' ⟨rfl, hw⟩; subst w')
  refine (same_yes ((HA.out.on HB2.out).on ((Below.refl _ _).alloc (Nat.le_refl _) _)) (lit2 w2 2 4 0 0 _) (by simp)).mono ?_
  rintro e w3 ⟨rfl, hb3⟩
  have HB3 : Hid (Below w1.heap.size w1 w3) := Lib.hid ((HB2.out.alloc HB2.out.size _).trans (hb3.mono (by have := HB2.out.size; simp; omega)))
  clear hb3
  go_wp2_with fail
  refine (of_is ((lit1 w3 20 0 _).on ((Below.refl _ _).alloc (Nat.le_refl _) _)) (litI2 _ _ 1 9 _ (by simp)) (by simp) (by simp) (by simp) k_of).mono ?_
  rintro e w4 ⟨v4, rfl, ho4⟩
  have HB4 : Hid (Below w1.heap.size w1 w4) := Lib.hid (((HB3.out.alloc HB3.out.size _).alloc (by have := HB3.out.size; simp; omega) _).trans (ho4.below.mono (by have := HB3.out.size; simp; omega)))
  obtain ⟨ao4, cap4, hs4, hc4⟩ := own_shapeI ho4
  obtain ⟨g4, hg4, hcell4⟩ := hc4 (by simp)
  subst hg4
  have c4 : w4.cell? ⟨g4, 0, none⟩ = some (.int .i64 9) := hcell4 0 (by simp)
  subst hs4
  have lg4 : g4 < w4.heap.size := block_lt_of_cell c4
  clear ho4 hc4 hcell4
  go_wp2_with fail
  refine (has_is true (HA.out.on HB4.out) k_has.1).mono ?_
  rintro e w5 ⟨rfl, hb5⟩
  have HB5 : Hid (Below w1.heap.size w1 w5) := Lib.hid (HB4.out.trans (hb5.mono HB4.out.size))
  rw [← hb5.cell (p := ⟨g4, 0, none⟩) lg4] at c4
  have lg5 : g4 < w5.heap.size := Nat.lt_of_lt_of_le lg4 hb5.size
  clear hb5 lg4
  go_wp2_with fail
  refine (has_is false (HA.out.on HB5.out) k_has.2).mono ?_
  rintro e w6 ⟨rfl, hb6⟩
  have HB6 : Hid (Below w1.heap.size w1 w6) := Lib.hid (HB5.out.trans (hb6.mono HB5.out.size))
  rw [← hb6.cell (p := ⟨g4, 0, none⟩) lg5] at c4
  clear hb6 lg5
  go_wp2_with fail
  refine (least_is (litI3 w6 4 3 7 _) (by simp) k_least).mono ?_
  rintro e w7 ⟨v7, rfl, ho7⟩
  have HB7 : Hid (Below w1.heap.size w1 w7) := Lib.hid ((HB6.out.alloc HB6.out.size _).trans (ho7.below.mono (by have := HB6.out.size; simp; omega)))
  have HA7 := Lib.hid (ho7.rgs (by simp))
  clear ho7
  go_wp2_with fail
  refine (same_yes (HA7.out.on ((Below.refl _ _).alloc (Nat.le_refl _) _)) (lit2 w7 3 4 7 7 _) (by simp)).mono ?_
  rintro e w8 ⟨rfl, hb8⟩
  have HB8 : Hid (Below w1.heap.size w1 w8) := Lib.hid ((HB7.out.alloc HB7.out.size _).trans (hb8.mono (by have := HB7.out.size; simp; omega)))
  clear hb8
  go_wp2_with fail
  refine (join_is (litS2 _ (w8.heap.size + 1) _ _ _ _ _ (lit1 w8 3 0 _) ((HA.out.on HB8.out).on ((Below.refl _ _).alloc (Nat.le_refl _) _)) (by simp)) (by simp) k_join).mono ?_
  rintro e w9 ⟨v9, rfl, ho9⟩
  have HB9 : Hid (Below w1.heap.size w1 w9) := Lib.hid (((HB8.out.alloc HB8.out.size _).alloc (by have := HB8.out.size; simp; omega) _).trans (ho9.below.mono (by have := HB8.out.size; simp; omega)))
  have HA9 := Lib.hid (ho9.rgs (by simp))
  clear ho9
  go_wp2_with fail
  refine (same_yes (HA9.out.on ((Below.refl _ _).alloc (Nat.le_refl _) _)) (lit2 w9 2 4 3 0 _) (by simp)).mono ?_
  rintro e w10 ⟨rfl, hb10⟩
  have HB10 : Hid (Below w1.heap.size w1 w10) := Lib.hid ((HB9.out.alloc HB9.out.size _).trans (hb10.mono (by have := HB9.out.size; simp; omega)))
  clear hb10
  go_wp2_with fail
  go_ret
  exact ⟨rfl, HB1.out.trans (HB10.out.mono HB1.out.size)⟩
end Go.Proofs.YtkclcjnfjielfabDoor
