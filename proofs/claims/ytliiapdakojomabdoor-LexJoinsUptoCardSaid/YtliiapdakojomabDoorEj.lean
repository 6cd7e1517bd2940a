/- lex: the document's word: too many words have begun. -/
import Derived.Test.YtliiapdakojomabDoorBw
namespace Go.Proofs.YtliiapdakojomabDoor
open Go.RowKit

set_option maxRecDepth 100000 in
set_option maxHeartbeats 4000000 in
theorem word_many_word (line : ByteArray) (a : Option Addr) (ln lc : Nat) (p i n d : Nat) (w : World) (hp : p < line.size) (hs : line.size ≤ 4096) (hn : n = 512) (h1 : wordC (bt (L line) p) = true) :
    Calls Tryd.prog 72 #[cuV line (.slice a ln lc) p i n, .int .i64 (d : Int)] w fun e w' => wBad line (.slice a ln lc) 34 e ∧ Below w.heap.size w w' := by
  obtain ⟨n1, hn1⟩ : ∃ k, k = n + 1 := ⟨_, rfl⟩
  have hnz : (512 : Int) < (n1 : Int) := by omega
  have hn0 : n ≤ 512 := by omega
  have HN1 := Lib.hid hn1
  clear hn hn1
  have hll := L_length line
  have HA := Lib.hid (fun w => rann_any line p w hp (by omega))
  have ea := get_btx line p hp
  have h256 := bt_lt (L line) p
  have h5 : annI ((L line).drop p) = false := by
    unfold annI
    rw [List.head?_drop]
    have hne : bt (L line) p ≠ 123 := fun e => by rw [e] at h1; exact absurd h1 (by decide)
    unfold bt at hne
    rw [List.getElem?_eq_getElem (by omega)] at hne ⊢
    have : (((L line)[p]'(by omega)) == 123) = false := beq_eq_false_iff_ne.2 hne
    simp [this]
  have hcl := word_class (bt (L line) p)
  rw [h1] at hcl
  have hcl2 : bt (L line) p ≠ 34 ∧ bt (L line) p ≠ 40 ∧ bt (L line) p ≠ 91 := ⟨fun e => by rw [e] at h1; exact absurd h1 (by decide), fun e => by rw [e] at h1; exact absurd h1 (by decide), fun e => by rw [e] at h1; exact absurd h1 (by decide)⟩
  clear hcl
  obtain ⟨c, hc⟩ : ∃ c, c = bt (L line) p := ⟨_, rfl⟩
  rw [← hc] at ea h256 h1 hcl2
  clear hc
  have HW := Lib.hid (fun w => atomByte_any c w)
  rw [h1] at HW
  rw [h5] at HA
  have n34 : ¬ (c.toNat : Int) = 34 := fun e => hcl2.1 (UInt8.toNat_inj.1 (by have : (34 : UInt8).toNat = 34 := rfl; omega))
  have n40 : ¬ (c.toNat : Int) = 40 := fun e => hcl2.2.1 (UInt8.toNat_inj.1 (by have : (40 : UInt8).toNat = 40 := rfl; omega))
  have n91 : ¬ (c.toNat : Int) = 91 := fun e => hcl2.2.2 (UInt8.toNat_inj.1 (by have : (91 : UInt8).toNat = 91 := rfl; omega))
  have e34 : ((c.toNat : Int) == 34) = false := beq_eq_false_iff_ne.2 n34
  have e40 : ((c.toNat : Int) == 40) = false := beq_eq_false_iff_ne.2 n40
  have e91 : ((c.toNat : Int) == 91) = false := beq_eq_false_iff_ne.2 n91
  clear h1 h5 hcl2
  have hp0 : (0 : Int) ≤ (p : Int) := by omega
  have hpz : (p : Int) < (line.size : Int) := by omega
  generalize annM ((L line).drop p) = am at *
  generalize annQ ((L line).drop p) = aq at *
  generalize annZ p ((L line).drop p) = az at *
  have HQ := Lib.hid (qs_start w line a ln lc p i n)
  generalize hX : ((w.alloc (.cells #[.string line, .slice a ln lc, .int .i64 (p : Int), .int .i64 (i : Int), .int .i64 (n : Int)] 81)).alloc (.cells #[.int .i64 0, .string ⟨#[]⟩, .slice none 0 0, .bool false] 33)).alloc (.cells #[.string ⟨#[]⟩, .slice none 0 0, .int .i64 0, .int .i64 0, .int .i64 0] 81) = X at HQ
  unfold cuV
  go_enter Tryd.func72, Tryd.ntmps72
  go_upto_region 1 with fail
  try rw [hX]
  clear hX
  obtain ⟨q0, q1, q2, q3, q4⟩ := HQ.out.cells
  go_upto_region 3 with (go_at_call 47; refine (HA.out _).mono ?_; rintro e w7 ⟨rfl, hw7⟩; subst w7)
  obtain ⟨fz, HQ2⟩ := HQ.out.tally n1 ((n : Int) + 1) (by have := HN1.out; omega)
  replace HQ2 := Lib.hid HQ2
  go_upto_region 6 with (go_at_call 91; refine (HW.out _).mono ?_; rintro e w7 ⟨rfl, hw7⟩; subst w7)
  generalize X.setCell ⟨w.heap.size, 4, none⟩ (.int .i64 ((n : Int) + 1)) = X2 at HQ2 ⊢
  clear q0 q1 q2 q3 q4 fz HQ
  obtain ⟨q0, q1, q2, q3, q4⟩ := HQ2.out.cells
  have h1 := HQ2.out.wd
  have h2 := HQ2.out.cu2
  have c10 := cell_of_row _ _ 0 _ _ _ h1
  have c11 := cell_of_row _ _ 1 _ _ _ h1
  have c12 := cell_of_row _ _ 2 _ _ _ h1
  have c13 := cell_of_row _ _ 3 _ _ _ h1
  have c20 := cell_of_row _ _ 0 _ _ _ h2
  have c21 := cell_of_row _ _ 1 _ _ _ h2
  have c22 := cell_of_row _ _ 2 _ _ _ h2
  have c23 := cell_of_row _ _ 3 _ _ _ h2
  have c24 := cell_of_row _ _ 4 _ _ _ h2
  have f1 : ∀ j, X2.frozen? ⟨w.heap.size + 1, j, none⟩ = false := fun j => frozen_of_row _ _ _ _ _ h1
  have f2 : ∀ j, X2.frozen? ⟨w.heap.size + 1 + 1, j, none⟩ = false := fun j => frozen_of_row _ _ _ _ _ h2
  clear h1 h2
  have HD := Lib.hid (HQ2.out.done (.int .i64 0) (.string ⟨#[]⟩) (.slice none 0 0) (.bool false) (.string line) (.slice a ln lc) (.int .i64 (p : Int)) (.int .i64 (i : Int)) (.int .i64 (n1 : Int)))
  go_upto_region 7 with fail
  go_region
  go_wp2_with fail
  (try simp only [Exit.inBlock, Exit.then])
  refine wret (w := w) (.int .i64 0) (.string ⟨#[]⟩) (.slice none 0 0) (.bool false) (.string line) (.slice a ln lc) (.int .i64 (p : Int)) (.int .i64 (i : Int)) (.int .i64 (n1 : Int)) _ HD.out.1 HD.out.2.1 rfl rfl rfl ?_
  exact ⟨⟨p, i, n1, rfl⟩, HD.out.2.2.drew⟩
set_option maxRecDepth 100000 in
set_option maxHeartbeats 4000000 in
theorem word_many_quote (line : ByteArray) (a : Option Addr) (ln lc : Nat) (p i n d : Nat) (w : World) (hp : p < line.size) (hs : line.size ≤ 4096) (hn : n = 512) (h1 : bt (L line) p = 34) :
    Calls Tryd.prog 72 #[cuV line (.slice a ln lc) p i n, .int .i64 (d : Int)] w fun e w' => wBad line (.slice a ln lc) 34 e ∧ Below w.heap.size w w' := by
  obtain ⟨n1, hn1⟩ : ∃ k, k = n + 1 := ⟨_, rfl⟩
  have hnz : (512 : Int) < (n1 : Int) := by omega
  have hn0 : n ≤ 512 := by omega
  have HN1 := Lib.hid hn1
  clear hn hn1
  have hll := L_length line
  have HA := Lib.hid (fun w => rann_any line p w hp (by omega))
  have ea := get_btx line p hp
  have eb : (line[p]'hp).toNat = 34 := by rw [ea, h1]; rfl
  have HW : Hid (∀ w, Calls Tryd.prog 91 #[.int .u8 34] w fun e w' => e = .returned (.bool false) ∧ w' = w) := Lib.hid (fun w => atomByte_any 34 w)
  clear ea h1
  generalize annI ((L line).drop p) = ai at *
  have hp0 : (0 : Int) ≤ (p : Int) := by omega
  have hpz : (p : Int) < (line.size : Int) := by omega
  generalize annM ((L line).drop p) = am at *
  generalize annQ ((L line).drop p) = aq at *
  generalize annZ p ((L line).drop p) = az at *
  have HQ := Lib.hid (qs_start w line a ln lc p i n)
  generalize hX : ((w.alloc (.cells #[.string line, .slice a ln lc, .int .i64 (p : Int), .int .i64 (i : Int), .int .i64 (n : Int)] 81)).alloc (.cells #[.int .i64 0, .string ⟨#[]⟩, .slice none 0 0, .bool false] 33)).alloc (.cells #[.string ⟨#[]⟩, .slice none 0 0, .int .i64 0, .int .i64 0, .int .i64 0] 81) = X at HQ
  unfold cuV
  go_enter Tryd.func72, Tryd.ntmps72
  go_upto_region 1 with fail
  try rw [hX]
  clear hX
  obtain ⟨q0, q1, q2, q3, q4⟩ := HQ.out.cells
  go_upto_region 3 with (go_at_call 47; refine (HA.out _).mono ?_; rintro e w7 ⟨rfl, hw7⟩; subst w7)
  obtain ⟨fz, HQ2⟩ := HQ.out.tally n1 ((n : Int) + 1) (by have := HN1.out; omega)
  replace HQ2 := Lib.hid HQ2
  go_upto_region 6 with (go_at_call 91; refine (HW.out _).mono ?_; rintro e w7 ⟨rfl, hw7⟩; subst w7)
  generalize X.setCell ⟨w.heap.size, 4, none⟩ (.int .i64 ((n : Int) + 1)) = X2 at HQ2 ⊢
  clear q0 q1 q2 q3 q4 fz HQ
  obtain ⟨q0, q1, q2, q3, q4⟩ := HQ2.out.cells
  have h1 := HQ2.out.wd
  have h2 := HQ2.out.cu2
  have c10 := cell_of_row _ _ 0 _ _ _ h1
  have c11 := cell_of_row _ _ 1 _ _ _ h1
  have c12 := cell_of_row _ _ 2 _ _ _ h1
  have c13 := cell_of_row _ _ 3 _ _ _ h1
  have c20 := cell_of_row _ _ 0 _ _ _ h2
  have c21 := cell_of_row _ _ 1 _ _ _ h2
  have c22 := cell_of_row _ _ 2 _ _ _ h2
  have c23 := cell_of_row _ _ 3 _ _ _ h2
  have c24 := cell_of_row _ _ 4 _ _ _ h2
  have f1 : ∀ j, X2.frozen? ⟨w.heap.size + 1, j, none⟩ = false := fun j => frozen_of_row _ _ _ _ _ h1
  have f2 : ∀ j, X2.frozen? ⟨w.heap.size + 1 + 1, j, none⟩ = false := fun j => frozen_of_row _ _ _ _ _ h2
  clear h1 h2
  have HD := Lib.hid (HQ2.out.done (.int .i64 0) (.string ⟨#[]⟩) (.slice none 0 0) (.bool false) (.string line) (.slice a ln lc) (.int .i64 (p : Int)) (.int .i64 (i : Int)) (.int .i64 (n1 : Int)))
  go_upto_region 7 with fail
  go_region
  go_wp2_with fail
  (try simp only [Exit.inBlock, Exit.then])
  refine wret (w := w) (.int .i64 0) (.string ⟨#[]⟩) (.slice none 0 0) (.bool false) (.string line) (.slice a ln lc) (.int .i64 (p : Int)) (.int .i64 (i : Int)) (.int .i64 (n1 : Int)) _ HD.out.1 HD.out.2.1 rfl rfl rfl ?_
  exact ⟨⟨p, i, n1, rfl⟩, HD.out.2.2.drew⟩
end Go.Proofs.YtliiapdakojomabDoor

/- lex: the document's word: too many words have begun. -/
namespace Go.Proofs.YtliiapdakojomabDoor
open Go.RowKit

set_option maxRecDepth 100000 in
set_option maxHeartbeats 4000000 in
theorem word_many_open (line : ByteArray) (a : Option Addr) (ln lc : Nat) (p i n d : Nat) (w : World) (hp : p < line.size) (hs : line.size ≤ 4096) (hn : n = 512) (h1 : bt (L line) p = 40) :
    Calls Tryd.prog 72 #[cuV line (.slice a ln lc) p i n, .int .i64 (d : Int)] w fun e w' => wBad line (.slice a ln lc) 34 e ∧ Below w.heap.size w w' := by
  obtain ⟨n1, hn1⟩ : ∃ k, k = n + 1 := ⟨_, rfl⟩
  have hnz : (512 : Int) < (n1 : Int) := by omega
  have hn0 : n ≤ 512 := by omega
  have HN1 := Lib.hid hn1
  clear hn hn1
  have hll := L_length line
  have HA := Lib.hid (fun w => rann_any line p w hp (by omega))
  have ea := get_btx line p hp
  have eb : (line[p]'hp).toNat = 40 := by rw [ea, h1]; rfl
  have HW : Hid (∀ w, Calls Tryd.prog 91 #[.int .u8 40] w fun e w' => e = .returned (.bool false) ∧ w' = w) := Lib.hid (fun w => atomByte_any 40 w)
  clear ea h1
  generalize annI ((L line).drop p) = ai at *
  have hp0 : (0 : Int) ≤ (p : Int) := by omega
  have hpz : (p : Int) < (line.size : Int) := by omega
  generalize annM ((L line).drop p) = am at *
  generalize annQ ((L line).drop p) = aq at *
  generalize annZ p ((L line).drop p) = az at *
  have HQ := Lib.hid (qs_start w line a ln lc p i n)
  generalize hX : ((w.alloc (.cells #[.string line, .slice a ln lc, .int .i64 (p : Int), .int .i64 (i : Int), .int .i64 (n : Int)] 81)).alloc (.cells #[.int .i64 0, .string ⟨#[]⟩, .slice none 0 0, .bool false] 33)).alloc (.cells #[.string ⟨#[]⟩, .slice none 0 0, .int .i64 0, .int .i64 0, .int .i64 0] 81) = X at HQ
  unfold cuV
  go_enter Tryd.func72, Tryd.ntmps72
  go_upto_region 1 with fail
  try rw [hX]
  clear hX
  obtain ⟨q0, q1, q2, q3, q4⟩ := HQ.out.cells
  go_upto_region 3 with (go_at_call 47; refine (HA.out _).mono ?_; rintro e w7 ⟨rfl, hw7⟩; subst w7)
  obtain ⟨fz, HQ2⟩ := HQ.out.tally n1 ((n : Int) + 1) (by have := HN1.out; omega)
  replace HQ2 := Lib.hid HQ2
  go_upto_region 6 with (go_at_call 91; refine (HW.out _).mono ?_; rintro e w7 ⟨rfl, hw7⟩; subst w7)
  generalize X.setCell ⟨w.heap.size, 4, none⟩ (.int .i64 ((n : Int) + 1)) = X2 at HQ2 ⊢
  clear q0 q1 q2 q3 q4 fz HQ
  obtain ⟨q0, q1, q2, q3, q4⟩ := HQ2.out.cells
  have h1 := HQ2.out.wd
  have h2 := HQ2.out.cu2
  have c10 := cell_of_row _ _ 0 _ _ _ h1
  have c11 := cell_of_row _ _ 1 _ _ _ h1
  have c12 := cell_of_row _ _ 2 _ _ _ h1
  have c13 := cell_of_row _ _ 3 _ _ _ h1
  have c20 := cell_of_row _ _ 0 _ _ _ h2
  have c21 := cell_of_row _ _ 1 _ _ _ h2
  have c22 := cell_of_row _ _ 2 _ _ _ h2
  have c23 := cell_of_row _ _ 3 _ _ _ h2
  have c24 := cell_of_row _ _ 4 _ _ _ h2
  have f1 : ∀ j, X2.frozen? ⟨w.heap.size + 1, j, none⟩ = false := fun j => frozen_of_row _ _ _ _ _ h1
  have f2 : ∀ j, X2.frozen? ⟨w.heap.size + 1 + 1, j, none⟩ = false := fun j => frozen_of_row _ _ _ _ _ h2
  clear h1 h2
  have HD := Lib.hid (HQ2.out.done (.int .i64 0) (.string ⟨#[]⟩) (.slice none 0 0) (.bool false) (.string line) (.slice a ln lc) (.int .i64 (p : Int)) (.int .i64 (i : Int)) (.int .i64 (n1 : Int)))
  go_upto_region 7 with fail
  go_region
  go_wp2_with fail
  (try simp only [Exit.inBlock, Exit.then])
  refine wret (w := w) (.int .i64 0) (.string ⟨#[]⟩) (.slice none 0 0) (.bool false) (.string line) (.slice a ln lc) (.int .i64 (p : Int)) (.int .i64 (i : Int)) (.int .i64 (n1 : Int)) _ HD.out.1 HD.out.2.1 rfl rfl rfl ?_
  exact ⟨⟨p, i, n1, rfl⟩, HD.out.2.2.drew⟩
set_option maxRecDepth 100000 in
set_option maxHeartbeats 4000000 in
theorem word_many_brack (line : ByteArray) (a : Option Addr) (ln lc : Nat) (p i n d : Nat) (w : World) (hp : p < line.size) (hs : line.size ≤ 4096) (hn : n = 512) (h1 : bt (L line) p = 91) :
    Calls Tryd.prog 72 #[cuV line (.slice a ln lc) p i n, .int .i64 (d : Int)] w fun e w' => wBad line (.slice a ln lc) 34 e ∧ Below w.heap.size w w' := by
  obtain ⟨n1, hn1⟩ : ∃ k, k = n + 1 := ⟨_, rfl⟩
  have hnz : (512 : Int) < (n1 : Int) := by omega
  have hn0 : n ≤ 512 := by omega
  have HN1 := Lib.hid hn1
  clear hn hn1
  have hll := L_length line
  have HA := Lib.hid (fun w => rann_any line p w hp (by omega))
  have ea := get_btx line p hp
  have eb : (line[p]'hp).toNat = 91 := by rw [ea, h1]; rfl
  have HW : Hid (∀ w, Calls Tryd.prog 91 #[.int .u8 91] w fun e w' => e = .returned (.bool false) ∧ w' = w) := Lib.hid (fun w => atomByte_any 91 w)
  clear ea h1
  generalize annI ((L line).drop p) = ai at *
  have hp0 : (0 : Int) ≤ (p : Int) := by omega
  have hpz : (p : Int) < (line.size : Int) := by omega
  generalize annM ((L line).drop p) = am at *
  generalize annQ ((L line).drop p) = aq at *
  generalize annZ p ((L line).drop p) = az at *
  have HQ := Lib.hid (qs_start w line a ln lc p i n)
  generalize hX : ((w.alloc (.cells #[.string line, .slice a ln lc, .int .i64 (p : Int), .int .i64 (i : Int), .int .i64 (n : Int)] 81)).alloc (.cells #[.int .i64 0, .string ⟨#[]⟩, .slice none 0 0, .bool false] 33)).alloc (.cells #[.string ⟨#[]⟩, .slice none 0 0, .int .i64 0, .int .i64 0, .int .i64 0] 81) = X at HQ
  unfold cuV
  go_enter Tryd.func72, Tryd.ntmps72
  go_upto_region 1 with fail
  try rw [hX]
  clear hX
  obtain ⟨q0, q1, q2, q3, q4⟩ := HQ.out.cells
  go_upto_region 3 with (go_at_call 47; refine (HA.out _).mono ?_; rintro e w7 ⟨rfl, hw7⟩; subst w7)
  obtain ⟨fz, HQ2⟩ := HQ.out.tally n1 ((n : Int) + 1) (by have := HN1.out; omega)
  replace HQ2 := Lib.hid HQ2
  go_upto_region 6 with (go_at_call 91; refine (HW.out _).mono ?_; rintro e w7 ⟨rfl, hw7⟩; subst w7)
  generalize X.setCell ⟨w.heap.size, 4, none⟩ (.int .i64 ((n : Int) + 1)) = X2 at HQ2 ⊢
  clear q0 q1 q2 q3 q4 fz HQ
  obtain ⟨q0, q1, q2, q3, q4⟩ := HQ2.out.cells
  have h1 := HQ2.out.wd
  have h2 := HQ2.out.cu2
  have c10 := cell_of_row _ _ 0 _ _ _ h1
  have c11 := cell_of_row _ _ 1 _ _ _ h1
  have c12 := cell_of_row _ _ 2 _ _ _ h1
  have c13 := cell_of_row _ _ 3 _ _ _ h1
  have c20 := cell_of_row _ _ 0 _ _ _ h2
  have c21 := cell_of_row _ _ 1 _ _ _ h2
  have c22 := cell_of_row _ _ 2 _ _ _ h2
  have c23 := cell_of_row _ _ 3 _ _ _ h2
  have c24 := cell_of_row _ _ 4 _ _ _ h2
  have f1 : ∀ j, X2.frozen? ⟨w.heap.size + 1, j, none⟩ = false := fun j => frozen_of_row _ _ _ _ _ h1
  have f2 : ∀ j, X2.frozen? ⟨w.heap.size + 1 + 1, j, none⟩ = false := fun j => frozen_of_row _ _ _ _ _ h2
  clear h1 h2
  have HD := Lib.hid (HQ2.out.done (.int .i64 0) (.string ⟨#[]⟩) (.slice none 0 0) (.bool false) (.string line) (.slice a ln lc) (.int .i64 (p : Int)) (.int .i64 (i : Int)) (.int .i64 (n1 : Int)))
  go_upto_region 7 with fail
  go_region
  go_wp2_with fail
  (try simp only [Exit.inBlock, Exit.then])
  refine wret (w := w) (.int .i64 0) (.string ⟨#[]⟩) (.slice none 0 0) (.bool false) (.string line) (.slice a ln lc) (.int .i64 (p : Int)) (.int .i64 (i : Int)) (.int .i64 (n1 : Int)) _ HD.out.1 HD.out.2.1 rfl rfl rfl ?_
  exact ⟨⟨p, i, n1, rfl⟩, HD.out.2.2.drew⟩
set_option maxRecDepth 100000 in
set_option maxHeartbeats 4000000 in
theorem word_many_ann (line : ByteArray) (a : Option Addr) (ln lc : Nat) (p i n d : Nat) (w : World) (hp : p < line.size) (hs : line.size ≤ 4096) (hn : n = 512) (h1 : bt (L line) p = 123) (h5 : annI ((L line).drop p) = true) :
    Calls Tryd.prog 72 #[cuV line (.slice a ln lc) p i n, .int .i64 (d : Int)] w fun e w' => wBad line (.slice a ln lc) 34 e ∧ Below w.heap.size w w' := by
  obtain ⟨n1, hn1⟩ : ∃ k, k = n + 1 := ⟨_, rfl⟩
  have hnz : (512 : Int) < (n1 : Int) := by omega
  have hn0 : n ≤ 512 := by omega
  have HN1 := Lib.hid hn1
  clear hn hn1
  obtain ⟨nn, hnn⟩ : ∃ k, k = annN ((L line).drop p) := ⟨_, rfl⟩
  obtain ⟨zz, hzz⟩ : ∃ k, k = p + annS ((L line).drop p) := ⟨_, rfl⟩
  have HNN := Lib.hid hnn
  have HZZ := Lib.hid hzz
  clear hnn hzz
  have hll := L_length line
  have HA := Lib.hid (fun w => rann_any line p w hp (by omega))
  have ea := get_btx line p hp
  have eb : (line[p]'hp).toNat = 123 := by rw [ea, h1]; rfl
  have HW : Hid (∀ w, Calls Tryd.prog 91 #[.int .u8 123] w fun e w' => e = .returned (.bool false) ∧ w' = w) := Lib.hid (fun w => atomByte_any 123 w)
  clear ea h1
  have hM : annM ((L line).drop p) = (nn : Int) := by unfold annM; rw [if_pos h5, HNN.out]
  have hZ : annZ p ((L line).drop p) = (zz : Int) := by unfold annZ; rw [if_pos h5, HZZ.out]
  rw [h5, hM, hZ] at HA
  clear h5 hM hZ
  have hp0 : (0 : Int) ≤ (p : Int) := by omega
  have hpz : (p : Int) < (line.size : Int) := by omega
  generalize annQ ((L line).drop p) = aq at HA
  have HQ := Lib.hid (qs_start w line a ln lc p i n)
  generalize hX : ((w.alloc (.cells #[.string line, .slice a ln lc, .int .i64 (p : Int), .int .i64 (i : Int), .int .i64 (n : Int)] 81)).alloc (.cells #[.int .i64 0, .string ⟨#[]⟩, .slice none 0 0, .bool false] 33)).alloc (.cells #[.string ⟨#[]⟩, .slice none 0 0, .int .i64 0, .int .i64 0, .int .i64 0] 81) = X at HQ
  unfold cuV
  go_enter Tryd.func72, Tryd.ntmps72
  go_upto_region 1 with fail
  try rw [hX]
  clear hX
  obtain ⟨q0, q1, q2, q3, q4⟩ := HQ.out.cells
  go_upto_region 3 with (go_at_call 47; refine (HA.out _).mono ?_; rintro e w7 ⟨rfl, hw7⟩; subst w7)
  obtain ⟨fz, HQ2⟩ := HQ.out.tally n1 ((n : Int) + 1) (by have := HN1.out; omega)
  replace HQ2 := Lib.hid HQ2
  go_upto_region 6 with (go_at_call 91; refine (HW.out _).mono ?_; rintro e w7 ⟨rfl, hw7⟩; subst w7)
  generalize X.setCell ⟨w.heap.size, 4, none⟩ (.int .i64 ((n : Int) + 1)) = X2 at HQ2 ⊢
  clear q0 q1 q2 q3 q4 fz HQ
  obtain ⟨q0, q1, q2, q3, q4⟩ := HQ2.out.cells
  have h1 := HQ2.out.wd
  have h2 := HQ2.out.cu2
  have c10 := cell_of_row _ _ 0 _ _ _ h1
  have c11 := cell_of_row _ _ 1 _ _ _ h1
  have c12 := cell_of_row _ _ 2 _ _ _ h1
  have c13 := cell_of_row _ _ 3 _ _ _ h1
  have c20 := cell_of_row _ _ 0 _ _ _ h2
  have c21 := cell_of_row _ _ 1 _ _ _ h2
  have c22 := cell_of_row _ _ 2 _ _ _ h2
  have c23 := cell_of_row _ _ 3 _ _ _ h2
  have c24 := cell_of_row _ _ 4 _ _ _ h2
  have f1 : ∀ j, X2.frozen? ⟨w.heap.size + 1, j, none⟩ = false := fun j => frozen_of_row _ _ _ _ _ h1
  have f2 : ∀ j, X2.frozen? ⟨w.heap.size + 1 + 1, j, none⟩ = false := fun j => frozen_of_row _ _ _ _ _ h2
  clear h1 h2
  have HD := Lib.hid (HQ2.out.done (.int .i64 0) (.string ⟨#[]⟩) (.slice none 0 0) (.bool false) (.string line) (.slice a ln lc) (.int .i64 (p : Int)) (.int .i64 (i : Int)) (.int .i64 (n1 : Int)))
  go_upto_region 7 with fail
  go_region
  go_wp2_with fail
  (try simp only [Exit.inBlock, Exit.then])
  refine wret (w := w) (.int .i64 0) (.string ⟨#[]⟩) (.slice none 0 0) (.bool false) (.string line) (.slice a ln lc) (.int .i64 (p : Int)) (.int .i64 (i : Int)) (.int .i64 (n1 : Int)) _ HD.out.1 HD.out.2.1 rfl rfl rfl ?_
  exact ⟨⟨p, i, n1, rfl⟩, HD.out.2.2.drew⟩
end Go.Proofs.YtliiapdakojomabDoor

/- lex: the document's word: a quoted one. -/
namespace Go.Proofs.YtliiapdakojomabDoor
open Go.RowKit

def qRel (p d : Nat) (kd : Int) (t : ByteArray) (p' : Nat) (code : Int) : Qr → Prop
  | .done t' m => code = 0 ∧ kd = 2 ∧ t = S t' ∧ p' = p + m
  | .bad => code = 31
  | .cut => code = if 0 < d then 33 else 31
theorem rquoted_rel (line : ByteArray) (a : Option Addr) (ln lc : Nat) (p i n d : Nat) (w : World) (hp : p ≤ line.size) (hs : line.size ≤ 4096) :
    Calls Tryd.prog 92 #[.agg #[.string line, .slice a ln lc, .int .i64 (p : Int), .int .i64 (i : Int), .int .i64 (n : Int)], .int .i64 (d : Int)] w fun e w' => (∃ kd t p' code, e = .returned (.tuple #[.agg #[.int .i64 kd, .string t, .slice none 0 0, .bool false], .agg #[.string line, .slice a ln lc, .int .i64 ((p' : Nat) : Int), .int .i64 (i : Int), .int .i64 (n : Int)], .int .i64 code]) ∧ qRel p d kd t p' code (quo ((L line).drop p) false [] 0)) ∧ Below w.heap.size w w' := by
  refine (rquoted_any line a ln lc p i n d w hp hs).mono ?_
  rintro e w' ⟨hq, hb⟩
  refine ⟨?_, hb⟩
  cases hz : quo ((L line).drop p) false [] 0 with
  | done t m =>
    rw [hz] at hq
    exact ⟨2, S t, p + m, 0, hq, rfl, rfl, rfl, rfl⟩
  | bad =>
    rw [hz] at hq
    obtain ⟨p', hq⟩ := hq
    exact ⟨0, ⟨#[]⟩, p', 31, hq, rfl⟩
  | cut =>
    rw [hz] at hq
    obtain ⟨p', hq⟩ := hq
    exact ⟨0, ⟨#[]⟩, p', _, hq, rfl⟩
def woQ (p i n d : Nat) : Qr → Wo
  | .bad => .bad 31
  | .cut => .bad (if 0 < d then 33 else 31)
  | .done t m => .ok (.mk 2 (S t) [] false) ⟨p + 1 + m, i, n + 1⟩
theorem woQ_rel {w w' : World} {p i n d n1 p1 : Nat} {kd : Int} {t : ByteArray} {p' : Nat} {code : Int} {q : Qr} (h : qRel p1 d kd t p' code q) (hp : p1 = p + 1) (hn : n1 = n + 1) : woRel w w' none 0 0 kd t p' i n1 code (woQ p i n d q) := by
  subst hp hn
  cases q with
  | done t' m =>
    obtain ⟨a1, a2, a3, a4⟩ := h
    exact ⟨a1, a2, a3, rfl, a4, rfl, rfl, .nil⟩
  | bad => exact h
  | cut => exact h
set_option maxRecDepth 100000 in
set_option maxHeartbeats 4000000 in
theorem word_quote (line : ByteArray) (a : Option Addr) (ln lc : Nat) (p i n d : Nat) (w : World) (hp : p < line.size) (hs : line.size ≤ 4096) (hn : n < 512) (h1 : bt (L line) p = 34) :
    Calls Tryd.prog 72 #[cuV line (.slice a ln lc) p i n, .int .i64 (d : Int)] w fun e w' => woOut line (.slice a ln lc) w w' (woQ p i n d (quo ((L line).drop (p + 1)) false [] 0)) e ∧ Below w.heap.size w w' := by
  obtain ⟨p1, hp1⟩ : ∃ k, k = p + 1 := ⟨_, rfl⟩
  obtain ⟨n1, hn1⟩ : ∃ k, k = n + 1 := ⟨_, rfl⟩
  have hnz : ¬ (512 : Int) < (n1 : Int) := by omega
  have hn0 : n ≤ 512 := by omega
  have HN1 := Lib.hid hn1
  clear hn hn1
  have HU := Lib.hid (fun W => rquoted_rel line a ln lc p1 i n1 d W (by omega) hs)
  rw [← hp1]
  generalize quo ((L line).drop p1) false [] 0 = qq at *
  have HP1 := Lib.hid hp1
  clear hp1
  have hll := L_length line
  have HA := Lib.hid (fun w => rann_any line p w hp (by omega))
  have ea := get_btx line p hp
  have eb : (line[p]'hp).toNat = 34 := by rw [ea, h1]; rfl
  have HW : Hid (∀ w, Calls Tryd.prog 91 #[.int .u8 34] w fun e w' => e = .returned (.bool false) ∧ w' = w) := Lib.hid (fun w => atomByte_any 34 w)
  clear ea h1
  generalize annI ((L line).drop p) = ai at *
  have hp0 : (0 : Int) ≤ (p : Int) := by omega
  have hpz : (p : Int) < (line.size : Int) := by omega
  generalize annM ((L line).drop p) = am at *
  generalize annQ ((L line).drop p) = aq at *
  generalize annZ p ((L line).drop p) = az at *
  have HQ := Lib.hid (qs_start w line a ln lc p i n)
  generalize hX : ((w.alloc (.cells #[.string line, .slice a ln lc, .int .i64 (p : Int), .int .i64 (i : Int), .int .i64 (n : Int)] 81)).alloc (.cells #[.int .i64 0, .string ⟨#[]⟩, .slice none 0 0, .bool false] 33)).alloc (.cells #[.string ⟨#[]⟩, .slice none 0 0, .int .i64 0, .int .i64 0, .int .i64 0] 81) = X at HQ
  unfold cuV
  go_enter Tryd.func72, Tryd.ntmps72
  go_upto_region 1 with fail
  try rw [hX]
  clear hX
  obtain ⟨q0, q1, q2, q3, q4⟩ := HQ.out.cells
  go_upto_region 3 with (go_at_call 47; refine (HA.out _).mono ?_; rintro e w7 ⟨rfl, hw7⟩; subst w7)
  obtain ⟨fz, HQ2⟩ := HQ.out.tally n1 ((n : Int) + 1) (by have := HN1.out; omega)
  replace HQ2 := Lib.hid HQ2
  go_upto_region 6 with (go_at_call 91; refine (HW.out _).mono ?_; rintro e w7 ⟨rfl, hw7⟩; subst w7)
  generalize X.setCell ⟨w.heap.size, 4, none⟩ (.int .i64 ((n : Int) + 1)) = X2 at HQ2 ⊢
  clear q0 q1 q2 q3 q4 fz HQ
  obtain ⟨q0, q1, q2, q3, q4⟩ := HQ2.out.cells
  obtain ⟨fz, HQ3⟩ := HQ2.out.move p1 ((p : Int) + 1) (by have := HP1.out; omega)
  replace HQ3 := Lib.hid HQ3
  go_upto_region 10 with fail
  generalize X2.setCell ⟨w.heap.size, 2, none⟩ (.int .i64 ((p : Int) + 1)) = X3 at HQ3 ⊢
  clear q0 q1 q2 q3 q4 fz HQ2
  obtain ⟨q0, q1, q2, q3, q4⟩ := HQ3.out.cells
  go_wp2_with (go_at_call 92; refine (HU.out _).mono ?_; rintro e w7 ⟨⟨kd, t, p7, code, rfl, hrel⟩, hb7⟩; have HR := Lib.hid hrel; have HQ7 := Lib.hid (HQ3.out.on hb7); clear hrel hb7 HQ3 q0 q1 q2 q3 q4; have h1 := HQ7.out.wd; have h2 := HQ7.out.cu2; have c10 := cell_of_row _ _ 0 _ _ _ h1; have c11 := cell_of_row _ _ 1 _ _ _ h1; have c12 := cell_of_row _ _ 2 _ _ _ h1; have c13 := cell_of_row _ _ 3 _ _ _ h1; have c20 := cell_of_row _ _ 0 _ _ _ h2; have c21 := cell_of_row _ _ 1 _ _ _ h2; have c22 := cell_of_row _ _ 2 _ _ _ h2; have c23 := cell_of_row _ _ 3 _ _ _ h2; have c24 := cell_of_row _ _ 4 _ _ _ h2; have f1 : ∀ j, w7.frozen? ⟨w.heap.size + 1, j, none⟩ = false := fun j => frozen_of_row _ _ _ _ _ h1; have f2 : ∀ j, w7.frozen? ⟨w.heap.size + 1 + 1, j, none⟩ = false := fun j => frozen_of_row _ _ _ _ _ h2; clear h1 h2)
  have HD := Lib.hid (HQ7.out.done (.int .i64 kd) (.string t) (.slice none 0 0) (.bool false) (.string line) (.slice a ln lc) (.int .i64 (p7 : Int)) (.int .i64 (i : Int)) (.int .i64 (n1 : Int)))
  (try simp only [Exit.inBlock, Exit.then])
  refine wretP (w := w) (.int .i64 kd) (.string t) (.slice none 0 0) (.bool false) (.string line) (.slice a ln lc) (.int .i64 (p7 : Int)) (.int .i64 (i : Int)) (.int .i64 (n1 : Int)) _ HD.out.1 HD.out.2.1 rfl rfl rfl ?_
  exact ⟨⟨none, 0, 0, kd, t, p7, i, n1, code, rfl, woQ_rel HR.out HP1.out HN1.out⟩, HD.out.2.2⟩
end Go.Proofs.YtliiapdakojomabDoor

/- lex: the document's word: too deep. -/
namespace Go.Proofs.YtliiapdakojomabDoor
open Go.RowKit

set_option maxRecDepth 100000 in
set_option maxHeartbeats 4000000 in
theorem word_deep_open (line : ByteArray) (a : Option Addr) (ln lc : Nat) (p i n d : Nat) (w : World) (hp : p < line.size) (hs : line.size ≤ 4096) (hn : n < 512) (hd : 12 ≤ d) (hd2 : d ≤ 1000) (h1 : bt (L line) p = 40) :
    Calls Tryd.prog 72 #[cuV line (.slice a ln lc) p i n, .int .i64 (d : Int)] w fun e w' => wBad line (.slice a ln lc) 33 e ∧ Below w.heap.size w w' := by
  have hdz : (12 : Int) ≤ (d : Int) := by omega
  obtain ⟨n1, hn1⟩ : ∃ k, k = n + 1 := ⟨_, rfl⟩
  have hnz : ¬ (512 : Int) < (n1 : Int) := by omega
  have hn0 : n ≤ 512 := by omega
  have HN1 := Lib.hid hn1
  clear hn hn1
  have hll := L_length line
  have HA := Lib.hid (fun w => rann_any line p w hp (by omega))
  have ea := get_btx line p hp
  have eb : (line[p]'hp).toNat = 40 := by rw [ea, h1]; rfl
  have HW : Hid (∀ w, Calls Tryd.prog 91 #[.int .u8 40] w fun e w' => e = .returned (.bool false) ∧ w' = w) := Lib.hid (fun w => atomByte_any 40 w)
  clear ea h1
  generalize annI ((L line).drop p) = ai at *
  have hp0 : (0 : Int) ≤ (p : Int) := by omega
  have hpz : (p : Int) < (line.size : Int) := by omega
  generalize annM ((L line).drop p) = am at *
  generalize annQ ((L line).drop p) = aq at *
  generalize annZ p ((L line).drop p) = az at *
  have HQ := Lib.hid (qs_start w line a ln lc p i n)
  generalize hX : ((w.alloc (.cells #[.string line, .slice a ln lc, .int .i64 (p : Int), .int .i64 (i : Int), .int .i64 (n : Int)] 81)).alloc (.cells #[.int .i64 0, .string ⟨#[]⟩, .slice none 0 0, .bool false] 33)).alloc (.cells #[.string ⟨#[]⟩, .slice none 0 0, .int .i64 0, .int .i64 0, .int .i64 0] 81) = X at HQ
  unfold cuV
  go_enter Tryd.func72, Tryd.ntmps72
  go_upto_region 1 with fail
  try rw [hX]
  clear hX
  obtain ⟨q0, q1, q2, q3, q4⟩ := HQ.out.cells
  go_upto_region 3 with (go_at_call 47; refine (HA.out _).mono ?_; rintro e w7 ⟨rfl, hw7⟩; subst w7)
  obtain ⟨fz, HQ2⟩ := HQ.out.tally n1 ((n : Int) + 1) (by have := HN1.out; omega)
  replace HQ2 := Lib.hid HQ2
  go_upto_region 6 with (go_at_call 91; refine (HW.out _).mono ?_; rintro e w7 ⟨rfl, hw7⟩; subst w7)
  generalize X.setCell ⟨w.heap.size, 4, none⟩ (.int .i64 ((n : Int) + 1)) = X2 at HQ2 ⊢
  clear q0 q1 q2 q3 q4 fz HQ
  obtain ⟨q0, q1, q2, q3, q4⟩ := HQ2.out.cells
  have h1 := HQ2.out.wd
  have h2 := HQ2.out.cu2
  have c10 := cell_of_row _ _ 0 _ _ _ h1
  have c11 := cell_of_row _ _ 1 _ _ _ h1
  have c12 := cell_of_row _ _ 2 _ _ _ h1
  have c13 := cell_of_row _ _ 3 _ _ _ h1
  have c20 := cell_of_row _ _ 0 _ _ _ h2
  have c21 := cell_of_row _ _ 1 _ _ _ h2
  have c22 := cell_of_row _ _ 2 _ _ _ h2
  have c23 := cell_of_row _ _ 3 _ _ _ h2
  have c24 := cell_of_row _ _ 4 _ _ _ h2
  have f1 : ∀ j, X2.frozen? ⟨w.heap.size + 1, j, none⟩ = false := fun j => frozen_of_row _ _ _ _ _ h1
  have f2 : ∀ j, X2.frozen? ⟨w.heap.size + 1 + 1, j, none⟩ = false := fun j => frozen_of_row _ _ _ _ _ h2
  clear h1 h2
  have HD := Lib.hid (HQ2.out.done (.int .i64 0) (.string ⟨#[]⟩) (.slice none 0 0) (.bool false) (.string line) (.slice a ln lc) (.int .i64 (p : Int)) (.int .i64 (i : Int)) (.int .i64 (n1 : Int)))
  go_upto_region 13 with fail
  go_region
  go_wp2_with fail
  (try simp only [Exit.inBlock, Exit.then])
  refine wret (w := w) (.int .i64 0) (.string ⟨#[]⟩) (.slice none 0 0) (.bool false) (.string line) (.slice a ln lc) (.int .i64 (p : Int)) (.int .i64 (i : Int)) (.int .i64 (n1 : Int)) _ HD.out.1 HD.out.2.1 rfl rfl rfl ?_
  exact ⟨⟨p, i, n1, rfl⟩, HD.out.2.2.drew⟩
set_option maxRecDepth 100000 in
set_option maxHeartbeats 4000000 in
theorem word_deep_brack (line : ByteArray) (a : Option Addr) (ln lc : Nat) (p i n d : Nat) (w : World) (hp : p < line.size) (hs : line.size ≤ 4096) (hn : n < 512) (hd : 12 ≤ d) (hd2 : d ≤ 1000) (h1 : bt (L line) p = 91) :
    Calls Tryd.prog 72 #[cuV line (.slice a ln lc) p i n, .int .i64 (d : Int)] w fun e w' => wBad line (.slice a ln lc) 33 e ∧ Below w.heap.size w w' := by
  have hdz : (12 : Int) ≤ (d : Int) := by omega
  obtain ⟨n1, hn1⟩ : ∃ k, k = n + 1 := ⟨_, rfl⟩
  have hnz : ¬ (512 : Int) < (n1 : Int) := by omega
  have hn0 : n ≤ 512 := by omega
  have HN1 := Lib.hid hn1
  clear hn hn1
  have hll := L_length line
  have HA := Lib.hid (fun w => rann_any line p w hp (by omega))
  have ea := get_btx line p hp
  have eb : (line[p]'hp).toNat = 91 := by rw [ea, h1]; rfl
  have HW : Hid (∀ w, Calls Tryd.prog 91 #[.int .u8 91] w fun e w' => e = .returned (.bool false) ∧ w' = w) := Lib.hid (fun w => atomByte_any 91 w)
  clear ea h1
  generalize annI ((L line).drop p) = ai at *
  have hp0 : (0 : Int) ≤ (p : Int) := by omega
  have hpz : (p : Int) < (line.size : Int) := by omega
  generalize annM ((L line).drop p) = am at *
  generalize annQ ((L line).drop p) = aq at *
  generalize annZ p ((L line).drop p) = az at *
  have HQ := Lib.hid (qs_start w line a ln lc p i n)
  generalize hX : ((w.alloc (.cells #[.string line, .slice a ln lc, .int .i64 (p : Int), .int .i64 (i : Int), .int .i64 (n : Int)] 81)).alloc (.cells #[.int .i64 0, .string ⟨#[]⟩, .slice none 0 0, .bool false] 33)).alloc (.cells #[.string ⟨#[]⟩, .slice none 0 0, .int .i64 0, .int .i64 0, .int .i64 0] 81) = X at HQ
  unfold cuV
  go_enter Tryd.func72, Tryd.ntmps72
  go_upto_region 1 with fail
  try rw [hX]
  clear hX
  obtain ⟨q0, q1, q2, q3, q4⟩ := HQ.out.cells
  go_upto_region 3 with (go_at_call 47; refine (HA.out _).mono ?_; rintro e w7 ⟨rfl, hw7⟩; subst w7)
  obtain ⟨fz, HQ2⟩ := HQ.out.tally n1 ((n : Int) + 1) (by have := HN1.out; omega)
  replace HQ2 := Lib.hid HQ2
  go_upto_region 6 with (go_at_call 91; refine (HW.out _).mono ?_; rintro e w7 ⟨rfl, hw7⟩; subst w7)
  generalize X.setCell ⟨w.heap.size, 4, none⟩ (.int .i64 ((n : Int) + 1)) = X2 at HQ2 ⊢
  clear q0 q1 q2 q3 q4 fz HQ
  obtain ⟨q0, q1, q2, q3, q4⟩ := HQ2.out.cells
  have h1 := HQ2.out.wd
  have h2 := HQ2.out.cu2
  have c10 := cell_of_row _ _ 0 _ _ _ h1
  have c11 := cell_of_row _ _ 1 _ _ _ h1
  have c12 := cell_of_row _ _ 2 _ _ _ h1
  have c13 := cell_of_row _ _ 3 _ _ _ h1
  have c20 := cell_of_row _ _ 0 _ _ _ h2
  have c21 := cell_of_row _ _ 1 _ _ _ h2
  have c22 := cell_of_row _ _ 2 _ _ _ h2
  have c23 := cell_of_row _ _ 3 _ _ _ h2
  have c24 := cell_of_row _ _ 4 _ _ _ h2
  have f1 : ∀ j, X2.frozen? ⟨w.heap.size + 1, j, none⟩ = false := fun j => frozen_of_row _ _ _ _ _ h1
  have f2 : ∀ j, X2.frozen? ⟨w.heap.size + 1 + 1, j, none⟩ = false := fun j => frozen_of_row _ _ _ _ _ h2
  clear h1 h2
  have HD := Lib.hid (HQ2.out.done (.int .i64 0) (.string ⟨#[]⟩) (.slice none 0 0) (.bool false) (.string line) (.slice a ln lc) (.int .i64 (p : Int)) (.int .i64 (i : Int)) (.int .i64 (n1 : Int)))
  go_upto_region 13 with fail
  go_region
  go_wp2_with fail
  (try simp only [Exit.inBlock, Exit.then])
  refine wret (w := w) (.int .i64 0) (.string ⟨#[]⟩) (.slice none 0 0) (.bool false) (.string line) (.slice a ln lc) (.int .i64 (p : Int)) (.int .i64 (i : Int)) (.int .i64 (n1 : Int)) _ HD.out.1 HD.out.2.1 rfl rfl rfl ?_
  exact ⟨⟨p, i, n1, rfl⟩, HD.out.2.2.drew⟩
end Go.Proofs.YtliiapdakojomabDoor

/- lex: the document's word: a list. -/
namespace Go.Proofs.YtliiapdakojomabDoor
open Go.RowKit

set_option maxRecDepth 100000 in
set_option maxHeartbeats 4000000 in
theorem word_list_open (line : ByteArray) (a : Option Addr) (ln lc : Nat) (p i n d : Nat) (w : World) (hp : p < line.size) (hs : line.size ≤ 4096) (hn : n < 512) (hd : d < 12) (h1 : bt (L line) p = 40) (o : Out) (ih : ∀ W, Below w.heap.size w W → Calls Tryd.prog 48 #[cuV line (.slice a ln lc) (p + 1) i (n + 1), .int .i64 ((d + 1 : Nat) : Int), .int .u8 41] W fun e w' => wsOut line (.slice a ln lc) W w' o e ∧ Below W.heap.size W w') :
    Calls Tryd.prog 72 #[cuV line (.slice a ln lc) p i n, .int .i64 (d : Int)] w fun e w' => woOut line (.slice a ln lc) w w' (woL 4 o) e ∧ Below w.heap.size w w' := by
  obtain ⟨p1, hp1⟩ : ∃ k, k = p + 1 := ⟨_, rfl⟩
  have hdz : ¬ (12 : Int) ≤ (d : Int) := by omega
  have hd0 : (0 : Int) ≤ (d : Int) := by omega
  have hd9 : (d : Int) < 12 := by omega
  obtain ⟨n1, hn1⟩ : ∃ k, k = n + 1 := ⟨_, rfl⟩
  have hnz : ¬ (512 : Int) < (n1 : Int) := by omega
  have hn0 : n ≤ 512 := by omega
  have HN1 := Lib.hid hn1
  clear hn hn1
  rw [← hp1, ← HN1.out] at ih
  have HU := Lib.hid ih
  have HP1 := Lib.hid hp1
  clear hp1 ih
  have hll := L_length line
  have HA := Lib.hid (fun w => rann_any line p w hp (by omega))
  have ea := get_btx line p hp
  have eb : (line[p]'hp).toNat = 40 := by rw [ea, h1]; rfl
  have HW : Hid (∀ w, Calls Tryd.prog 91 #[.int .u8 40] w fun e w' => e = .returned (.bool false) ∧ w' = w) := Lib.hid (fun w => atomByte_any 40 w)
  clear ea h1
  generalize annI ((L line).drop p) = ai at *
  have hp0 : (0 : Int) ≤ (p : Int) := by omega
  have hpz : (p : Int) < (line.size : Int) := by omega
  generalize annM ((L line).drop p) = am at *
  generalize annQ ((L line).drop p) = aq at *
  generalize annZ p ((L line).drop p) = az at *
  have HQ := Lib.hid (qs_start w line a ln lc p i n)
  generalize hX : ((w.alloc (.cells #[.string line, .slice a ln lc, .int .i64 (p : Int), .int .i64 (i : Int), .int .i64 (n : Int)] 81)).alloc (.cells #[.int .i64 0, .string ⟨#[]⟩, .slice none 0 0, .bool false] 33)).alloc (.cells #[.string ⟨#[]⟩, .slice none 0 0, .int .i64 0, .int .i64 0, .int .i64 0] 81) = X at HQ
  unfold cuV
  go_enter Tryd.func72, Tryd.ntmps72
  go_upto_region 1 with fail
  try rw [hX]
  clear hX
  obtain ⟨q0, q1, q2, q3, q4⟩ := HQ.out.cells
  go_upto_region 3 with (go_at_call 47; refine (HA.out _).mono ?_; rintro e w7 ⟨rfl, hw7⟩; subst w7)
  obtain ⟨fz, HQ2⟩ := HQ.out.tally n1 ((n : Int) + 1) (by have := HN1.out; omega)
  replace HQ2 := Lib.hid HQ2
  go_upto_region 6 with (go_at_call 91; refine (HW.out _).mono ?_; rintro e w7 ⟨rfl, hw7⟩; subst w7)
  generalize X.setCell ⟨w.heap.size, 4, none⟩ (.int .i64 ((n : Int) + 1)) = X2 at HQ2 ⊢
  clear q0 q1 q2 q3 q4 fz HQ
  obtain ⟨q0, q1, q2, q3, q4⟩ := HQ2.out.cells
  obtain ⟨fz, HQ3⟩ := HQ2.out.move p1 ((p : Int) + 1) (by have := HP1.out; omega)
  replace HQ3 := Lib.hid HQ3
  go_upto_region 15 with fail
  generalize X2.setCell ⟨w.heap.size, 2, none⟩ (.int .i64 ((p : Int) + 1)) = X3 at HQ3 ⊢
  clear q0 q1 q2 q3 q4 fz HQ2
  obtain ⟨q0, q1, q2, q3, q4⟩ := HQ3.out.cells
  go_upto_region 21 with (go_at_call 48; refine (HU.out _ HQ3.out.below).mono ?_; rintro e w7 ⟨⟨a7, m7, c7, p7, i7, n7, code, rfl, hrel⟩, hb7⟩; have HR := Lib.hid hrel; have HB7 := Lib.hid hb7; have HQ7 := Lib.hid (HQ3.out.on hb7); have HS3 := Lib.hid HQ3.out.size; clear hrel hb7 HQ3 q0 q1 q2 q3 q4; unfold cuV)
  have HA5 := Lib.hid (alloc5 w7 (.string line) (.slice a ln lc) (.int .i64 (p7 : Int)) (.int .i64 (i7 : Int)) (.int .i64 (n7 : Int)))
  generalize w7.alloc (.cells #[.string line, .slice a ln lc, .int .i64 (p7 : Int), .int .i64 (i7 : Int), .int .i64 (n7 : Int)] 81) = X8 at HA5 ⊢
  obtain ⟨hr8, hb8⟩ := HA5.out
  have HQ8 := Lib.hid (HQ7.out.on hb8)
  have HR8 : Hid (∀ ws, Lies w7 (fun g => X3.heap.size ≤ g) a7 m7 c7 ws → Lies X8 (fun g => X3.heap.size ≤ g) a7 m7 c7 ws) := Lib.hid (fun ws h => h.on hb8)
  have hsz := HQ7.out.size
  clear HA5 hb8 HQ7 HB7
  generalize w7.heap.size = g at *
  have hne0 : g ≠ w.heap.size := by omega
  have hne1 : g ≠ w.heap.size + 1 := by omega
  have hne2 : g ≠ w.heap.size + 1 + 1 := by omega
  clear hsz
  have g0 := cell_of_row _ _ 0 _ _ _ hr8
  have g1 := cell_of_row _ _ 1 _ _ _ hr8
  have g2 := cell_of_row _ _ 2 _ _ _ hr8
  have g3 := cell_of_row _ _ 3 _ _ _ hr8
  have g4 := cell_of_row _ _ 4 _ _ _ hr8
  obtain ⟨q0, q1, q2, q3, q4⟩ := HQ8.out.cells
  have h1 := HQ8.out.wd
  have h2 := HQ8.out.cu2
  have c10 := cell_of_row _ _ 0 _ _ _ h1
  have c11 := cell_of_row _ _ 1 _ _ _ h1
  have c12 := cell_of_row _ _ 2 _ _ _ h1
  have c13 := cell_of_row _ _ 3 _ _ _ h1
  have c20 := cell_of_row _ _ 0 _ _ _ h2
  have c21 := cell_of_row _ _ 1 _ _ _ h2
  have c22 := cell_of_row _ _ 2 _ _ _ h2
  have c23 := cell_of_row _ _ 3 _ _ _ h2
  have c24 := cell_of_row _ _ 4 _ _ _ h2
  have f1 : ∀ j, X8.frozen? ⟨w.heap.size + 1, j, none⟩ = false := fun j => frozen_of_row _ _ _ _ _ h1
  have f2 : ∀ j, X8.frozen? ⟨w.heap.size + 1 + 1, j, none⟩ = false := fun j => frozen_of_row _ _ _ _ _ h2
  clear h1 h2
  have HD := Lib.hid (HQ8.out.done (.int .i64 4) (.string ⟨#[]⟩) (.slice a7 m7 c7) (.bool false) (.string line) (.slice a ln lc) (.int .i64 (p7 : Int)) (.int .i64 (i7 : Int)) (.int .i64 (n7 : Int)))
  go_upto_region 21 with fail
  go_region
  all_goals (go_wp2_with fail; (try simp only [Exit.inBlock, Exit.then]); refine wret (w := w) (.int .i64 4) (.string ⟨#[]⟩) (.slice a7 m7 c7) (.bool false) (.string line) (.slice a ln lc) (.int .i64 (p7 : Int)) (.int .i64 (i7 : Int)) (.int .i64 (n7 : Int)) _ HD.out.1 HD.out.2.1 rfl rfl rfl ?_; exact ⟨⟨a7, m7, c7, 4, ⟨#[]⟩, p7, i7, n7, code, rfl, woL_rel (kd := 4) HR.out (fun ws h => lies_drew (lies_done _ _ _ _ _ _ _ _ _ HS3.out (HR8.out ws h)))⟩, HD.out.2.2.drew⟩)
set_option maxRecDepth 100000 in
set_option maxHeartbeats 4000000 in
theorem word_list_brack (line : ByteArray) (a : Option Addr) (ln lc : Nat) (p i n d : Nat) (w : World) (hp : p < line.size) (hs : line.size ≤ 4096) (hn : n < 512) (hd : d < 12) (h1 : bt (L line) p = 91) (o : Out) (ih : ∀ W, Below w.heap.size w W → Calls Tryd.prog 48 #[cuV line (.slice a ln lc) (p + 1) i (n + 1), .int .i64 ((d + 1 : Nat) : Int), .int .u8 93] W fun e w' => wsOut line (.slice a ln lc) W w' o e ∧ Below W.heap.size W w') :
    Calls Tryd.prog 72 #[cuV line (.slice a ln lc) p i n, .int .i64 (d : Int)] w fun e w' => woOut line (.slice a ln lc) w w' (woL 5 o) e ∧ Below w.heap.size w w' := by
  obtain ⟨p1, hp1⟩ : ∃ k, k = p + 1 := ⟨_, rfl⟩
  have hdz : ¬ (12 : Int) ≤ (d : Int) := by omega
  have hd0 : (0 : Int) ≤ (d : Int) := by omega
  have hd9 : (d : Int) < 12 := by omega
  obtain ⟨n1, hn1⟩ : ∃ k, k = n + 1 := ⟨_, rfl⟩
  have hnz : ¬ (512 : Int) < (n1 : Int) := by omega
  have hn0 : n ≤ 512 := by omega
  have HN1 := Lib.hid hn1
  clear hn hn1
  rw [← hp1, ← HN1.out] at ih
  have HU := Lib.hid ih
  have HP1 := Lib.hid hp1
  clear hp1 ih
  have hll := L_length line
  have HA := Lib.hid (fun w => rann_any line p w hp (by omega))
  have ea := get_btx line p hp
  have eb : (line[p]'hp).toNat = 91 := by rw [ea, h1]; rfl
  have HW : Hid (∀ w, Calls Tryd.prog 91 #[.int .u8 91] w fun e w' => e = .returned (.bool false) ∧ w' = w) := Lib.hid (fun w => atomByte_any 91 w)
  clear ea h1
  generalize annI ((L line).drop p) = ai at *
  have hp0 : (0 : Int) ≤ (p : Int) := by omega
  have hpz : (p : Int) < (line.size : Int) := by omega
  generalize annM ((L line).drop p) = am at *
  generalize annQ ((L line).drop p) = aq at *
  generalize annZ p ((L line).drop p) = az at *
  have HQ := Lib.hid (qs_start w line a ln lc p i n)
  generalize hX : ((w.alloc (.cells #[.string line, .slice a ln lc, .int .i64 (p : Int), .int .i64 (i : Int), .int .i64 (n : Int)] 81)).alloc (.cells #[.int .i64 0, .string ⟨#[]⟩, .slice none 0 0, .bool false] 33)).alloc (.cells #[.string ⟨#[]⟩, .slice none 0 0, .int .i64 0, .int .i64 0, .int .i64 0] 81) = X at HQ
  unfold cuV
  go_enter Tryd.func72, Tryd.ntmps72
  go_upto_region 1 with fail
  try rw [hX]
  clear hX
  obtain ⟨q0, q1, q2, q3, q4⟩ := HQ.out.cells
  go_upto_region 3 with (go_at_call 47; refine (HA.out _).mono ?_; rintro e w7 ⟨rfl, hw7⟩; subst w7)
  obtain ⟨fz, HQ2⟩ := HQ.out.tally n1 ((n : Int) + 1) (by have := HN1.out; omega)
  replace HQ2 := Lib.hid HQ2
  go_upto_region 6 with (go_at_call 91; refine (HW.out _).mono ?_; rintro e w7 ⟨rfl, hw7⟩; subst w7)
  generalize X.setCell ⟨w.heap.size, 4, none⟩ (.int .i64 ((n : Int) + 1)) = X2 at HQ2 ⊢
  clear q0 q1 q2 q3 q4 fz HQ
  obtain ⟨q0, q1, q2, q3, q4⟩ := HQ2.out.cells
  obtain ⟨fz, HQ3⟩ := HQ2.out.move p1 ((p : Int) + 1) (by have := HP1.out; omega)
  replace HQ3 := Lib.hid HQ3
  go_upto_region 15 with fail
  generalize X2.setCell ⟨w.heap.size, 2, none⟩ (.int .i64 ((p : Int) + 1)) = X3 at HQ3 ⊢
  clear q0 q1 q2 q3 q4 fz HQ2
  obtain ⟨q0, q1, q2, q3, q4⟩ := HQ3.out.cells
  go_upto_region 21 with (go_at_call 48; refine (HU.out _ HQ3.out.below).mono ?_; rintro e w7 ⟨⟨a7, m7, c7, p7, i7, n7, code, rfl, hrel⟩, hb7⟩; have HR := Lib.hid hrel; have HB7 := Lib.hid hb7; have HQ7 := Lib.hid (HQ3.out.on hb7); have HS3 := Lib.hid HQ3.out.size; clear hrel hb7 HQ3 q0 q1 q2 q3 q4; unfold cuV)
  have HA5 := Lib.hid (alloc5 w7 (.string line) (.slice a ln lc) (.int .i64 (p7 : Int)) (.int .i64 (i7 : Int)) (.int .i64 (n7 : Int)))
  generalize w7.alloc (.cells #[.string line, .slice a ln lc, .int .i64 (p7 : Int), .int .i64 (i7 : Int), .int .i64 (n7 : Int)] 81) = X8 at HA5 ⊢
  obtain ⟨hr8, hb8⟩ := HA5.out
  have HQ8 := Lib.hid (HQ7.out.on hb8)
  have HR8 : Hid (∀ ws, Lies w7 (fun g => X3.heap.size ≤ g) a7 m7 c7 ws → Lies X8 (fun g => X3.heap.size ≤ g) a7 m7 c7 ws) := Lib.hid (fun ws h => h.on hb8)
  have hsz := HQ7.out.size
  clear HA5 hb8 HQ7 HB7
  generalize w7.heap.size = g at *
  have hne0 : g ≠ w.heap.size := by omega
  have hne1 : g ≠ w.heap.size + 1 := by omega
  have hne2 : g ≠ w.heap.size + 1 + 1 := by omega
  clear hsz
  have g0 := cell_of_row _ _ 0 _ _ _ hr8
  have g1 := cell_of_row _ _ 1 _ _ _ hr8
  have g2 := cell_of_row _ _ 2 _ _ _ hr8
  have g3 := cell_of_row _ _ 3 _ _ _ hr8
  have g4 := cell_of_row _ _ 4 _ _ _ hr8
  obtain ⟨q0, q1, q2, q3, q4⟩ := HQ8.out.cells
  have h1 := HQ8.out.wd
  have h2 := HQ8.out.cu2
  have c10 := cell_of_row _ _ 0 _ _ _ h1
  have c11 := cell_of_row _ _ 1 _ _ _ h1
  have c12 := cell_of_row _ _ 2 _ _ _ h1
  have c13 := cell_of_row _ _ 3 _ _ _ h1
  have c20 := cell_of_row _ _ 0 _ _ _ h2
  have c21 := cell_of_row _ _ 1 _ _ _ h2
  have c22 := cell_of_row _ _ 2 _ _ _ h2
  have c23 := cell_of_row _ _ 3 _ _ _ h2
  have c24 := cell_of_row _ _ 4 _ _ _ h2
  have f1 : ∀ j, X8.frozen? ⟨w.heap.size + 1, j, none⟩ = false := fun j => frozen_of_row _ _ _ _ _ h1
  have f2 : ∀ j, X8.frozen? ⟨w.heap.size + 1 + 1, j, none⟩ = false := fun j => frozen_of_row _ _ _ _ _ h2
  clear h1 h2
  have HD := Lib.hid (HQ8.out.done (.int .i64 5) (.string ⟨#[]⟩) (.slice a7 m7 c7) (.bool false) (.string line) (.slice a ln lc) (.int .i64 (p7 : Int)) (.int .i64 (i7 : Int)) (.int .i64 (n7 : Int)))
  go_upto_region 21 with fail
  go_region
  all_goals (go_wp2_with fail; (try simp only [Exit.inBlock, Exit.then]); refine wret (w := w) (.int .i64 5) (.string ⟨#[]⟩) (.slice a7 m7 c7) (.bool false) (.string line) (.slice a ln lc) (.int .i64 (p7 : Int)) (.int .i64 (i7 : Int)) (.int .i64 (n7 : Int)) _ HD.out.1 HD.out.2.1 rfl rfl rfl ?_; exact ⟨⟨a7, m7, c7, 5, ⟨#[]⟩, p7, i7, n7, code, rfl, woL_rel (kd := 5) HR.out (fun ws h => lies_drew (lies_done _ _ _ _ _ _ _ _ _ HS3.out (HR8.out ws h)))⟩, HD.out.2.2.drew⟩)
end Go.Proofs.YtliiapdakojomabDoor

/- lex: the document's word: a literal that is not there. -/
namespace Go.Proofs.YtliiapdakojomabDoor
open Go.RowKit

set_option maxRecDepth 100000 in
set_option maxHeartbeats 4000000 in
theorem word_ann_no (line : ByteArray) (a : Option Addr) (ln lc : Nat) (p i n d : Nat) (w : World) (hp : p < line.size) (hs : line.size ≤ 4096) (hn : n < 512) (hi : ln ≤ i) (h1 : bt (L line) p = 123) (h5 : annI ((L line).drop p) = true) :
    Calls Tryd.prog 72 #[cuV line (.slice a ln lc) p i n, .int .i64 (d : Int)] w fun e w' => wBad line (.slice a ln lc) 32 e ∧ Below w.heap.size w w' := by
  have hiz : (ln : Int) ≤ (i : Int) := by omega
  obtain ⟨n1, hn1⟩ : ∃ k, k = n + 1 := ⟨_, rfl⟩
  have hnz : ¬ (512 : Int) < (n1 : Int) := by omega
  have hn0 : n ≤ 512 := by omega
  have HN1 := Lib.hid hn1
  clear hn hn1
  obtain ⟨nn, hnn⟩ : ∃ k, k = annN ((L line).drop p) := ⟨_, rfl⟩
  obtain ⟨zz, hzz⟩ : ∃ k, k = p + annS ((L line).drop p) := ⟨_, rfl⟩
  have HNN := Lib.hid hnn
  have HZZ := Lib.hid hzz
  clear hnn hzz
  have hll := L_length line
  have HA := Lib.hid (fun w => rann_any line p w hp (by omega))
  have ea := get_btx line p hp
  have eb : (line[p]'hp).toNat = 123 := by rw [ea, h1]; rfl
  have HW : Hid (∀ w, Calls Tryd.prog 91 #[.int .u8 123] w fun e w' => e = .returned (.bool false) ∧ w' = w) := Lib.hid (fun w => atomByte_any 123 w)
  clear ea h1
  have hM : annM ((L line).drop p) = (nn : Int) := by unfold annM; rw [if_pos h5, HNN.out]
  have hZ : annZ p ((L line).drop p) = (zz : Int) := by unfold annZ; rw [if_pos h5, HZZ.out]
  rw [h5, hM, hZ] at HA
  clear h5 hM hZ
  have hp0 : (0 : Int) ≤ (p : Int) := by omega
  have hpz : (p : Int) < (line.size : Int) := by omega
  generalize annQ ((L line).drop p) = aq at HA
  have HQ := Lib.hid (qs_start w line a ln lc p i n)
  generalize hX : ((w.alloc (.cells #[.string line, .slice a ln lc, .int .i64 (p : Int), .int .i64 (i : Int), .int .i64 (n : Int)] 81)).alloc (.cells #[.int .i64 0, .string ⟨#[]⟩, .slice none 0 0, .bool false] 33)).alloc (.cells #[.string ⟨#[]⟩, .slice none 0 0, .int .i64 0, .int .i64 0, .int .i64 0] 81) = X at HQ
  unfold cuV
  go_enter Tryd.func72, Tryd.ntmps72
  go_upto_region 1 with fail
  try rw [hX]
  clear hX
  obtain ⟨q0, q1, q2, q3, q4⟩ := HQ.out.cells
  go_upto_region 3 with (go_at_call 47; refine (HA.out _).mono ?_; rintro e w7 ⟨rfl, hw7⟩; subst w7)
  obtain ⟨fz, HQ2⟩ := HQ.out.tally n1 ((n : Int) + 1) (by have := HN1.out; omega)
  replace HQ2 := Lib.hid HQ2
  go_upto_region 6 with (go_at_call 91; refine (HW.out _).mono ?_; rintro e w7 ⟨rfl, hw7⟩; subst w7)
  generalize X.setCell ⟨w.heap.size, 4, none⟩ (.int .i64 ((n : Int) + 1)) = X2 at HQ2 ⊢
  clear q0 q1 q2 q3 q4 fz HQ
  obtain ⟨q0, q1, q2, q3, q4⟩ := HQ2.out.cells
  go_upto_region 24 with (go_at_call 47; refine (HA.out _).mono ?_; rintro e w7 ⟨rfl, hw7⟩; subst w7)
  have h1 := HQ2.out.wd
  have h2 := HQ2.out.cu2
  have c10 := cell_of_row _ _ 0 _ _ _ h1
  have c11 := cell_of_row _ _ 1 _ _ _ h1
  have c12 := cell_of_row _ _ 2 _ _ _ h1
  have c13 := cell_of_row _ _ 3 _ _ _ h1
  have c20 := cell_of_row _ _ 0 _ _ _ h2
  have c21 := cell_of_row _ _ 1 _ _ _ h2
  have c22 := cell_of_row _ _ 2 _ _ _ h2
  have c23 := cell_of_row _ _ 3 _ _ _ h2
  have c24 := cell_of_row _ _ 4 _ _ _ h2
  have f1 : ∀ j, X2.frozen? ⟨w.heap.size + 1, j, none⟩ = false := fun j => frozen_of_row _ _ _ _ _ h1
  have f2 : ∀ j, X2.frozen? ⟨w.heap.size + 1 + 1, j, none⟩ = false := fun j => frozen_of_row _ _ _ _ _ h2
  clear h1 h2
  have HD := Lib.hid (HQ2.out.done (.int .i64 0) (.string ⟨#[]⟩) (.slice none 0 0) (.bool false) (.string line) (.slice a ln lc) (.int .i64 (p : Int)) (.int .i64 (i : Int)) (.int .i64 (n1 : Int)))
  go_upto_region 25 with fail
  go_region
  go_wp2_with fail
  (try simp only [Exit.inBlock, Exit.then])
  refine wret (w := w) (.int .i64 0) (.string ⟨#[]⟩) (.slice none 0 0) (.bool false) (.string line) (.slice a ln lc) (.int .i64 (p : Int)) (.int .i64 (i : Int)) (.int .i64 (n1 : Int)) _ HD.out.1 HD.out.2.1 rfl rfl rfl ?_
  exact ⟨⟨p, i, n1, rfl⟩, HD.out.2.2.drew⟩
set_option maxRecDepth 100000 in
set_option maxHeartbeats 4000000 in
theorem word_ann_ne (line : ByteArray) (ln lc : Nat) (p i n d : Nat) (w : World) (hp : p < line.size) (hs : line.size ≤ 4096) (hn : n < 512) (b off : Nat) (x : ByteArray) (hb : b < w.heap.size) (hx : w.cell? ⟨b, off + i, none⟩ = some (.string x)) (hi : i < ln) (h1 : bt (L line) p = 123) (h5 : annI ((L line).drop p) = true) (hne : x.size ≠ annN ((L line).drop p)) :
    Calls Tryd.prog 72 #[cuV line (.slice (some ⟨b, off, none⟩) ln lc) p i n, .int .i64 (d : Int)] w fun e w' => wBad line (.slice (some ⟨b, off, none⟩) ln lc) 32 e ∧ Below w.heap.size w w' := by
  have hiz : (i : Int) < (ln : Int) := by omega
  have hi0 : (0 : Int) ≤ (i : Int) := by omega
  obtain ⟨n1, hn1⟩ : ∃ k, k = n + 1 := ⟨_, rfl⟩
  have hnz : ¬ (512 : Int) < (n1 : Int) := by omega
  have hn0 : n ≤ 512 := by omega
  have HN1 := Lib.hid hn1
  clear hn hn1
  obtain ⟨nn, hnn⟩ : ∃ k, k = annN ((L line).drop p) := ⟨_, rfl⟩
  obtain ⟨zz, hzz⟩ : ∃ k, k = p + annS ((L line).drop p) := ⟨_, rfl⟩
  have HNN := Lib.hid hnn
  have HZZ := Lib.hid hzz
  clear hnn hzz
  have hll := L_length line
  have HA := Lib.hid (fun w => rann_any line p w hp (by omega))
  have ea := get_btx line p hp
  have eb : (line[p]'hp).toNat = 123 := by rw [ea, h1]; rfl
  have HW : Hid (∀ w, Calls Tryd.prog 91 #[.int .u8 123] w fun e w' => e = .returned (.bool false) ∧ w' = w) := Lib.hid (fun w => atomByte_any 123 w)
  clear ea h1
  have hM : annM ((L line).drop p) = (nn : Int) := by unfold annM; rw [if_pos h5, HNN.out]
  have hZ : annZ p ((L line).drop p) = (zz : Int) := by unfold annZ; rw [if_pos h5, HZZ.out]
  rw [h5, hM, hZ] at HA
  clear h5 hM hZ
  have hp0 : (0 : Int) ≤ (p : Int) := by omega
  have hpz : (p : Int) < (line.size : Int) := by omega
  generalize annQ ((L line).drop p) = aq at HA
  have HQ := Lib.hid (qs_start w line (some ⟨b, off, none⟩) ln lc p i n)
  generalize hX : ((w.alloc (.cells #[.string line, .slice (some ⟨b, off, none⟩) ln lc, .int .i64 (p : Int), .int .i64 (i : Int), .int .i64 (n : Int)] 81)).alloc (.cells #[.int .i64 0, .string ⟨#[]⟩, .slice none 0 0, .bool false] 33)).alloc (.cells #[.string ⟨#[]⟩, .slice none 0 0, .int .i64 0, .int .i64 0, .int .i64 0] 81) = X at HQ
  unfold cuV
  go_enter Tryd.func72, Tryd.ntmps72
  go_upto_region 1 with fail
  try rw [hX]
  clear hX
  obtain ⟨q0, q1, q2, q3, q4⟩ := HQ.out.cells
  go_upto_region 3 with (go_at_call 47; refine (HA.out _).mono ?_; rintro e w7 ⟨rfl, hw7⟩; subst w7)
  obtain ⟨fz, HQ2⟩ := HQ.out.tally n1 ((n : Int) + 1) (by have := HN1.out; omega)
  replace HQ2 := Lib.hid HQ2
  go_upto_region 6 with (go_at_call 91; refine (HW.out _).mono ?_; rintro e w7 ⟨rfl, hw7⟩; subst w7)
  generalize X.setCell ⟨w.heap.size, 4, none⟩ (.int .i64 ((n : Int) + 1)) = X2 at HQ2 ⊢
  clear q0 q1 q2 q3 q4 fz HQ
  obtain ⟨q0, q1, q2, q3, q4⟩ := HQ2.out.cells
  have hxX := HQ2.out.below.cell (p := ⟨b, off + i, none⟩) hb
  rw [hx] at hxX
  clear hx hb
  go_upto_region 24 with (go_at_call 47; refine (HA.out _).mono ?_; rintro e w7 ⟨rfl, hw7⟩; subst w7)
  have hbn : ((x.size : Int) != (nn : Int)) = true := by rw [bne_iff_ne]; have := HNN.out; omega
  clear hne
  have h1 := HQ2.out.wd
  have h2 := HQ2.out.cu2
  have c10 := cell_of_row _ _ 0 _ _ _ h1
  have c11 := cell_of_row _ _ 1 _ _ _ h1
  have c12 := cell_of_row _ _ 2 _ _ _ h1
  have c13 := cell_of_row _ _ 3 _ _ _ h1
  have c20 := cell_of_row _ _ 0 _ _ _ h2
  have c21 := cell_of_row _ _ 1 _ _ _ h2
  have c22 := cell_of_row _ _ 2 _ _ _ h2
  have c23 := cell_of_row _ _ 3 _ _ _ h2
  have c24 := cell_of_row _ _ 4 _ _ _ h2
  have f1 : ∀ j, X2.frozen? ⟨w.heap.size + 1, j, none⟩ = false := fun j => frozen_of_row _ _ _ _ _ h1
  have f2 : ∀ j, X2.frozen? ⟨w.heap.size + 1 + 1, j, none⟩ = false := fun j => frozen_of_row _ _ _ _ _ h2
  clear h1 h2
  have HD := Lib.hid (HQ2.out.done (.int .i64 0) (.string ⟨#[]⟩) (.slice none 0 0) (.bool false) (.string line) (.slice (some ⟨b, off, none⟩) ln lc) (.int .i64 (p : Int)) (.int .i64 (i : Int)) (.int .i64 (n1 : Int)))
  go_upto_region 25 with fail
  go_region
  go_wp2_with fail
  (try simp only [Exit.inBlock, Exit.then])
  refine wret (w := w) (.int .i64 0) (.string ⟨#[]⟩) (.slice none 0 0) (.bool false) (.string line) (.slice (some ⟨b, off, none⟩) ln lc) (.int .i64 (p : Int)) (.int .i64 (i : Int)) (.int .i64 (n1 : Int)) _ HD.out.1 HD.out.2.1 rfl rfl rfl ?_
  exact ⟨⟨p, i, n1, rfl⟩, HD.out.2.2.drew⟩
end Go.Proofs.YtliiapdakojomabDoor

/- lex: the document's word: a literal. -/
namespace Go.Proofs.YtliiapdakojomabDoor
open Go.RowKit

set_option maxRecDepth 100000 in
set_option maxHeartbeats 4000000 in
theorem word_ann_ok (line : ByteArray) (ln lc : Nat) (p i n d : Nat) (w : World) (hp : p < line.size) (hs : line.size ≤ 4096) (hn : n < 512) (b off : Nat) (x : ByteArray) (hb : b < w.heap.size) (hx : w.cell? ⟨b, off + i, none⟩ = some (.string x)) (hi : i < ln) (h1 : bt (L line) p = 123) (h5 : annI ((L line).drop p) = true) (hne : x.size = annN ((L line).drop p)) (hls : ln ≤ 140737488355328) :
    Calls Tryd.prog 72 #[cuV line (.slice (some ⟨b, off, none⟩) ln lc) p i n, .int .i64 (d : Int)] w fun e w' => woOut line (.slice (some ⟨b, off, none⟩) ln lc) w w' (.ok (.mk 3 x [] false) ⟨p + annS ((L line).drop p), i + 1, n + 1⟩) e ∧ Below w.heap.size w w' := by
  have hiz : (i : Int) < (ln : Int) := by omega
  have hi0 : (0 : Int) ≤ (i : Int) := by omega
  obtain ⟨i1, hi1⟩ : ∃ k, k = i + 1 := ⟨_, rfl⟩
  have HI1 := Lib.hid hi1
  clear hi1
  obtain ⟨n1, hn1⟩ : ∃ k, k = n + 1 := ⟨_, rfl⟩
  have hnz : ¬ (512 : Int) < (n1 : Int) := by omega
  have hn0 : n ≤ 512 := by omega
  have HN1 := Lib.hid hn1
  clear hn hn1
  obtain ⟨nn, hnn⟩ : ∃ k, k = annN ((L line).drop p) := ⟨_, rfl⟩
  obtain ⟨zz, hzz⟩ : ∃ k, k = p + annS ((L line).drop p) := ⟨_, rfl⟩
  have HNN := Lib.hid hnn
  have HZZ := Lib.hid hzz
  clear hnn hzz
  have hll := L_length line
  have HA := Lib.hid (fun w => rann_any line p w hp (by omega))
  have ea := get_btx line p hp
  have eb : (line[p]'hp).toNat = 123 := by rw [ea, h1]; rfl
  have HW : Hid (∀ w, Calls Tryd.prog 91 #[.int .u8 123] w fun e w' => e = .returned (.bool false) ∧ w' = w) := Lib.hid (fun w => atomByte_any 123 w)
  clear ea h1
  have hM : annM ((L line).drop p) = (nn : Int) := by unfold annM; rw [if_pos h5, HNN.out]
  have hZ : annZ p ((L line).drop p) = (zz : Int) := by unfold annZ; rw [if_pos h5, HZZ.out]
  rw [h5, hM, hZ] at HA
  clear h5 hM hZ
  have hp0 : (0 : Int) ≤ (p : Int) := by omega
  have hpz : (p : Int) < (line.size : Int) := by omega
  generalize annQ ((L line).drop p) = aq at HA
  have HQ := Lib.hid (qs_start w line (some ⟨b, off, none⟩) ln lc p i n)
  generalize hX : ((w.alloc (.cells #[.string line, .slice (some ⟨b, off, none⟩) ln lc, .int .i64 (p : Int), .int .i64 (i : Int), .int .i64 (n : Int)] 81)).alloc (.cells #[.int .i64 0, .string ⟨#[]⟩, .slice none 0 0, .bool false] 33)).alloc (.cells #[.string ⟨#[]⟩, .slice none 0 0, .int .i64 0, .int .i64 0, .int .i64 0] 81) = X at HQ
  unfold cuV
  go_enter Tryd.func72, Tryd.ntmps72
  go_upto_region 1 with fail
  try rw [hX]
  clear hX
  obtain ⟨q0, q1, q2, q3, q4⟩ := HQ.out.cells
  go_upto_region 3 with (go_at_call 47; refine (HA.out _).mono ?_; rintro e w7 ⟨rfl, hw7⟩; subst w7)
  obtain ⟨fz, HQ2⟩ := HQ.out.tally n1 ((n : Int) + 1) (by have := HN1.out; omega)
  replace HQ2 := Lib.hid HQ2
  go_upto_region 6 with (go_at_call 91; refine (HW.out _).mono ?_; rintro e w7 ⟨rfl, hw7⟩; subst w7)
  generalize X.setCell ⟨w.heap.size, 4, none⟩ (.int .i64 ((n : Int) + 1)) = X2 at HQ2 ⊢
  clear q0 q1 q2 q3 q4 fz HQ
  obtain ⟨q0, q1, q2, q3, q4⟩ := HQ2.out.cells
  have hxX := HQ2.out.below.cell (p := ⟨b, off + i, none⟩) hb
  rw [hx] at hxX
  clear hx hb
  go_upto_region 24 with (go_at_call 47; refine (HA.out _).mono ?_; rintro e w7 ⟨rfl, hw7⟩; subst w7)
  have hbn : ((x.size : Int) != (nn : Int)) = false := by rw [bne_eq_false_iff_eq]; have := HNN.out; omega
  clear hne
  have HA4 := Lib.hid (alloc4 X2 (.int .i64 3) (.string x) (.slice none 0 0) (.bool false))
  have hsz := HQ2.out.size
  go_upto_region 27 with fail
  generalize X2.alloc (.cells #[.int .i64 3, .string x, .slice none 0 0, .bool false] 33) = X3 at HA4 ⊢
  obtain ⟨hr3, hb3⟩ := HA4.out
  have HQ3 := Lib.hid (HQ2.out.on hb3)
  clear HA4 hb3 HQ2 q0 q1 q2 q3 q4 hxX
  generalize X2.heap.size = g at *
  have hne0 : g ≠ w.heap.size := by omega
  have hne1 : g ≠ w.heap.size + 1 := by omega
  have hne2 : g ≠ w.heap.size + 1 + 1 := by omega
  clear hsz
  obtain ⟨q0, q1, q2, q3, q4⟩ := HQ3.out.cells
  obtain ⟨fz, HQ4⟩ := HQ3.out.took i1 ((i : Int) + 1) (by have := HI1.out; omega)
  replace HQ4 := Lib.hid HQ4
  have hr4 := (heap_setCell_other X3 ⟨w.heap.size, 3, none⟩ g (.int .i64 ((i : Int) + 1)) hne0).trans hr3
  replace hr4 := Lib.hid hr4
  clear hr3
  go_upto_region 28 with fail
  generalize X3.setCell ⟨w.heap.size, 3, none⟩ (.int .i64 ((i : Int) + 1)) = X4 at HQ4 hr4 ⊢
  clear q0 q1 q2 q3 q4 fz HQ3
  obtain ⟨q0, q1, q2, q3, q4⟩ := HQ4.out.cells
  obtain ⟨fz, HQ5⟩ := HQ4.out.move zz (zz : Int) rfl
  replace HQ5 := Lib.hid HQ5
  have hr5 := Lib.hid ((heap_setCell_other X4 ⟨w.heap.size, 2, none⟩ g (.int .i64 (zz : Int)) hne0).trans hr4.out)
  clear hr4
  go_upto_region 29 with fail
  generalize X4.setCell ⟨w.heap.size, 2, none⟩ (.int .i64 (zz : Int)) = X5 at HQ5 hr5 ⊢
  clear q0 q1 q2 q3 q4 fz HQ4
  obtain ⟨q0, q1, q2, q3, q4⟩ := HQ5.out.cells
  have g0 := cell_of_row _ _ 0 _ _ _ hr5.out
  have g1 := cell_of_row _ _ 1 _ _ _ hr5.out
  have g2 := cell_of_row _ _ 2 _ _ _ hr5.out
  have g3 := cell_of_row _ _ 3 _ _ _ hr5.out
  have h1 := HQ5.out.wd
  have h2 := HQ5.out.cu2
  have c10 := cell_of_row _ _ 0 _ _ _ h1
  have c11 := cell_of_row _ _ 1 _ _ _ h1
  have c12 := cell_of_row _ _ 2 _ _ _ h1
  have c13 := cell_of_row _ _ 3 _ _ _ h1
  have c20 := cell_of_row _ _ 0 _ _ _ h2
  have c21 := cell_of_row _ _ 1 _ _ _ h2
  have c22 := cell_of_row _ _ 2 _ _ _ h2
  have c23 := cell_of_row _ _ 3 _ _ _ h2
  have c24 := cell_of_row _ _ 4 _ _ _ h2
  have f1 : ∀ j, X5.frozen? ⟨w.heap.size + 1, j, none⟩ = false := fun j => frozen_of_row _ _ _ _ _ h1
  have f2 : ∀ j, X5.frozen? ⟨w.heap.size + 1 + 1, j, none⟩ = false := fun j => frozen_of_row _ _ _ _ _ h2
  clear h1 h2
  have HD := Lib.hid (HQ5.out.done (.int .i64 3) (.string x) (.slice none 0 0) (.bool false) (.string line) (.slice (some ⟨b, off, none⟩) ln lc) (.int .i64 (zz : Int)) (.int .i64 (i1 : Int)) (.int .i64 (n1 : Int)))
  go_upto_region 29 with fail
  go_region
  go_wp2_with fail
  (try simp only [Exit.inBlock, Exit.then])
  refine wret (w := w) (.int .i64 3) (.string x) (.slice none 0 0) (.bool false) (.string line) (.slice (some ⟨b, off, none⟩) ln lc) (.int .i64 (zz : Int)) (.int .i64 (i1 : Int)) (.int .i64 (n1 : Int)) _ HD.out.1 HD.out.2.1 rfl rfl rfl ?_
  exact ⟨⟨none, 0, 0, 3, x, zz, i1, n1, 0, rfl, rfl, rfl, rfl, rfl, HZZ.out, HI1.out, HN1.out, .nil⟩, HD.out.2.2.drew⟩
end Go.Proofs.YtliiapdakojomabDoor

/- lex: the document's word: an atom. -/
namespace Go.Proofs.YtliiapdakojomabDoor
open Go.RowKit

set_option maxRecDepth 100000 in
set_option maxHeartbeats 4000000 in
theorem word_atom (line : ByteArray) (a : Option Addr) (ln lc : Nat) (p i n d : Nat) (w : World) (hp : p < line.size) (hs : line.size ≤ 4096) (hn : n < 512) (h1 : wordC (bt (L line) p) = true) :
    Calls Tryd.prog 72 #[cuV line (.slice a ln lc) p i n, .int .i64 (d : Int)] w fun e w' => woOut line (.slice a ln lc) w w' (.ok (.mk 1 (S (atomL (L line) p)) [] false) ⟨p + (atomL (L line) p).length, i, n + 1⟩) e ∧ Below w.heap.size w w' := by
  obtain ⟨en, hen⟩ : ∃ k, k = p + (atomL (L line) p).length := ⟨_, rfl⟩
  rw [← hen]
  have hle : en ≤ line.size := by
    have := tw_le wordC ((L line).drop p)
    rw [List.length_drop, L_length] at this
    rw [hen]; unfold atomL; omega
  have hpe : p ≤ en := by omega
  obtain ⟨tx, htx⟩ : ∃ tx, tx = S (atomL (L line) p) := ⟨_, rfl⟩
  rw [← htx]
  have hex : line.extract p en = tx := by
    rw [htx, S_mid, hen, show p + (atomL (L line) p).length - p = (atomL (L line) p).length by omega]
    unfold atomL
    rw [tw_take]
  have HI : Hid (∀ j, p ≤ j → j < en → j < line.size ∧ wordC (bt (L line) j) = true) := Lib.hid (fun j h1 hk => by
    have := tw_in (p := wordC) (r := (L line).drop p) (k := j - p) (by rw [hen] at hk; unfold atomL at hk; omega)
    rw [List.length_drop, L_length, bt_drop, show p + (j - p) = j by omega] at this
    exact ⟨by omega, this.2⟩)
  have HO : Hid (en < line.size → wordC (bt (L line) en) = false) := Lib.hid (fun hlt => by
    unfold atomL at hen
    have := tw_out (p := wordC) (r := (L line).drop p) (by rw [List.length_drop, L_length]; omega)
    rw [bt_drop, ← hen] at this
    exact this)
  have HEX := Lib.hid hex
  clear hex htx hen
  obtain ⟨n1, hn1⟩ : ∃ k, k = n + 1 := ⟨_, rfl⟩
  have hnz : ¬ (512 : Int) < (n1 : Int) := by omega
  have hn0 : n ≤ 512 := by omega
  have HN1 := Lib.hid hn1
  clear hn hn1
  have hll := L_length line
  have HA := Lib.hid (fun w => rann_any line p w hp (by omega))
  have ea := get_btx line p hp
  have h256 := bt_lt (L line) p
  have h5 : annI ((L line).drop p) = false := by
    unfold annI
    rw [List.head?_drop]
    have hne : bt (L line) p ≠ 123 := fun e => by rw [e] at h1; exact absurd h1 (by decide)
    unfold bt at hne
    rw [List.getElem?_eq_getElem (by omega)] at hne ⊢
    have : (((L line)[p]'(by omega)) == 123) = false := beq_eq_false_iff_ne.2 hne
    simp [this]
  have hcl := word_class (bt (L line) p)
  rw [h1] at hcl
  have hcl2 : bt (L line) p ≠ 34 ∧ bt (L line) p ≠ 40 ∧ bt (L line) p ≠ 91 := ⟨fun e => by rw [e] at h1; exact absurd h1 (by decide), fun e => by rw [e] at h1; exact absurd h1 (by decide), fun e => by rw [e] at h1; exact absurd h1 (by decide)⟩
  clear hcl
  obtain ⟨c, hc⟩ : ∃ c, c = bt (L line) p := ⟨_, rfl⟩
  rw [← hc] at ea h256 h1 hcl2
  clear hc
  have HW := Lib.hid (fun w => atomByte_any c w)
  rw [h1] at HW
  rw [h5] at HA
  have n34 : ¬ (c.toNat : Int) = 34 := fun e => hcl2.1 (UInt8.toNat_inj.1 (by have : (34 : UInt8).toNat = 34 := rfl; omega))
  have n40 : ¬ (c.toNat : Int) = 40 := fun e => hcl2.2.1 (UInt8.toNat_inj.1 (by have : (40 : UInt8).toNat = 40 := rfl; omega))
  have n91 : ¬ (c.toNat : Int) = 91 := fun e => hcl2.2.2 (UInt8.toNat_inj.1 (by have : (91 : UInt8).toNat = 91 := rfl; omega))
  have e34 : ((c.toNat : Int) == 34) = false := beq_eq_false_iff_ne.2 n34
  have e40 : ((c.toNat : Int) == 40) = false := beq_eq_false_iff_ne.2 n40
  have e91 : ((c.toNat : Int) == 91) = false := beq_eq_false_iff_ne.2 n91
  clear h1 h5 hcl2
  have hp0 : (0 : Int) ≤ (p : Int) := by omega
  have hpz : (p : Int) < (line.size : Int) := by omega
  generalize annM ((L line).drop p) = am at *
  generalize annQ ((L line).drop p) = aq at *
  generalize annZ p ((L line).drop p) = az at *
  have HQ := Lib.hid (qs_start w line a ln lc p i n)
  generalize hX : ((w.alloc (.cells #[.string line, .slice a ln lc, .int .i64 (p : Int), .int .i64 (i : Int), .int .i64 (n : Int)] 81)).alloc (.cells #[.int .i64 0, .string ⟨#[]⟩, .slice none 0 0, .bool false] 33)).alloc (.cells #[.string ⟨#[]⟩, .slice none 0 0, .int .i64 0, .int .i64 0, .int .i64 0] 81) = X at HQ
  unfold cuV
  go_enter Tryd.func72, Tryd.ntmps72
  go_upto_region 1 with fail
  try rw [hX]
  clear hX
  obtain ⟨q0, q1, q2, q3, q4⟩ := HQ.out.cells
  go_upto_region 3 with (go_at_call 47; refine (HA.out _).mono ?_; rintro e w7 ⟨rfl, hw7⟩; subst w7)
  obtain ⟨fz, HQ2⟩ := HQ.out.tally n1 ((n : Int) + 1) (by have := HN1.out; omega)
  replace HQ2 := Lib.hid HQ2
  go_upto_region 6 with (go_at_call 91; refine (HW.out _).mono ?_; rintro e w7 ⟨rfl, hw7⟩; subst w7)
  generalize X.setCell ⟨w.heap.size, 4, none⟩ (.int .i64 ((n : Int) + 1)) = X2 at HQ2 ⊢
  clear q0 q1 q2 q3 q4 fz HQ
  obtain ⟨q0, q1, q2, q3, q4⟩ := HQ2.out.cells
  go_wp2_with fail
  go_loopg [173] (en - p) (fun gg _ wr => ∃ (j : Nat) (X : World), X = wr ∧ p ≤ j ∧ j ≤ en ∧ en - j ≤ gg ∧ Hid (Qs w line (.slice a ln lc) j i n1 (.slice none 0 0) [] X))
  case atStart => exact ⟨p, _, rfl, Nat.le_refl _, hpe, Nat.le_refl _, HQ2⟩
  case round =>
    clear HQ2 q0 q1 q2 q3 q4
    obtain ⟨j, X, hX, hj0, hjn, hgg, HX⟩ := hrel
    subst hX
    obtain ⟨q0, q1, q2, q3, q4⟩ := HX.out.cells
    clear HA HW ea e34 e40 e91 n34 n40 n91 h256
    by_cases hlt : j < en
    · obtain ⟨hkl, hwd⟩ := HI.out j hj0 hlt
      have eaj := get_btx line j hkl
      have hq1 : (j : Int) < (line.size : Int) := by omega
      have hq0 : (0 : Int) ≤ (j : Int) := by omega
      have h25 := bt_lt (L line) j
      have HW := Lib.hid (fun w => atomByte_any (bt (L line) j) w)
      rw [hwd] at HW
      clear hwd
      generalize bt (L line) j = cj at *
      obtain ⟨fz, HQ3⟩ := HX.out.move (j + 1) ((j : Int) + 1) (by omega)
      replace HQ3 := Lib.hid HQ3
      go_wp2_with (go_at_call 91; refine (HW.out _).mono ?_; rintro e w7 ⟨rfl, hw7⟩; subst w7)
      go_roundg (en - (j + 1))
      case measure => omega
      case rel => exact ⟨j + 1, _, rfl, by omega, by omega, Nat.le_refl _, HQ3⟩
    · obtain rfl : en = j := by omega
      have hex := HEX.out
      have hz1 : (p : Int) ≤ (en : Int) := by omega
      have hz2 : (en : Int) ≤ (line.size : Int) := by omega
      by_cases hz : en < line.size
      · have hwd := HO.out hz
        have eaj := get_btx line en hz
        have hq1 : (en : Int) < (line.size : Int) := by omega
        have hq0 : (0 : Int) ≤ (en : Int) := by omega
        have h25 := bt_lt (L line) en
        have HW := Lib.hid (fun w => atomByte_any (bt (L line) en) w)
        rw [hwd] at HW
        clear hwd
        generalize bt (L line) en = cj at *
        go_upto_region 33 with (go_at_call 91; refine (HW.out _).mono ?_; rintro e w7 ⟨rfl, hw7⟩; subst w7)
        have h1 := HX.out.wd
        have h2 := HX.out.cu2
        have c10 := cell_of_row _ _ 0 _ _ _ h1
        have c11 := cell_of_row _ _ 1 _ _ _ h1
        have c12 := cell_of_row _ _ 2 _ _ _ h1
        have c13 := cell_of_row _ _ 3 _ _ _ h1
        have c20 := cell_of_row _ _ 0 _ _ _ h2
        have c21 := cell_of_row _ _ 1 _ _ _ h2
        have c22 := cell_of_row _ _ 2 _ _ _ h2
        have c23 := cell_of_row _ _ 3 _ _ _ h2
        have c24 := cell_of_row _ _ 4 _ _ _ h2
        have f1 : ∀ j, X.frozen? ⟨w.heap.size + 1, j, none⟩ = false := fun j => frozen_of_row _ _ _ _ _ h1
        have f2 : ∀ j, X.frozen? ⟨w.heap.size + 1 + 1, j, none⟩ = false := fun j => frozen_of_row _ _ _ _ _ h2
        clear h1 h2
        have HD := Lib.hid (HX.out.done (.int .i64 1) (.string tx) (.slice none 0 0) (.bool false) (.string line) (.slice a ln lc) (.int .i64 (en : Int)) (.int .i64 (i : Int)) (.int .i64 (n1 : Int)))
        skip
        go_region
        go_wp2_with fail
        (try simp only [Exit.inBlock, Exit.then])
        refine wret (w := w) (.int .i64 1) (.string tx) (.slice none 0 0) (.bool false) (.string line) (.slice a ln lc) (.int .i64 (en : Int)) (.int .i64 (i : Int)) (.int .i64 (n1 : Int)) _ HD.out.1 HD.out.2.1 rfl rfl rfl ?_
        exact ⟨⟨none, 0, 0, 1, tx, en, i, n1, 0, rfl, rfl, rfl, rfl, rfl, rfl, rfl, HN1.out, .nil⟩, HD.out.2.2.drew⟩
      · have hq1 : ¬ (en : Int) < (line.size : Int) := by omega
        go_upto_region 33 with fail
        have h1 := HX.out.wd
        have h2 := HX.out.cu2
        have c10 := cell_of_row _ _ 0 _ _ _ h1
        have c11 := cell_of_row _ _ 1 _ _ _ h1
        have c12 := cell_of_row _ _ 2 _ _ _ h1
        have c13 := cell_of_row _ _ 3 _ _ _ h1
        have c20 := cell_of_row _ _ 0 _ _ _ h2
        have c21 := cell_of_row _ _ 1 _ _ _ h2
        have c22 := cell_of_row _ _ 2 _ _ _ h2
        have c23 := cell_of_row _ _ 3 _ _ _ h2
        have c24 := cell_of_row _ _ 4 _ _ _ h2
        have f1 : ∀ j, X.frozen? ⟨w.heap.size + 1, j, none⟩ = false := fun j => frozen_of_row _ _ _ _ _ h1
        have f2 : ∀ j, X.frozen? ⟨w.heap.size + 1 + 1, j, none⟩ = false := fun j => frozen_of_row _ _ _ _ _ h2
        clear h1 h2
        have HD := Lib.hid (HX.out.done (.int .i64 1) (.string tx) (.slice none 0 0) (.bool false) (.string line) (.slice a ln lc) (.int .i64 (en : Int)) (.int .i64 (i : Int)) (.int .i64 (n1 : Int)))
        skip
        go_region
        go_wp2_with fail
        (try simp only [Exit.inBlock, Exit.then])
        refine wret (w := w) (.int .i64 1) (.string tx) (.slice none 0 0) (.bool false) (.string line) (.slice a ln lc) (.int .i64 (en : Int)) (.int .i64 (i : Int)) (.int .i64 (n1 : Int)) _ HD.out.1 HD.out.2.1 rfl rfl rfl ?_
        exact ⟨⟨none, 0, 0, 1, tx, en, i, n1, 0, rfl, rfl, rfl, rfl, rfl, rfl, rfl, HN1.out, .nil⟩, HD.out.2.2.drew⟩
end Go.Proofs.YtliiapdakojomabDoor

/- lex: the document's word, whole. -/
namespace Go.Proofs.YtliiapdakojomabDoor
open Go.RowKit

theorem annI_bt (l : List UInt8) (p : Nat) (hp : p < l.length) : annI (l.drop p) = (bt l p == 123 && annB (l.drop p)) := by
  unfold annI
  rw [List.head?_drop]
  have : (l[p]? == some 123) = (bt l p == 123) := by
    unfold bt
    rw [List.getElem?_eq_getElem hp]
    rfl
  rw [this]
theorem opener_is {c : UInt8} (h : openerB c = true) : c = 40 ∨ c = 91 := by
  unfold openerB at h
  rw [Bool.or_eq_true, beq_iff_eq, beq_iff_eq] at h
  exact h
theorem int_ne {c k : UInt8} (h : c ≠ k) (n : Int) (hk : (k.toNat : Int) = n) : ¬ (c.toNat : Int) = n := fun e => h (UInt8.toNat_inj.1 (by omega))
theorem word_any (line : ByteArray) (vl : Value) (lits : List ByteArray) (N : Nat) (hW : WordsOK line vl lits N) (hs : line.size ≤ 4096) (d : Nat) (hd : d ≤ 12) (c : Cur) (w : World) (hl : Strs w vl lits) (hc : Cok (L line) lits c) (hp : c.pos < line.size) (hN : line.size - c.pos ≤ N) :
    Calls Tryd.prog 72 #[cuV line vl c.pos c.lit c.count, .int .i64 (d : Int)] w fun e w' => woOut line vl w w' (rw1 (L line) lits (fun d e c => rws (L line) lits N d e [] false c) d c) e ∧ Below w.heap.size w w' := by
  obtain ⟨a, lc, rfl, hz, hcell⟩ := hl.shape
  obtain ⟨p, i, n⟩ := c
  have hll := L_length line
  have hp' : p < line.size := hp
  have hpl : p < (L line).length := by omega
  have hn : n ≤ 512 := hc.cnt
  have hi := annI_bt (L line) p hpl
  have bad : ∀ k, (∀ e w', wBad line (.slice a lits.length lc) k e ∧ Below w.heap.size w w' → woOut line (.slice a lits.length lc) w w' (.bad k) e ∧ Below w.heap.size w w') := fun k e w' h => ⟨woBad w w' h.1, h.2⟩
  unfold rw1
  dsimp only
  by_cases h3 : beginsB (L line) p = false
  · rw [if_pos h3]
    unfold beginsB at h3
    simp only [Bool.or_eq_false_iff] at h3
    obtain ⟨⟨⟨g1, g2⟩, g3⟩, g4⟩ := h3
    have n34 : bt (L line) p ≠ 34 := by simpa using g2
    have n40 : bt (L line) p ≠ 40 := fun e => by rw [e] at g3; exact absurd g3 (by decide)
    have n91 : bt (L line) p ≠ 91 := fun e => by rw [e] at g3; exact absurd g3 (by decide)
    exact (word_none line a lits.length lc p i n d w hp' hs g1 (int_ne n34 34 rfl) (int_ne n40 40 rfl) (int_ne n91 91 rfl) (by rw [hi]; exact g4)).mono (bad 30)
  · rw [if_neg h3]
    have hb : beginsB (L line) p = true := by
      cases hb : beginsB (L line) p with
      | true => rfl
      | false => exact absurd hb h3
    clear h3
    by_cases h4 : n = 512
    · rw [if_pos h4]
      refine Calls.mono ?_ (bad 34)
      by_cases w1 : wordC (bt (L line) p) = true
      · exact word_many_word line a lits.length lc p i n d w hp' hs h4 w1
      · by_cases w2 : bt (L line) p = 34
        · exact word_many_quote line a lits.length lc p i n d w hp' hs h4 w2
        · by_cases w3 : openerB (bt (L line) p) = true
          · rcases opener_is w3 with w3 | w3
            · exact word_many_open line a lits.length lc p i n d w hp' hs h4 w3
            · exact word_many_brack line a lits.length lc p i n d w hp' hs h4 w3
          · unfold beginsB at hb
            have e1 : wordC (bt (L line) p) = false := by simpa using w1
            have e2 : (bt (L line) p == 34) = false := by simpa using w2
            have e3 : openerB (bt (L line) p) = false := by simpa using w3
            rw [e1, e2, e3, Bool.false_or, Bool.false_or, Bool.false_or] at hb
            have hb' := hb
            rw [Bool.and_eq_true, beq_iff_eq] at hb'
            exact word_many_ann line a lits.length lc p i n d w hp' hs h4 hb'.1 (by rw [hi]; exact hb)
    · rw [if_neg h4]
      have hn' : n < 512 := by omega
      by_cases h5 : bt (L line) p = 34
      · rw [if_pos h5]
        have := word_quote line a lits.length lc p i n d w hp' hs hn' h5
        cases hq : quo ((L line).drop (p + 1)) false [] 0 with
        | done t m => rw [hq] at this; exact this
        | bad => rw [hq] at this; exact this
        | cut => rw [hq] at this; exact this
      · rw [if_neg h5]
        by_cases h6 : openerB (bt (L line) p) = true
        · rw [if_pos h6]
          by_cases h7 : 12 ≤ d
          · rw [if_pos h7]
            refine Calls.mono ?_ (bad 33)
            rcases opener_is h6 with w3 | w3
            · exact word_deep_open line a lits.length lc p i n d w hp' hs hn' h7 (by omega) w3
            · exact word_deep_brack line a lits.length lc p i n d w hp' hs hn' h7 (by omega) w3
          · rw [if_neg h7]
            have hc1 : Cok (L line) lits ⟨p + 1, i, n + 1⟩ := ⟨hpl, hc.lit, hn'⟩
            have ih : ∀ W, Below w.heap.size w W → Calls Tryd.prog 48 #[cuV line (.slice a lits.length lc) (p + 1) i (n + 1), .int .i64 ((d + 1 : Nat) : Int), .int .u8 ((endOf (bt (L line) p)).toNat : Int)] W fun e w' => wsOut line (.slice a lits.length lc) W w' (rws (L line) lits N (d + 1) (endOf (bt (L line) p)) [] false ⟨p + 1, i, n + 1⟩) e ∧ Below W.heap.size W w' :=
              fun W hb => hW (d + 1) (endOf (bt (L line) p)) ⟨p + 1, i, n + 1⟩ W (hl.on hb) hc1 (by show line.size - (p + 1) < N; have : line.size - p ≤ N := hN; omega) (by omega)
            generalize hoo : rws (L line) lits N (d + 1) (endOf (bt (L line) p)) [] false ⟨p + 1, i, n + 1⟩ = o at ih ⊢
            rcases opener_is h6 with w3 | w3
            · rw [w3] at ih ⊢
              have := word_list_open line a lits.length lc p i n d w hp' hs hn' (by omega) w3 o ih
              cases o <;> exact this
            · rw [w3] at ih ⊢
              have := word_list_brack line a lits.length lc p i n d w hp' hs hn' (by omega) w3 o ih
              cases o <;> exact this
        · rw [if_neg h6]
          by_cases h8 : bt (L line) p = 123
          · rw [if_pos h8]
            have h5' : annI ((L line).drop p) = true := by
              unfold beginsB at hb
              rw [h8, show wordC 123 = false from rfl, show ((123 : UInt8) == 34) = false from rfl, show openerB 123 = false from rfl, Bool.false_or, Bool.false_or, Bool.false_or] at hb
              rw [hi, h8]
              exact hb
            cases hx : lits.drop i with
            | nil =>
              have hle : lits.length ≤ i := List.drop_eq_nil_iff.1 hx
              exact (word_ann_no line a lits.length lc p i n d w hp' hs hn' hle h8 h5').mono (bad 32)
            | cons x r =>
              have hlt : i < lits.length := by
                apply Classical.byContradiction
                intro hh
                rw [List.drop_of_length_le (by omega)] at hx
                cases hx
              have hxi : lits.getD i ByteArray.empty = x := by
                rw [List.drop_eq_getElem_cons hlt] at hx
                injection hx with hx _
                rw [List.getD_eq_getElem?_getD, List.getElem?_eq_getElem hlt]
                exact hx
              obtain ⟨b, off, rfl, hbw, hcl⟩ := hcell (by omega)
              have hxc := hcl i hlt
              rw [hxi] at hxc
              dsimp only
              by_cases h9 : x.size = annN ((L line).drop p)
              · rw [if_pos h9]
                exact word_ann_ok line lits.length lc p i n d w hp' hs hn' b off x hbw hxc hlt h8 h5' h9 hz
              · rw [if_neg h9]
                exact (word_ann_ne line lits.length lc p i n d w hp' hs hn' b off x hbw hxc hlt h8 h5' h9).mono (bad 32)
          · rw [if_neg h8]
            have hw : wordC (bt (L line) p) = true := by
              unfold beginsB at hb
              have e1 : (bt (L line) p == 34) = false := by simpa using h5
              have e2 : (bt (L line) p == 123) = false := by simpa using h8
              have e3 : openerB (bt (L line) p) = false := by simpa using h6
              rw [e1, e2, e3] at hb
              simpa using hb
            exact word_atom line a lits.length lc p i n d w hp' hs hn' hw
end Go.Proofs.YtliiapdakojomabDoor

/- lex, plain: what a round of the document's words tells. -/
namespace Go.Proofs.YtliiapdakojomabDoor
open Go.RowKit

theorem rws_end {l : List UInt8} {lits : List ByteArray} {M d : Nat} {e : UInt8} {acc : List Wd} {bl : Bool} {p i n : Nat} (h : ¬ p < l.length) : rws l lits (M + 1) d e acc bl ⟨p, i, n⟩ = if 0 < d then .err 33 else if bl then .err 30 else .ok acc ⟨p, i, n⟩ := by
  rw [rws_succ, if_neg h]
theorem rws_blank_bad {l : List UInt8} {lits : List ByteArray} {M d : Nat} {e : UInt8} {acc : List Wd} {bl : Bool} {p i n : Nat} (h : p < l.length) (h1 : bt l p = 32) (h2 : (bl || acc.isEmpty || closerB (nextB l p)) = true) : rws l lits (M + 1) d e acc bl ⟨p, i, n⟩ = .err 30 := by
  rw [rws_succ, if_pos h, if_pos h1, if_pos h2]
theorem rws_blank {l : List UInt8} {lits : List ByteArray} {M d : Nat} {e : UInt8} {acc : List Wd} {bl : Bool} {p i n : Nat} (h : p < l.length) (h1 : bt l p = 32) (h2 : (bl || acc.isEmpty || closerB (nextB l p)) = false) : rws l lits (M + 1) d e acc bl ⟨p, i, n⟩ = rws l lits M d e acc true ⟨p + 1, i, n⟩ := by
  rw [rws_succ, if_pos h, if_pos h1, if_neg (by rw [h2]; exact Bool.false_ne_true)]
theorem rws_close_bad {l : List UInt8} {lits : List ByteArray} {M d : Nat} {e : UInt8} {acc : List Wd} {bl : Bool} {p i n : Nat} (h : p < l.length) (h1 : closerB (bt l p) = true) (h2 : d = 0 ∨ bt l p ≠ e) : rws l lits (M + 1) d e acc bl ⟨p, i, n⟩ = .err 33 := by
  have h0 : bt l p ≠ 32 := fun e => by rw [e] at h1; exact absurd h1 (by decide)
  rw [rws_succ, if_pos h, if_neg h0, if_pos h1, if_pos h2]
theorem rws_close {l : List UInt8} {lits : List ByteArray} {M d : Nat} {e : UInt8} {acc : List Wd} {bl : Bool} {p i n : Nat} (h : p < l.length) (h1 : closerB (bt l p) = true) (h2 : ¬ (d = 0 ∨ bt l p ≠ e)) : rws l lits (M + 1) d e acc bl ⟨p, i, n⟩ = .ok acc ⟨p + 1, i, n⟩ := by
  have h0 : bt l p ≠ 32 := fun e => by rw [e] at h1; exact absurd h1 (by decide)
  rw [rws_succ, if_pos h, if_neg h0, if_pos h1, if_neg h2]
theorem rws_word {l : List UInt8} {lits : List ByteArray} {M d : Nat} {e : UInt8} {acc : List Wd} {bl : Bool} {p i n : Nat} (h : p < l.length) (h0 : bt l p ≠ 32) (h1 : closerB (bt l p) = false) : rws l lits (M + 1) d e acc bl ⟨p, i, n⟩ = match rw1 l lits (fun d e c => rws l lits M d e [] false c) d ⟨p, i, n⟩ with
    | .bad k => .err k
    | .ok d' c' => rws l lits M d e (acc ++ [d'.glue (!acc.isEmpty && !bl)]) false c' := by
  rw [rws_succ, if_pos h, if_neg h0, if_neg (by rw [h1]; exact Bool.false_ne_true)]
  cases rw1 l lits (fun d e c => rws l lits M d e [] false c) d ⟨p, i, n⟩ <;> rfl
theorem next_in {l : List UInt8} {p : Nat} (h : p + 1 < l.length) : nextB l p = bt l (p + 1) := by
  unfold nextB
  rw [if_pos h]
theorem next_out {l : List UInt8} {p : Nat} (h : ¬ p + 1 < l.length) : nextB l p = 0 := by
  unfold nextB
  rw [if_neg h]
/-- The words' last: what lies in the list's memory behind the result. -/
theorem closer_no {c : UInt8} (h : closerB c = false) : c ≠ 41 ∧ c ≠ 93 := ⟨fun e => by rw [e] at h; exact absurd h (by decide), fun e => by rw [e] at h; exact absurd h (by decide)⟩
theorem closer_is {c : UInt8} (h : closerB c = true) : c = 41 ∨ c = 93 := by
  unfold closerB at h
  rw [Bool.or_eq_true, beq_iff_eq, beq_iff_eq] at h
  exact h
end Go.Proofs.YtliiapdakojomabDoor

/- lex: the document's words: the walk. -/
namespace Go.Proofs.YtliiapdakojomabDoor
open Go.RowKit

set_option maxRecDepth 100000 in
set_option maxHeartbeats 16000000 in
theorem words_step (line : ByteArray) (vl : Value) (lits : List ByteArray) (hs : line.size ≤ 4096) (N : Nat) (ih : ∀ M, M < N → WordsOK line vl lits M) : WordsOK line vl lits N := by
  intro d e c0 w hl hc hN hd
  obtain ⟨a, lc, rfl, hz, _⟩ := hl.shape
  obtain ⟨p0, i0, n0⟩ := c0
  have hll := L_length line
  have HLL := Lib.hid hll
  have hc1 : p0 ≤ line.size := by have := hc.pos; rw [hll] at this; exact this
  have hc2 : i0 ≤ lits.length := hc.lit
  have hc3 : n0 ≤ 512 := hc.cnt
  have hN0 : line.size - p0 < N := hN
  generalize hR : rws (L line) lits N d e [] false ⟨p0, i0, n0⟩ = R
  have HRR := Lib.hid hR
  have HL := Lib.hid hl
  have HIH := Lib.hid ih
  clear hR hl hc hN ih hll
  have h256 : e.toNat < 256 := e.toNat_lt
  unfold cuV
  dsimp only
  go_enter Tryd.func48, Tryd.ntmps48
  go_wp2_with fail
  go_loopg [9, 10] line.size (fun gg s9 s10 wr => ∃ (M : Nat) (acc : List Wd) (bl : Bool) (p i n : Nat) (ka : Option Addr) (kn kc : Nat) (D : Nat → Prop) (X : World), X = wr ∧ s9 = .slice ka kn kc ∧ s10 = .bool bl ∧ M ≤ N ∧ line.size - p < M ∧ p ≤ line.size ∧ line.size - p ≤ gg ∧ kn ≤ p ∧ n ≤ 512 ∧ i ≤ lits.length ∧ Hid (kn = acc.length) ∧ Hid (Ww w line (.slice a lits.length lc) p i n ka kn kc acc D X) ∧ Hid (rws (L line) lits M d e acc bl ⟨p, i, n⟩ = R))
  case atStart => exact ⟨N, [], false, p0, i0, n0, none, 0, 0, _, _, rfl, rfl, rfl, Nat.le_refl _, hN0, hc1, by omega, Nat.zero_le _, hc3, hc2, Lib.hid rfl, Lib.hid (ww_start w line (.slice a lits.length lc) p0 i0 n0), HRR⟩
  case round =>
    clear HRR hc1 hc2 hc3 hN0
    obtain ⟨M, acc, bl, p, i, n, ka, kn, kc, D, X, hX, hs9, hs10, hMN, hM, hpl, hgg, hap, hn, hi, HK, HX, HR⟩ := hrel
    subst hX
    subst hs9
    subst hs10
    obtain ⟨q0, q1, q2, q3, q4⟩ := HX.out.cells
    obtain ⟨M, rfl⟩ : ∃ k, M = k + 1 := ⟨M - 1, by omega⟩
    by_cases hlt : p < line.size
    · have hpz : (p : Int) < (line.size : Int) := by omega
      have hp0 : (0 : Int) ≤ (p : Int) := by omega
      have HP : Hid (p < (L line).length) := Lib.hid (by rw [HLL.out]; exact hlt)
      have ea := get_btx line p hlt
      by_cases h32 : bt (L line) p = 32
      · have eb : (line[p]'hlt).toNat = 32 := by rw [ea, h32]; rfl
        have H32 := Lib.hid h32
        clear ea h32 HIH HL
        by_cases h2 : p + 1 < line.size
        · have hz2 : (p : Int) + 1 < (line.size : Int) := by omega
          have hz1 : (0 : Int) ≤ (p : Int) + 1 := by omega
          have ea2 := get_btx line (p + 1) h2
          have h25 := bt_lt (L line) (p + 1)
          have HN : Hid (nextB (L line) p = bt (L line) (p + 1)) := Lib.hid (next_in (by rw [HLL.out]; exact h2))
          generalize bt (L line) (p + 1) = y at *
          cases bl with
          | true =>
            have HB : Hid (Out.err 30 = R) := Lib.hid ((rws_blank_bad HP.out H32.out (rfl)).symm.trans HR.out)
            clear HR HN H32
            have h2 := HX.out.cu2
            have c20 := cell_of_row _ _ 0 _ _ _ h2
            have c21 := cell_of_row _ _ 1 _ _ _ h2
            have c22 := cell_of_row _ _ 2 _ _ _ h2
            have c23 := cell_of_row _ _ 3 _ _ _ h2
            have c24 := cell_of_row _ _ 4 _ _ _ h2
            have f2 : ∀ j, X.frozen? ⟨w.heap.size + 1, j, none⟩ = false := fun j => frozen_of_row _ _ _ _ _ h2
            clear h2
            have HD := Lib.hid (HX.out.done (.string line) (.slice a lits.length lc) (.int .i64 (p : Int)) (.int .i64 (i : Int)) (.int .i64 (n : Int)))
            go_upto_region 10 with fail
            go_region
            all_goals (go_wp2_with fail; (try simp only [Exit.inBlock, Exit.then]); refine wsret (w := w) (.slice none 0 0) (.string line) (.slice a lits.length lc) (.int .i64 (p : Int)) (.int .i64 (i : Int)) (.int .i64 (n : Int)) _ HD.out.1 rfl rfl rfl ?_; (refine ⟨⟨none, 0, 0, p, i, n, 30, rfl, ?_⟩, HD.out.2.1.drew⟩; rw [← HB.out]; exact rfl))
          | false =>
            by_cases hk0 : kn = 0
            · subst hk0
              have hac : acc = [] := List.eq_nil_of_length_eq_zero HK.out.symm
              subst hac
              have HB : Hid (Out.err 30 = R) := Lib.hid ((rws_blank_bad HP.out H32.out (by simp)).symm.trans HR.out)
              clear HR HN H32
              have h2 := HX.out.cu2
              have c20 := cell_of_row _ _ 0 _ _ _ h2
              have c21 := cell_of_row _ _ 1 _ _ _ h2
              have c22 := cell_of_row _ _ 2 _ _ _ h2
              have c23 := cell_of_row _ _ 3 _ _ _ h2
              have c24 := cell_of_row _ _ 4 _ _ _ h2
              have f2 : ∀ j, X.frozen? ⟨w.heap.size + 1, j, none⟩ = false := fun j => frozen_of_row _ _ _ _ _ h2
              clear h2
              have HD := Lib.hid (HX.out.done (.string line) (.slice a lits.length lc) (.int .i64 (p : Int)) (.int .i64 (i : Int)) (.int .i64 (n : Int)))
              go_upto_region 10 with fail
              go_region
              all_goals (go_wp2_with fail; (try simp only [Exit.inBlock, Exit.then]); refine wsret (w := w) (.slice none 0 0) (.string line) (.slice a lits.length lc) (.int .i64 (p : Int)) (.int .i64 (i : Int)) (.int .i64 (n : Int)) _ HD.out.1 rfl rfl rfl ?_; (refine ⟨⟨none, 0, 0, p, i, n, 30, rfl, ?_⟩, HD.out.2.1.drew⟩; rw [← HB.out]; exact rfl))
            · have hkz : ((kn : Int) == 0) = false := beq_eq_false_iff_ne.2 (by omega)
              have hae : acc.isEmpty = false := by
                cases acc with
                | nil => exact absurd HK.out hk0
                | cons _ _ => rfl
              have HAE := Lib.hid hae
              clear hae
              by_cases y1 : y = 41
              · subst y1
                have HB : Hid (Out.err 30 = R) := Lib.hid ((rws_blank_bad HP.out H32.out (by rw [HN.out]; simp [closerB])).symm.trans HR.out)
                clear HR HN H32
                have h2 := HX.out.cu2
                have c20 := cell_of_row _ _ 0 _ _ _ h2
                have c21 := cell_of_row _ _ 1 _ _ _ h2
                have c22 := cell_of_row _ _ 2 _ _ _ h2
                have c23 := cell_of_row _ _ 3 _ _ _ h2
                have c24 := cell_of_row _ _ 4 _ _ _ h2
                have f2 : ∀ j, X.frozen? ⟨w.heap.size + 1, j, none⟩ = false := fun j => frozen_of_row _ _ _ _ _ h2
                clear h2
                have HD := Lib.hid (HX.out.done (.string line) (.slice a lits.length lc) (.int .i64 (p : Int)) (.int .i64 (i : Int)) (.int .i64 (n : Int)))
                go_upto_region 10 with fail
                go_region
                all_goals (go_wp2_with fail; (try simp only [Exit.inBlock, Exit.then]); refine wsret (w := w) (.slice none 0 0) (.string line) (.slice a lits.length lc) (.int .i64 (p : Int)) (.int .i64 (i : Int)) (.int .i64 (n : Int)) _ HD.out.1 rfl rfl rfl ?_; (refine ⟨⟨none, 0, 0, p, i, n, 30, rfl, ?_⟩, HD.out.2.1.drew⟩; rw [← HB.out]; exact rfl))
              · have y1z : (((y.toNat : Nat) : Int) == 41) = false := beq_eq_false_iff_ne.2 (int_ne y1 41 rfl)
                by_cases y2 : y = 93
                · subst y2
                  have HB : Hid (Out.err 30 = R) := Lib.hid ((rws_blank_bad HP.out H32.out (by rw [HN.out]; simp [closerB])).symm.trans HR.out)
                  clear HR HN H32
                  have h2 := HX.out.cu2
                  have c20 := cell_of_row _ _ 0 _ _ _ h2
                  have c21 := cell_of_row _ _ 1 _ _ _ h2
                  have c22 := cell_of_row _ _ 2 _ _ _ h2
                  have c23 := cell_of_row _ _ 3 _ _ _ h2
                  have c24 := cell_of_row _ _ 4 _ _ _ h2
                  have f2 : ∀ j, X.frozen? ⟨w.heap.size + 1, j, none⟩ = false := fun j => frozen_of_row _ _ _ _ _ h2
                  clear h2
                  have HD := Lib.hid (HX.out.done (.string line) (.slice a lits.length lc) (.int .i64 (p : Int)) (.int .i64 (i : Int)) (.int .i64 (n : Int)))
                  go_upto_region 10 with fail
                  go_region
                  all_goals (go_wp2_with fail; (try simp only [Exit.inBlock, Exit.then]); refine wsret (w := w) (.slice none 0 0) (.string line) (.slice a lits.length lc) (.int .i64 (p : Int)) (.int .i64 (i : Int)) (.int .i64 (n : Int)) _ HD.out.1 rfl rfl rfl ?_; (refine ⟨⟨none, 0, 0, p, i, n, 30, rfl, ?_⟩, HD.out.2.1.drew⟩; rw [← HB.out]; exact rfl))
                · have y2z : (((y.toNat : Nat) : Int) == 93) = false := beq_eq_false_iff_ne.2 (int_ne y2 93 rfl)
                  have HB : Hid (rws (L line) lits M d e acc true ⟨p + 1, i, n⟩ = R) := Lib.hid ((rws_blank HP.out H32.out (by rw [HAE.out, HN.out]; unfold closerB; rw [beq_eq_false_iff_ne.2 y1, beq_eq_false_iff_ne.2 y2]; rfl)).symm.trans HR.out)
                  clear HR HN H32 y1 y2
                  obtain ⟨fz, HQ3⟩ := HX.out.move (p + 1) ((p : Int) + 1) (by omega)
                  replace HQ3 := Lib.hid HQ3
                  go_wp2_with fail
                  go_roundg (line.size - (p + 1))
                  case measure => omega
                  case rel => exact ⟨M, acc, true, p + 1, i, n, ka, kn, kc, D, _, rfl, rfl, rfl, by omega, by omega, by omega, Nat.le_refl _, by omega, hn, hi, HK, HQ3, HB⟩
        · have hz2 : ¬ (p : Int) + 1 < (line.size : Int) := by omega
          have HN : Hid (nextB (L line) p = 0) := Lib.hid (next_out (by rw [HLL.out]; exact h2))
          cases bl with
          | true =>
            have HB : Hid (Out.err 30 = R) := Lib.hid ((rws_blank_bad HP.out H32.out (rfl)).symm.trans HR.out)
            clear HR HN H32
            have h2 := HX.out.cu2
            have c20 := cell_of_row _ _ 0 _ _ _ h2
            have c21 := cell_of_row _ _ 1 _ _ _ h2
            have c22 := cell_of_row _ _ 2 _ _ _ h2
            have c23 := cell_of_row _ _ 3 _ _ _ h2
            have c24 := cell_of_row _ _ 4 _ _ _ h2
            have f2 : ∀ j, X.frozen? ⟨w.heap.size + 1, j, none⟩ = false := fun j => frozen_of_row _ _ _ _ _ h2
            clear h2
            have HD := Lib.hid (HX.out.done (.string line) (.slice a lits.length lc) (.int .i64 (p : Int)) (.int .i64 (i : Int)) (.int .i64 (n : Int)))
            go_upto_region 10 with fail
            go_region
            all_goals (go_wp2_with fail; (try simp only [Exit.inBlock, Exit.then]); refine wsret (w := w) (.slice none 0 0) (.string line) (.slice a lits.length lc) (.int .i64 (p : Int)) (.int .i64 (i : Int)) (.int .i64 (n : Int)) _ HD.out.1 rfl rfl rfl ?_; (refine ⟨⟨none, 0, 0, p, i, n, 30, rfl, ?_⟩, HD.out.2.1.drew⟩; rw [← HB.out]; exact rfl))
          | false =>
            by_cases hk0 : kn = 0
            · subst hk0
              have hac : acc = [] := List.eq_nil_of_length_eq_zero HK.out.symm
              subst hac
              have HB : Hid (Out.err 30 = R) := Lib.hid ((rws_blank_bad HP.out H32.out (by simp)).symm.trans HR.out)
              clear HR HN H32
              have h2 := HX.out.cu2
              have c20 := cell_of_row _ _ 0 _ _ _ h2
              have c21 := cell_of_row _ _ 1 _ _ _ h2
              have c22 := cell_of_row _ _ 2 _ _ _ h2
              have c23 := cell_of_row _ _ 3 _ _ _ h2
              have c24 := cell_of_row _ _ 4 _ _ _ h2
              have f2 : ∀ j, X.frozen? ⟨w.heap.size + 1, j, none⟩ = false := fun j => frozen_of_row _ _ _ _ _ h2
              clear h2
              have HD := Lib.hid (HX.out.done (.string line) (.slice a lits.length lc) (.int .i64 (p : Int)) (.int .i64 (i : Int)) (.int .i64 (n : Int)))
              go_upto_region 10 with fail
              go_region
              all_goals (go_wp2_with fail; (try simp only [Exit.inBlock, Exit.then]); refine wsret (w := w) (.slice none 0 0) (.string line) (.slice a lits.length lc) (.int .i64 (p : Int)) (.int .i64 (i : Int)) (.int .i64 (n : Int)) _ HD.out.1 rfl rfl rfl ?_; (refine ⟨⟨none, 0, 0, p, i, n, 30, rfl, ?_⟩, HD.out.2.1.drew⟩; rw [← HB.out]; exact rfl))
            · have hkz : ((kn : Int) == 0) = false := beq_eq_false_iff_ne.2 (by omega)
              have hae : acc.isEmpty = false := by
                cases acc with
                | nil => exact absurd HK.out hk0
                | cons _ _ => rfl
              have HB : Hid (rws (L line) lits M d e acc true ⟨p + 1, i, n⟩ = R) := Lib.hid ((rws_blank HP.out H32.out (by rw [hae, HN.out]; rfl)).symm.trans HR.out)
              clear HR HN H32 hae
              obtain ⟨fz, HQ3⟩ := HX.out.move (p + 1) ((p : Int) + 1) (by omega)
              replace HQ3 := Lib.hid HQ3
              go_wp2_with fail
              go_roundg (line.size - (p + 1))
              case measure => omega
              case rel => exact ⟨M, acc, true, p + 1, i, n, ka, kn, kc, D, _, rfl, rfl, rfl, by omega, by omega, by omega, Nat.le_refl _, by omega, hn, hi, HK, HQ3, HB⟩
      · cases hcl : closerB (bt (L line) p) with
        | true =>
          rcases closer_is hcl with hk | hk
          · have eb : (line[p]'hlt).toNat = 41 := by rw [ea, hk]; rfl
            have HK9 := Lib.hid hk
            have HCL := Lib.hid hcl
            clear ea hk hcl h32 HIH HL
            by_cases hd0 : d = 0
            · subst hd0
              have HB : Hid (Out.err 33 = R) := Lib.hid ((rws_close_bad HP.out HCL.out (.inl rfl)).symm.trans HR.out)
              clear HR
              have h2 := HX.out.cu2
              have c20 := cell_of_row _ _ 0 _ _ _ h2
              have c21 := cell_of_row _ _ 1 _ _ _ h2
              have c22 := cell_of_row _ _ 2 _ _ _ h2
              have c23 := cell_of_row _ _ 3 _ _ _ h2
              have c24 := cell_of_row _ _ 4 _ _ _ h2
              have f2 : ∀ j, X.frozen? ⟨w.heap.size + 1, j, none⟩ = false := fun j => frozen_of_row _ _ _ _ _ h2
              clear h2
              have HD := Lib.hid (HX.out.done (.string line) (.slice a lits.length lc) (.int .i64 (p : Int)) (.int .i64 (i : Int)) (.int .i64 (n : Int)))
              go_upto_region 15 with fail
              go_region
              all_goals (go_wp2_with fail; (try simp only [Exit.inBlock, Exit.then]); refine wsret (w := w) (.slice none 0 0) (.string line) (.slice a lits.length lc) (.int .i64 (p : Int)) (.int .i64 (i : Int)) (.int .i64 (n : Int)) _ HD.out.1 rfl rfl rfl ?_; (refine ⟨⟨none, 0, 0, p, i, n, 33, rfl, ?_⟩, HD.out.2.1.drew⟩; rw [← HB.out]; exact rfl))
            · have hdz : ((d : Int) == 0) = false := beq_eq_false_iff_ne.2 (by omega)
              by_cases he : e = 41
              · have hez : ((41 : Int) != (e.toNat : Int)) = false := by rw [he]; rfl
                have HB : Hid (Out.ok acc ⟨p + 1, i, n⟩ = R) := Lib.hid ((rws_close HP.out HCL.out (fun h => h.elim hd0 (fun h => h (by rw [HK9.out, he])))).symm.trans HR.out)
                clear HR he
                obtain ⟨fz, HQ3⟩ := HX.out.move (p + 1) ((p : Int) + 1) (by omega)
                replace HQ3 := Lib.hid HQ3
                go_upto_region 17 with fail
                generalize X.setCell ⟨w.heap.size, 2, none⟩ (.int .i64 ((p : Int) + 1)) = X3 at HQ3 ⊢
                clear q0 q1 q2 q3 q4 fz HX
                obtain ⟨q0, q1, q2, q3, q4⟩ := HQ3.out.cells
                have h2 := HQ3.out.cu2
                have c20 := cell_of_row _ _ 0 _ _ _ h2
                have c21 := cell_of_row _ _ 1 _ _ _ h2
                have c22 := cell_of_row _ _ 2 _ _ _ h2
                have c23 := cell_of_row _ _ 3 _ _ _ h2
                have c24 := cell_of_row _ _ 4 _ _ _ h2
                have f2 : ∀ j, X3.frozen? ⟨w.heap.size + 1, j, none⟩ = false := fun j => frozen_of_row _ _ _ _ _ h2
                clear h2
                have HD := Lib.hid (HQ3.out.done (.string line) (.slice a lits.length lc) (.int .i64 ((p + 1 : Nat) : Int)) (.int .i64 (i : Int)) (.int .i64 (n : Int)))
                skip
                go_region
                all_goals (go_wp2_with fail; (try simp only [Exit.inBlock, Exit.then]); refine wsret (w := w) (.slice ka kn kc) (.string line) (.slice a lits.length lc) (.int .i64 ((p + 1 : Nat) : Int)) (.int .i64 (i : Int)) (.int .i64 (n : Int)) _ HD.out.1 rfl rfl rfl ?_; (refine ⟨⟨ka, kn, kc, p + 1, i, n, 0, rfl, ?_⟩, HD.out.2.1.drew⟩; rw [← HB.out]; exact ⟨rfl, rfl, rfl, rfl, lies_drew HD.out.2.2⟩))
              · have hez : ((41 : Int) != (e.toNat : Int)) = true := by
                  rw [bne_iff_ne]
                  exact fun h => he (UInt8.toNat_inj.1 (by have : (41 : UInt8).toNat = 41 := rfl; omega))
                have HB : Hid (Out.err 33 = R) := Lib.hid ((rws_close_bad HP.out HCL.out (.inr (by rw [HK9.out]; exact fun h => he h.symm))).symm.trans HR.out)
                clear HR he
                have h2 := HX.out.cu2
                have c20 := cell_of_row _ _ 0 _ _ _ h2
                have c21 := cell_of_row _ _ 1 _ _ _ h2
                have c22 := cell_of_row _ _ 2 _ _ _ h2
                have c23 := cell_of_row _ _ 3 _ _ _ h2
                have c24 := cell_of_row _ _ 4 _ _ _ h2
                have f2 : ∀ j, X.frozen? ⟨w.heap.size + 1, j, none⟩ = false := fun j => frozen_of_row _ _ _ _ _ h2
                clear h2
                have HD := Lib.hid (HX.out.done (.string line) (.slice a lits.length lc) (.int .i64 (p : Int)) (.int .i64 (i : Int)) (.int .i64 (n : Int)))
                go_upto_region 15 with fail
                go_region
                all_goals (go_wp2_with fail; (try simp only [Exit.inBlock, Exit.then]); refine wsret (w := w) (.slice none 0 0) (.string line) (.slice a lits.length lc) (.int .i64 (p : Int)) (.int .i64 (i : Int)) (.int .i64 (n : Int)) _ HD.out.1 rfl rfl rfl ?_; (refine ⟨⟨none, 0, 0, p, i, n, 33, rfl, ?_⟩, HD.out.2.1.drew⟩; rw [← HB.out]; exact rfl))
          · have eb : (line[p]'hlt).toNat = 93 := by rw [ea, hk]; rfl
            have HK9 := Lib.hid hk
            have HCL := Lib.hid hcl
            clear ea hk hcl h32 HIH HL
            by_cases hd0 : d = 0
            · subst hd0
              have HB : Hid (Out.err 33 = R) := Lib.hid ((rws_close_bad HP.out HCL.out (.inl rfl)).symm.trans HR.out)
              clear HR
              have h2 := HX.out.cu2
              have c20 := cell_of_row _ _ 0 _ _ _ h2
              have c21 := cell_of_row _ _ 1 _ _ _ h2
              have c22 := cell_of_row _ _ 2 _ _ _ h2
              have c23 := cell_of_row _ _ 3 _ _ _ h2
              have c24 := cell_of_row _ _ 4 _ _ _ h2
              have f2 : ∀ j, X.frozen? ⟨w.heap.size + 1, j, none⟩ = false := fun j => frozen_of_row _ _ _ _ _ h2
              clear h2
              have HD := Lib.hid (HX.out.done (.string line) (.slice a lits.length lc) (.int .i64 (p : Int)) (.int .i64 (i : Int)) (.int .i64 (n : Int)))
              go_upto_region 15 with fail
              go_region
              all_goals (go_wp2_with fail; (try simp only [Exit.inBlock, Exit.then]); refine wsret (w := w) (.slice none 0 0) (.string line) (.slice a lits.length lc) (.int .i64 (p : Int)) (.int .i64 (i : Int)) (.int .i64 (n : Int)) _ HD.out.1 rfl rfl rfl ?_; (refine ⟨⟨none, 0, 0, p, i, n, 33, rfl, ?_⟩, HD.out.2.1.drew⟩; rw [← HB.out]; exact rfl))
            · have hdz : ((d : Int) == 0) = false := beq_eq_false_iff_ne.2 (by omega)
              by_cases he : e = 93
              · have hez : ((93 : Int) != (e.toNat : Int)) = false := by rw [he]; rfl
                have HB : Hid (Out.ok acc ⟨p + 1, i, n⟩ = R) := Lib.hid ((rws_close HP.out HCL.out (fun h => h.elim hd0 (fun h => h (by rw [HK9.out, he])))).symm.trans HR.out)
                clear HR he
                obtain ⟨fz, HQ3⟩ := HX.out.move (p + 1) ((p : Int) + 1) (by omega)
                replace HQ3 := Lib.hid HQ3
                go_upto_region 17 with fail
                generalize X.setCell ⟨w.heap.size, 2, none⟩ (.int .i64 ((p : Int) + 1)) = X3 at HQ3 ⊢
                clear q0 q1 q2 q3 q4 fz HX
                obtain ⟨q0, q1, q2, q3, q4⟩ := HQ3.out.cells
                have h2 := HQ3.out.cu2
                have c20 := cell_of_row _ _ 0 _ _ _ h2
                have c21 := cell_of_row _ _ 1 _ _ _ h2
                have c22 := cell_of_row _ _ 2 _ _ _ h2
                have c23 := cell_of_row _ _ 3 _ _ _ h2
                have c24 := cell_of_row _ _ 4 _ _ _ h2
                have f2 : ∀ j, X3.frozen? ⟨w.heap.size + 1, j, none⟩ = false := fun j => frozen_of_row _ _ _ _ _ h2
                clear h2
                have HD := Lib.hid (HQ3.out.done (.string line) (.slice a lits.length lc) (.int .i64 ((p + 1 : Nat) : Int)) (.int .i64 (i : Int)) (.int .i64 (n : Int)))
                skip
                go_region
                all_goals (go_wp2_with fail; (try simp only [Exit.inBlock, Exit.then]); refine wsret (w := w) (.slice ka kn kc) (.string line) (.slice a lits.length lc) (.int .i64 ((p + 1 : Nat) : Int)) (.int .i64 (i : Int)) (.int .i64 (n : Int)) _ HD.out.1 rfl rfl rfl ?_; (refine ⟨⟨ka, kn, kc, p + 1, i, n, 0, rfl, ?_⟩, HD.out.2.1.drew⟩; rw [← HB.out]; exact ⟨rfl, rfl, rfl, rfl, lies_drew HD.out.2.2⟩))
              · have hez : ((93 : Int) != (e.toNat : Int)) = true := by
                  rw [bne_iff_ne]
                  exact fun h => he (UInt8.toNat_inj.1 (by have : (93 : UInt8).toNat = 93 := rfl; omega))
                have HB : Hid (Out.err 33 = R) := Lib.hid ((rws_close_bad HP.out HCL.out (.inr (by rw [HK9.out]; exact fun h => he h.symm))).symm.trans HR.out)
                clear HR he
                have h2 := HX.out.cu2
                have c20 := cell_of_row _ _ 0 _ _ _ h2
                have c21 := cell_of_row _ _ 1 _ _ _ h2
                have c22 := cell_of_row _ _ 2 _ _ _ h2
                have c23 := cell_of_row _ _ 3 _ _ _ h2
                have c24 := cell_of_row _ _ 4 _ _ _ h2
                have f2 : ∀ j, X.frozen? ⟨w.heap.size + 1, j, none⟩ = false := fun j => frozen_of_row _ _ _ _ _ h2
                clear h2
                have HD := Lib.hid (HX.out.done (.string line) (.slice a lits.length lc) (.int .i64 (p : Int)) (.int .i64 (i : Int)) (.int .i64 (n : Int)))
                go_upto_region 15 with fail
                go_region
                all_goals (go_wp2_with fail; (try simp only [Exit.inBlock, Exit.then]); refine wsret (w := w) (.slice none 0 0) (.string line) (.slice a lits.length lc) (.int .i64 (p : Int)) (.int .i64 (i : Int)) (.int .i64 (n : Int)) _ HD.out.1 rfl rfl rfl ?_; (refine ⟨⟨none, 0, 0, p, i, n, 33, rfl, ?_⟩, HD.out.2.1.drew⟩; rw [← HB.out]; exact rfl))
        | false =>
          have HW1 := Lib.hid ((rws_word (lits := lits) (M := M) (d := d) (e := e) (acc := acc) (bl := bl) (i := i) (n := n) HP.out h32 hcl).symm.trans HR.out)
          have h25 := bt_lt (L line) p
          have e32 : (((bt (L line) p).toNat : Int) == 32) = false := beq_eq_false_iff_ne.2 (int_ne h32 32 rfl)
          have e41 : (((bt (L line) p).toNat : Int) == 41) = false := beq_eq_false_iff_ne.2 (int_ne (closer_no hcl).1 41 rfl)
          have e93 : (((bt (L line) p).toNat : Int) == 93) = false := beq_eq_false_iff_ne.2 (int_ne (closer_no hcl).2 93 rfl)
          have hck : Cok (L line) lits ⟨p, i, n⟩ := ⟨by rw [HLL.out]; exact hpl, hi, hn⟩
          have HWD := Lib.hid (word_any line (.slice a lits.length lc) lits M (HIH.out M (by omega)) hs d hd ⟨p, i, n⟩ X (HL.out.on HX.out.below) hck hlt (by show line.size - p ≤ M; omega))
          have HOK := Lib.hid (rw1_ok (L line) lits (fun d e c => rws (L line) lits M d e [] false c) d ⟨p, i, n⟩ hck HP.out (fun d e c' hc' => rws_ok (L line) lits M d e [] false c' hc'))
          clear hck hcl h32 HR
          generalize bt (L line) p = c at *
          cases hrw : rw1 (L line) lits (fun d e c => rws (L line) lits M d e [] false c) d ⟨p, i, n⟩ with
          | bad k =>
            rw [hrw] at HWD HW1 HOK
            clear hrw
            have hk0 : ((k : Int) != 0) = true := by rw [bne_iff_ne]; exact HOK.out
            have HB : Hid (Out.err k = R) := Lib.hid HW1.out
            clear HW1 HOK HIH HL
            go_upto_region 19 with (go_at_call 72; refine HWD.out.mono ?_; rintro e7 w7 ⟨⟨a7, m7, c7, kd, t, p7, i7, n7, code, rfl, hrel7⟩, hb7⟩; obtain rfl : k = code := hrel7.symm; have HB7 := Lib.hid hb7; clear hb7; unfold cuV)
            have HZ := Lib.hid (alloc45 w7 (.int .i64 kd) (.string t) (.slice a7 m7 c7) (.bool false) (.string line) (.slice a lits.length lc) (.int .i64 (p7 : Int)) (.int .i64 (i7 : Int)) (.int .i64 (n7 : Int)))
            generalize (w7.alloc (.cells #[.int .i64 kd, .string t, .slice a7 m7 c7, .bool false] 33)).alloc (.cells #[.string line, .slice a lits.length lc, .int .i64 (p7 : Int), .int .i64 (i7 : Int), .int .i64 (n7 : Int)] 81) = X8 at HZ ⊢
            obtain ⟨hg8, hg9, hb8⟩ := HZ.out
            have HX8 := Lib.hid (HX.out.on (HB7.out.trans (hb8.mono HB7.out.size)))
            have hsX := HX.out.size
            have hs7 := HB7.out.size
            clear HZ hb8 HB7 HX q0 q1 q2 q3 q4 HWD
            generalize hgg1 : w7.heap.size + 1 = g1 at *
            generalize w7.heap.size = g at *
            have hne0 : g ≠ w.heap.size := by omega
            have hne1 : g ≠ w.heap.size + 1 := by omega
            have hnf0 : g1 ≠ w.heap.size := by omega
            have hnf1 : g1 ≠ w.heap.size + 1 := by omega
            have hnf2 : g1 ≠ g := by omega
            clear hgg1 hg8
            have y0 := cell_of_row _ _ 0 _ _ _ hg9
            have y1 := cell_of_row _ _ 1 _ _ _ hg9
            have y2 := cell_of_row _ _ 2 _ _ _ hg9
            have y3 := cell_of_row _ _ 3 _ _ _ hg9
            have y4 := cell_of_row _ _ 4 _ _ _ hg9
            clear hg9
            have h2 := HX8.out.cu2
            have c20 := cell_of_row _ _ 0 _ _ _ h2
            have c21 := cell_of_row _ _ 1 _ _ _ h2
            have c22 := cell_of_row _ _ 2 _ _ _ h2
            have c23 := cell_of_row _ _ 3 _ _ _ h2
            have c24 := cell_of_row _ _ 4 _ _ _ h2
            have f2 : ∀ j, X8.frozen? ⟨w.heap.size + 1, j, none⟩ = false := fun j => frozen_of_row _ _ _ _ _ h2
            clear h2
            have HD := Lib.hid (HX8.out.done (.string line) (.slice a lits.length lc) (.int .i64 (p7 : Int)) (.int .i64 (i7 : Int)) (.int .i64 (n7 : Int)))
            go_upto_region 20 with fail
            go_region
            all_goals (go_wp2_with fail; (try simp only [Exit.inBlock, Exit.then]); refine wsret (w := w) (.slice none 0 0) (.string line) (.slice a lits.length lc) (.int .i64 (p7 : Int)) (.int .i64 (i7 : Int)) (.int .i64 (n7 : Int)) _ HD.out.1 rfl rfl rfl ?_; (refine ⟨⟨none, 0, 0, p7, i7, n7, k, rfl, ?_⟩, HD.out.2.1.drew⟩; rw [← HB.out]; exact rfl))
          | ok d' c' =>
            rw [hrw] at HWD HW1 HOK
            clear hrw
            obtain ⟨kd', t', kids, g'⟩ := d'
            obtain ⟨cp, ci, cn⟩ := c'
            have hpp : p < cp := HOK.out.1
            have hp7s : cp ≤ line.size := by have := HOK.out.2.pos; rw [HLL.out] at this; exact this
            have hi7b : ci ≤ lits.length := HOK.out.2.lit
            have hn7b : cn ≤ 512 := HOK.out.2.cnt
            clear HOK HIH HL
            by_cases hk0 : kn = 0
            · have hkz : ¬ (0 : Int) < (kn : Int) := by omega
              have hae : acc.isEmpty = true := by
                cases acc with
                | nil => rfl
                | cons _ _ => exact absurd (HK.out.symm.trans hk0) (by simp)
              have HB : Hid (rws (L line) lits M d e (acc ++ [Wd.mk kd' t' kids false]) false ⟨cp, ci, cn⟩ = R) := Lib.hid (by have := HW1.out; rw [hae] at this; exact this)
              clear HW1 hae hk0
              go_upto_region 19 with (go_at_call 72; refine HWD.out.mono ?_; rintro e7 w7 ⟨⟨a7, m7, c7, kd, t, p7, i7, n7, code, rfl, hrel7⟩, hb7⟩; obtain ⟨hcode, hkd, ht, _, hp7, hi7, hn7, hlies⟩ := hrel7; subst hcode; obtain rfl : kd = kd' := hkd; obtain rfl : t = t' := ht; obtain rfl : p7 = cp := hp7; obtain rfl : i7 = ci := hi7; obtain rfl : n7 = cn := hn7; have HLI : Hid (Lies w7 (fun g => X.heap.size ≤ g) a7 m7 c7 kids) := Lib.hid hlies; clear hlies; have HB7 := Lib.hid hb7; clear hb7; unfold cuV)
              have HZ := Lib.hid (alloc45 w7 (.int .i64 kd) (.string t) (.slice a7 m7 c7) (.bool false) (.string line) (.slice a lits.length lc) (.int .i64 (p7 : Int)) (.int .i64 (i7 : Int)) (.int .i64 (n7 : Int)))
              generalize (w7.alloc (.cells #[.int .i64 kd, .string t, .slice a7 m7 c7, .bool false] 33)).alloc (.cells #[.string line, .slice a lits.length lc, .int .i64 (p7 : Int), .int .i64 (i7 : Int), .int .i64 (n7 : Int)] 81) = X8 at HZ ⊢
              obtain ⟨hg8, hg9, hb8⟩ := HZ.out
              have hs7 := HB7.out.size
              have hsX := HX.out.size
              have f8 : X8.frozen? ⟨w7.heap.size, 3, none⟩ = false := frozen_of_row _ _ _ _ _ hg8
              have x3 : X8.cell? ⟨w7.heap.size, 3, none⟩ = some (.bool false) := cell_of_row _ _ 3 _ _ _ hg8
              have H8 : Hid ((X8.setCell ⟨w7.heap.size, 3, none⟩ (.bool false)).heap[w7.heap.size]? = some (.cells #[.int .i64 kd, .string t, .slice a7 m7 c7, .bool false] 33 (0, 0)) ∧ (X8.setCell ⟨w7.heap.size, 3, none⟩ (.bool false)).heap[w7.heap.size + 1]? = some (.cells #[.string line, .slice a lits.length lc, .int .i64 (p7 : Int), .int .i64 (i7 : Int), .int .i64 (n7 : Int)] 81 (0, 0)) ∧ Below X.heap.size X (X8.setCell ⟨w7.heap.size, 3, none⟩ (.bool false)) ∧ Below w7.heap.size w7 (X8.setCell ⟨w7.heap.size, 3, none⟩ (.bool false))) := Lib.hid ⟨heap_setCell_same X8 w7.heap.size 3 _ _ (.bool false) hg8, (heap_setCell_other X8 ⟨w7.heap.size, 3, none⟩ (w7.heap.size + 1) (.bool false) (by show w7.heap.size + 1 ≠ w7.heap.size; omega)).trans hg9, (HB7.out.trans (hb8.mono HB7.out.size)).setCell (p := ⟨w7.heap.size, 3, none⟩) hs7 _, hb8.setCell (p := ⟨w7.heap.size, 3, none⟩) (Nat.le_refl _) _⟩
              clear HZ hg8 hg9 hb8 q0 q1 q2 q3 q4 HWD
              go_upto_region 22 with fail
              generalize X8.setCell ⟨w7.heap.size, 3, none⟩ (.bool false) = X9 at H8 ⊢
              obtain ⟨hg8, hg9, hb9, hb79⟩ := H8.out
              clear f8 x3 H8
              have HX9 := Lib.hid (HX.out.on hb9)
              have HLI9 : Hid (Lies X9 (fun g => D g ∨ (X.heap.size ≤ g ∧ g < w7.heap.size)) a7 m7 c7 kids) := Lib.hid (HLI.out.bound.mono (fun g hg hlt => ⟨Nat.lt_of_lt_of_le hlt hb79.size, cell_of_heap (hb79.block g hlt)⟩) (fun g hg => .inr hg))
              have HDW : Hid (∀ g, (D g ∨ (X.heap.size ≤ g ∧ g < w7.heap.size)) → w.heap.size + 1 + 1 ≤ g ∧ g < X9.heap.size ∧ (Value.slice ka kn kc).ownBlock ≠ some g) := Lib.hid (fun g hg => by
                have hz9 := hb79.size
                rcases hg with hg | ⟨hg, hg2⟩
                · obtain ⟨u1, u2, u3⟩ := HX.out.dd g hg
                  exact ⟨u1, by omega, u3⟩
                · refine ⟨by omega, by omega, fun e => ?_⟩
                  have := (HX.out.row.lt g e).2
                  omega)
              have HOWN : Hid ((Value.slice ka kn kc).ownBlock ≠ some (w7.heap.size + 1)) := Lib.hid (fun e => by have := (HX.out.row.lt _ e).2; omega)
              have hlt9 : w7.heap.size + 1 < X9.heap.size := (Array.getElem?_eq_some_iff.1 hg9).1
              have HG9 := Lib.hid hg9
              have x0 := cell_of_row _ _ 0 _ _ _ hg8
              have x1 := cell_of_row _ _ 1 _ _ _ hg8
              have x2 := cell_of_row _ _ 2 _ _ _ hg8
              have x3 := cell_of_row _ _ 3 _ _ _ hg8
              clear hg8 hg9 hb9 hb79 HLI HB7 HX
              generalize hgg1 : w7.heap.size + 1 = g1 at *
              generalize w7.heap.size = g at *
              have hne0 : g ≠ w.heap.size := by omega
              have hne1 : g ≠ w.heap.size + 1 := by omega
              have hnf0 : g1 ≠ w.heap.size := by omega
              have hnf1 : g1 ≠ w.heap.size + 1 := by omega
              have hnf2 : g1 ≠ g := by omega
              clear hgg1
              have hac : acc.length ≤ 100000000 := by have := HK.out; omega
              go_upto_region 23 with (at_builtin; refine wput rfl _ _ rfl HX9.out ⟨kd, t, a7, m7, c7, false⟩ (Wd.mk kd t kids false) ⟨rfl, rfl, rfl, HLI9.out⟩ (fun g hg => .inl hg) HDW.out rfl rfl hac ?_; intro ka' kn' kc' X10 hX10 hblk; have hg10 := (hblk _ hlt9 HOWN.out).trans HG9.out; clear hblk; obtain ⟨r0, r1, r2, r3, r4⟩ := hX10.cells; have f3 : ∀ j, X10.frozen? ⟨w.heap.size, j, none⟩ = false := fun j => frozen_of_row _ _ _ _ _ hX10.cur; have hkn' := hX10.kn; rw [List.length_append, List.length_singleton, ← HK.out] at hkn'; have HKN := Lib.hid hkn'; clear hkn'; have y0 := cell_of_row _ _ 0 _ _ _ hg10; have y1 := cell_of_row _ _ 1 _ _ _ hg10; have y2 := cell_of_row _ _ 2 _ _ _ hg10; have y3 := cell_of_row _ _ 3 _ _ _ hg10; have y4 := cell_of_row _ _ 4 _ _ _ hg10; clear hg10; have HX10 := Lib.hid hX10; clear hX10 x0 x1 x2 x3)
              go_wp2_with fail
              go_roundg (line.size - p7)
              case measure => omega
              case rel => exact ⟨M, acc ++ [Wd.mk kd t kids false], false, p7, i7, n7, ka', kn', kc', _, _, rfl, rfl, rfl, by omega, by omega, hp7s, Nat.le_refl _, by have := HKN.out; omega, hn7b, hi7b, Lib.hid HX10.out.kn, Lib.hid (HX10.out.jump p7 i7 n7), HB⟩
            · have hkz : (0 : Int) < (kn : Int) := by omega
              have hae : acc.isEmpty = false := by
                cases acc with
                | nil => exact absurd HK.out hk0
                | cons _ _ => rfl
              cases bl with
              | true =>
                have HB : Hid (rws (L line) lits M d e (acc ++ [Wd.mk kd' t' kids false]) false ⟨cp, ci, cn⟩ = R) := Lib.hid (by have := HW1.out; rw [hae] at this; exact this)
                clear HW1 hae hk0
                go_upto_region 19 with (go_at_call 72; refine HWD.out.mono ?_; rintro e7 w7 ⟨⟨a7, m7, c7, kd, t, p7, i7, n7, code, rfl, hrel7⟩, hb7⟩; obtain ⟨hcode, hkd, ht, _, hp7, hi7, hn7, hlies⟩ := hrel7; subst hcode; obtain rfl : kd = kd' := hkd; obtain rfl : t = t' := ht; obtain rfl : p7 = cp := hp7; obtain rfl : i7 = ci := hi7; obtain rfl : n7 = cn := hn7; have HLI : Hid (Lies w7 (fun g => X.heap.size ≤ g) a7 m7 c7 kids) := Lib.hid hlies; clear hlies; have HB7 := Lib.hid hb7; clear hb7; unfold cuV)
                have HZ := Lib.hid (alloc45 w7 (.int .i64 kd) (.string t) (.slice a7 m7 c7) (.bool false) (.string line) (.slice a lits.length lc) (.int .i64 (p7 : Int)) (.int .i64 (i7 : Int)) (.int .i64 (n7 : Int)))
                generalize (w7.alloc (.cells #[.int .i64 kd, .string t, .slice a7 m7 c7, .bool false] 33)).alloc (.cells #[.string line, .slice a lits.length lc, .int .i64 (p7 : Int), .int .i64 (i7 : Int), .int .i64 (n7 : Int)] 81) = X8 at HZ ⊢
                obtain ⟨hg8, hg9, hb8⟩ := HZ.out
                have hs7 := HB7.out.size
                have hsX := HX.out.size
                have f8 : X8.frozen? ⟨w7.heap.size, 3, none⟩ = false := frozen_of_row _ _ _ _ _ hg8
                have x3 : X8.cell? ⟨w7.heap.size, 3, none⟩ = some (.bool false) := cell_of_row _ _ 3 _ _ _ hg8
                have H8 : Hid ((X8.setCell ⟨w7.heap.size, 3, none⟩ (.bool false)).heap[w7.heap.size]? = some (.cells #[.int .i64 kd, .string t, .slice a7 m7 c7, .bool false] 33 (0, 0)) ∧ (X8.setCell ⟨w7.heap.size, 3, none⟩ (.bool false)).heap[w7.heap.size + 1]? = some (.cells #[.string line, .slice a lits.length lc, .int .i64 (p7 : Int), .int .i64 (i7 : Int), .int .i64 (n7 : Int)] 81 (0, 0)) ∧ Below X.heap.size X (X8.setCell ⟨w7.heap.size, 3, none⟩ (.bool false)) ∧ Below w7.heap.size w7 (X8.setCell ⟨w7.heap.size, 3, none⟩ (.bool false))) := Lib.hid ⟨heap_setCell_same X8 w7.heap.size 3 _ _ (.bool false) hg8, (heap_setCell_other X8 ⟨w7.heap.size, 3, none⟩ (w7.heap.size + 1) (.bool false) (by show w7.heap.size + 1 ≠ w7.heap.size; omega)).trans hg9, (HB7.out.trans (hb8.mono HB7.out.size)).setCell (p := ⟨w7.heap.size, 3, none⟩) hs7 _, hb8.setCell (p := ⟨w7.heap.size, 3, none⟩) (Nat.le_refl _) _⟩
                clear HZ hg8 hg9 hb8 q0 q1 q2 q3 q4 HWD
                go_upto_region 22 with fail
                generalize X8.setCell ⟨w7.heap.size, 3, none⟩ (.bool false) = X9 at H8 ⊢
                obtain ⟨hg8, hg9, hb9, hb79⟩ := H8.out
                clear f8 x3 H8
                have HX9 := Lib.hid (HX.out.on hb9)
                have HLI9 : Hid (Lies X9 (fun g => D g ∨ (X.heap.size ≤ g ∧ g < w7.heap.size)) a7 m7 c7 kids) := Lib.hid (HLI.out.bound.mono (fun g hg hlt => ⟨Nat.lt_of_lt_of_le hlt hb79.size, cell_of_heap (hb79.block g hlt)⟩) (fun g hg => .inr hg))
                have HDW : Hid (∀ g, (D g ∨ (X.heap.size ≤ g ∧ g < w7.heap.size)) → w.heap.size + 1 + 1 ≤ g ∧ g < X9.heap.size ∧ (Value.slice ka kn kc).ownBlock ≠ some g) := Lib.hid (fun g hg => by
                  have hz9 := hb79.size
                  rcases hg with hg | ⟨hg, hg2⟩
                  · obtain ⟨u1, u2, u3⟩ := HX.out.dd g hg
                    exact ⟨u1, by omega, u3⟩
                  · refine ⟨by omega, by omega, fun e => ?_⟩
                    have := (HX.out.row.lt g e).2
                    omega)
                have HOWN : Hid ((Value.slice ka kn kc).ownBlock ≠ some (w7.heap.size + 1)) := Lib.hid (fun e => by have := (HX.out.row.lt _ e).2; omega)
                have hlt9 : w7.heap.size + 1 < X9.heap.size := (Array.getElem?_eq_some_iff.1 hg9).1
                have HG9 := Lib.hid hg9
                have x0 := cell_of_row _ _ 0 _ _ _ hg8
                have x1 := cell_of_row _ _ 1 _ _ _ hg8
                have x2 := cell_of_row _ _ 2 _ _ _ hg8
                have x3 := cell_of_row _ _ 3 _ _ _ hg8
                clear hg8 hg9 hb9 hb79 HLI HB7 HX
                generalize hgg1 : w7.heap.size + 1 = g1 at *
                generalize w7.heap.size = g at *
                have hne0 : g ≠ w.heap.size := by omega
                have hne1 : g ≠ w.heap.size + 1 := by omega
                have hnf0 : g1 ≠ w.heap.size := by omega
                have hnf1 : g1 ≠ w.heap.size + 1 := by omega
                have hnf2 : g1 ≠ g := by omega
                clear hgg1
                have hac : acc.length ≤ 100000000 := by have := HK.out; omega
                go_upto_region 23 with (at_builtin; refine wput rfl _ _ rfl HX9.out ⟨kd, t, a7, m7, c7, false⟩ (Wd.mk kd t kids false) ⟨rfl, rfl, rfl, HLI9.out⟩ (fun g hg => .inl hg) HDW.out rfl rfl hac ?_; intro ka' kn' kc' X10 hX10 hblk; have hg10 := (hblk _ hlt9 HOWN.out).trans HG9.out; clear hblk; obtain ⟨r0, r1, r2, r3, r4⟩ := hX10.cells; have f3 : ∀ j, X10.frozen? ⟨w.heap.size, j, none⟩ = false := fun j => frozen_of_row _ _ _ _ _ hX10.cur; have hkn' := hX10.kn; rw [List.length_append, List.length_singleton, ← HK.out] at hkn'; have HKN := Lib.hid hkn'; clear hkn'; have y0 := cell_of_row _ _ 0 _ _ _ hg10; have y1 := cell_of_row _ _ 1 _ _ _ hg10; have y2 := cell_of_row _ _ 2 _ _ _ hg10; have y3 := cell_of_row _ _ 3 _ _ _ hg10; have y4 := cell_of_row _ _ 4 _ _ _ hg10; clear hg10; have HX10 := Lib.hid hX10; clear hX10 x0 x1 x2 x3)
                go_wp2_with fail
                go_roundg (line.size - p7)
                case measure => omega
                case rel => exact ⟨M, acc ++ [Wd.mk kd t kids false], false, p7, i7, n7, ka', kn', kc', _, _, rfl, rfl, rfl, by omega, by omega, hp7s, Nat.le_refl _, by have := HKN.out; omega, hn7b, hi7b, Lib.hid HX10.out.kn, Lib.hid (HX10.out.jump p7 i7 n7), HB⟩
              | false =>
                have HB : Hid (rws (L line) lits M d e (acc ++ [Wd.mk kd' t' kids true]) false ⟨cp, ci, cn⟩ = R) := Lib.hid (by have := HW1.out; rw [hae] at this; exact this)
                clear HW1 hae hk0
                go_upto_region 19 with (go_at_call 72; refine HWD.out.mono ?_; rintro e7 w7 ⟨⟨a7, m7, c7, kd, t, p7, i7, n7, code, rfl, hrel7⟩, hb7⟩; obtain ⟨hcode, hkd, ht, _, hp7, hi7, hn7, hlies⟩ := hrel7; subst hcode; obtain rfl : kd = kd' := hkd; obtain rfl : t = t' := ht; obtain rfl : p7 = cp := hp7; obtain rfl : i7 = ci := hi7; obtain rfl : n7 = cn := hn7; have HLI : Hid (Lies w7 (fun g => X.heap.size ≤ g) a7 m7 c7 kids) := Lib.hid hlies; clear hlies; have HB7 := Lib.hid hb7; clear hb7; unfold cuV)
                have HZ := Lib.hid (alloc45 w7 (.int .i64 kd) (.string t) (.slice a7 m7 c7) (.bool false) (.string line) (.slice a lits.length lc) (.int .i64 (p7 : Int)) (.int .i64 (i7 : Int)) (.int .i64 (n7 : Int)))
                generalize (w7.alloc (.cells #[.int .i64 kd, .string t, .slice a7 m7 c7, .bool false] 33)).alloc (.cells #[.string line, .slice a lits.length lc, .int .i64 (p7 : Int), .int .i64 (i7 : Int), .int .i64 (n7 : Int)] 81) = X8 at HZ ⊢
                obtain ⟨hg8, hg9, hb8⟩ := HZ.out
                have hs7 := HB7.out.size
                have hsX := HX.out.size
                have f8 : X8.frozen? ⟨w7.heap.size, 3, none⟩ = false := frozen_of_row _ _ _ _ _ hg8
                have x3 : X8.cell? ⟨w7.heap.size, 3, none⟩ = some (.bool false) := cell_of_row _ _ 3 _ _ _ hg8
                have H8 : Hid ((X8.setCell ⟨w7.heap.size, 3, none⟩ (.bool true)).heap[w7.heap.size]? = some (.cells #[.int .i64 kd, .string t, .slice a7 m7 c7, .bool true] 33 (0, 0)) ∧ (X8.setCell ⟨w7.heap.size, 3, none⟩ (.bool true)).heap[w7.heap.size + 1]? = some (.cells #[.string line, .slice a lits.length lc, .int .i64 (p7 : Int), .int .i64 (i7 : Int), .int .i64 (n7 : Int)] 81 (0, 0)) ∧ Below X.heap.size X (X8.setCell ⟨w7.heap.size, 3, none⟩ (.bool true)) ∧ Below w7.heap.size w7 (X8.setCell ⟨w7.heap.size, 3, none⟩ (.bool true))) := Lib.hid ⟨heap_setCell_same X8 w7.heap.size 3 _ _ (.bool true) hg8, (heap_setCell_other X8 ⟨w7.heap.size, 3, none⟩ (w7.heap.size + 1) (.bool true) (by show w7.heap.size + 1 ≠ w7.heap.size; omega)).trans hg9, (HB7.out.trans (hb8.mono HB7.out.size)).setCell (p := ⟨w7.heap.size, 3, none⟩) hs7 _, hb8.setCell (p := ⟨w7.heap.size, 3, none⟩) (Nat.le_refl _) _⟩
                clear HZ hg8 hg9 hb8 q0 q1 q2 q3 q4 HWD
                go_upto_region 22 with fail
                generalize X8.setCell ⟨w7.heap.size, 3, none⟩ (.bool true) = X9 at H8 ⊢
                obtain ⟨hg8, hg9, hb9, hb79⟩ := H8.out
                clear f8 x3 H8
                have HX9 := Lib.hid (HX.out.on hb9)
                have HLI9 : Hid (Lies X9 (fun g => D g ∨ (X.heap.size ≤ g ∧ g < w7.heap.size)) a7 m7 c7 kids) := Lib.hid (HLI.out.bound.mono (fun g hg hlt => ⟨Nat.lt_of_lt_of_le hlt hb79.size, cell_of_heap (hb79.block g hlt)⟩) (fun g hg => .inr hg))
                have HDW : Hid (∀ g, (D g ∨ (X.heap.size ≤ g ∧ g < w7.heap.size)) → w.heap.size + 1 + 1 ≤ g ∧ g < X9.heap.size ∧ (Value.slice ka kn kc).ownBlock ≠ some g) := Lib.hid (fun g hg => by
                  have hz9 := hb79.size
                  rcases hg with hg | ⟨hg, hg2⟩
                  · obtain ⟨u1, u2, u3⟩ := HX.out.dd g hg
                    exact ⟨u1, by omega, u3⟩
                  · refine ⟨by omega, by omega, fun e => ?_⟩
                    have := (HX.out.row.lt g e).2
                    omega)
                have HOWN : Hid ((Value.slice ka kn kc).ownBlock ≠ some (w7.heap.size + 1)) := Lib.hid (fun e => by have := (HX.out.row.lt _ e).2; omega)
                have hlt9 : w7.heap.size + 1 < X9.heap.size := (Array.getElem?_eq_some_iff.1 hg9).1
                have HG9 := Lib.hid hg9
                have x0 := cell_of_row _ _ 0 _ _ _ hg8
                have x1 := cell_of_row _ _ 1 _ _ _ hg8
                have x2 := cell_of_row _ _ 2 _ _ _ hg8
                have x3 := cell_of_row _ _ 3 _ _ _ hg8
                clear hg8 hg9 hb9 hb79 HLI HB7 HX
                generalize hgg1 : w7.heap.size + 1 = g1 at *
                generalize w7.heap.size = g at *
                have hne0 : g ≠ w.heap.size := by omega
                have hne1 : g ≠ w.heap.size + 1 := by omega
                have hnf0 : g1 ≠ w.heap.size := by omega
                have hnf1 : g1 ≠ w.heap.size + 1 := by omega
                have hnf2 : g1 ≠ g := by omega
                clear hgg1
                have hac : acc.length ≤ 100000000 := by have := HK.out; omega
                go_upto_region 23 with (at_builtin; refine wput rfl _ _ rfl HX9.out ⟨kd, t, a7, m7, c7, true⟩ (Wd.mk kd t kids true) ⟨rfl, rfl, rfl, HLI9.out⟩ (fun g hg => .inl hg) HDW.out rfl rfl hac ?_; intro ka' kn' kc' X10 hX10 hblk; have hg10 := (hblk _ hlt9 HOWN.out).trans HG9.out; clear hblk; obtain ⟨r0, r1, r2, r3, r4⟩ := hX10.cells; have f3 : ∀ j, X10.frozen? ⟨w.heap.size, j, none⟩ = false := fun j => frozen_of_row _ _ _ _ _ hX10.cur; have hkn' := hX10.kn; rw [List.length_append, List.length_singleton, ← HK.out] at hkn'; have HKN := Lib.hid hkn'; clear hkn'; have y0 := cell_of_row _ _ 0 _ _ _ hg10; have y1 := cell_of_row _ _ 1 _ _ _ hg10; have y2 := cell_of_row _ _ 2 _ _ _ hg10; have y3 := cell_of_row _ _ 3 _ _ _ hg10; have y4 := cell_of_row _ _ 4 _ _ _ hg10; clear hg10; have HX10 := Lib.hid hX10; clear hX10 x0 x1 x2 x3)
                go_wp2_with fail
                go_roundg (line.size - p7)
                case measure => omega
                case rel => exact ⟨M, acc ++ [Wd.mk kd t kids true], false, p7, i7, n7, ka', kn', kc', _, _, rfl, rfl, rfl, by omega, by omega, hp7s, Nat.le_refl _, by have := HKN.out; omega, hn7b, hi7b, Lib.hid HX10.out.kn, Lib.hid (HX10.out.jump p7 i7 n7), HB⟩
    · have hpz : ¬ (p : Int) < (line.size : Int) := by omega
      have HE := Lib.hid ((rws_end (lits := lits) (M := M) (d := d) (e := e) (acc := acc) (bl := bl) (p := p) (i := i) (n := n) (by rw [HLL.out]; exact hlt)).symm.trans HR.out)
      clear HR HIH HL
      by_cases hd0 : 0 < d
      · have hdz : (0 : Int) < (d : Int) := by omega
        have HB : Hid (Out.err 33 = R) := Lib.hid (by have := HE.out; rw [if_pos hd0] at this; exact this)
        clear HE
        have h2 := HX.out.cu2
        have c20 := cell_of_row _ _ 0 _ _ _ h2
        have c21 := cell_of_row _ _ 1 _ _ _ h2
        have c22 := cell_of_row _ _ 2 _ _ _ h2
        have c23 := cell_of_row _ _ 3 _ _ _ h2
        have c24 := cell_of_row _ _ 4 _ _ _ h2
        have f2 : ∀ j, X.frozen? ⟨w.heap.size + 1, j, none⟩ = false := fun j => frozen_of_row _ _ _ _ _ h2
        clear h2
        have HD := Lib.hid (HX.out.done (.string line) (.slice a lits.length lc) (.int .i64 (p : Int)) (.int .i64 (i : Int)) (.int .i64 (n : Int)))
        go_upto_region 26 with fail
        go_region
        all_goals (go_wp2_with fail; (try simp only [Exit.inBlock, Exit.then]); refine wsret (w := w) (.slice none 0 0) (.string line) (.slice a lits.length lc) (.int .i64 (p : Int)) (.int .i64 (i : Int)) (.int .i64 (n : Int)) _ HD.out.1 rfl rfl rfl ?_; (refine ⟨⟨none, 0, 0, p, i, n, 33, rfl, ?_⟩, HD.out.2.1.drew⟩; rw [← HB.out]; exact rfl))
      · have hdz : ¬ (0 : Int) < (d : Int) := by omega
        cases bl with
        | true =>
          have HB : Hid (Out.err 30 = R) := Lib.hid (by have := HE.out; rw [if_neg hd0] at this; exact this)
          clear HE
          have h2 := HX.out.cu2
          have c20 := cell_of_row _ _ 0 _ _ _ h2
          have c21 := cell_of_row _ _ 1 _ _ _ h2
          have c22 := cell_of_row _ _ 2 _ _ _ h2
          have c23 := cell_of_row _ _ 3 _ _ _ h2
          have c24 := cell_of_row _ _ 4 _ _ _ h2
          have f2 : ∀ j, X.frozen? ⟨w.heap.size + 1, j, none⟩ = false := fun j => frozen_of_row _ _ _ _ _ h2
          clear h2
          have HD := Lib.hid (HX.out.done (.string line) (.slice a lits.length lc) (.int .i64 (p : Int)) (.int .i64 (i : Int)) (.int .i64 (n : Int)))
          go_upto_region 28 with fail
          go_region
          all_goals (go_wp2_with fail; (try simp only [Exit.inBlock, Exit.then]); refine wsret (w := w) (.slice none 0 0) (.string line) (.slice a lits.length lc) (.int .i64 (p : Int)) (.int .i64 (i : Int)) (.int .i64 (n : Int)) _ HD.out.1 rfl rfl rfl ?_; (refine ⟨⟨none, 0, 0, p, i, n, 30, rfl, ?_⟩, HD.out.2.1.drew⟩; rw [← HB.out]; exact rfl))
        | false =>
          have HB : Hid (Out.ok acc ⟨p, i, n⟩ = R) := Lib.hid (by have := HE.out; rw [if_neg hd0] at this; exact this)
          clear HE
          have h2 := HX.out.cu2
          have c20 := cell_of_row _ _ 0 _ _ _ h2
          have c21 := cell_of_row _ _ 1 _ _ _ h2
          have c22 := cell_of_row _ _ 2 _ _ _ h2
          have c23 := cell_of_row _ _ 3 _ _ _ h2
          have c24 := cell_of_row _ _ 4 _ _ _ h2
          have f2 : ∀ j, X.frozen? ⟨w.heap.size + 1, j, none⟩ = false := fun j => frozen_of_row _ _ _ _ _ h2
          clear h2
          have HD := Lib.hid (HX.out.done (.string line) (.slice a lits.length lc) (.int .i64 (p : Int)) (.int .i64 (i : Int)) (.int .i64 (n : Int)))
          go_upto_region 29 with fail
          go_region
          all_goals (go_wp2_with fail; (try simp only [Exit.inBlock, Exit.then]); refine wsret (w := w) (.slice ka kn kc) (.string line) (.slice a lits.length lc) (.int .i64 (p : Int)) (.int .i64 (i : Int)) (.int .i64 (n : Int)) _ HD.out.1 rfl rfl rfl ?_; (refine ⟨⟨ka, kn, kc, p, i, n, 0, rfl, ?_⟩, HD.out.2.1.drew⟩; rw [← HB.out]; exact ⟨rfl, rfl, rfl, rfl, lies_drew HD.out.2.2⟩))
end Go.Proofs.YtliiapdakojomabDoor

/- lex: the document's Scan. -/
namespace Go.Proofs.YtliiapdakojomabDoor
open Go.RowKit

theorem words_any (line : ByteArray) (vl : Value) (lits : List ByteArray) (hs : line.size ≤ 4096) : ∀ N, WordsOK line vl lits N := fun N => Nat.strongRecOn N (fun N ih => words_step line vl lits hs N ih)
set_option maxRecDepth 100000 in
set_option maxHeartbeats 4000000 in
theorem rScan_any (line : ByteArray) (vl : Value) (lits : List ByteArray) (w : World) (hl : Strs w vl lits) (hs : line.size ≤ 140737488355328) (hz : ∀ i, i < lits.length → (lits.getD i ByteArray.empty).size ≤ 140737488355328) :
    Calls Tryd.prog 19 #[.string line, vl] w fun e w' => ∃ a n c, e = .returned (.tuple #[.slice a n c, .int .i64 (refE (L line) lits)]) ∧ Lies w' (fun g => w.heap.size ≤ g) a n c (refW (L line) lits) ∧ Below w.heap.size w w' := by
  obtain ⟨ao, cap, rfl, hlen, hcell⟩ := hl.shape
  have hll := L_length line
  have HLB : Hid (longB (L line) lits = (decide (4096 < line.size) || decide (512 < lits.length) || lits.any (fun x => decide (16384 < x.size)))) := Lib.hid (by unfold longB; rw [hll])
  have HLONG : Hid (longB (L line) lits = true → refE (L line) lits = 2 ∧ refW (L line) lits = []) := Lib.hid (fun h => by unfold refE refW; rw [h]; exact ⟨rfl, rfl⟩)
  by_cases h1 : 4096 < line.size
  · have h1z : (4096 : Int) < (line.size : Int) := by omega
    rw [decide_eq_true h1] at HLB
    obtain ⟨e1, e2⟩ := HLONG.out (by rw [HLB.out]; rfl)
    rw [e1, e2]
    clear hl hcell hz e1 e2
    go_enter Tryd.func19, Tryd.ntmps19
    go_wp2_with fail
    go_ret2
    exact ⟨none, 0, 0, rfl, .nil, Below.refl _ _⟩
  have h1z : ¬ (4096 : Int) < (line.size : Int) := by omega
  rw [decide_eq_false h1] at HLB
  by_cases h2 : 512 < lits.length
  · have h2z : (512 : Int) < (lits.length : Int) := by omega
    rw [decide_eq_true h2] at HLB
    obtain ⟨e1, e2⟩ := HLONG.out (by rw [HLB.out]; rfl)
    rw [e1, e2]
    clear hl hcell hz e1 e2
    go_enter Tryd.func19, Tryd.ntmps19
    go_wp2_with fail
    go_ret2
    exact ⟨none, 0, 0, rfl, .nil, Below.refl _ _⟩
  have h2z : ¬ (512 : Int) < (lits.length : Int) := by omega
  rw [decide_eq_false h2] at HLB
  have HC := Lib.hid hcell
  have HZ := Lib.hid hz
  have HL := Lib.hid hl
  clear hcell hz hl
  go_enter Tryd.func19, Tryd.ntmps19
  go_wp2_with fail
  go_loopg [6] lits.length (fun gg s6 wr => ∃ k : Nat, wr = w ∧ k ≤ lits.length ∧ lits.length - k ≤ gg ∧ s6 = .int .i64 k ∧ Hid ((lits.take k).any (fun x => decide (16384 < x.size)) = false))
  case atStart => exact ⟨0, rfl, Nat.zero_le _, by omega, rfl, Lib.hid rfl⟩
  case round =>
    obtain ⟨k, hwr, hk, hgg, rfl, HALL⟩ := hrel
    subst hwr
    by_cases hlt : k < lits.length
    · obtain ⟨b, off, rfl, hbw, hcl⟩ := HC.out (by omega)
      have hc := hcl k hlt
      have hzk := HZ.out k hlt
      have hltz : (k : Int) < (lits.length : Int) := by omega
      have hk0 : (0 : Int) ≤ (k : Int) := by omega
      have HS := Lib.hid (any_snoc (p := fun x => decide (16384 < x.size)) lits k hlt HALL.out)
      have HY := Lib.hid (any_yes (p := fun x => decide (16384 < x.size)) lits k hlt)
      clear hcl
      by_cases hb : 16384 < (lits.getD k ByteArray.empty).size
      · have HYY := Lib.hid (HY.out (decide_eq_true hb))
        have hbz : (16384 : Int) < ((lits.getD k ByteArray.empty).size : Int) := by omega
        have HLO := Lib.hid (HLONG.out (by rw [HLB.out, HYY.out]; rfl))
        clear HY HS
        generalize lits.getD k ByteArray.empty = t at *
        go_wp2_with fail
        go_ret2
        exact ⟨none, 0, 0, by rw [HLO.out.1]; rfl, by rw [HLO.out.2]; exact .nil, Below.refl _ _⟩
      · have hbz : ¬ (16384 : Int) < ((lits.getD k ByteArray.empty).size : Int) := by omega
        have HSS := Lib.hid (HS.out (decide_eq_false hb))
        clear HY HS
        generalize lits.getD k ByteArray.empty = t at *
        go_wp2_with fail
        go_roundg (lits.length - (k + 1))
        case measure => omega
        case rel => exact ⟨k + 1, rfl, by omega, Nat.le_refl _, by go_num, HSS⟩
    · have hltz : ¬ (k : Int) < (lits.length : Int) := by omega
      have hall : lits.any (fun x => decide (16384 < x.size)) = false := by
        have := HALL.out
        rw [List.take_of_length_le (by omega)] at this
        exact this
      have hlong : longB (L line) lits = false := by rw [HLB.out, hall]; rfl
      have HWS := Lib.hid (words_any line (.slice ao lits.length cap) lits (by omega) ((L line).length + 1) 0 0 ⟨0, 0, 0⟩ wr HL.out ⟨Nat.zero_le _, Nat.zero_le _, Nat.zero_le _⟩ (by show line.size - 0 < (L line).length + 1; omega) (by omega))
      have hck := rws_ok (L line) lits ((L line).length + 1) 0 0 [] false ⟨0, 0, 0⟩ ⟨Nat.zero_le _, Nat.zero_le _, Nat.zero_le _⟩
      have hE : refE (L line) lits = match rws (L line) lits ((L line).length + 1) 0 0 [] false ⟨0, 0, 0⟩ with | .err e => e | .ok _ c => if (lits.drop c.lit).isEmpty then 0 else 32 := by unfold refE; rw [hlong]; rfl
      have hWq : refW (L line) lits = match rws (L line) lits ((L line).length + 1) 0 0 [] false ⟨0, 0, 0⟩ with | .err _ => [] | .ok ws c => if (lits.drop c.lit).isEmpty then ws else [] := by unfold refW; rw [hlong]; rfl
      generalize rws (L line) lits ((L line).length + 1) 0 0 [] false ⟨0, 0, 0⟩ = o at *
      clear hall hlong HLB HLONG HC HZ HL HALL hll
      unfold cuV at HWS
      dsimp only at HWS
      cases o with
      | err k5 =>
        have hk5 : ((k5 : Int) != 0) = true := by rw [bne_iff_ne]; exact hck
        have HE : Hid (refE (L line) lits = k5) := Lib.hid hE
        have HWW : Hid (refW (L line) lits = []) := Lib.hid hWq
        clear hE hWq hck
        go_upto_region 9 with (go_at_call 48; refine HWS.out.mono ?_; rintro e7 w7 ⟨⟨a7, m7, c7, p7, i7, n7, code, rfl, hrel7⟩, hb7⟩; obtain rfl : k5 = code := hrel7.symm; have HB7 := Lib.hid hb7; clear hb7; unfold cuV)
        have HA5 := Lib.hid ((HB7.out).trans ((alloc5 w7 (.string line) (.slice ao lits.length cap) (.int .i64 (p7 : Int)) (.int .i64 (i7 : Int)) (.int .i64 (n7 : Int))).2.mono HB7.out.size))
        generalize w7.alloc (.cells #[.string line, .slice ao lits.length cap, .int .i64 (p7 : Int), .int .i64 (i7 : Int), .int .i64 (n7 : Int)] 81) = X8 at HA5 ⊢
        go_wp2_with fail
        go_ret2
        exact ⟨none, 0, 0, by rw [HE.out]; rfl, by rw [HWW.out]; exact .nil, HA5.out⟩
      | ok ws c =>
        obtain ⟨cp, ci, cn⟩ := c
        have hci : ci ≤ lits.length := hck.2.lit
        have hE2 : refE (L line) lits = if (lits.drop ci).isEmpty then 0 else 32 := hE
        have hW2 : refW (L line) lits = if (lits.drop ci).isEmpty then ws else [] := hWq
        clear hE hWq hck
        by_cases hcl : ci < lits.length
        · have hclz : (ci : Int) < (lits.length : Int) := by omega
          have he : (lits.drop ci).isEmpty = false := by
            cases hd : lits.drop ci with
            | nil => have := List.drop_eq_nil_iff.1 hd; omega
            | cons _ _ => rfl
          rw [he] at hE2 hW2
          have HE : Hid (refE (L line) lits = 32) := Lib.hid hE2
          have HWW : Hid (refW (L line) lits = []) := Lib.hid hW2
          clear hE2 hW2 he
          go_upto_region 9 with (go_at_call 48; refine HWS.out.mono ?_; rintro e7 w7 ⟨⟨a7, m7, c7, p7, i7, n7, code, rfl, hrel7⟩, hb7⟩; obtain ⟨hcode, hp7, hi7, hn7, hlies⟩ := hrel7; subst hcode; obtain rfl : i7 = ci := hi7; have HB7 := Lib.hid hb7; clear hb7 hp7 hn7 hlies; unfold cuV)
          have HA := Lib.hid (alloc5 w7 (.string line) (.slice ao lits.length cap) (.int .i64 (p7 : Int)) (.int .i64 (i7 : Int)) (.int .i64 (n7 : Int)))
          generalize w7.alloc (.cells #[.string line, .slice ao lits.length cap, .int .i64 (p7 : Int), .int .i64 (i7 : Int), .int .i64 (n7 : Int)] 81) = X8 at HA ⊢
          have y3 := cell_of_row _ _ 3 _ _ _ HA.out.1
          have HA5 := Lib.hid (HB7.out.trans (HA.out.2.mono HB7.out.size))
          clear HA HB7
          generalize w7.heap.size = g at *
          go_wp2_with fail
          go_ret2
          exact ⟨none, 0, 0, by rw [HE.out]; rfl, by rw [HWW.out]; exact .nil, HA5.out⟩
        · have hclz : ¬ (ci : Int) < (lits.length : Int) := by omega
          have he : (lits.drop ci).isEmpty = true := by rw [List.drop_of_length_le (by omega)]; rfl
          rw [he] at hE2 hW2
          have HE : Hid (refE (L line) lits = 0) := Lib.hid hE2
          have HWW : Hid (refW (L line) lits = ws) := Lib.hid hW2
          clear hE2 hW2 he
          go_upto_region 9 with (go_at_call 48; refine HWS.out.mono ?_; rintro e7 w7 ⟨⟨a7, m7, c7, p7, i7, n7, code, rfl, hrel7⟩, hb7⟩; obtain ⟨hcode, hp7, hi7, hn7, hlies⟩ := hrel7; subst hcode; obtain rfl : i7 = ci := hi7; have HB7 := Lib.hid hb7; have HLI := Lib.hid hlies; clear hb7 hp7 hn7 hlies; unfold cuV)
          have HA := Lib.hid (alloc5 w7 (.string line) (.slice ao lits.length cap) (.int .i64 (p7 : Int)) (.int .i64 (i7 : Int)) (.int .i64 (n7 : Int)))
          generalize w7.alloc (.cells #[.string line, .slice ao lits.length cap, .int .i64 (p7 : Int), .int .i64 (i7 : Int), .int .i64 (n7 : Int)] 81) = X8 at HA ⊢
          have y3 := cell_of_row _ _ 3 _ _ _ HA.out.1
          have HLI8 := Lib.hid (HLI.out.on HA.out.2)
          have HA5 := Lib.hid (HB7.out.trans (HA.out.2.mono HB7.out.size))
          clear HA HB7 HLI
          generalize w7.heap.size = g at *
          go_wp2_with fail
          go_ret2
          exact ⟨a7, m7, c7, by rw [HE.out]; rfl, by rw [HWW.out]; exact HLI8.out, HA5.out⟩
end Go.Proofs.YtliiapdakojomabDoor
