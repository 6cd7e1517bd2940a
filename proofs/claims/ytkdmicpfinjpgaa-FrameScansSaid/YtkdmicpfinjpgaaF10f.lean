/- frame: Encode. -/
import Derived.Test.YtkdmicpfinjpgaaF10e
namespace Go.Proofs.Ytkdmicpfinjpgaa
open Go.RowKit

theorem Size_nat (m : Nat) (w : World) (h : m ≤ 2097152) :
    Calls Try.prog 10 #[.int .i64 (m : Int)] w fun e w' => e = .returned (.int .i64 ((m + 18 : Nat) : Int)) ∧ w = w' := by
  refine (Size_any (m : Int) w).mono ?_
  rintro e w' ⟨rfl, rfl⟩
  exact ⟨ret_int (by rw [if_pos (by omega)]; omega), rfl⟩
theorem isKind_nat {k : Nat} (w : World) (h : k = 1 ∨ k = 2) :
    Calls Try.prog 18 #[.int .i64 (k : Int)] w fun e w' => e = .returned (.bool true) ∧ w = w' := by
  refine (isKind_any (k : Int) w).mono ?_
  rintro e w' ⟨rfl, rfl⟩
  exact ⟨ret_bool (by simp; omega), rfl⟩
theorem isNumber_nat {n : Nat} (w : World) (h1 : 1 ≤ n) (h2 : n < 4294967295) :
    Calls Try.prog 19 #[.int .i64 (n : Int)] w fun e w' => e = .returned (.bool true) ∧ w = w' := by
  refine (isNumber_any (n : Int) w).mono ?_
  rintro e w' ⟨rfl, rfl⟩
  exact ⟨ret_bool (by simp; omega), rfl⟩
theorem Own.table {B T : Nat} {v : Value} {l : List UInt8} {W0 w : World} (h : Own B v l W0 w) (hT : W0.heap[T]? = some (.cells (tabC 256) 54)) (hlt : T < B) : w.heap[T]? = some (.cells (tabC 256) 54) := by
  rw [h.below.block T hlt]; exact hT
set_option maxHeartbeats 2000000 in
set_option maxRecDepth 100000 in
theorem Encode_ok (k n : Nat) (s : ByteArray) (w : World) (hok : okF k n (L s)) :
    Calls Try.prog 8 #[.int .i64 (k : Int), .int .i64 (n : Int), .string s] w fun e w' => e = .returned (.tuple #[.string (S (frm k n (L s))), .int .i64 0]) ∧ Below w.heap.size w w' := by
  obtain ⟨hk, hn1, hn2, hb⟩ := hok
  have hb2 : s.size ≤ 2097152 := hb
  have HK := Lib.hid hk
  have hkb : (k : Int) % 256 = k := by omega
  have h2 := hb2
  clear hk hb hb2
  go_enter Try.func8, Try.ntmps8
  go_wp2_with (first | (go_at_call 18; with_reducible refine (isKind_nat _ HK.out).mono ?_; rintro e w1 ⟨rfl, rfl⟩) | (go_at_call 19; with_reducible refine (isNumber_nat _ hn1 hn2).mono ?_; rintro e w1 ⟨rfl, rfl⟩))
  refine (newTable_any _).mono ?_
  rintro e w1 ⟨rfl, rfl⟩
  rename_i K0 hK0
  have hb : Below w.heap.size w ((w.alloc (.cells (tabC 256) 54)).alloc (.cells (tabC 256) 54)) := ((Below.refl _ _).alloc (Nat.le_refl _) _).alloc (by simp) _
  generalize (w.alloc (.cells (tabC 256) 54)).alloc (.cells (tabC 256) 54) = w2 at hb ⊢
  refine hK0 _ _ (wpList_newTable (.tmp 8) (.tmp 19) rfl rfl rfl rfl rfl rfl ?_)
  have hl := heap_alloc_last w2 (.cells (tabC 256) 54)
  have hlt : w2.heap.size < (w2.alloc (.cells (tabC 256) 54)).heap.size := by simp
  have hb2 := hb.alloc hb.size (.cells (tabC 256) 54)
  have hle := Nat.le_trans hb.size (Nat.le_of_lt hlt)
  generalize w2.alloc (.cells (tabC 256) 54) = w3 at hl hb2 hlt hle ⊢
  have HL := Lib.hid hl
  have HB := Lib.hid hb2
  have HT := Lib.hid hlt
  have HE := Lib.hid hle
  clear hl hb2 hb hlt hle
  generalize w2.heap.size = T at *
  have hcs : #[Value.int .u8 183, .int .u8 (k : Int)] = (bc [183, u8 k]).toArray := by
    simp only [bc, List.map_cons, List.map_nil, u8_toNat]
    rw [Nat.mod_eq_of_lt (by omega)]
    rfl
  have HC := Lib.hid hcs
  clear hcs
  go_wp2_with (first | (go_at_call 10; with_reducible refine (Size_nat s.size _ h2).mono ?_; rintro e w4 ⟨rfl, rfl⟩) | (at_make; refine mk0 rfl _ _ rfl _ (s.size + 18) rfl (by omega) rfl rfl ?_; intro w4 hO4; have HO4 := Lib.hid hO4; clear hO4) | (at_builtin; refine appK rfl (.tmp 24) (.tmp 27) rfl [183, u8 k] _ 2 HC.out rfl HO4.out rfl rfl (by simp) ?_; intro v5 w5 hO5; have HO5 := Lib.hid hO5; clear hO5 HO4))
  refine (appendWord_any n (by omega) HO5.out (by simp)).mono ?_
  rintro e w6 ⟨v6, rfl, hO6⟩
  have HO6 := Lib.hid hO6
  clear hO6 HO5
  go_wp2_with fail
  refine (appendWord_any s.size (by omega) HO6.out (by simp [be4_length])).mono ?_
  rintro e w7 ⟨v7, rfl, hO7⟩
  have e7 : [] ++ [183, u8 k] ++ be4 n ++ be4 s.size = hdr k n s.size := rfl
  rw [e7] at hO7
  have HO7 := Lib.hid hO7
  clear hO7 HO6 e7
  go_wp2_with fail
  refine (appendSum_any HO7.out (by rw [hdr_length]; omega) (HO7.out.table HL.out HT.out)).mono ?_
  rintro e w8 ⟨v8, rfl, hO8⟩
  have HO8 := Lib.hid hO8
  clear hO8 HO7
  go_wp2_with (at_builtin; refine appS rfl (.tmp 38) (.tmp 39) rfl s HO8.out rfl rfl (by rw [List.length_append, hdr_length, be4_length]; omega) ?_; intro v9 w9 hO9; have HO9 := Lib.hid hO9; clear hO9)
  have e9 : hdr k n s.size ++ be4 (crc (hdr k n s.size)) ++ L s = frmA k n (L s) := rfl
  rw [e9] at HO9
  clear HO8 e9
  refine (appendSum_any HO9.out (by rw [frmA_length, L_length]; omega) (HO9.out.table HL.out HT.out)).mono ?_
  rintro e w10 ⟨v10, rfl, hO10⟩
  have hback := hO10.back
  have HO10 := Lib.hid hO10
  clear hO10 HO9
  go_wp2_with fail
  go_ret2
  exact ⟨rfl, HB.out.trans (HO10.out.below.mono HE.out)⟩
/-- What Encode answers. -/
def encE (k n : Int) (b : List UInt8) : Int := if b.length > 2097152 then 2 else if ¬ (k = 1 ∨ k = 2) then 1 else if ¬ (1 ≤ n ∧ n < 4294967295) then 3 else 0
def encS (k n : Int) (b : List UInt8) : ByteArray := if encE k n b = 0 then S (frm k.toNat n.toNat b) else ⟨#[]⟩
theorem encE_ok {k n : Int} {b : List UInt8} : encE k n b = 0 ↔ 0 ≤ k ∧ 0 ≤ n ∧ okF k.toNat n.toNat b := by
  unfold encE okF
  split
  · constructor
    · intro h; cases h
    · rintro ⟨_, _, _, _, _, h⟩; omega
  split
  · constructor
    · intro h; cases h
    · rintro ⟨h1, h2, h3, h4, h5, h6⟩; omega
  split
  · constructor
    · intro h; cases h
    · rintro ⟨h1, h2, h3, h4, h5, h6⟩; omega
  · simp; omega
set_option maxHeartbeats 2000000 in
theorem Encode_any (k n : Int) (s : ByteArray) (w : World) (hs : s.size ≤ 140737488355328) :
    Calls Try.prog 8 #[.int .i64 k, .int .i64 n, .string s] w fun e w' => e = .returned (.tuple #[.string (encS k n (L s)), .int .i64 (encE k n (L s))]) ∧ Below w.heap.size w w' := by
  by_cases h0 : encE k n (L s) = 0
  · obtain ⟨h1, h2, h3⟩ := encE_ok.1 h0
    obtain ⟨K, rfl⟩ := Int.eq_ofNat_of_zero_le h1
    obtain ⟨N, rfl⟩ := Int.eq_ofNat_of_zero_le h2
    unfold encS
    rw [h0, if_pos rfl]
    exact Encode_ok K N s w h3
  · have hE : encS k n (L s) = ⟨#[]⟩ := by unfold encS; rw [if_neg h0]
    rw [hE]
    by_cases h1 : s.size > 2097152
    · have e : encE k n (L s) = 2 := by unfold encE; rw [if_pos (by rw [L_length]; exact h1)]
      rw [e]
      clear e hE h0
      go_enter Try.func8, Try.ntmps8
      go_wp2
      go_ret2
      exact ⟨rfl, Below.refl _ _⟩
    by_cases h2 : (k = 1 ∨ k = 2)
    · have h3 : ¬ (1 ≤ n ∧ n < 4294967295) := by
        intro h3; apply h0; unfold encE; rw [if_neg (by rw [L_length]; exact h1), if_neg (fun q => q h2), if_neg (fun q => q h3)]
      have e : encE k n (L s) = 3 := by unfold encE; rw [if_neg (by rw [L_length]; exact h1), if_neg (fun q => q h2), if_pos h3]
      rw [e]
      have hk : decide (k = 1 ∨ k = 2) = true := by simpa using h2
      have hn : decide (1 ≤ n ∧ n < 4294967295) = false := by simpa using h3
      have HK := Lib.hid (fun w => isKind_any k w)
      have HN := Lib.hid (fun w => isNumber_any n w)
      rw [hk] at HK
      rw [hn] at HN
      clear e hE h0 h2 h3 hk hn
      go_enter Try.func8, Try.ntmps8
      go_wp2_with fail
      refine (HK.out _).mono ?_
      rintro e w1 ⟨rfl, rfl⟩
      go_wp2_with fail
      refine (HN.out _).mono ?_
      rintro e w1 ⟨rfl, rfl⟩
      go_wp2_with fail
      go_ret2
      exact ⟨rfl, Below.refl _ _⟩
    · have e : encE k n (L s) = 1 := by unfold encE; rw [if_neg (by rw [L_length]; exact h1), if_pos h2]
      rw [e]
      have hk : decide (k = 1 ∨ k = 2) = false := by simpa using h2
      have HK := Lib.hid (fun w => isKind_any k w)
      rw [hk] at HK
      clear e hE h0 h2 hk
      go_enter Try.func8, Try.ntmps8
      go_wp2_with fail
      refine (HK.out _).mono ?_
      rintro e w1 ⟨rfl, rfl⟩
      go_wp2_with fail
      go_ret2
      exact ⟨rfl, Below.refl _ _⟩
end Go.Proofs.Ytkdmicpfinjpgaa
