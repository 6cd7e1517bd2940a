/- octet: endsLine, goesBare, isBlank, quotedPiece. -/
import Derived.Test.YtclegocofiigiabDoorQu
import Derived.Test.YtclegocofiigiabDoorPf
namespace Go.Proofs.YtclegocofiigiabDoor
open Go.RowKit Go.Shelf

set_option maxHeartbeats 400000 in
theorem endsLine_any (s : ByteArray) (i : Nat) (w : World) (hi : i ≤ s.size) :
    Calls Tryd.prog 34 #[.string s, .int .i64 i] w fun e w' => e = .returned (.bool (crlf (L s) i)) ∧ w' = w := by
  go_enter Tryd.func34, Tryd.ntmps34
  go_wp2_with (go_at_call 61; refine (Tryd.strings_HasPrefix _ ⟨#[13, 10]⟩ _).mono ?_; rintro e w' ⟨rfl, rfl⟩)
  go_ret
  refine ⟨ret_bool ?_, rfl⟩
  unfold crlf L
  rw [List.take_of_length_le (by rw [List.length_drop, Lib.size_eq]; omega)]

set_option maxHeartbeats 400000 in
theorem goesBare_any (c : Int) (w : World) (h0 : 0 ≤ c) (h1 : c ≤ 255) :
    Calls Tryd.prog 63 #[.int .u8 c] w fun e w' => e = .returned (.bool (bareI c)) ∧ w' = w := by
  by_cases a : 33 ≤ c
  · by_cases b : c ≤ 126
    · by_cases d : c = 61
      · subst d
        go_enter Tryd.func63, Tryd.ntmps63
        go_wp2
        go_ret
        exact ⟨rfl, rfl⟩
      · have e : bareI c = true := by simp [bareI, a, b, d]
        have hd : (c != 61) = true := by simp [d]
        rw [e]; clear e
        go_enter Tryd.func63, Tryd.ntmps63
        go_wp2
        go_ret
        exact ⟨rfl, rfl⟩
    · have e : bareI c = false := by simp [bareI, b]
      rw [e]; clear e
      go_enter Tryd.func63, Tryd.ntmps63
      go_wp2
      go_ret
      exact ⟨rfl, rfl⟩
  · have e : bareI c = false := by simp [bareI, a]
    rw [e]; clear e
    go_enter Tryd.func63, Tryd.ntmps63
    go_wp2
    go_ret
    exact ⟨rfl, rfl⟩

set_option maxHeartbeats 400000 in
theorem isBlank_any (c : Int) (w : World) (h0 : 0 ≤ c) (h1 : c ≤ 255) :
    Calls Tryd.prog 41 #[.int .u8 c] w fun e w' => e = .returned (.bool (blankI c)) ∧ w' = w := by
  by_cases a : c = 32
  · subst a
    go_enter Tryd.func41, Tryd.ntmps41
    go_wp2
    go_ret
    exact ⟨rfl, rfl⟩
  · have ha : (c == 32) = false := by simp [a]
    by_cases b : c = 9
    · subst b
      go_enter Tryd.func41, Tryd.ntmps41
      go_wp2
      go_ret
      exact ⟨rfl, rfl⟩
    · have hb : (c == 9) = false := by simp [b]
      have e : blankI c = false := by simp [blankI, a, b]
      rw [e]; clear e
      go_enter Tryd.func41, Tryd.ntmps41
      go_wp2
      go_ret
      exact ⟨rfl, rfl⟩

theorem pieceOf_self (c : UInt8) (r : List UInt8) (h : (bareI c.toNat || (blankI c.toNat && (!r.isEmpty && !Lib.hasPrefix r [13, 10]))) = true) : pieceOf c r = [c] := by unfold pieceOf; rw [if_pos h]
theorem pieceOf_coded (c : UInt8) (r : List UInt8) (h : (bareI c.toNat || (blankI c.toNat && (!r.isEmpty && !Lib.hasPrefix r [13, 10]))) = false) : pieceOf c r = coded c := by unfold pieceOf; rw [if_neg (by simp [h])]
def hexB : ByteArray := ⟨#[48, 49, 50, 51, 52, 53, 54, 55, 56, 57, 65, 66, 67, 68, 69, 70]⟩

set_option maxHeartbeats 400000 in
theorem quotedPiece_self (s : ByteArray) (i : Nat) (w : World) (hs : s.size ≤ 1000000) (hi : i < s.size)
    (h : (bareI (bt (L s) i).toNat || (blankI (bt (L s) i).toNat && (!((L s).drop (i + 1)).isEmpty && !Lib.hasPrefix ((L s).drop (i + 1)) [13, 10]))) = true) :
    Calls Tryd.prog 38 #[.string s, .int .i64 i] w fun e w' => e = .returned (.string (S (piece (L s) i))) ∧ Below w.heap.size w w' := by
  have ea := get_bt s i hi
  have c0 : (bt (L s) i).toNat < 256 := bt_lt _ _
  have hp : piece (L s) i = [bt (L s) i] := pieceOf_self _ _ h
  have hx : s.extract i (i + 1) = S [bt (L s) i] := by
    rw [extract_S, take_one (L s) i hi]
  have HP := Lib.hid hp
  clear hp
  cases hb : bareI (bt (L s) i).toNat with
  | true =>
    clear h
    go_enter Tryd.func38, Tryd.ntmps38
    go_wp2_with (go_at_call 63; refine (goesBare_any _ _ (by omega) (by omega)).mono ?_; rintro e w' ⟨rfl, rfl⟩)
    go_ret
    exact ⟨ret_str (congrArg S HP.out.symm), Below.refl _ _⟩
  | false =>
    rw [hb, Bool.false_or, Bool.and_eq_true, Bool.and_eq_true] at h
    obtain ⟨h1, h2, h3⟩ := h
    have hlt : i + 1 < s.size := by
      have : (L s).length = s.size := L_length s
      rcases Nat.lt_or_ge (i + 1) s.size with h | h
      · exact h
      · rw [List.drop_eq_nil_of_le (by omega)] at h2; simp at h2
    have hc : crlf (L s) (i + 1) = false := by simpa [crlf] using h3
    clear h2 h3
    go_enter Tryd.func38, Tryd.ntmps38
    go_wp2_with (first | (go_at_call 63; refine (goesBare_any _ _ (by omega) (by omega)).mono ?_; rintro e w' ⟨rfl, rfl⟩) | (go_at_call 41; refine (isBlank_any _ _ (by omega) (by omega)).mono ?_; rintro e w' ⟨rfl, rfl⟩) | (go_at_call 34; refine (endsLine_any s (i + 1) _ (by omega)).mono ?_; rintro e w' ⟨rfl, rfl⟩))
    go_ret
    exact ⟨ret_str (congrArg S HP.out.symm), Below.refl _ _⟩
theorem rowIs_cells (w : World) (l : List UInt8) (e : TypeId) : rowIs (w.alloc (.cells (l.map fun b => Value.int .u8 b.toNat).toArray e)).drew w.heap.size l := by
  intro j hj
  show (w.alloc (.cells (l.map fun b => Value.int .u8 b.toNat).toArray e)).cell? ⟨w.heap.size, j, none⟩ = _
  rw [World.cell?_alloc_mark]
  simp [bt, hj]
theorem hexB_at (n : Nat) (h : n < 16) : ((⟨#[48, 49, 50, 51, 52, 53, 54, 55, 56, 57, 65, 66, 67, 68, 69, 70]⟩ : ByteArray)[n]'h) = bt hexL n := get_bt hexB n h

set_option maxHeartbeats 400000 in
theorem quotedPiece_coded (s : ByteArray) (i : Nat) (w : World) (hs : s.size ≤ 1000000) (hi : i < s.size)
    (h : (bareI (bt (L s) i).toNat || (blankI (bt (L s) i).toNat && (!((L s).drop (i + 1)).isEmpty && !Lib.hasPrefix ((L s).drop (i + 1)) [13, 10]))) = false) :
    Calls Tryd.prog 38 #[.string s, .int .i64 i] w fun e w' => e = .returned (.string (S (piece (L s) i))) ∧ Below w.heap.size w w' := by
  have ea := get_bt s i hi
  have c0 : (bt (L s) i).toNat < 256 := bt_lt _ _
  have hp : piece (L s) i = coded (bt (L s) i) := pieceOf_coded _ _ h
  have HP := Lib.hid hp
  clear hp
  rw [Bool.or_eq_false_iff] at h
  obtain ⟨hb, h⟩ := h
  have hand := u8_and15 (x := ((bt (L s) i).toNat : Int)) (by omega) (by omega)
  have hd : ((bt (L s) i).toNat : Int) / 16 = (((bt (L s) i).toNat / 16 : Nat) : Int) := by omega
  have hm : ((bt (L s) i).toNat : Int) % 16 = (((bt (L s) i).toNat % 16 : Nat) : Int) := by omega
  have hd16 : (bt (L s) i).toNat / 16 < 16 := by omega
  have hm16 : (bt (L s) i).toNat % 16 < 16 := by omega
  rw [hm] at hand
  have hcd : coded (bt (L s) i) = [61, bt hexL ((bt (L s) i).toNat / 16), bt hexL ((bt (L s) i).toNat % 16)] := rfl
  have HP2 := Lib.hid (HP.out.trans hcd)
  clear HP hcd hm
  generalize (bt (L s) i).toNat / 16 = d at hd hd16 HP2
  generalize (bt (L s) i).toNat % 16 = m at hand hm16 HP2
  have e1 := hexB_at d hd16
  have e2 := hexB_at m hm16
  have hcv := back_row (P := Tryd.prog) _ 44 9 5 w.heap.size 3 3 [61, bt hexL d, bt hexL m] rfl Tryd.underlying44 Tryd.underlying5 Tryd.underlying9 (rowIs_cells w [61, bt hexL d, bt hexL m] 5)
  change (convert 44 9 (.slice (some ⟨w.heap.size, 0, none⟩) 3 3)).run Tryd.prog (w.alloc (.cells #[.int .u8 61, .int .u8 ((bt hexL d).toNat : Int), .int .u8 ((bt hexL m).toNat : Int)] 5)).drew = _ at hcv
  cases hw : blankI (bt (L s) i).toNat with
  | false =>
    clear h
    go_enter Tryd.func38, Tryd.ntmps38
    go_wp2_with (first | (go_at_call 63; refine (goesBare_any _ _ (by omega) (by omega)).mono ?_; rintro e w' ⟨rfl, rfl⟩) | (go_at_call 41; refine (isBlank_any _ _ (by omega) (by omega)).mono ?_; rintro e w' ⟨rfl, rfl⟩))
    go_region
    go_wp2
    go_ret
    exact ⟨ret_str (congrArg S HP2.out.symm), ((Below.refl _ _).alloc (Nat.le_refl _) _).drew⟩
  | true =>
    rw [hw, Bool.true_and] at h
    by_cases hlt : i + 1 < s.size
    · have hne : ((L s).drop (i + 1)).isEmpty = false := by
        rw [drop_cons (L s) (i + 1) hlt]; rfl
      have hc : crlf (L s) (i + 1) = true := by
        rw [hne] at h; simpa [crlf] using h
      clear h hne
      go_enter Tryd.func38, Tryd.ntmps38
      go_wp2_with (first | (go_at_call 63; refine (goesBare_any _ _ (by omega) (by omega)).mono ?_; rintro e w' ⟨rfl, rfl⟩) | (go_at_call 41; refine (isBlank_any _ _ (by omega) (by omega)).mono ?_; rintro e w' ⟨rfl, rfl⟩) | (go_at_call 34; refine (endsLine_any s (i + 1) _ (by omega)).mono ?_; rintro e w' ⟨rfl, rfl⟩))
      go_region
      go_wp2
      go_ret
      exact ⟨ret_str (congrArg S HP2.out.symm), ((Below.refl _ _).alloc (Nat.le_refl _) _).drew⟩
    · clear h
      go_enter Tryd.func38, Tryd.ntmps38
      go_wp2_with (first | (go_at_call 63; refine (goesBare_any _ _ (by omega) (by omega)).mono ?_; rintro e w' ⟨rfl, rfl⟩) | (go_at_call 41; refine (isBlank_any _ _ (by omega) (by omega)).mono ?_; rintro e w' ⟨rfl, rfl⟩))
      go_region
      go_wp2
      go_ret
      exact ⟨ret_str (congrArg S HP2.out.symm), ((Below.refl _ _).alloc (Nat.le_refl _) _).drew⟩

theorem quotedPiece_any (s : ByteArray) (i : Nat) (w : World) (hs : s.size ≤ 1000000) (hi : i < s.size) :
    Calls Tryd.prog 38 #[.string s, .int .i64 i] w fun e w' => e = .returned (.string (S (piece (L s) i))) ∧ Below w.heap.size w w' := by
  cases h : (bareI (bt (L s) i).toNat || (blankI (bt (L s) i).toNat && (!((L s).drop (i + 1)).isEmpty && !Lib.hasPrefix ((L s).drop (i + 1)) [13, 10]))) with
  | true => exact quotedPiece_self s i w hs hi h
  | false => exact quotedPiece_coded s i w hs hi h
end Go.Proofs.YtclegocofiigiabDoor
