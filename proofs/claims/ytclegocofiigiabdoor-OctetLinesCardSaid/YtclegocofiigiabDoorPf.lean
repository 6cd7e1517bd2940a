/- octet: Base64, Loose64, FromBase64. -/
import Derived.Test.YtclegocofiigiabDoorPe
import Derived.Test.YtclegocofiigiabDoorSh
namespace Go.Proofs.YtclegocofiigiabDoor
open Go.RowKit Go.Shelf

def mailL : List UInt8 := [65, 66, 67, 68, 69, 70, 71, 72, 73, 74, 75, 76, 77, 78, 79, 80, 81, 82, 83, 84, 85, 86, 87, 88, 89, 90, 97, 98, 99, 100, 101, 102, 103, 104, 105, 106, 107, 108, 109, 110, 111, 112, 113, 114, 115, 116, 117, 118, 119, 120, 121, 122, 48, 49, 50, 51, 52, 53, 54, 55, 56, 57, 43, 47]
def mailB : ByteArray := ⟨#[65, 66, 67, 68, 69, 70, 71, 72, 73, 74, 75, 76, 77, 78, 79, 80, 81, 82, 83, 84, 85, 86, 87, 88, 89, 90, 97, 98, 99, 100, 101, 102, 103, 104, 105, 106, 107, 108, 109, 110, 111, 112, 113, 114, 115, 116, 117, 118, 119, 120, 121, 122, 48, 49, 50, 51, 52, 53, 54, 55, 56, 57, 43, 47]⟩
theorem mailB_L : L mailB = mailL := rfl
theorem mailB_size : mailB.size = 64 := rfl
def padN (n : Nat) : Nat := (4 - n % 4) % 4
def base64 (l : List UInt8) : List UInt8 := pack l mailL ++ List.replicate (padN (pack l mailL).length) 61
def loose64 (l : List UInt8) : List UInt8 := unpack (Lib.cut l [61]).1 mailL
def fromBase64 (l : List UInt8) : List UInt8 × Int := if base64 (loose64 l) = l then (loose64 l, 0) else ([], 10)

theorem Own.shape {B : Nat} {v : Value} {l : List UInt8} {W0 w : World} (h : Own B v l W0 w) : ∃ ad cap, v = .slice ad l.length cap := by
  rcases h.row.2 with ⟨rfl, h0⟩ | ⟨g, cap, cur, rfl, _⟩
  · exact ⟨none, 0, by rw [h0]⟩
  · exact ⟨_, _, rfl⟩
theorem pk_len_le (l t : List UInt8) : (pack l t).length ≤ 2 * l.length + 1 := by
  unfold pack pkSix
  have := six_len l l.length
  rw [List.length_map]
  unfold pkEnd
  split
  · omega
  · rw [List.length_append, List.length_singleton]; omega
theorem up_len_le (l t : List UInt8) : (unpack l t).length ≤ l.length := up_len l t l.length

theorem cut_le (l sep : List UInt8) : (Lib.cut l sep).1.length ≤ l.length := by
  unfold Lib.cut
  split
  · exact List.length_take_le' _ _
  · exact Nat.le_refl _

set_option maxHeartbeats 400000 in
theorem Base64_any (s : ByteArray) (w : World) (hs : s.size ≤ 1000000) :
    Calls Tryd.prog 23 #[.string s] w fun e w' => e = .returned (.string (S (base64 (L s)))) ∧ Below w.heap.size w w' := by
  have hpl := pk_len_le (L s) mailL
  rw [L_length] at hpl
  go_enter Tryd.func23, Tryd.ntmps23
  go_wp2_with (go_at_call 45; refine (pack_any s mailB _ hs mailB_size).mono ?_; rintro e w1 ⟨v0, rfl, hown⟩)
  rw [mailB_L] at hown
  have HB : Hid (base64 (L s) = pack (L s) mailL ++ List.replicate (padN (pack (L s) mailL).length) 61) := Lib.hid rfl
  generalize pack (L s) mailL = p at *
  go_loopw [3] (fun v wr => ∃ l : List UInt8, l ++ List.replicate (padN l.length) 61 = p ++ List.replicate (padN p.length) 61 ∧ l.length + padN l.length ≤ 2000010 ∧ Own w.heap.size v l w wr ∧ ∃ ad cap, v = .slice ad l.length cap) (fun v _ => match v with | .slice _ n _ => padN n | _ => 0)
  case atStart => exact ⟨p, rfl, by unfold padN; omega, hown, hown.shape⟩
  case round =>
    clear hown
    obtain ⟨l, hl, hll, hown, ad, cap, rfl⟩ := hrel
    by_cases h4 : l.length % 4 = 0
    · have h4i : ((l.length : Int) % 4 != 0) = false := by simp; omega
      have hz : padN l.length = 0 := by unfold padN; omega
      rw [hz, List.replicate_zero, List.append_nil] at hl
      have HL := Lib.hid hl
      have hcv := hown.back
      clear hl hz
      go_wp2
      go_ret
      exact ⟨ret_str (by rw [HL.out, HB.out]), hown.below⟩
    · have h4i : ((l.length : Int) % 4 != 0) = true := by simp; omega
      have hp1 : padN l.length = padN (l.length + 1) + 1 := by unfold padN; omega
      have hol : l.length + 1 ≤ 140737488355328 := by omega
      have HL := Lib.hid hl
      have HP := Lib.hid hp1
      clear hl hp1
      go_wp2_with (at_builtin; refine app1 rfl _ _ rfl _ 61 hown rfl rfl rfl hol ?_; intro v' w4 hown2)
      obtain ⟨ad2, cap2, rfl⟩ := hown2.shape
      have e1 : (l ++ [61]).length = l.length + 1 := by simp
      have e2 : (l ++ [61]) ++ List.replicate (padN (l ++ [61]).length) 61 = p ++ List.replicate (padN p.length) 61 := by
        rw [e1, ← HL.out, HP.out, List.replicate_succ, List.append_assoc]; rfl
      go_roundw
      case rel => exact ⟨l ++ [61], e2, by rw [e1]; have := HP.out; omega, hown2, ad2, cap2, rfl⟩
      case measure => have := HP.out; simp only [e1]; show padN (l.length + 1) < padN l.length; omega

/-- What the program's variables hold: the search's bound, and the tables of UTF-8. -/
structure Env (w : World) : Prop where
  most : ∃ m, w.cell? ⟨2, 0, none⟩ = some (.int .i64 m)
  tabs : Lib.Utf8Tabs (Tryd.lays196_ren.g 3) (Tryd.lays196_ren.g 4) w
  base : 3 ≤ w.heap.size

set_option maxHeartbeats 400000 in
theorem Loose64_any (s : ByteArray) (w : World) (hs : s.size ≤ 1000000) (he : Env w) :
    Calls Tryd.prog 25 #[.string s] w fun e w' => e = .returned (.string (S (loose64 (L s)))) ∧ Below w.heap.size w w' := by
  obtain ⟨m, hm⟩ := he.most
  go_enter Tryd.func25, Tryd.ntmps25
  have hle : (Lib.cut (L s) [61]).1.length ≤ s.size := cut_le _ _
  go_wp2_with (first | (go_at_call 32; refine (Tryd.strings_Cut s ⟨#[61]⟩ m _ (by omega) hm).mono ?_; rintro e w1 ⟨rfl, n, rfl⟩) | (go_at_call 47; refine (unpack_any (S (Lib.cut (L s) [61]).1) mailB _ (by rw [S_size]; omega) mailB_size).mono ?_; rintro e w2 ⟨rfl, hb⟩))
  go_ret
  exact ⟨rfl, (below_drewN (Below.refl _ _) _).trans hb⟩

set_option maxHeartbeats 400000 in
theorem FromBase64_any (s : ByteArray) (w : World) (hs : s.size ≤ 500000) (he : Env w) :
    Calls Tryd.prog 21 #[.string s] w fun e w' => e = .returned (.tuple #[.string (S (fromBase64 (L s)).1), .int .i64 (fromBase64 (L s)).2]) ∧ Below w.heap.size w w' := by
  have hle : (loose64 (L s)).length ≤ s.size := Nat.le_trans (up_len_le _ _) (cut_le _ _)
  go_enter Tryd.func21, Tryd.ntmps21
  go_wp2_with (first | (go_at_call 25; refine (Loose64_any s _ (by omega) he).mono ?_; rintro e w1 ⟨rfl, hb1⟩) | (go_at_call 23; refine (Base64_any (S (loose64 (L s))) _ (by rw [S_size]; omega)).mono ?_; rintro e w2 ⟨rfl, hb2⟩))
  · have h : (!(S (base64 (L (S (loose64 (L s)))))).toList == s.toList) = true := by assumption
    rw [toList_L, toList_L, L_S, L_S] at h
    have hf : fromBase64 (L s) = ([], 10) := by unfold fromBase64; rw [if_neg (by simpa using h)]
    go_ret2
    exact ⟨by rw [hf]; rfl, hb1.trans (hb2.mono hb1.size)⟩
  · have h : (!(S (base64 (L (S (loose64 (L s)))))).toList == s.toList) = false := by assumption
    rw [toList_L, toList_L, L_S, L_S] at h
    have hf : fromBase64 (L s) = (loose64 (L s), 0) := by unfold fromBase64; rw [if_pos (by simpa using h)]
    go_ret2
    exact ⟨by rw [hf]; rfl, hb1.trans (hb2.mono hb1.size)⟩
end Go.Proofs.YtclegocofiigiabDoor
