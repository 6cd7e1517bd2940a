/- octet: Quoted. -/
import Derived.Test.YtclegocofiigiabDoorPg
namespace Go.Proofs.YtclegocofiigiabDoor
open Go.RowKit Go.Shelf

set_option maxHeartbeats 1000000 in
theorem Quoted_any (s : ByteArray) (w : World) (hs : s.size ≤ 1000000) :
    Calls Tryd.prog 16 #[.string s] w fun e w' => e = .returned (.string (S (quoted (L s)))) ∧ Below w.heap.size w w' := by
  have hq := quo_len (L s) false 0
  rw [L_length] at hq
  change (quoted (L s)).length ≤ _ at hq
  go_enter Tryd.func16, Tryd.ntmps16
  go_wp2_with (at_make; refine mk0 rfl _ _ rfl _ s.size (by omega) (by omega) rfl rfl ?_; intro w1 hown)
  go_loopw [3, 4, 5] (fun v n i wr => ∃ (k m : Nat) (o : List UInt8), k ≤ s.size ∧ i = .int .i64 k ∧ m ≤ 75 ∧ n = .int .i64 m ∧ o ++ quo ((L s).drop k) false m = quoted (L s) ∧ Own w.heap.size v o w wr) (fun _ _ i _ => s.size - (intOf i).toNat)
  case atStart => exact ⟨0, 0, [], Nat.zero_le _, rfl, by omega, rfl, rfl, hown⟩
  case round =>
    clear hown
    obtain ⟨k, m, o, hk, rfl, hm, rfl, ho, hown⟩ := hrel
    have hol : o.length ≤ 6 * s.size := by
      have := congrArg List.length ho
      rw [List.length_append] at this
      omega
    by_cases hlt : k < s.size
    · cases hc : crlf (L s) k with
      | true =>
        have hk2 := crlf_lt (L s) k hc
        rw [L_length] at hk2
        rw [quo_crlf (L s) k m hc] at ho
        have HO : Hid ((o ++ [13, 10]) ++ quo ((L s).drop (k + 2)) false 0 = quoted (L s)) := Lib.hid (by rw [← ho]; simp)
        clear ho
        have hl2 : o.length + 2 ≤ 140737488355328 := by omega
        go_wp2_with (first | (go_at_call 34; refine (endsLine_any s k _ (by omega)).mono ?_; rintro e w' ⟨rfl, rfl⟩) | (at_builtin; refine appS rfl _ _ rfl ⟨#[13, 10]⟩ hown rfl rfl hl2 ?_; intro v' w2 hown2))
        go_roundw
        case rel => exact ⟨k + 2, 0, o ++ [13, 10], by omega, by go_num, by omega, rfl, HO.out, hown2⟩
        case measure => simp [intOf]; omega
      | false =>
        have hpl := piece_len (L s) k
        by_cases hn : 75 < m + (piece (L s) k).length
        · rw [quo_long (L s) k m hlt hc hn] at ho
          have HO : Hid ((o ++ [61, 13, 10] ++ piece (L s) k) ++ quo ((L s).drop (k + 1)) false (piece (L s) k).length = quoted (L s)) := Lib.hid (by rw [← ho]; simp)
          clear ho
          have hps : (S (piece (L s) k)).size = (piece (L s) k).length := rfl
          have hl3 : o.length + 3 ≤ 140737488355328 := by omega
          have hl4 : (o ++ [61, 13, 10]).length + (S (piece (L s) k)).size ≤ 140737488355328 := by rw [hps, List.length_append]; simp; omega
          have HL4 := Lib.hid hl4
          clear hl4
          go_wp2_with (first | (go_at_call 34; refine (endsLine_any s k _ (by omega)).mono ?_; rintro e w' ⟨rfl, rfl⟩) | (go_at_call 38; refine (quotedPiece_any s k _ hs hlt).mono ?_; rintro e w2 ⟨rfl, hb2⟩) | (at_builtin; refine appS rfl (.tmp 31) _ rfl ⟨#[61, 13, 10]⟩ (hown.on hb2) rfl rfl hl3 ?_; intro v' w3 hown2) | (at_builtin; refine appS rfl (.tmp 33) _ rfl (S (piece (L s) k)) hown2 rfl rfl HL4.out ?_; intro v'' w4 hown3))
          go_roundw
          case rel => exact ⟨k + 1, (piece (L s) k).length, o ++ [61, 13, 10] ++ piece (L s) k, by omega, by go_num, by omega, rfl, HO.out, hown3⟩
          case measure => simp [intOf]; omega
        · rw [quo_short (L s) k m hlt hc hn] at ho
          have HO : Hid ((o ++ piece (L s) k) ++ quo ((L s).drop (k + 1)) false (m + (piece (L s) k).length) = quoted (L s)) := Lib.hid (by rw [← ho]; simp)
          clear ho
          have hps : (S (piece (L s) k)).size = (piece (L s) k).length := rfl
          have HL4 : Hid (o.length + (S (piece (L s) k)).size ≤ 140737488355328) := Lib.hid (by rw [hps]; omega)
          go_wp2_with (first | (go_at_call 34; refine (endsLine_any s k _ (by omega)).mono ?_; rintro e w' ⟨rfl, rfl⟩) | (go_at_call 38; refine (quotedPiece_any s k _ hs hlt).mono ?_; rintro e w2 ⟨rfl, hb2⟩) | (at_builtin; refine appS rfl (.tmp 33) _ rfl (S (piece (L s) k)) (hown.on hb2) rfl rfl HL4.out ?_; intro v'' w4 hown3))
          go_roundw
          case rel => exact ⟨k + 1, m + (piece (L s) k).length, o ++ piece (L s) k, by omega, by go_num, by omega, by go_num, HO.out, hown3⟩
          case measure => simp [intOf]; omega
    · have hd : (L s).drop k = [] := List.drop_eq_nil_of_le (by rw [L_length]; omega)
      rw [hd, quo, List.append_nil] at ho
      subst ho
      have hcv := hown.back
      clear hd
      go_wp2
      go_ret
      exact ⟨rfl, hown.below⟩
end Go.Proofs.YtclegocofiigiabDoor
