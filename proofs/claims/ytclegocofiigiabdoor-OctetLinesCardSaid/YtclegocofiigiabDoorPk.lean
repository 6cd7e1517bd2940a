/- octet: FromQuoted, Whole. -/
import Derived.Test.YtclegocofiigiabDoorPj
namespace Go.Proofs.YtclegocofiigiabDoor
open Go.RowKit Go.Shelf

set_option maxHeartbeats 1000000 in
theorem FromQuoted_any (s : ByteArray) (w : World) (hs : s.size ≤ 10000000) :
    Calls Tryd.prog 18 #[.string s] w fun e w' => e = .returned (.string (S (fromQuoted (L s)))) ∧ Below w.heap.size w w' := by
  have hq := fq_len (L s) 0
  rw [L_length] at hq
  change (fromQuoted (L s)).length ≤ _ at hq
  go_enter Tryd.func18, Tryd.ntmps18
  go_wp2_with (at_make; refine mk0 rfl _ _ rfl _ s.size (by omega) (by omega) rfl rfl ?_; intro w1 hown)
  go_loopw [3, 4] (fun v i wr => ∃ (k : Nat) (o : List UInt8), k ≤ s.size ∧ i = .int .i64 k ∧ o ++ fq ((L s).drop k) 0 = fromQuoted (L s) ∧ Own w.heap.size v o w wr) (fun _ i _ => s.size - (intOf i).toNat)
  case atStart => exact ⟨0, [], Nat.zero_le _, rfl, rfl, hown⟩
  case round =>
    clear hown
    obtain ⟨k, o, hk, rfl, ho, hown⟩ := hrel
    have hol : o.length ≤ s.size := by
      have := congrArg List.length ho
      rw [List.length_append] at this
      omega
    by_cases hlt : k < s.size
    · have ea := get_bt s k hlt
      have c0 : (bt (L s) k).toNat < 256 := bt_lt _ _
      by_cases h61 : bt (L s) k = 61
      · have hc : (((bt (L s) k).toNat : Int) == 61) = true := by rw [h61]; rfl
        rw [fq_eq (L s) k hlt h61] at ho
        have hle := (eqRead_le ((L s).drop (k + 1))).1
        rw [List.length_drop, L_length] at hle
        have hRE := fun W v (hw : Own w.heap.size v o w W) => readEquals_any s k W hw hs hlt (by omega)
        generalize eqRead ((L s).drop (k + 1)) = er at *
        have HO : Hid ((o ++ er.1) ++ fq ((L s).drop (k + 1 + er.2)) 0 = fromQuoted (L s)) := Lib.hid (by rw [← ho]; simp)
        have HRE := Lib.hid hRE
        clear ho hRE h61
        go_wp2_with (go_at_call 40; refine (HRE.out _ _ hown).mono ?_; rintro e w2 ⟨v', rfl, hown2⟩)
        go_roundw
        case rel => exact ⟨k + 1 + er.2, o ++ er.1, by omega, by go_num, HO.out, hown2⟩
        case measure => simp [intOf]; omega
      · have hc : (((bt (L s) k).toNat : Int) == 61) = false := by
          rw [beq_eq_false_iff_ne]
          intro h
          exact h61 (UInt8.toNat_inj.1 (by have : (61 : UInt8).toNat = 61 := rfl
                                           omega))
        cases hb : blankI (bt (L s) k).toNat with
        | false =>
          rw [fq_other (L s) k hlt h61 hb] at ho
          have HO : Hid ((o ++ [bt (L s) k]) ++ fq ((L s).drop (k + 1)) 0 = fromQuoted (L s)) := Lib.hid (by rw [← ho]; simp)
          have hl2 : o.length + 1 ≤ 140737488355328 := by omega
          clear ho h61
          go_wp2_with (first | (go_at_call 41; refine (isBlank_any _ _ (by omega) (by omega)).mono ?_; rintro e w' ⟨rfl, rfl⟩) | (at_builtin; refine app1 rfl _ _ rfl _ (bt (L s) k) hown rfl rfl rfl hl2 ?_; intro v' w2 hown2))
          go_roundw
          case rel => exact ⟨k + 1, o ++ [bt (L s) k], by omega, by go_num, HO.out, hown2⟩
          case measure => simp [intOf]; omega
        | true =>
          have hp := past_le (L s) k (by rw [L_length]; omega)
          rw [L_length] at hp
          have hgt : k < past (L s) k := by rw [past_blank (L s) k hlt hb]; omega
          have hPB := Lib.hid (fun W => pastBlanks_any s k W hs (by omega))
          have hgone := fun he => fq_gone (L s) k hlt h61 hb he
          have hkept := fun h1 h2 => fq_kept (L s) k hlt h61 hb h1 h2
          generalize past (L s) k = q at *
          clear h61
          by_cases hq2 : q < s.size
          · cases hcr : crlf (L s) q with
            | true =>
              rw [hgone (.inr hcr)] at ho
              have HO := Lib.hid ho
              clear hgone hkept ho
              go_wp2_with (first | (go_at_call 41; refine (isBlank_any _ _ (by omega) (by omega)).mono ?_; rintro e w' ⟨rfl, rfl⟩) | (go_at_call 42; refine (hPB.out _).mono ?_; rintro e w' ⟨rfl, rfl⟩) | (go_at_call 34; refine (endsLine_any s q _ hp).mono ?_; rintro e w' ⟨rfl, rfl⟩))
              go_roundw
              case rel => exact ⟨q, o, by omega, rfl, HO.out, hown⟩
              case measure => simp [intOf]; omega
            | false =>
              rw [hkept hq2 hcr] at ho
              have HO : Hid ((o ++ ((L s).drop k).take (q - k)) ++ fq ((L s).drop q) 0 = fromQuoted (L s)) := Lib.hid (by rw [← ho]; simp)
              have hl : (((L s).drop k).take (q - k)).length ≤ s.size := by rw [List.length_take, List.length_drop, L_length]; omega
              have HL4 : Hid (o.length + (S (((L s).drop k).take (q - k))).size ≤ 140737488355328) := Lib.hid (by rw [S_size]; omega)
              have hex := extract_S s k q
              generalize ((L s).drop k).take (q - k) = pc at *
              clear hgone hkept ho hl
              go_wp2_with (first | (go_at_call 41; refine (isBlank_any _ _ (by omega) (by omega)).mono ?_; rintro e w' ⟨rfl, rfl⟩) | (go_at_call 42; refine (hPB.out _).mono ?_; rintro e w' ⟨rfl, rfl⟩) | (go_at_call 34; refine (endsLine_any s q _ hp).mono ?_; rintro e w' ⟨rfl, rfl⟩) | (at_builtin; refine appS rfl _ _ rfl (S pc) hown rfl rfl HL4.out ?_; intro v' w2 hown2))
              go_roundw
              case rel => exact ⟨q, o ++ pc, by omega, rfl, HO.out, hown2⟩
              case measure => simp [intOf]; omega
          · rw [hgone (.inl (by rw [L_length]; omega))] at ho
            have HO := Lib.hid ho
            clear hgone hkept ho
            go_wp2_with (first | (go_at_call 41; refine (isBlank_any _ _ (by omega) (by omega)).mono ?_; rintro e w' ⟨rfl, rfl⟩) | (go_at_call 42; refine (hPB.out _).mono ?_; rintro e w' ⟨rfl, rfl⟩))
            go_roundw
            case rel => exact ⟨q, o, by omega, rfl, HO.out, hown⟩
            case measure => simp [intOf]; omega
    · have hd : (L s).drop k = [] := List.drop_eq_nil_of_le (by rw [L_length]; omega)
      rw [hd, fq, List.append_nil] at ho
      subst ho
      have hcv := hown.back
      clear hd
      go_wp2
      go_ret
      exact ⟨rfl, hown.below⟩
def okAt (l : List UInt8) (k : Nat) : Bool := !(((bt l k).toNat : Int) == 13 && !crlf l k) && !(((bt l k).toNat : Int) == 10 && ((k : Int) == 0 || ((bt l (k - 1)).toNat : Int) != 13))
def wholeTo (l : List UInt8) : Nat → Bool
  | 0 => true
  | k + 1 => wholeTo l k && okAt l k
def whole (l : List UInt8) : Bool := wholeTo l l.length
theorem wholeTo_false (l : List UInt8) (k : Nat) (h : okAt l k = false) : ∀ n, k < n → wholeTo l n = false
  | 0, h0 => by omega
  | n + 1, hn => by
    rw [wholeTo]
    by_cases e : k = n
    · subst e; rw [h, Bool.and_false]
    · rw [wholeTo_false l k h n (by omega), Bool.false_and]

set_option maxHeartbeats 1000000 in
theorem Whole_any (s : ByteArray) (w : World) (hs : s.size ≤ 1000000) :
    Calls Tryd.prog 11 #[.string s] w fun e w' => e = .returned (.bool (whole (L s))) ∧ w' = w := by
  go_enter Tryd.func11, Tryd.ntmps11
  go_wp2
  go_loop [6] (fun t => ∃ k : Nat, k ≤ s.size ∧ t = .int .i64 k ∧ wholeTo (L s) k = true) (fun t => s.size - (intOf t).toNat)
  case atStart => exact ⟨0, Nat.zero_le _, rfl, rfl⟩
  case round =>
    obtain ⟨k, hk, rfl, hp⟩ := hrel
    have HP := Lib.hid hp
    clear hp
    by_cases hlt : k < s.size
    · have ea := get_bt s k hlt
      have c0 : (bt (L s) k).toNat < 256 := bt_lt _ _
      have HK : Hid (okAt (L s) k = (!(((bt (L s) k).toNat : Int) == 13 && !crlf (L s) k) && !(((bt (L s) k).toNat : Int) == 10 && ((k : Int) == 0 || ((bt (L s) (k - 1)).toNat : Int) != 13)))) := Lib.hid rfl
      have HS : Hid (wholeTo (L s) (k + 1) = (wholeTo (L s) k && okAt (L s) k)) := Lib.hid rfl
      have HF := Lib.hid (fun h => wholeTo_false (L s) k h (L s).length (by rw [L_length]; exact hlt))
      cases h13 : (((bt (L s) k).toNat : Int) == 13) with
      | true =>
        have h10 : (((bt (L s) k).toNat : Int) == 10) = false := by
          rw [beq_iff_eq] at h13; rw [h13]; rfl
        cases hcr : crlf (L s) k with
        | true =>
          have HN : Hid (wholeTo (L s) (k + 1) = true) := Lib.hid (by rw [HS.out, HP.out, HK.out, h13, hcr, h10]; rfl)
          go_wp2_with (go_at_call 34; refine (endsLine_any s k _ (by omega)).mono ?_; rintro e w' ⟨rfl, rfl⟩)
          go_round
          case rel => exact ⟨k + 1, by omega, by go_num, HN.out⟩
          case measure => simp [intOf]; omega
        | false =>
          have HN : Hid (whole (L s) = false) := Lib.hid (HF.out (by rw [HK.out, h13, hcr]; rfl))
          go_wp2_with (go_at_call 34; refine (endsLine_any s k _ (by omega)).mono ?_; rintro e w' ⟨rfl, rfl⟩)
          go_ret
          exact ⟨ret_bool HN.out.symm, rfl⟩
      | false =>
        cases h10 : (((bt (L s) k).toNat : Int) == 10) with
        | false =>
          have HN : Hid (wholeTo (L s) (k + 1) = true) := Lib.hid (by rw [HS.out, HP.out, HK.out, h13, h10]; rfl)
          go_wp2
          go_round
          case rel => exact ⟨k + 1, by omega, by go_num, HN.out⟩
          case measure => simp [intOf]; omega
        | true =>
          cases hk0 : ((k : Int) == 0) with
          | true =>
            have HN : Hid (whole (L s) = false) := Lib.hid (HF.out (by rw [HK.out, h13, h10, hk0]; rfl))
            go_wp2
            go_ret
            exact ⟨ret_bool HN.out.symm, rfl⟩
          | false =>
            have hkp : 0 < k := by rw [beq_eq_false_iff_ne] at hk0; omega
            obtain ⟨j, rfl⟩ : ∃ j, k = j + 1 := ⟨k - 1, by omega⟩
            have eb := get_bt s j (by omega)
            have c1 : (bt (L s) j).toNat < 256 := bt_lt _ _
            rw [Nat.add_sub_cancel] at HK
            cases hj : (((bt (L s) j).toNat : Int) != 13) with
            | true =>
              have HN : Hid (whole (L s) = false) := Lib.hid (HF.out (by rw [HK.out, h13, h10, hk0, hj]; rfl))
              go_wp2
              go_ret
              exact ⟨ret_bool HN.out.symm, rfl⟩
            | false =>
              have HN : Hid (wholeTo (L s) (j + 1 + 1) = true) := Lib.hid (by rw [HS.out, HP.out, HK.out, h13, h10, hk0, hj]; rfl)
              go_wp2
              go_round
              case rel => exact ⟨j + 1 + 1, by omega, by go_num, HN.out⟩
              case measure => simp [intOf]; omega
    · have hall : k = (L s).length := by rw [L_length]; omega
      have HN : Hid (whole (L s) = true) := Lib.hid (by unfold whole; rw [← hall]; exact HP.out)
      clear hall
      go_wp2
      go_ret
      exact ⟨ret_bool HN.out.symm, rfl⟩
end Go.Proofs.YtclegocofiigiabDoor
