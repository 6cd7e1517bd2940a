/- postbagref11: Flags, the walk. -/
import Derived.Test.YtgcbindjbgkniaaGreatDoorR11d
namespace Go.Proofs.YtgcbindjbgkniaaGreatDoor
open Go.RowKit Go.Lib

set_option maxHeartbeats 8000000 in
theorem refFlags_any (v : Value) (ss : List ByteArray) (w : World) (h : Strs w v ss) (hz : ∀ f, f ∈ ss → f.size ≤ 140737488355328) :
    Calls Tryz.prog 9 #[v] w fun e w' => ∃ vo, e = .returned (.tuple #[vo, .int .i64 (flagsE ss)]) ∧ Strs w' vo (flagsL ss) ∧ Below w.heap.size w w' := by
  obtain ⟨ao, cap, rfl, hk⟩ := h.cells
  by_cases h16 : 16 < ss.length
  · have hE : flagsE ss = 2 := by unfold flagsE; rw [if_pos h16]
    have hL : flagsL ss = [] := by unfold flagsL; rw [hE, if_neg (by decide)]
    rw [hE, hL]
    have h16i : (16 : Int) < (ss.length : Int) := by omega
    clear hE hL hk h hz
    go_enter Tryz.func9, Tryz.ntmps9
    go_wp2
    go_ret2
    exact ⟨_, rfl, .inl ⟨rfl, _, _, rfl⟩, Below.refl _ _⟩
  have HC := Lib.hid hk
  have HZ := Lib.hid hz
  have h16n : ¬ (16 : Int) < (ss.length : Int) := by omega
  have HE : Hid ((kwOK ss = true → flagsE ss = 0 ∧ flagsL ss = seenTo ss 5 ++ wordsL ss) ∧ (kwOK ss = false → flagsE ss = 127 ∧ flagsL ss = [])) := Lib.hid ⟨fun hk => by
      have e : flagsE ss = 0 := by unfold flagsE; rw [if_neg h16, if_pos hk]
      exact ⟨e, by unfold flagsL; rw [if_pos e, form_words ss hk]⟩, fun hk => by
      have e : flagsE ss = 127 := by unfold flagsE; rw [if_neg h16, if_neg (by rw [hk]; decide)]
      exact ⟨e, by unfold flagsL; rw [if_neg (by rw [e]; decide)]⟩⟩
  clear h hk hz
  obtain ⟨n, hn⟩ : ∃ n, ss.length = n := ⟨_, rfl⟩
  have HN := Lib.hid hn
  rw [hn] at h16 h16n HC ⊢
  clear hn
  have hni : (n : Int) ≤ 16 := by omega
  have hmk := Tryz.mk5
  go_enter Tryz.func9, Tryz.ntmps9
  go_wp2_with fail
  go_loopw [5, 6] (fun vw vi wr => ∃ (k : Nat) (X : World), X = wr ∧ k ≤ n ∧ vi = .int .i64 k ∧ RF w (ss.take k) vw X) (fun _ i _ => n - (intOf i).toNat)
  case atStart => exact ⟨0, _, rfl, Nat.zero_le _, rfl, RF.start w⟩
  case round =>
    clear hmk
    obtain ⟨k, X, hX, hk, rfl, hrf⟩ := hrel
    subst hX
    have hk2 : (k : Int) ≤ 16 := by omega
    have HR := Lib.hid hrf
    obtain ⟨ao5, cap5, hv5⟩ := hrf.strs.shape
    subst hv5
    by_cases hlt : k < n
    · obtain ⟨b, off, hao, hbl, hcl⟩ := HC.out k hlt
      subst hao
      have hkw : k < ss.length := by rw [HN.out]; exact hlt
      have hki : (k : Int) < (n : Int) := by omega
      have HYb : Hid (∀ Y, Below w.heap.size w Y → Y.cell? ⟨b, off + k, none⟩ = some (.string (ss.getD k ByteArray.empty))) := Lib.hid (fun Y hY => by rw [hY.cell (p := ⟨b, off + k, none⟩) hbl]; exact hcl)
      have HM : Hid (ss.getD k ByteArray.empty ∈ ss) := Lib.hid (by
        rw [List.getD_eq_getElem?_getD, List.getElem?_eq_getElem hkw]
        exact List.getElem_mem hkw)
      have HT : Hid (ss.take (k + 1) = ss.take k ++ [ss.getD k ByteArray.empty]) := Lib.hid (by
        rw [List.take_add_one, List.getElem?_eq_getElem hkw, List.getD_eq_getElem?_getD, List.getElem?_eq_getElem hkw]
        rfl)
      have y0 := HYb.out X hrf.below
      clear hcl hbl hkw hrf
      obtain ⟨t, ht⟩ : ∃ t, ss.getD k ByteArray.empty = t := ⟨_, rfl⟩
      rw [ht] at HYb HM HT y0
      clear ht
      have HW := Lib.hid (fun Y => which_any t Y (HZ.out t HM.out))
      rcases which_bit (L t) with ⟨_, hw⟩ | ⟨j, hj, _, hw⟩
      · rw [hw] at HW
        have HWh := Lib.hid hw
        have HI := Lib.hid (fun Y => rIs_any 5 t Y (HZ.out t HM.out))
        have e5 : isB 5 (L t) = isKey (L t) := rfl
        rw [e5] at HI
        clear e5 hw
        cases hkey : isKey (L t) with
        | false =>
          rw [hkey] at HI
          have HNo : Hid (flagsE ss = 127 ∧ flagsL ss = []) := Lib.hid (HE.out.2 (by
            cases hq : kwOK ss with
            | false => rfl
            | true =>
              have := (kws_ok ss).1 hq t (List.mem_filter.2 ⟨HM.out, by rw [HWh.out]; rfl⟩)
              rw [hkey] at this
              cases this))
          clear hkey
          go_wp2_with (first | (go_at_call 25; refine (HW.out _).mono ?_; rintro e w3 ⟨rfl, hb3⟩; have HR3 := Lib.hid (HR.out.on hb3); have y3 := HYb.out _ HR3.out.below; clear hb3) | (go_at_call 26; refine (HI.out _).mono ?_; rintro e w4 ⟨rfl, hw4⟩; subst w4))
          go_ret2
          rw [HNo.out.1, HNo.out.2]
          exact ⟨_, rfl, .inl ⟨rfl, _, _, rfl⟩, HR3.out.below⟩
        | true =>
          rw [hkey] at HI
          have HKey := Lib.hid hkey
          clear hkey
          have HPut : Hid (∀ Y, RF w (ss.take k) (.slice ao5 (wordsL (ss.take k)).length cap5) Y → Calls Tryz.prog 27 #[.slice ao5 (wordsL (ss.take k)).length cap5, .string t] Y fun e w' => ∃ v', e = .returned v' ∧ RF w (ss.take (k + 1)) v' w') := Lib.hid (fun Y hY => by
            refine (put_any _ _ t Y hY.strs ?_ (HZ.out t HM.out) ?_).mono ?_
            · have h1 := wordsL_len (ss.take k)
              have h2 : (ss.take k).length ≤ k := by rw [List.length_take]; omega
              omega
            · exact fun z hz => HZ.out z (List.mem_of_mem_take (wordsL_mem _ z hz))
            · rintro e w' ⟨v', h1, h2, h3, h4⟩
              exact ⟨v', h1, by rw [HT.out]; exact hY.put t HWh.out HKey.out h2 h3 h4⟩)
          go_wp2_with (first | (go_at_call 25; refine (HW.out _).mono ?_; rintro e w3 ⟨rfl, hb3⟩; have HR3 := Lib.hid (HR.out.on hb3); have y3 := HYb.out _ HR3.out.below; clear hb3) | (go_at_call 26; refine (HI.out _).mono ?_; rintro e w4 ⟨rfl, hw4⟩; subst w4) | (go_at_call 27; refine (HPut.out _ HR3.out).mono ?_; rintro e w5 ⟨v5, rfl, hr5⟩; obtain ⟨a5, c5, hv5⟩ := hr5.strs.shape; subst hv5; have HR5 := Lib.hid hr5; clear hr5))
          go_roundw
          case rel => exact ⟨k + 1, _, rfl, hlt, by go_num, HR5.out⟩
          case measure => simp [intOf]; omega
      · rw [hw] at HW
        have HSet : Hid (∀ Y, RF w (ss.take k) (.slice ao5 (wordsL (ss.take k)).length cap5) Y → RF w (ss.take (k + 1)) (.slice ao5 (wordsL (ss.take k)).length cap5) (Y.setCell ⟨w.heap.size, j, none⟩ (.bool true))) := Lib.hid (fun Y hY => by
          rw [HT.out]
          exact hY.set t j hw)
        have hj0 : (0 : Int) ≤ (j : Int) := by omega
        have hj5 : (j : Int) < 5 := by omega
        clear hw
        go_wp2_with (go_at_call 25; refine (HW.out _).mono ?_; rintro e w3 ⟨rfl, hb3⟩; have HR3 := Lib.hid (HR.out.on hb3); obtain ⟨ys, yf⟩ := HR3.out.seen.2 j hj; clear hb3)
        go_roundw
        case rel => exact ⟨k + 1, _, rfl, hlt, by go_num, HSet.out _ HR3.out⟩
        case measure => simp [intOf]; omega
    · have hki : ¬ (k : Int) < (n : Int) := by omega
      have hkn : ss.take k = ss := by rw [List.take_of_length_le (by rw [HN.out]; omega)]
      rw [hkn] at HR
      have HOk : Hid (flagsE ss = 0 ∧ flagsL ss = seenTo ss 5 ++ wordsL ss) := Lib.hid (HE.out.1 ((kws_ok ss).2 HR.out.keys))
      have HLw : Hid ((wordsL ss).length ≤ 1000) := Lib.hid (by
        have := wordsL_len ss
        rw [HN.out] at this
        omega)
      rw [hkn]
      clear hkn hrf HE HC HZ
      obtain ⟨W1, hW1⟩ : ∃ W1, X.alloc (.cells sysC 9) = W1 := ⟨_, rfl⟩
      have h1 : W1.heap[X.heap.size]? = some (.cells sysC 9 (0, 0)) := by rw [← hW1]; exact heap_new _ _
      have hb1 : Below X.heap.size X W1 := by rw [← hW1]; exact below_box (Below.refl _ _) _
      have HS := Lib.hid (system_any X)
      rw [hW1] at HS
      have HC : Hid (∀ Y, Below W1.heap.size W1 Y → ∀ i, i < 5 → Y.cell? ⟨X.heap.size, i, none⟩ = some (.string (sysN i))) := Lib.hid (fun Y hY i hi => sys_cell (by rw [hY.block _ (lt_of_heap h1)]; exact h1) i hi)
      have HR1 := Lib.hid (HR.out.on hb1)
      obtain ⟨wl, hwl⟩ : ∃ wl, (wordsL ss).length = wl := ⟨_, rfl⟩
      have HWl := Lib.hid hwl
      rw [hwl] at HR1 HR ⊢
      clear hwl hW1 h1 hb1
      go_wp2_with (go_at_call 28; refine HS.out.mono ?_; rintro e w2 ⟨rfl, hw2⟩; subst w2)
      go_loopw [8, 10] (fun vo vi wr => ∃ (i : Nat) (Y : World), Y = wr ∧ i ≤ 5 ∧ vi = .int .i64 i ∧ OwnT W1.heap.size vo (seenTo ss i) W1 Y) (fun _ i _ => 5 - (intOf i).toNat)
      case atStart => exact ⟨0, _, rfl, Nat.zero_le _, rfl, OwnT.nil (Below.refl _ _) (Nat.le_refl _)⟩
      case round =>
        obtain ⟨i, Y, hY, hi, rfl, hown⟩ := hrel
        subst hY
        have HO := Lib.hid hown
        have HLn := Lib.hid (seenTo_len ss i)
        obtain ⟨ao8, cap8, hv8⟩ := hown.shape
        subst hv8
        by_cases hl5 : i < 5
        · have hi5 : (i : Int) < 5 := by omega
          have hi0 : (0 : Int) ≤ (i : Int) := by omega
          obtain ⟨ys, _⟩ := (HR1.out.seen.on hown.below).2 i hl5
          have yc := HC.out Y hown.below i hl5
          have HNx : Hid (seenTo ss (i + 1) = seenTo ss i ++ (if isSeen ss i = true then [sysN i] else [])) := Lib.hid rfl
          clear hown
          obtain ⟨sn, hsn⟩ : ∃ sn, sysN i = sn := ⟨_, rfl⟩
          rw [hsn] at yc HNx
          clear hsn
          cases hsv : isSeen ss i with
          | true =>
            rw [hsv] at ys HNx
            clear hsv
            go_wp2_with (at_builtin; refine appT rfl _ _ rfl sn HO.out rfl _ rfl rfl (by have := HLn.out; omega) ?_; intro v6 w6 ho6; obtain ⟨a6, k6, hv6⟩ := ho6.shape; rw [List.length_append] at hv6; subst hv6; have HO6 := Lib.hid ho6; clear ho6)
            go_roundw
            case rel => exact ⟨i + 1, _, rfl, hl5, by go_num, by rw [HNx.out, if_pos rfl]; exact HO6.out⟩
            case measure => simp [intOf]; omega
          | false =>
            rw [hsv] at ys HNx
            clear hsv
            go_wp2_with fail
            go_roundw
            case rel => exact ⟨i + 1, _, rfl, hl5, by go_num, by rw [HNx.out, if_neg (by decide), List.append_nil]; exact HO.out⟩
            case measure => simp [intOf]; omega
        · have hi5 : ¬ (i : Int) < 5 := by omega
          have hie : i = 5 := by omega
          subst hie
          clear hown
          have HW2 : Hid (Strs Y (.slice ao5 wl cap5) (wordsL ss)) := Lib.hid (HR1.out.strs.on HO.out.below)
          have HNl := Lib.hid HR1.out.nil
          go_wp2_with (at_builtin; refine appTs rfl _ _ rfl HO.out HW2.out HNl.out rfl rfl (by have := HLn.out; have := HLw.out; omega) ?_; intro v6 w6 ho6; obtain ⟨a6, k6, hv6⟩ := ho6.shape; rw [List.length_append] at hv6; subst hv6; have HO6 := Lib.hid ho6; clear ho6)
          go_ret2
          rw [HOk.out.1, HOk.out.2]
          exact ⟨_, rfl, HO6.out.strs (by have := HLn.out; have := HLw.out; rw [List.length_append]; omega), HR1.out.below.trans (HO6.out.below.mono HR1.out.base)⟩
end Go.Proofs.YtgcbindjbgkniaaGreatDoor
