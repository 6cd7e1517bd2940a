/- octet: isName. -/
import Derived.Test.YtbncaiocmklgnaaGreatDoorPl
namespace Go.Proofs.YtbncaiocmklgnaaGreatDoor
open Go.RowKit Go.Shelf

set_option maxHeartbeats 1000000 in
theorem isName_any (s : ByteArray) (w : World) (hs : s.size ≤ 1000000) (he : Env w) :
    Calls Tryz.prog 133 #[.string s] w fun e w' => e = .returned (.bool (isName (L s))) ∧ Below w.heap.size w w' := by
  have HN : Hid (isName (L s) = ((withInbox (L s) == L s) && nameGo s.size (runes s) 1 0)) := Lib.hid rfl
  by_cases hw : withInbox (L s) = L s
  · have hwb : (!((S (withInbox (L s))).toList == s.toList)) = false := by rw [toList_L, toList_L, L_S, hw]; simp
    have HN2 : Hid (isName (L s) = nameGo s.size (runes s) 1 0) := Lib.hid (by rw [HN.out, hw]; simp)
    clear HN
    have HW := Lib.hid (fun W hE => withInbox_any s W hs hE)
    generalize withInbox (L s) = wi at *
    clear hw
    go_enter Tryz.func133, Tryz.ntmps133
    go_wp2_with (go_at_call 143; refine (HW.out _ he).mono ?_; rintro e w1 ⟨rfl, hb1⟩)
    go_loopw [3, 4] (fun lv fr wr => ∃ (pos f LV FR : Nat), lv = .int .i64 LV ∧ fr = .int .i64 FR ∧ wr.heap[w1.heap.size]? = some (.stringIter s pos) ∧ Below w1.heap.size w1 wr ∧ s.size ≤ pos + f ∧ nameGo s.size (rn s f pos) LV FR = isName (L s) ∧ LV ≤ pos + 1 ∧ FR ≤ pos ∧ pos ≤ s.size) (fun _ _ wr => s.size - wr.iterPos w1.heap.size)
    case atStart => exact ⟨0, s.size, 1, 0, rfl, rfl, heap_alloc_new _ _, (Below.refl _ _).alloc (Nat.le_refl _) _, by omega, HN2.out.symm, by omega, by omega, by omega⟩
    case round =>
      clear HN2 HW hwb
      obtain ⟨pos, f, LV, FR, rfl, rfl, hit, hb, hf, hn, hlv, hfr, hpos⟩ := hrel
      by_cases hp : pos < s.size
      · have hnx : ∀ ty, (Instr.next (.pointer (some ⟨w1.heap.size, 0, none⟩)) true ty).run Tryz.prog wr = _ := fun ty => Lib.run_next_any_at wr w1.heap.size s pos ty hit hp
        obtain ⟨f', hrn, hf'⟩ := rn_step s f pos hp hf
        rw [hrn] at hn
        have hwd := dec_wd s pos hp
        have hle := dec_le s pos
        have hit2 := Lib.iterAt_heap wr w1.heap.size s pos (pos + (Utf8.decode s pos).2) hit
        have hb2 := Lib.below_iterAt hb (Nat.le_refl _) s (pos + (Utf8.decode s pos).2)
        have HM : Hid (wr.iterPos w1.heap.size = pos) := Lib.hid (by simp [World.iterPos, hit])
        have HM2 : Hid ((wr.iterAt w1.heap.size s (pos + (Utf8.decode s pos).2)).iterPos w1.heap.size = pos + (Utf8.decode s pos).2) := Lib.hid (by simp [World.iterPos, hit2])
        have HIT2 := Lib.hid hit2
        clear hrn hf hit hit2 hb
        generalize (Utf8.decode s pos).1 = r at *
        generalize (Utf8.decode s pos).2 = wd at *
        rw [nameGo] at hn
        simp only at hn
        by_cases h47 : r = 47
        · subst h47
          rw [if_pos rfl] at hn
          cases hfi : fitsI ((pos : Int) - FR) with
          | false =>
            rw [hfi, Bool.false_and] at hn
            have H := Lib.hid hn
            clear hn
            go_wp2_with (go_at_call 144; refine (fitsLevel_any _ _).mono ?_; rintro e w' ⟨rfl, rfl⟩)
            go_ret
            exact ⟨ret_bool H.out, hb1.trans (hb2.mono hb1.size)⟩
          | true =>
            rw [hfi, Bool.true_and] at hn
            have H := Lib.hid hn
            clear hn
            go_wp2_with (go_at_call 144; refine (fitsLevel_any _ _).mono ?_; rintro e w' ⟨rfl, rfl⟩)
            go_roundw
            case rel => exact ⟨pos + wd, f', LV + 1, pos + 1, by go_num, by go_num, HIT2.out, hb2, hf', H.out, by omega, by omega, by omega⟩
            case measure => simp only [HM.out, HM2.out]; omega
        · have n47 : ((r : Int) == 47) = false := by simp; omega
          rw [if_neg h47] at hn
          cases hbd : badR r with
          | true =>
            rw [hbd] at hn
            have H : Hid (false = isName (L s)) := Lib.hid hn
            clear hn
            unfold badR at hbd
            by_cases b1 : (r : Int) < 32
            · go_wp2
              go_ret
              exact ⟨ret_bool H.out, hb1.trans (hb2.mono hb1.size)⟩
            · by_cases b2 : r = 127
              · subst b2
                go_wp2
                go_ret
                exact ⟨ret_bool H.out, hb1.trans (hb2.mono hb1.size)⟩
              · have n2 : ((r : Int) == 127) = false := by simp; omega
                by_cases b3 : r = 37
                · subst b3
                  go_wp2
                  go_ret
                  exact ⟨ret_bool H.out, hb1.trans (hb2.mono hb1.size)⟩
                · have n3 : ((r : Int) == 37) = false := by simp; omega
                  have b4 : r = 42 := by
                    simp [b2, b3] at hbd; omega
                  subst b4
                  go_wp2
                  go_ret
                  exact ⟨ret_bool H.out, hb1.trans (hb2.mono hb1.size)⟩
          | false =>
            rw [hbd] at hn
            have H : Hid (nameGo s.size (rn s f' (pos + wd)) LV FR = isName (L s)) := Lib.hid (by rw [← hn]; rfl)
            clear hn
            have hb' : ¬ r < 32 ∧ r ≠ 127 ∧ r ≠ 37 ∧ r ≠ 42 := by
              unfold badR at hbd; simp at hbd; omega
            have n1 : ¬ (r : Int) < 32 := by omega
            have n2 : ((r : Int) == 127) = false := by simp; omega
            have n3 : ((r : Int) == 37) = false := by simp; omega
            have n4 : ((r : Int) == 42) = false := by simp; omega
            clear hbd hb'
            go_wp2
            go_roundw
            case rel => exact ⟨pos + wd, f', LV, FR, rfl, rfl, HIT2.out, hb2, hf', H.out, by omega, by omega, by omega⟩
            case measure => simp only [HM.out, HM2.out]; omega
      · have hnx : ∀ ty, (Instr.next (.pointer (some ⟨w1.heap.size, 0, none⟩)) true ty).run Tryz.prog wr = _ := fun ty => Lib.run_next_end_at wr w1.heap.size s pos ty hit hp
        rw [rn_end s f pos hp, nameGo] at hn
        have H := Lib.hid hn
        clear hn hit
        by_cases h6 : LV ≤ 6
        · go_wp2_with (go_at_call 144; refine (fitsLevel_any _ _).mono ?_; rintro e w' ⟨rfl, rfl⟩)
          go_ret
          exact ⟨ret_bool (by rw [← H.out]; simp [h6]), hb1.trans (hb.mono hb1.size)⟩
        · go_wp2
          go_ret
          exact ⟨ret_bool (by rw [← H.out]; simp [h6]), hb1.trans (hb.mono hb1.size)⟩
  · have hwb : (!((S (withInbox (L s))).toList == s.toList)) = true := by rw [toList_L, toList_L, L_S]; simp [hw]
    have HN2 : Hid (isName (L s) = false) := Lib.hid (by rw [HN.out]; simp [hw])
    clear HN
    have HW := Lib.hid (fun W hE => withInbox_any s W hs hE)
    generalize withInbox (L s) = wi at *
    clear hw
    go_enter Tryz.func133, Tryz.ntmps133
    go_wp2_with (go_at_call 143; refine (HW.out _ he).mono ?_; rintro e w1 ⟨rfl, hb1⟩)
    go_ret
    exact ⟨ret_bool HN2.out.symm, hb1⟩
end Go.Proofs.YtbncaiocmklgnaaGreatDoor
