/- frame: decode. -/
import Derived.Test.YtkdmicpfinjpgaaF10g
namespace Go.Proofs.Ytkdmicpfinjpgaa
open Go.RowKit

theorem res2 {P : Program} {fn : Func} {p u : Tmp} {ty : TypeId} (h : fn.results = #[.cell p ty, .tmp u]) (tmps : Array Value) (w : World) (g : Nat) (t : TypeId) (cs : Array Value) (fr : Nat × Nat) (d : TypeDesc)
    (hp : tmps.getD p undef = .pointer (some ⟨g, 0, none⟩)) (hg : w.heap[g]? = some (.cells cs t fr))
    (hu : P.underlying ty = some d) (hd : (match d with | .struct _ | .array _ _ => true | _ => false) = true) (hi : (P.info? ty).map (·.size) = some cs.size) :
    (results fn tmps).run P w = .ok (.tuple #[.agg cs, tmps.getD u undef]) w := by
  rw [results_cell_tmp h, hp]
  simp [asAddr, Result.andThen, run_loadVar_row w g t ty cs fr d hg hu hd hi]
theorem frame_size : (Try.prog.info? 47).map (·.size) = some 4 := by kernel_rfl
theorem put4 {w : World} {b : Nat} {o : Array Value} {a c d e : Value} {t : TypeId} (h : w.heap[b]? = some (.cells o t)) (ho : o.size = 4) :
    ((((w.setCell ⟨b, 0, none⟩ a).setCell ⟨b, 1, none⟩ c).setCell ⟨b, 2, none⟩ d).setCell ⟨b, 3, none⟩ e).heap[b]? = some (.cells #[a, c, d, e] t) := by
  rw [heap_setCell_same _ b 3 _ t _ (heap_setCell_same _ b 2 _ t _ (heap_setCell_same _ b 1 _ t _ (heap_setCell_same _ b 0 _ t _ h)))]
  congr 2
  apply Array.ext
  · simp [ho]
  · intro i h1 h2
    simp [ho] at h1
    have hi : i = 0 ∨ i = 1 ∨ i = 2 ∨ i = 3 := by omega
    rcases hi with rfl | rfl | rfl | rfl <;> simp [ho]
theorem put4_below {w X : World} {a c d e : Value} (h : Below w.heap.size w X) : Below w.heap.size w ((((X.setCell ⟨w.heap.size, 0, none⟩ a).setCell ⟨w.heap.size, 1, none⟩ c).setCell ⟨w.heap.size, 2, none⟩ d).setCell ⟨w.heap.size, 3, none⟩ e) :=
  (((h.setCell (p := ⟨w.heap.size, 0, none⟩) (Nat.le_refl _) _).setCell (p := ⟨w.heap.size, 1, none⟩) (Nat.le_refl _) _).setCell (p := ⟨w.heap.size, 2, none⟩) (Nat.le_refl _) _).setCell (p := ⟨w.heap.size, 3, none⟩) (Nat.le_refl _) _
theorem sizeM {m z : Nat} (w : World) (hz : z = if m ≤ 2097152 then m + 18 else 0) :
    Calls Try.prog 10 #[.int .i64 (m : Int)] w fun e w' => e = .returned (.int .i64 (z : Int)) ∧ w = w' := by
  refine (Size_any (m : Int) w).mono ?_
  rintro e w' ⟨rfl, rfl⟩
  refine ⟨ret_int ?_, rfl⟩
  rw [hz]
  by_cases h : m ≤ 2097152
  · rw [if_pos (by omega), if_pos h]; omega
  · rw [if_neg (by omega), if_neg h]; rfl
theorem isSummed_upto (s : ByteArray) (j T : Nat) (w : World) (h4 : 4 ≤ j) (hj : j ≤ s.size) (hs : s.size ≤ 140737488355328) (hT : w.heap[T]? = some (.cells (tabC 256) 54)) :
    Calls Try.prog 34 #[.pointer (some ⟨T, 0, none⟩), .string (s.extract 0 j)] w fun e w' => e = .returned (.bool (decide (crc ((L s).take (j - 4)) = w4 (L s) (j - 4)))) ∧ ∃ n, w' = w.drewN n := by
  have hz := size_extract' s 0 j hj
  refine (isSummed_any (s.extract 0 j) T w (by omega) (by omega) hT).mono ?_
  rintro e w' ⟨rfl, n, rfl⟩
  refine ⟨ret_bool ?_, n, rfl⟩
  rw [hz, L_upto, List.take_take, Nat.min_eq_left (by omega), Nat.sub_zero, w4_take _ _ _ (by omega)]
set_option maxHeartbeats 4000000 in
theorem decode_any (s : ByteArray) (T : Nat) (w : World) (hs : s.size ≤ 140737488355328) (hT : w.heap[T]? = some (.cells (tabC 256) 54)) :
    Calls Try.prog 26 #[.pointer (some ⟨T, 0, none⟩), .string s] w fun e w' => e = .returned (.tuple #[if isF (L s) then frV (bt (L s) 1).toNat (w4 (L s) 2) 0 (S (bodyF (L s))) else frV 0 0 0 ⟨#[]⟩, .bool (decide (isF (L s)))]) ∧ Below w.heap.size w w' := by
  have hTl : T < w.heap.size := (Array.getElem?_eq_some_iff.1 hT).1
  have HT := Lib.hid (fun w' (hb : Below w.heap.size w w') => show w'.heap[T]? = some (.cells (tabC 256) 54) by rw [hb.block T hTl]; exact hT)
  clear hT
  generalize hR : Value.tuple #[if isF (L s) then frV (bt (L s) 1).toNat (w4 (L s) 2) 0 (S (bodyF (L s))) else frV 0 0 0 ⟨#[]⟩, .bool (decide (isF (L s)))] = R
  have HR := Lib.hid hR
  clear hR
  by_cases h1 : s.size < 18
  · have hn : ¬ isF (L s) := fun h => by have := h.1; rw [L_length] at this; omega
    have HN := Lib.hid hn
    clear hn
    go_enter Try.func26, Try.ntmps26
    go_wp2
    refine bodyPost_ret (v := .tuple #[frV 0 0 0 ⟨#[]⟩, .bool false]) ((res2 rfl _ _ w.heap.size 47 #[.int .i64 0, .int .i64 0, .int .i64 0, .string ⟨#[]⟩] (0, 0) _ rfl (heap_alloc_last w _) Try.underlying47 rfl frame_size).trans rfl) rfl ?_
    exact ⟨by rw [← HR.out, if_neg HN.out, decide_eq_false HN.out], (Below.refl _ _).alloc (Nat.le_refl _) _⟩
  · have b1 : 1 < s.size := by omega
    have b2 : (1 : Int) < (s.size : Int) := by omega
    have b3 := s[1].toNat_lt
    have b4 : IntKind.i64.wrap (s[1].toNat : Int) = (s[1].toNat : Int) := by rw [IntKind.wrap_i64]; omega
    go_enter Try.func26, Try.ntmps26
    go_wp2
    rename_i K hK
    have tail : ∀ X, Dc w (s[1].toNat : Int) (w4 (L s) 2 : Nat) ⟨#[]⟩ X → K { tmps := #[.pointer (some ⟨T, 0, none⟩), .string s, undef, undef, .pointer (some ⟨w.heap.size, 0, none⟩), .bool false, .pointer (some ⟨w.heap.size + 1, 0, none⟩), undef, .string s, .int .i64 (s.size : Int), .bool (decide ((s.size : Int) < 18)), undef, .string s, .int .u8 (s[1].toNat : Int), .int .i64 (s[1].toNat : Int), .string s, .int .i64 (w4 (L s) 2 : Nat), .agg #[.int .i64 (s[1].toNat : Int), .int .i64 (w4 (L s) 2 : Nat), .int .i64 0, .string ⟨#[]⟩], undef, undef, undef, undef, undef, undef, undef, undef, undef, undef, undef, undef, undef, undef, undef, undef, undef, undef, undef, undef, undef, undef, undef, undef, undef, undef, undef, undef, undef, undef, undef, undef, undef, undef, undef, undef, undef, undef, undef, undef, undef, undef, undef, undef, undef, undef, undef, undef, undef], defers := [] } X := by
      intro X hX
      obtain ⟨z, hz⟩ : ∃ z, z = if w4 (L s) 6 ≤ 2097152 then w4 (L s) 6 + 18 else 0 := ⟨_, rfl⟩
      have HZ := Lib.hid hz
      have HX := Lib.hid hX
      have e0 : bt (L s) 0 = s[0] := (bt_getElem (L s) 0 (by rw [L_length]; omega)).trans rfl
      have e1 : bt (L s) 1 = s[1] := (bt_getElem (L s) 1 (by rw [L_length]; omega)).trans rfl
      have E0 := Lib.hid e0
      have E1 := Lib.hid e1
      clear hz hX e0 e1
      go_wp2_with fail
      refine (word_any s 6 _ (by omega) hs).mono ?_
      rintro e w6 ⟨rfl, n6, rfl⟩
      have hY := HX.out.drewN n6
      generalize X.drewN n6 = Y at hY ⊢
      clear HX
      go_wp2_with fail
      refine (sizeM Y HZ.out).mono ?_
      rintro e w7 ⟨rfl, rfl⟩
      obtain ⟨c0, c1, c2, c3, f3, d0, d1, d2, d3, g0, g1, g2, g3⟩ := hY.cells
      have HX := Lib.hid hY
      clear hY
      have hzl : z ≤ 2097170 := by have := HZ.out; split at this <;> omega
      by_cases t0 : (s[0].toNat : Int) = 183
      · have u0 : ((s[0].toNat : Int) == 183) = true := by simpa using t0
        by_cases tk : s[1].toNat = 1 ∨ s[1].toNat = 2
        · have HK := Lib.hid (fun w => isKind_nat w tk)
          by_cases tn : 1 ≤ w4 (L s) 2 ∧ w4 (L s) 2 < 4294967295
          · have HM := Lib.hid (fun w => isNumber_nat (n := w4 (L s) 2) w tn.1 tn.2)
            by_cases tz : z = 0
            · have uz : ((z : Int) == 0) = true := by rw [tz]; rfl
              subst tz
              clear tk tn
              go_wp2_with (first | (go_at_call 18; with_reducible refine (HK.out _).mono ?_; rintro e w8 ⟨rfl, rfl⟩) | (go_at_call 19; with_reducible refine (HM.out _).mono ?_; rintro e w8 ⟨rfl, rfl⟩))
              have HN : ¬ isF (L s) := fun h => by have h6 := h.2.2.2.2.2.1; have := HZ.out; rw [if_pos h6] at this; omega
              refine bodyPost_ret (v := .tuple #[frV 0 0 0 ⟨#[]⟩, .bool false]) ((res2 rfl _ _ w.heap.size 47 #[.int .i64 0, .int .i64 0, .int .i64 0, .string ⟨#[]⟩] (0, 0) _ rfl (put4 HX.out.out rfl) Try.underlying47 rfl frame_size).trans rfl) rfl ?_
              exact ⟨by rw [← HR.out, if_neg HN, decide_eq_false HN], put4_below HX.out.below⟩
            · have uz : ((z : Int) == 0) = false := by rw [beq_eq_false_iff_ne]; omega
              by_cases tl : z ≤ s.size
              · have hm : w4 (L s) 6 ≤ 2097152 := by
                  rcases Nat.lt_or_ge 2097152 (w4 (L s) 6) with q | q
                  · have := HZ.out; rw [if_neg (by omega)] at this; omega
                  · exact q
                have hz2 : z = w4 (L s) 6 + 18 := by have := HZ.out; rw [if_pos hm] at this; exact this
                have TK := Lib.hid tk
                have TN := Lib.hid tn
                have T0 := Lib.hid t0
                have HZ2 := Lib.hid hz2
                have HM2 := Lib.hid hm
                have ul : decide ((z : Int) > (s.size : Int)) = false := by simp; omega
                have u14 : (14 : Int) ≤ (s.size : Int) := by omega
                clear tk tn hz2 hm
                go_wp2_with (first | (go_at_call 18; with_reducible refine (HK.out _).mono ?_; rintro e w8 ⟨rfl, rfl⟩) | (go_at_call 19; with_reducible refine (HM.out _).mono ?_; rintro e w8 ⟨rfl, rfl⟩))
                refine (isSummed_upto s 14 T _ (by omega) (by omega) hs (HT.out _ HX.out.below)).mono ?_
                rintro e w8 ⟨rfl, n8, rfl⟩
                have hY := HX.out.drewN n8
                generalize Y.drewN n8 = Z at hY ⊢
                clear HX c0 c1 c2 c3 f3 d0 d1 d2 d3 g0 g1 g2 g3
                obtain ⟨c0, c1, c2, c3, f3, d0, d1, d2, d3, g0, g1, g2, g3⟩ := hY.cells
                have HX := Lib.hid hY
                clear hY
                by_cases ts : crc ((L s).take (14 - 4)) = w4 (L s) (14 - 4)
                · rw [decide_eq_true ts]
                  have TS := Lib.hid ts
                  clear ts
                  have hzs : (z : Int) ≤ (s.size : Int) := by omega
                  go_wp2_with fail
                  refine (isSummed_upto s z T _ (by have := HZ2.out; omega) tl hs (HT.out _ HX.out.below)).mono ?_
                  rintro e w9 ⟨rfl, n9, rfl⟩
                  have hY := HX.out.drewN n9
                  generalize Z.drewN n9 = V at hY ⊢
                  clear HX c0 c1 c2 c3 f3 d0 d1 d2 d3 g0 g1 g2 g3
                  obtain ⟨c0, c1, c2, c3, f3, d0, d1, d2, d3, g0, g1, g2, g3⟩ := hY.cells
                  have HX := Lib.hid hY
                  clear hY
                  by_cases tt : crc ((L s).take (z - 4)) = w4 (L s) (z - 4)
                  · rw [decide_eq_true tt]
                    have TT := Lib.hid tt
                    clear tt
                    have hz4 : 18 ≤ z := by have := HZ2.out; omega
                    obtain ⟨y, hy⟩ : ∃ y, z = y + 4 := ⟨z - 4, by omega⟩
                    have hsub : (z : Int) - 4 = (y : Int) := by omega
                    have hyl : y ≤ s.size := by omega
                    have hyl2 : 14 ≤ y := by omega
                    have HY := Lib.hid hy
                    clear hy
                    go_wp2_with fail
                    have hF : isF (L s) := by
                      have q1 := HM2.out
                      have q2 := HZ2.out
                      have q3 := TN.out
                      have q4 := TT.out
                      rw [show z - 4 = 14 + w4 (L s) 6 by omega] at q4
                      exact ⟨by rw [L_length]; omega, by rw [E0.out]; exact UInt8.toNat_inj.1 (show s[0].toNat = 183 by have := T0.out; omega), by rw [E1.out]; exact TK.out, q3.1, q3.2, q1, by rw [L_length]; omega, TS.out, q4⟩
                    have hB : s.extract 14 y = S (bodyF (L s)) := by
                      have : L (s.extract 14 y) = bodyF (L s) := by
                        rw [L_extract]
                        unfold bodyF
                        rw [List.drop_take, show y - 14 = w4 (L s) 6 by have := HZ2.out; have := HY.out; omega]
                      rw [← this]; rfl
                    have hV : (V.setCell ⟨w.heap.size + 1, 3, none⟩ (.string (s.extract 14 y))).heap[w.heap.size]? = some (.cells #[.int .i64 0, .int .i64 0, .int .i64 0, .string ⟨#[]⟩] 47) := by
                      rw [heap_setCell_other _ _ _ _ (by simp)]; exact HX.out.out
                    refine bodyPost_ret (v := .tuple #[frV s[1].toNat (w4 (L s) 2) 0 (s.extract 14 y), .bool true]) ((res2 rfl _ _ w.heap.size 47 #[.int .i64 (s[1].toNat : Int), .int .i64 (w4 (L s) 2 : Nat), .int .i64 0, .string (s.extract 14 y)] (0, 0) _ rfl (put4 hV rfl) Try.underlying47 rfl frame_size).trans rfl) rfl ?_
                    exact ⟨by rw [← HR.out, if_pos hF, decide_eq_true hF, hB, E1.out], put4_below (HX.out.below.setCell (p := ⟨w.heap.size + 1, 3, none⟩) (by simp) _)⟩
                  · rw [decide_eq_false tt]
                    go_wp2_with fail
                    have HN : ¬ isF (L s) := fun h => tt (by have := h.2.2.2.2.2.2.2.2; rw [show 14 + w4 (L s) 6 = z - 4 by have := HZ2.out; omega] at this; exact this)
                    refine bodyPost_ret (v := .tuple #[frV 0 0 0 ⟨#[]⟩, .bool false]) ((res2 rfl _ _ w.heap.size 47 #[.int .i64 0, .int .i64 0, .int .i64 0, .string ⟨#[]⟩] (0, 0) _ rfl (put4 HX.out.out rfl) Try.underlying47 rfl frame_size).trans rfl) rfl ?_
                    exact ⟨by rw [← HR.out, if_neg HN, decide_eq_false HN], put4_below HX.out.below⟩
                · rw [decide_eq_false ts]
                  go_wp2_with fail
                  have HN : ¬ isF (L s) := fun h => ts h.2.2.2.2.2.2.2.1
                  refine bodyPost_ret (v := .tuple #[frV 0 0 0 ⟨#[]⟩, .bool false]) ((res2 rfl _ _ w.heap.size 47 #[.int .i64 0, .int .i64 0, .int .i64 0, .string ⟨#[]⟩] (0, 0) _ rfl (put4 HX.out.out rfl) Try.underlying47 rfl frame_size).trans rfl) rfl ?_
                  exact ⟨by rw [← HR.out, if_neg HN, decide_eq_false HN], put4_below HX.out.below⟩
              · clear tk tn
                have ul : decide ((z : Int) > (s.size : Int)) = true := by simp; omega
                go_wp2_with (first | (go_at_call 18; with_reducible refine (HK.out _).mono ?_; rintro e w8 ⟨rfl, rfl⟩) | (go_at_call 19; with_reducible refine (HM.out _).mono ?_; rintro e w8 ⟨rfl, rfl⟩))
                have HN : ¬ isF (L s) := fun h => by have h6 := h.2.2.2.2.2.1; have h7 := h.2.2.2.2.2.2.1; have := HZ.out; rw [if_pos h6] at this; rw [L_length] at h7; omega
                refine bodyPost_ret (v := .tuple #[frV 0 0 0 ⟨#[]⟩, .bool false]) ((res2 rfl _ _ w.heap.size 47 #[.int .i64 0, .int .i64 0, .int .i64 0, .string ⟨#[]⟩] (0, 0) _ rfl (put4 HX.out.out rfl) Try.underlying47 rfl frame_size).trans rfl) rfl ?_
                exact ⟨by rw [← HR.out, if_neg HN, decide_eq_false HN], put4_below HX.out.below⟩
          · have HM : Hid (∀ w, Calls Try.prog 19 #[.int .i64 (w4 (L s) 2 : Nat)] w fun e w' => e = .returned (.bool false) ∧ w = w') := Lib.hid (fun w => (isNumber_any (w4 (L s) 2 : Nat) w).mono (by rintro e w' ⟨rfl, rfl⟩; exact ⟨ret_bool (by simp; omega), rfl⟩))
            clear tk
            go_wp2_with (first | (go_at_call 18; with_reducible refine (HK.out _).mono ?_; rintro e w8 ⟨rfl, rfl⟩) | (go_at_call 19; with_reducible refine (HM.out _).mono ?_; rintro e w8 ⟨rfl, rfl⟩))
            have HN : ¬ isF (L s) := fun h => tn ⟨h.2.2.2.1, h.2.2.2.2.1⟩
            refine bodyPost_ret (v := .tuple #[frV 0 0 0 ⟨#[]⟩, .bool false]) ((res2 rfl _ _ w.heap.size 47 #[.int .i64 0, .int .i64 0, .int .i64 0, .string ⟨#[]⟩] (0, 0) _ rfl (put4 HX.out.out rfl) Try.underlying47 rfl frame_size).trans rfl) rfl ?_
            exact ⟨by rw [← HR.out, if_neg HN, decide_eq_false HN], put4_below HX.out.below⟩
        · have HK : Hid (∀ w, Calls Try.prog 18 #[.int .i64 (s[1].toNat : Int)] w fun e w' => e = .returned (.bool false) ∧ w = w') := Lib.hid (fun w => (isKind_any (s[1].toNat : Int) w).mono (by rintro e w' ⟨rfl, rfl⟩; exact ⟨ret_bool (by simp; omega), rfl⟩))
          go_wp2_with (go_at_call 18; with_reducible refine (HK.out _).mono ?_; rintro e w8 ⟨rfl, rfl⟩)
          have HN : ¬ isF (L s) := fun h => tk (by have := h.2.2.1; rw [E1.out] at this; exact this)
          refine bodyPost_ret (v := .tuple #[frV 0 0 0 ⟨#[]⟩, .bool false]) ((res2 rfl _ _ w.heap.size 47 #[.int .i64 0, .int .i64 0, .int .i64 0, .string ⟨#[]⟩] (0, 0) _ rfl (put4 HX.out.out rfl) Try.underlying47 rfl frame_size).trans rfl) rfl ?_
          exact ⟨by rw [← HR.out, if_neg HN, decide_eq_false HN], put4_below HX.out.below⟩
      · have u0 : ((s[0].toNat : Int) == 183) = false := by simpa using t0
        go_wp2_with fail
        have HN : ¬ isF (L s) := fun h => t0 (by have := h.2.1; rw [E0.out] at this; rw [this]; rfl)
        refine bodyPost_ret (v := .tuple #[frV 0 0 0 ⟨#[]⟩, .bool false]) ((res2 rfl _ _ w.heap.size 47 #[.int .i64 0, .int .i64 0, .int .i64 0, .string ⟨#[]⟩] (0, 0) _ rfl (put4 HX.out.out rfl) Try.underlying47 rfl frame_size).trans rfl) rfl ?_
        exact ⟨by rw [← HR.out, if_neg HN, decide_eq_false HN], put4_below HX.out.below⟩
    clear hK
    go_region_with (go_at_call 33; refine (word_any s 2 _ (by omega) hs).mono ?_; rintro e w2 ⟨rfl, n2, rfl⟩)
    all_goals (simp only [Exit.then]; first | with_reducible exact tail _ (Dc.late _ _ _ _) | with_reducible exact tail _ (Dc.early _ _ _ _))
end Go.Proofs.Ytkdmicpfinjpgaa
