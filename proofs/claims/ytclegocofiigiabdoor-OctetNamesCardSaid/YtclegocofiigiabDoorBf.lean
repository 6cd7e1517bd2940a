/- The reference's base64: Loose64, FromBase64. -/
import Derived.Test.YtclegocofiigiabDoorBe
namespace Go.Proofs.YtclegocofiigiabDoor
open Go.RowKit Go.Shelf

theorem ofNat_val (v : Nat) (c : UInt8) (h : v = c.toNat) : IntKind.u8.wrap (v : Int) = (c.toNat : Int) := by
  subst h
  have := c.toNat_lt
  rw [IntKind.wrap_u8]
  omega

set_option maxHeartbeats 1000000 in
theorem refLoose64_any (s : ByteArray) (w : World) (hs : s.size ≤ 1000000) :
    Calls Tryd.prog 26 #[.string s] w fun e w' => e = .returned (.string (S (loose64 (L s)))) ∧ Below w.heap.size w w' := by
  have HLo : Hid (loose64 (L s) = unpack ((L s).takeWhile (· != 61)) mailL) := Lib.hid (by unfold loose64; rw [cut_take])
  go_enter Tryd.func26, Tryd.ntmps26
  go_wp2
  go_loopw [3, 4] (fun v i wr => ∃ k : Nat, k ≤ s.size ∧ i = .int .i64 k ∧ (∀ c ∈ (L s).take k, c ≠ 61) ∧ OwnI w.heap.size v (ws6 ((L s).take k)) w wr) (fun _ i _ => s.size - (intOf i).toNat)
  case atStart => exact ⟨0, Nat.zero_le _, rfl, fun c hc => by simp at hc, OwnI.nil (Below.refl _ _) (Nat.le_refl _)⟩
  case round =>
    obtain ⟨k, hk, rfl, hno, hown⟩ := hrel
    have HN := Lib.hid hno
    clear hno
    by_cases hgo : k < s.size ∧ bt (L s) k ≠ 61
    · obtain ⟨hlt, h61⟩ := hgo
      have ea := get_bt s k hlt
      have c0 : (bt (L s) k).toNat < 256 := bt_lt _ _
      have HN2 : Hid (∀ c ∈ (L s).take (k + 1), c ≠ 61) := Lib.hid (by
        rw [take_snoc (L s) k hlt]
        intro c hc
        rcases List.mem_append.1 hc with hc | hc
        · exact HN.out c hc
        · simp at hc; subst hc; exact h61)
      have n61 : (((bt (L s) k).toNat : Int) != 61) = true := by
        rw [bne_iff_ne]; intro e; exact h61 (UInt8.toNat_inj.1 (by have : (61 : UInt8).toNat = 61 := rfl
                                                                   omega))
      have hW := Lib.hid (fun W => worth_any (bt (L s) k) W)
      have HS := Lib.hid (ws6_succ (L s) k hlt)
      have hwl := ws6_len ((L s).take k)
      rw [List.length_take, L_length] at hwl
      have hwl2 : (ws6 ((L s).take k)).length ≤ 6000000 := by omega
      have hx := worth_lt (bt (L s) k).toNat
      clear h61 hwl
      generalize ws6 ((L s).take k) = p at *
      generalize worthOf mailL (bt (L s) k).toNat = x at *
      by_cases hx0 : 0 ≤ x
      · obtain ⟨n, rfl⟩ := Int.eq_ofNat_of_zero_le hx0
        have hn : n < 64 := by omega
        rw [if_pos hx0] at HS
        have HS2 : Hid (ws6 ((L s).take (k + 1)) = p ++ bN 6 n) := Lib.hid (by rw [HS.out]; rfl)
        clear HS hx hx0
        go_wp2_with (go_at_call 48; refine (hW.out _).mono ?_; rintro e w2 ⟨rfl, rfl⟩)
        go_loopw [3, 6] (fun v q wr => ∃ m : Nat, m ≤ 6 ∧ q = .int .i64 ((2 ^ m / 2 : Nat) : Int) ∧ OwnI w.heap.size v (p ++ (bN 6 n).take (6 - m)) w wr) (fun _ q _ => (intOf q).toNat)
        case atStart => exact ⟨6, Nat.le_refl _, rfl, by simpa using hown⟩
        case round =>
          clear hown
          obtain ⟨m, hm, rfl, hown⟩ := hrel
          cases m with
          | zero =>
            have e1 : (bN 6 n).take (6 - 0) = bN 6 n := List.take_of_length_le (by rw [bN_length]; omega)
            rw [e1] at hown
            clear e1
            go_wp2
            go_roundw
            case rel => exact ⟨k + 1, by omega, by go_num, HN2.out, by rw [HS2.out]; exact hown⟩
            case measure => simp [intOf]; omega
          | succ m =>
            rw [half m]
            have hp1 : 0 < 2 ^ m := Nat.two_pow_pos m
            have hp2 : 2 ^ m ≤ 32 := by
              have : 2 ^ m ≤ 2 ^ 5 := Nat.pow_le_pow_right (by omega) (by omega)
              omega
            have HT := Lib.hid (bN_take 6 n m (by omega))
            have hlen : (p ++ (bN 6 n).take (6 - (m + 1))).length + 1 ≤ 17592186044416 := by
              rw [List.length_append, List.length_take]; omega
            generalize hKm : (2 ^ m : Nat) = K at hp1 hp2 HT ⊢
            have HKm := Lib.hid hKm
            clear hKm
            generalize (bN 6 n).take (6 - (m + 1)) = pre at *
            have hK0 : (0 : Int) < (K : Int) := by omega
            have hK1 : (K : Int) ≠ 0 := by omega
            have hdiv := divbit n K (by omega)
            go_wp2_with (at_builtin; go_loud (refine appI rfl _ _ rfl _ (n / K % 2) hown (divb _ _) rfl rfl hlen ?_; intro v3 w3 hown3))
            go_roundw
            case rel => exact ⟨m, by omega, by rw [HKm.out]; go_num, by rw [HT.out, ← List.append_assoc]; exact hown3⟩
            case measure => simp [intOf]; omega
      · have hxn : x < 0 := by omega
        rw [if_neg hx0, List.append_nil] at HS
        clear hx0
        go_wp2_with (go_at_call 48; refine (hW.out _).mono ?_; rintro e w2 ⟨rfl, rfl⟩)
        refine wp_loop_rounds 1 ?_
        rw [rounds_succ]
        go_wp2
        go_roundw
        case rel => exact ⟨k + 1, by omega, by go_num, HN2.out, by rw [HS.out]; exact hown⟩
        case measure => simp [intOf]; omega
    · have hst : (L s).length ≤ k ∨ bt (L s) k = 61 := by
        rw [L_length]
        rcases Nat.lt_or_ge k s.size with h | h
        · right
          cases hd : decide (bt (L s) k = 61) with
          | true => exact of_decide_eq_true hd
          | false => exact absurd ⟨h, of_decide_eq_false hd⟩ hgo
        · exact .inl h
      have htw := tw_stop (L s) k HN.out hst
      rw [htw] at HLo
      have hwl := ws6_len ((L s).take k)
      rw [List.length_take, L_length] at hwl
      have hwl2 : (ws6 ((L s).take k)).length ≤ 6000000 := by omega
      have h2 := ws6_lt ((L s).take k)
      obtain ⟨ha, hb⟩ := un_at ((L s).take k)
      have hol := up_len_le ((L s).take k) mailL
      rw [List.length_take, L_length] at hol
      clear htw hgo hwl HN
      generalize ws6 ((L s).take k) = B at *
      generalize unpack ((L s).take k) mailL = X at *
      have HA := Lib.hid ha
      have HB := Lib.hid hb
      have H2 := Lib.hid h2
      clear ha hb h2
      obtain ⟨ad, cp, rfl⟩ := hown.shape
      have hguard : (decide ((k : Int) < (s.size : Int)) = false) ∨ (∃ h : k < s.size, (((bt (L s) k).toNat : Int) != 61) = false) := by
        rcases hst with h | h
        · left; rw [L_length] at h; simp; omega
        · rcases Nat.lt_or_ge k s.size with h' | h'
          · right; exact ⟨h', by rw [h]; rfl⟩
          · left; simp; omega
      clear hst
      have hx := hown
      obtain ⟨w1, hw1⟩ : ∃ w1, w1 = wr := ⟨_, rfl⟩
      rcases hguard with hg1 | ⟨hlt, hg1⟩
      · have hnl : s.size ≤ k := by simpa using hg1
        clear hg1
        have hnl2 : ¬ ((k : Int) < (s.size : Int)) := by omega
        go_wp2
        subst hw1
        go_loopw [7, 8] (fun v i wr => ∃ j : Nat, j ≤ X.length ∧ i = .int .i64 ((8 * j : Nat) : Int) ∧ Own w1.heap.size v (X.take j) w1 wr) (fun _ i _ => B.length + 8 - (intOf i).toNat)
        case atStart => exact ⟨0, Nat.zero_le _, rfl, Own.nil (Below.refl _ _) (Nat.le_refl _)⟩
        case round =>
          have hown0 := hown
          clear hown
          obtain ⟨j, hj, rfl, hown⟩ := hrel
          by_cases hlt : j < X.length
          · have hin := (HB.out j).2 hlt
            obtain ⟨g, cap, hgv, hg, hcells⟩ := hown0.cells (by omega)
            obtain ⟨rfl, rfl⟩ : ad = some ⟨g, 0, none⟩ ∧ cp = cap := by cases hgv; exact ⟨rfl, rfl⟩
            have hval := HA.out j hlt
            have HE : Hid (X.take (j + 1) = X.take j ++ [X[j]]) := Lib.hid (by rw [List.take_succ_eq_append_getElem hlt])
            have hlen : (X.take j).length + 1 ≤ 140737488355328 := by rw [List.length_take]; omega
            have HV := Lib.hid (fun W (hc : ∀ i, i < B.length → W.cell? ⟨g, i, none⟩ = some (.int .i64 ((B[i]?.getD 0 : Nat) : Int))) => value_any g cp B (8 * j) 8 W H2.out (by omega) (by omega) (by omega) hc)
            rw [hval] at HV
            have hcw : ∀ i, i < B.length → wr.cell? ⟨g, i, none⟩ = some (.int .i64 ((B[i]?.getD 0 : Nat) : Int)) := fun i hi => by
              rw [hown.below.cell (p := ⟨g, i, none⟩) hg]; exact hcells i hi
            have HW := Lib.hid hcw
            clear hcw hcells hval hgv
            generalize X[j] = x at *
            have c1 := x.toNat_lt
            generalize X.take j = o at *
            go_wp2_with (first | (go_at_call 49; refine (HV.out _ HW.out).mono ?_; rintro e w2 ⟨rfl, rfl⟩) | (at_builtin; go_loud (refine app1 rfl _ _ rfl _ x hown rfl rfl rfl hlen ?_; intro v3 w3 hown3)))
            go_roundw
            case rel => exact ⟨j + 1, by omega, by go_num, by rw [HE.out]; exact hown3⟩
            case measure => simp [intOf]; omega
          · have hnin : ¬ 8 * j + 8 ≤ B.length := fun h => hlt ((HB.out j).1 h)
            have hj2 : X.take j = X := List.take_of_length_le (by omega)
            rw [hj2, ← HLo.out] at hown
            have hcv := hown.back
            clear hj2
            go_wp2
            go_ret
            exact ⟨rfl, hown0.below.trans (hown.below.mono hown0.base)⟩
      · have ea := get_bt s k hlt
        have c0 : (bt (L s) k).toNat < 256 := bt_lt _ _
        go_wp2
        subst hw1
        go_loopw [7, 8] (fun v i wr => ∃ j : Nat, j ≤ X.length ∧ i = .int .i64 ((8 * j : Nat) : Int) ∧ Own w1.heap.size v (X.take j) w1 wr) (fun _ i _ => B.length + 8 - (intOf i).toNat)
        case atStart => exact ⟨0, Nat.zero_le _, rfl, Own.nil (Below.refl _ _) (Nat.le_refl _)⟩
        case round =>
          have hown0 := hown
          clear hown
          obtain ⟨j, hj, rfl, hown⟩ := hrel
          by_cases hlt : j < X.length
          · have hin := (HB.out j).2 hlt
            obtain ⟨g, cap, hgv, hg, hcells⟩ := hown0.cells (by omega)
            obtain ⟨rfl, rfl⟩ : ad = some ⟨g, 0, none⟩ ∧ cp = cap := by cases hgv; exact ⟨rfl, rfl⟩
            have hval := HA.out j hlt
            have HE : Hid (X.take (j + 1) = X.take j ++ [X[j]]) := Lib.hid (by rw [List.take_succ_eq_append_getElem hlt])
            have hlen : (X.take j).length + 1 ≤ 140737488355328 := by rw [List.length_take]; omega
            have HV := Lib.hid (fun W (hc : ∀ i, i < B.length → W.cell? ⟨g, i, none⟩ = some (.int .i64 ((B[i]?.getD 0 : Nat) : Int))) => value_any g cp B (8 * j) 8 W H2.out (by omega) (by omega) (by omega) hc)
            rw [hval] at HV
            have hcw : ∀ i, i < B.length → wr.cell? ⟨g, i, none⟩ = some (.int .i64 ((B[i]?.getD 0 : Nat) : Int)) := fun i hi => by
              rw [hown.below.cell (p := ⟨g, i, none⟩) hg]; exact hcells i hi
            have HW := Lib.hid hcw
            clear hcw hcells hval hgv
            generalize X[j] = x at *
            have c1 := x.toNat_lt
            generalize X.take j = o at *
            go_wp2_with (first | (go_at_call 49; refine (HV.out _ HW.out).mono ?_; rintro e w2 ⟨rfl, rfl⟩) | (at_builtin; go_loud (refine app1 rfl _ _ rfl _ x hown rfl rfl rfl hlen ?_; intro v3 w3 hown3)))
            go_roundw
            case rel => exact ⟨j + 1, by omega, by go_num, by rw [HE.out]; exact hown3⟩
            case measure => simp [intOf]; omega
          · have hnin : ¬ 8 * j + 8 ≤ B.length := fun h => hlt ((HB.out j).1 h)
            have hj2 : X.take j = X := List.take_of_length_le (by omega)
            rw [hj2, ← HLo.out] at hown
            have hcv := hown.back
            clear hj2
            go_wp2
            go_ret
            exact ⟨rfl, hown0.below.trans (hown.below.mono hown0.base)⟩

set_option maxHeartbeats 400000 in
theorem refFromBase64_any (s : ByteArray) (w : World) (hs : s.size ≤ 500000) :
    Calls Tryd.prog 20 #[.string s] w fun e w' => e = .returned (.tuple #[.string (S (fromBase64 (L s)).1), .int .i64 (fromBase64 (L s)).2]) ∧ Below w.heap.size w w' := by
  have hle : (loose64 (L s)).length ≤ s.size := Nat.le_trans (up_len_le _ _) (cut_le _ _)
  go_enter Tryd.func20, Tryd.ntmps20
  go_wp2_with (first | (go_at_call 26; refine (refLoose64_any s _ (by omega)).mono ?_; rintro e w1 ⟨rfl, hb1⟩) | (go_at_call 24; refine (refBase64_any (S (loose64 (L s))) _ (by rw [S_size]; omega)).mono ?_; rintro e w2 ⟨rfl, hb2⟩))
  · have h : (!(S (base64 (L (S (loose64 (L s)))))).toList == s.toList) = true := by assumption
    rw [toList_L, toList_L, L_S, L_S] at h
    have hf : fromBase64 (L s) = ([], 10) := by unfold fromBase64; rw [if_neg (by simpa using h)]
    go_ret2
    exact ⟨by rw [hf]; rfl, hb1.trans (hb2.mono hb1.size)⟩
  · have h : (!(S (base64 (L (S (loose64 (L s)))))).toList == s.toList) = false := by assumption
    rw [toList_L, toList_L, L_S, L_S] at h
    have hf : fromBase64 (L s) = (loose64 (L s), 0) := by unfold fromBase64; rw [if_pos (by simpa using h)]
    go_ret2
    exact ⟨by rw [hf]; rfl, hb1.trans (hb2.mono hb1.size)⟩
end Go.Proofs.YtclegocofiigiabDoor
