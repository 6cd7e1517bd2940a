/- The reference's Parse (written by refparsegen.py). -/
import Derived.Test.YtkclcjnfjielfabDoorWt
namespace Go.Proofs.YtkclcjnfjielfabDoor
open Go.RowKit

theorem ret_vi {v : Value} {a b : Int} (h : a = b) : Ending.returned (.tuple #[v, .int .i64 a]) = .returned (.tuple #[v, .int .i64 b]) := by rw [h]
set_option maxRecDepth 100000 in
set_option maxHeartbeats 8000000 in
theorem refParse_any (s : ByteArray) (w : World) :
    Calls Tryd.prog 32 #[.string s] w fun e w' => ∃ v', e = .returned (.tuple #[v', .int .i64 (parseE (L s))]) ∧ OwnR w.heap.size v' (parseL (L s)) w w' := by
  by_cases hl : 4096 < s.size
  · have HE : Hid (parseE (L s) = 2 ∧ parseL (L s) = []) := Lib.hid (by unfold parseE parseL; rw [if_pos (by rw [L_length]; exact hl), if_pos (by rw [L_length]; exact hl)]; exact ⟨rfl, rfl⟩)
    have hz : (4096 : Int) < (s.size : Int) := by omega
    generalize parseE (L s) = pe at *
    generalize parseL (L s) = pl at *
    go_enter Tryd.func32, Tryd.ntmps32
    go_wp2_with fail
    go_ret2
    exact ⟨_, ret_vi HE.out.1.symm, by rw [HE.out.2]; exact OwnR.nil (Below.refl _ _) (Nat.le_refl _)⟩
  · have hz : ¬ (4096 : Int) < (s.size : Int) := by omega
    have HE : Hid (parseE (L s) = (match pcs (L s) with | none => 40 | some s => if 64 < s.length then 41 else 0) ∧ parseL (L s) = (match pcs (L s) with | none => [] | some s => if 64 < s.length then [] else s)) := Lib.hid (by unfold parseE parseL; rw [if_neg (by rw [L_length]; exact hl), if_neg (by rw [L_length]; exact hl)]; exact ⟨rfl, rfl⟩)
    generalize parseE (L s) = pe at *
    generalize parseL (L s) = pl at *
    obtain ⟨R, hR⟩ : ∃ R, R = pcs (L s) := ⟨_, rfl⟩
    rw [← hR] at HE
    have HR : Hid (R = scn ((L s).drop 0 ++ [44]) [] false (0, 0) []) := Lib.hid hR
    clear hR
    go_enter Tryd.func32, Tryd.ntmps32
    go_wp2_with fail
    go_loopg [4, 5, 6, 7, 8] s.size (fun gg s4 s5 s6 s7 s8 wr => ∃ (k : Nat) (v4 : Value) (acc : List Rg) (X : World), X = wr ∧ k ≤ s.size ∧ s.size - k ≤ gg ∧ s5 = .int .i64 k ∧ v4 = s4 ∧ acc.length ≤ k ∧ OwnR w.heap.size v4 acc w X ∧ Hid (∃ q1 q2, R = scn ((L s).drop k ++ [44]) [] false (q1, q2) acc))
    case atStart => exact ⟨0, _, [], _, rfl, Nat.zero_le _, by omega, rfl, rfl, by simp, OwnR.nil (Below.refl _ _) (Nat.le_refl _), Lib.hid ⟨0, 0, HR.out⟩⟩
    case round =>
      obtain ⟨k, v4, acc, X, hX, hk, hgg, rfl, hv4, hacc, hown, HRk⟩ := hrel
      subst hX
      subst hv4
      have HO := Lib.hid hown
      clear hown HR
      have HC1 := Lib.hid (refEnd_any s k X hk (by omega))
      obtain ⟨E, hE⟩ : ∃ E, E = rE ((L s).drop k) := ⟨_, rfl⟩
      rw [← hE] at HC1
      have HEE := Lib.hid hE
      clear hE
      cases E with
      | none =>
        have hRN : R = none := by (obtain ⟨q1, q2, h⟩ := HRk.out; rw [h]; exact scn_rE_none _ _ _ HEE.out.symm)
        replace HC1 : Hid (Calls Tryd.prog 57 #[.string s, .int .i64 k] X fun e w' => ∃ a : Nat, e = .returned (.tuple #[.int .i64 (-1), .int .i64 a]) ∧ w' = X) := Lib.hid (HC1.out.mono fun e w' ⟨a, h1, _, h3⟩ => ⟨a, h1, h3⟩)
        go_wp2_with (go_at_call 57; refine HC1.out.mono ?_; rintro e w1 ⟨a, rfl, rfl⟩)
        go_ret2
        exact ⟨_, ret_vi (by rw [HE.out.1, hRN]), by rw [HE.out.2, hRN]; exact OwnR.nil HO.out.below HO.out.base⟩
      | some nr =>
        obtain ⟨n, r1⟩ := nr
        obtain ⟨_, n0, n1⟩ := rE_sound HEE.out.symm
        replace HC1 : Hid (Calls Tryd.prog 57 #[.string s, .int .i64 k] X fun e w' => ∃ a : Nat, e = .returned (.tuple #[.int .i64 n, .int .i64 a]) ∧ Hid (a ≤ s.size ∧ k < a ∧ r1 = (L s).drop a) ∧ w' = X) := Lib.hid (HC1.out.mono fun e w' ⟨a, h1, h2, h3⟩ => ⟨a, h1, Lib.hid (by have := h2 _ _ rfl; rwa [L_length] at this), h3⟩)
        go_wp2_with fail
        refine HC1.out.mono ?_
        rintro e w1 ⟨a, rfl, HA, hw1⟩
        subst hw1
        clear HC1
        obtain ⟨ha1, ha2, hr1⟩ := HA.out
        have nz : ¬ n < 0 := by omega
        by_cases has : a < s.size
        · have hasz : (a : Int) < (s.size : Int) := by omega
          have hase : ((a : Int) == (s.size : Int)) = false := by rw [beq_eq_false_iff_ne]; omega
          have hck : ((s[a]).toNat : Int) = ((bt (L s) a).toNat : Int) := by rw [bt_getElem (L s) a (by rw [L_length]; exact has)]; rfl
          have hD := drop_consL (L s) a (by rw [L_length]; exact has)
          rw [hD] at hr1
          subst hr1
          clear hD
          generalize bt (L s) a = c at *
          by_cases h58 : c = 58
          · subst h58
            have q1 : (((s[a]).toNat : Int) == 58) = true := by rw [hck]; rfl
            have HR2 : Hid (R = scn ((L s).drop (a + 1) ++ [44]) [] true (n, n) acc) := Lib.hid (by obtain ⟨q1, q2, h⟩ := HRk.out; rw [h]; exact scn_rE_colon _ _ _ HEE.out.symm)
            clear HRk HEE hck
            have HC2 := Lib.hid (refEnd_any s (a + 1) w1 (by omega) (by omega))
            obtain ⟨E2, hE2⟩ : ∃ E2, E2 = rE ((L s).drop (a + 1)) := ⟨_, rfl⟩
            rw [← hE2] at HC2
            have HEE := Lib.hid hE2
            clear hE2
            have hcast : ((a : Int) + 1) = ((a + 1 : Nat) : Int) := by omega
            rw [← hcast] at HC2
            clear hcast
            cases E2 with
            | none =>
              have hRN : R = none := by (rw [HR2.out]; exact scn_rE_none _ _ _ HEE.out.symm)
              replace HC2 : Hid (Calls Tryd.prog 57 #[.string s, .int .i64 ((a : Int) + 1)] w1 fun e w' => ∃ a : Nat, e = .returned (.tuple #[.int .i64 (-1), .int .i64 a]) ∧ w' = w1) := Lib.hid (HC2.out.mono fun e w' ⟨a, h1, _, h3⟩ => ⟨a, h1, h3⟩)
              go_wp2_with (go_at_call 57; refine HC2.out.mono ?_; rintro e w2 ⟨a2, rfl, rfl⟩)
              go_ret2
              exact ⟨_, ret_vi (by rw [HE.out.1, hRN]), by rw [HE.out.2, hRN]; exact OwnR.nil HO.out.below HO.out.base⟩
            | some nr =>
              obtain ⟨m, r2⟩ := nr
              obtain ⟨_, m0, m1⟩ := rE_sound HEE.out.symm
              have mz : ¬ m < 0 := by omega
              replace HC2 : Hid (Calls Tryd.prog 57 #[.string s, .int .i64 ((a : Int) + 1)] w1 fun e w' => ∃ a2 : Nat, e = .returned (.tuple #[.int .i64 m, .int .i64 a2]) ∧ Hid (a2 ≤ s.size ∧ a + 1 < a2 ∧ r2 = (L s).drop a2) ∧ w' = w1) := Lib.hid (HC2.out.mono fun e w' ⟨a, h1, h2, h3⟩ => ⟨a, h1, Lib.hid (by have := h2 _ _ rfl; rwa [L_length] at this), h3⟩)
              go_wp2_with fail
              refine HC2.out.mono ?_
              rintro e w2 ⟨a2, rfl, HA2, hw2⟩
              subst hw2
              clear HC2
              obtain ⟨hb1, hb2, hr2⟩ := HA2.out
              by_cases has2 : a2 < s.size
              · have hasz2 : (a2 : Int) < (s.size : Int) := by omega
                have hase2 : ((a2 : Int) == (s.size : Int)) = false := by rw [beq_eq_false_iff_ne]; omega
                have hck2 : ((s[a2]).toNat : Int) = ((bt (L s) a2).toNat : Int) := by rw [bt_getElem (L s) a2 (by rw [L_length]; exact has2)]; rfl
                have hD := drop_consL (L s) a2 (by rw [L_length]; exact has2)
                rw [hD] at hr2
                subst hr2
                clear hD
                generalize bt (L s) a2 = c2 at *
                by_cases h44 : c2 = 44
                · subst h44
                  have q2 : (((s[a2]).toNat : Int) != 44) = false := by rw [hck2]; rfl
                  have HR3 : Hid (∃ q1 q2, R = scn ((L s).drop (a2 + 1) ++ [44]) [] false (q1, q2) (acc ++ [(n, m)])) := Lib.hid ⟨_, _, by rw [HR2.out]; exact scn_rE_comma _ _ _ _ HEE.out.symm⟩
                  clear hck2
                  go_wp2_with (at_builtin; refine appP rfl _ _ rfl n m HO.out rfl rfl (by omega) ?_)
                  intro v5 w5 ho5
                  have HO5 := Lib.hid ho5
                  clear ho5
                  go_wp2_with fail
                  go_roundg (s.size - (a2 + 1))
                  case measure => omega
                  case rel => exact ⟨a2 + 1, _, _, _, rfl, by omega, by omega, by go_num, rfl, by rw [List.length_append, List.length_singleton]; omega, HO5.out, HR3⟩
                · have q2 : (((s[a2]).toNat : Int) != 44) = true := by
                    rw [hck2, bne_iff_ne]
                    intro h
                    exact h44 (UInt8.toNat_inj.1 (by have : (44 : UInt8).toNat = 44 := rfl; omega))
                  have hRN : R = none := by
                    rw [HR2.out]
                    by_cases h58b : c2 = 58
                    · subst h58b; exact scn_rE_colon2 _ _ _ HEE.out.symm
                    · exact scn_rE_other _ _ _ HEE.out.symm h44 h58b
                  clear hck2
                  go_wp2_with (at_builtin; refine appP rfl _ _ rfl n m HO.out rfl rfl (by omega) ?_)
                  intro v5 w5 ho5
                  have HO5 := Lib.hid ho5
                  clear ho5
                  go_wp2_with fail
                  go_ret2
                  exact ⟨_, ret_vi (by rw [HE.out.1, hRN]), by rw [HE.out.2, hRN]; exact OwnR.nil HO5.out.below HO5.out.base⟩
              · have hasz2 : ¬ (a2 : Int) < (s.size : Int) := by omega
                have hase2 : ((a2 : Int) == (s.size : Int)) = true := by rw [beq_iff_eq]; omega
                have hr20 : r2 = [] := by rw [hr2]; exact List.drop_eq_nil_of_le (by rw [L_length]; omega)
                subst hr20
                have HRS : Hid (R = some (acc ++ [(n, m)])) := Lib.hid (by rw [HR2.out]; exact scn_rE_end _ _ _ _ HEE.out.symm)
                go_wp2_with (at_builtin; refine appP rfl _ _ rfl n m HO.out rfl rfl (by omega) ?_)
                intro v5 w5 ho5
                have HO5 := Lib.hid ho5
                clear ho5
                obtain ⟨ao, cap, hsh⟩ : ∃ ao cap, v5 = .slice ao (acc ++ [(n, m)]).length cap := by
                  obtain ⟨ao, cap, h, _⟩ := (HO5.out.rgs (by rw [List.length_append, List.length_singleton]; omega)).shape
                  exact ⟨ao, cap, h⟩
                subst hsh
                have hlen5 : (acc ++ [(n, m)]).length ≤ 5000 := by rw [List.length_append, List.length_singleton]; omega
                have HE1 := Lib.hid (HE.out.1.trans (by rw [HRS.out]))
                have HE2 := Lib.hid (HE.out.2.trans (by rw [HRS.out]))
                clear HE HRS
                generalize acc ++ [(n, m)] = l5 at *
                by_cases h64 : 64 < l5.length
                · have h64z : (64 : Int) < (l5.length : Int) := by omega
                  go_wp2_with fail
                  go_ret2
                  exact ⟨_, ret_vi (by rw [HE1.out]; show (41 : Int) = (if 64 < l5.length then 41 else 0); rw [if_pos h64]), by rw [HE2.out]; show OwnR _ _ (if 64 < l5.length then [] else l5) _ _; rw [if_pos h64]; exact OwnR.nil HO5.out.below HO5.out.base⟩
                · have h64z : ¬ (64 : Int) < (l5.length : Int) := by omega
                  go_wp2_with fail
                  go_ret2
                  exact ⟨_, ret_vi (by rw [HE1.out]; show (0 : Int) = (if 64 < l5.length then 41 else 0); rw [if_neg h64]), by rw [HE2.out]; show OwnR _ _ (if 64 < l5.length then [] else l5) _ _; rw [if_neg h64]; exact HO5.out⟩
          · have q1 : (((s[a]).toNat : Int) == 58) = false := by
              rw [hck, beq_eq_false_iff_ne]
              intro h
              exact h58 (UInt8.toNat_inj.1 (by have : (58 : UInt8).toNat = 58 := rfl; omega))
            by_cases h44 : c = 44
            · subst h44
              have q2 : (((s[a]).toNat : Int) != 44) = false := by rw [hck]; rfl
              have HR3 : Hid (∃ q1 q2, R = scn ((L s).drop (a + 1) ++ [44]) [] false (q1, q2) (acc ++ [(n, n)])) := Lib.hid (by obtain ⟨q1, q2, h⟩ := HRk.out; exact ⟨_, _, by rw [h]; exact scn_rE_comma _ _ _ _ HEE.out.symm⟩)
              clear hck
              go_wp2_with (at_builtin; refine appP rfl _ _ rfl n n HO.out rfl rfl (by omega) ?_)
              intro v5 w5 ho5
              have HO5 := Lib.hid ho5
              clear ho5
              go_wp2_with fail
              go_roundg (s.size - (a + 1))
              case measure => omega
              case rel => exact ⟨a + 1, _, _, _, rfl, by omega, by omega, by go_num, rfl, by rw [List.length_append, List.length_singleton]; omega, HO5.out, HR3⟩
            · have q2 : (((s[a]).toNat : Int) != 44) = true := by
                rw [hck, bne_iff_ne]
                intro h
                exact h44 (UInt8.toNat_inj.1 (by have : (44 : UInt8).toNat = 44 := rfl; omega))
              have hRN : R = none := by (obtain ⟨q1, q2, h⟩ := HRk.out; rw [h]; exact scn_rE_other _ _ _ HEE.out.symm h44 h58)
              clear hck
              go_wp2_with (at_builtin; refine appP rfl _ _ rfl n n HO.out rfl rfl (by omega) ?_)
              intro v5 w5 ho5
              have HO5 := Lib.hid ho5
              clear ho5
              go_wp2_with fail
              go_ret2
              exact ⟨_, ret_vi (by rw [HE.out.1, hRN]), by rw [HE.out.2, hRN]; exact OwnR.nil HO5.out.below HO5.out.base⟩
        · have hasz : ¬ (a : Int) < (s.size : Int) := by omega
          have hase : ((a : Int) == (s.size : Int)) = true := by rw [beq_iff_eq]; omega
          have hr10 : r1 = [] := by rw [hr1]; exact List.drop_eq_nil_of_le (by rw [L_length]; omega)
          subst hr10
          have HRS : Hid (R = some (acc ++ [(n, n)])) := Lib.hid (by obtain ⟨q1, q2, h⟩ := HRk.out; rw [h]; exact scn_rE_end _ _ _ _ HEE.out.symm)
          clear HRk
          go_wp2_with (at_builtin; refine appP rfl _ _ rfl n n HO.out rfl rfl (by omega) ?_)
          intro v5 w5 ho5
          have HO5 := Lib.hid ho5
          clear ho5
          obtain ⟨ao, cap, hsh⟩ : ∃ ao cap, v5 = .slice ao (acc ++ [(n, n)]).length cap := by
            obtain ⟨ao, cap, h, _⟩ := (HO5.out.rgs (by rw [List.length_append, List.length_singleton]; omega)).shape
            exact ⟨ao, cap, h⟩
          subst hsh
          have hlen5 : (acc ++ [(n, n)]).length ≤ 5000 := by rw [List.length_append, List.length_singleton]; omega
          have HE1 := Lib.hid (HE.out.1.trans (by rw [HRS.out]))
          have HE2 := Lib.hid (HE.out.2.trans (by rw [HRS.out]))
          clear HE HRS
          generalize acc ++ [(n, n)] = l5 at *
          by_cases h64 : 64 < l5.length
          · have h64z : (64 : Int) < (l5.length : Int) := by omega
            go_wp2_with fail
            go_ret2
            exact ⟨_, ret_vi (by rw [HE1.out]; show (41 : Int) = (if 64 < l5.length then 41 else 0); rw [if_pos h64]), by rw [HE2.out]; show OwnR _ _ (if 64 < l5.length then [] else l5) _ _; rw [if_pos h64]; exact OwnR.nil HO5.out.below HO5.out.base⟩
          · have h64z : ¬ (64 : Int) < (l5.length : Int) := by omega
            go_wp2_with fail
            go_ret2
            exact ⟨_, ret_vi (by rw [HE1.out]; show (0 : Int) = (if 64 < l5.length then 41 else 0); rw [if_neg h64]), by rw [HE2.out]; show OwnR _ _ (if 64 < l5.length then [] else l5) _ _; rw [if_neg h64]; exact HO5.out⟩
end Go.Proofs.YtkclcjnfjielfabDoor
