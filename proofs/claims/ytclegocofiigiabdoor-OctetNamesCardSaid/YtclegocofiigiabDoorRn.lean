/- postbagref1: runes. -/
import Derived.Test.YtclegocofiigiabDoorRm
namespace Go.Proofs.YtclegocofiigiabDoor
open Go.RowKit Go.Shelf

set_option maxRecDepth 100000 in
set_option maxHeartbeats 10000000 in
theorem runes_any (s : ByteArray) (w : World) (hs : s.size ≤ 1000000) :
    Calls Tryd.prog 50 #[.string s] w fun e w' => (∃ v rs, e = .returned (.tuple #[v, .bool true]) ∧ (∀ r ∈ rs, sc r) ∧ L s = encL rs ∧ OwnI w.heap.size v rs w w') ∨ (e = .returned (.tuple #[.slice none 0 0, .bool false]) ∧ Lib.validD (L s) = false ∧ Below w.heap.size w w') := by
  have hLs := L_length s
  go_enter Tryd.func50, Tryd.ntmps50
  go_wp2
  go_loopw [4, 5] (fun v i wr => ∃ (k : Nat) (rs : List Nat), k ≤ s.size ∧ i = .int .i64 k ∧ rs.length ≤ k ∧ Hid ((∀ r ∈ rs, sc r) ∧ (L s).take k = encL rs) ∧ OwnI w.heap.size v rs w wr) (fun _ i _ => s.size - (intOf i).toNat)
  case atStart => exact ⟨0, [], Nat.zero_le _, rfl, Nat.zero_le _, Lib.hid ⟨by simp, rfl⟩, OwnI.nil (Below.refl _ _) (Nat.le_refl _)⟩
  case round =>
    obtain ⟨k, rs, hk, rfl, hrl, HR, hown⟩ := hrel
    by_cases hlt : k < s.size
    · have hbad : dAt (L s) k = (65533, 1) → Hid (Lib.validD (L s) = false) := fun h => Lib.hid (bad_at (L s) rs k HR.out.1 HR.out.2 (by omega) h)
      have hgood : ∀ v n, dAt (L s) k = (v, n) → ¬ (v = 65533 ∧ n = 1) → Hid ((∀ r ∈ rs ++ [v], sc r) ∧ (L s).take (k + n) = encL (rs ++ [v])) := fun v n h hb => Lib.hid (good_at (L s) rs k v n HR.out.1 HR.out.2 (by omega) h hb)
      unfold dAt at hbad hgood
      rw [hLs] at hbad hgood
      clear HR
      have hlen : rs.length + 1 ≤ 17592186044416 := by omega
      have e0 : ∀ h : k < s.size, s[k] = bt (L s) k := fun h => get_bt s k h
      have e1 : ∀ h : k + 1 < s.size, s[k + 1] = bt (L s) (k + 1) := fun h => get_bt s (k + 1) h
      have e2 : ∀ h : k + 2 < s.size, s[k + 2] = bt (L s) (k + 2) := fun h => get_bt s (k + 2) h
      have e3 : ∀ h : k + 3 < s.size, s[k + 3] = bt (L s) (k + 3) := fun h => get_bt s (k + 3) h
      have z0 := bt_lt (L s) k
      have z1 := bt_lt (L s) (k + 1)
      have z2 := bt_lt (L s) (k + 2)
      have z3 := bt_lt (L s) (k + 3)
      obtain ⟨b0, hb0⟩ : ∃ b, b = (bt (L s) k).toNat := ⟨_, rfl⟩
      obtain ⟨b1, hb1⟩ : ∃ b, b = (bt (L s) (k + 1)).toNat := ⟨_, rfl⟩
      obtain ⟨b2, hb2⟩ : ∃ b, b = (bt (L s) (k + 2)).toNat := ⟨_, rfl⟩
      obtain ⟨b3, hb3⟩ : ∃ b, b = (bt (L s) (k + 3)).toNat := ⟨_, rfl⟩
      rw [← hb0] at z0
      rw [← hb1] at z1
      rw [← hb2] at z2
      rw [← hb3] at z3
      rw [← hb0, ← hb1, ← hb2, ← hb3] at hbad
      simp only [← hb0, ← hb1, ← hb2, ← hb3] at hgood
      obtain ⟨C0, hC0⟩ : ∃ C : Int, C = (b0 : Int) := ⟨_, rfl⟩
      obtain ⟨C1, hC1⟩ : ∃ C : Int, C = (b1 : Int) := ⟨_, rfl⟩
      obtain ⟨C2, hC2⟩ : ∃ C : Int, C = (b2 : Int) := ⟨_, rfl⟩
      obtain ⟨C3, hC3⟩ : ∃ C : Int, C = (b3 : Int) := ⟨_, rfl⟩
      have f0 : ∀ h : k < s.size, ((s[k]).toNat : Int) = C0 := fun h => by rw [e0 h, ← hb0, ← hC0]
      have f1 : ∀ h : k + 1 < s.size, ((s[k + 1]).toNat : Int) = C1 := fun h => by rw [e1 h, ← hb1, ← hC1]
      have f2 : ∀ h : k + 2 < s.size, ((s[k + 2]).toNat : Int) = C2 := fun h => by rw [e2 h, ← hb2, ← hC2]
      have f3 : ∀ h : k + 3 < s.size, ((s[k + 3]).toNat : Int) = C3 := fun h => by rw [e3 h, ← hb3, ← hC3]
      clear e0 e1 e2 e3 hb0 hb1 hb2 hb3
      have g0 := f0 hlt
      clear f0
      have y0 : 0 ≤ C0 := by omega
      have x0 : C0 < 256 := by omega
      have y1 : 0 ≤ C1 := by omega
      have x1 : C1 < 256 := by omega
      have y2 : 0 ≤ C2 := by omega
      have x2 : C2 < 256 := by omega
      have y3 : 0 ≤ C3 := by omega
      have x3 : C3 < 256 := by omega
      have H0 := Lib.hid hC0
      by_cases h128 : C0 < 128
      · have HG := hgood _ _ (d1_ok (s.size - k) b0 _ _ _ (by omega)) (by omega)
        clear hbad hgood z0 z1 z2 z3 hC0 hC1 hC2 hC3
        go_wp2
        refine wp_loop_rounds 1 ?_
        rw [rounds_succ]
        go_wp2_with (at_builtin; go_loud (refine appI rfl _ _ rfl _ b0 hown H0.out rfl rfl hlen ?_; intro v3 w3 hown3))
        go_roundw
        case rel => exact ⟨k + 1, rs ++ [b0], by omega, by go_num, by simp; omega, HG, hown3⟩
        case measure => simp [intOf]; omega
      · by_cases hmid : C0 < 192 ∨ 248 ≤ C0
        · have HB := hbad (d1_bad (s.size - k) b0 _ _ _ (by omega) (by omega) (by omega))
          clear hbad hgood z0 z1 z2 z3 hC0 hC1 hC2 hC3
          rcases hmid with hmid | hmid
          all_goals (go_wp2; go_ret2; exact .inr ⟨rfl, HB.out, hown.below⟩)
        · have hlo : 192 ≤ C0 := by omega
          have hhi : C0 < 248 := by omega
          clear hmid
          by_cases hc2 : C0 < 224
          · have k0 : 192 ≤ C0 := by omega
            by_cases hsh : k + 2 ≤ s.size
            · have hr : (2 : Int) + k ≤ s.size := by omega
              have g1 := f1 (by omega)
              clear f1 f2 f3
              by_cases hl1 : C1 < 128 ∨ 192 ≤ C1
              · have HB := hbad (d2_bad (s.size - k) b0 b1 b2 b3 (by omega) (by omega) (by omega) (by omega))
                clear hbad hgood z0 z1 z2 z3 hC0 hC1 hC2 hC3
                rcases hl1 with hl1 | hl1
                all_goals (go_wp2; refine wp_loop_rounds 1 ?_; rw [rounds_succ]; go_wp2; go_ret2; exact .inr ⟨rfl, HB.out, hown.below⟩)
              · have p1 : 128 ≤ C1 := by omega
                have q1 : C1 < 192 := by omega
                clear hl1
                by_cases hv0 : (64 * (C0 - 192) + C1 - 128) < 128
                · have HB := hbad (d2_bad (s.size - k) b0 b1 b2 b3 (by omega) (by omega) (by omega) (by omega))
                  clear hbad hgood z0 z1 z2 z3 hC0 hC1 hC2 hC3
                  go_wp2
                  refine wp_loop_rounds 2 ?_
                  rw [rounds_succ]
                  go_wp2
                  rw [rounds_succ]
                  go_wp2
                  go_ret2
                  exact .inr ⟨rfl, HB.out, hown.below⟩
                · skip
                  obtain ⟨v, hv⟩ : ∃ v : Nat, (v : Int) = (64 * (C0 - 192) + C1 - 128) := ⟨((64 * (C0 - 192) + C1 - 128)).toNat, by omega⟩
                  have HV := Lib.hid hv.symm
                  have HG := hgood v 2 (d2_ok (s.size - k) b0 b1 b2 b3 v (by omega) (by omega) (by omega) (by omega) (by omega) (by omega) (by omega)) (by omega)
                  clear hv hbad hgood z0 z1 z2 z3 hC0 hC1 hC2 hC3
                  go_wp2
                  refine wp_loop_rounds 2 ?_
                  rw [rounds_succ]
                  go_wp2
                  rw [rounds_succ]
                  go_wp2_with (at_builtin; go_loud (refine appI rfl _ _ rfl _ v hown HV.out rfl rfl hlen ?_; intro v3 w3 hown3))
                  go_roundw
                  case rel => exact ⟨k + 2, rs ++ [v], by omega, by go_num, by simp; omega, HG, hown3⟩
                  case measure => simp [intOf]; omega
            · have HB := hbad (d2_bad (s.size - k) b0 b1 b2 b3 (by omega) (by omega) (by omega) (by omega))
              clear hbad hgood z0 z1 z2 z3 hC0 hC1 hC2 hC3
              have hr : ¬ (k : Int) + 2 ≤ s.size := by omega
              go_wp2
              go_ret2
              exact .inr ⟨rfl, HB.out, hown.below⟩
          · have hn2 : 224 ≤ C0 := by omega
            clear hc2
            by_cases hc3 : C0 < 240
            · have k0 : 224 ≤ C0 := by omega
              by_cases hsh : k + 3 ≤ s.size
              · have hr : (3 : Int) + k ≤ s.size := by omega
                have g1 := f1 (by omega)
                have g2 := f2 (by omega)
                clear f1 f2 f3
                by_cases hl1 : C1 < 128 ∨ 192 ≤ C1
                · have HB := hbad (d3_bad (s.size - k) b0 b1 b2 b3 (by omega) (by omega) (by omega) (by omega) (by omega))
                  clear hbad hgood z0 z1 z2 z3 hC0 hC1 hC2 hC3
                  rcases hl1 with hl1 | hl1
                  all_goals (go_wp2; refine wp_loop_rounds 1 ?_; rw [rounds_succ]; go_wp2; go_ret2; exact .inr ⟨rfl, HB.out, hown.below⟩)
                · have p1 : 128 ≤ C1 := by omega
                  have q1 : C1 < 192 := by omega
                  clear hl1
                  by_cases hl2 : C2 < 128 ∨ 192 ≤ C2
                  · have HB := hbad (d3_bad (s.size - k) b0 b1 b2 b3 (by omega) (by omega) (by omega) (by omega) (by omega))
                    clear hbad hgood z0 z1 z2 z3 hC0 hC1 hC2 hC3
                    rcases hl2 with hl2 | hl2
                    all_goals (go_wp2; refine wp_loop_rounds 2 ?_; rw [rounds_succ]; go_wp2; rw [rounds_succ]; go_wp2; go_ret2; exact .inr ⟨rfl, HB.out, hown.below⟩)
                  · have p2 : 128 ≤ C2 := by omega
                    have q2 : C2 < 192 := by omega
                    clear hl2
                    by_cases hv0 : (64 * (64 * (C0 - 224) + C1 - 128) + C2 - 128) < 2048
                    · have HB := hbad (d3_bad (s.size - k) b0 b1 b2 b3 (by omega) (by omega) (by omega) (by omega) (by omega))
                      clear hbad hgood z0 z1 z2 z3 hC0 hC1 hC2 hC3
                      go_wp2
                      refine wp_loop_rounds 3 ?_
                      rw [rounds_succ]
                      go_wp2
                      rw [rounds_succ]
                      go_wp2
                      rw [rounds_succ]
                      go_wp2
                      go_ret2
                      exact .inr ⟨rfl, HB.out, hown.below⟩
                    · skip
                      by_cases hv1 : 55296 ≤ (64 * (64 * (C0 - 224) + C1 - 128) + C2 - 128) ∧ (64 * (64 * (C0 - 224) + C1 - 128) + C2 - 128) < 57344
                      · have HB := hbad (d3_bad (s.size - k) b0 b1 b2 b3 (by omega) (by omega) (by omega) (by omega) (by omega))
                        clear hbad hgood z0 z1 z2 z3 hC0 hC1 hC2 hC3
                        obtain ⟨hv1, hw1⟩ := hv1
                        go_wp2
                        refine wp_loop_rounds 3 ?_
                        rw [rounds_succ]
                        go_wp2
                        rw [rounds_succ]
                        go_wp2
                        rw [rounds_succ]
                        go_wp2
                        go_ret2
                        exact .inr ⟨rfl, HB.out, hown.below⟩
                      · skip
                        by_cases hs7 : (64 * (64 * (C0 - 224) + C1 - 128) + C2 - 128) < 55296
                        · obtain ⟨v, hv⟩ : ∃ v : Nat, (v : Int) = (64 * (64 * (C0 - 224) + C1 - 128) + C2 - 128) := ⟨((64 * (64 * (C0 - 224) + C1 - 128) + C2 - 128)).toNat, by omega⟩
                          have HV := Lib.hid hv.symm
                          have HG := hgood v 3 (d3_ok (s.size - k) b0 b1 b2 b3 v (by omega) (by omega) (by omega) (by omega) (by omega) (by omega) (by omega) (by omega) (by omega) (by omega)) (by omega)
                          clear hv hbad hgood z0 z1 z2 z3 hC0 hC1 hC2 hC3
                          go_wp2
                          refine wp_loop_rounds 3 ?_
                          rw [rounds_succ]
                          go_wp2
                          rw [rounds_succ]
                          go_wp2
                          rw [rounds_succ]
                          go_wp2_with (at_builtin; go_loud (refine appI rfl _ _ rfl _ v hown HV.out rfl rfl hlen ?_; intro v3 w3 hown3))
                          go_roundw
                          case rel => exact ⟨k + 3, rs ++ [v], by omega, by go_num, by simp; omega, HG, hown3⟩
                          case measure => simp [intOf]; omega
                        · have hs8 : 57344 ≤ (64 * (64 * (C0 - 224) + C1 - 128) + C2 - 128) := by omega
                          clear hv1 hs7
                          obtain ⟨v, hv⟩ : ∃ v : Nat, (v : Int) = (64 * (64 * (C0 - 224) + C1 - 128) + C2 - 128) := ⟨((64 * (64 * (C0 - 224) + C1 - 128) + C2 - 128)).toNat, by omega⟩
                          have HV := Lib.hid hv.symm
                          have HG := hgood v 3 (d3_ok (s.size - k) b0 b1 b2 b3 v (by omega) (by omega) (by omega) (by omega) (by omega) (by omega) (by omega) (by omega) (by omega) (by omega)) (by omega)
                          clear hv hbad hgood z0 z1 z2 z3 hC0 hC1 hC2 hC3
                          go_wp2
                          refine wp_loop_rounds 3 ?_
                          rw [rounds_succ]
                          go_wp2
                          rw [rounds_succ]
                          go_wp2
                          rw [rounds_succ]
                          go_wp2_with (at_builtin; go_loud (refine appI rfl _ _ rfl _ v hown HV.out rfl rfl hlen ?_; intro v3 w3 hown3))
                          go_roundw
                          case rel => exact ⟨k + 3, rs ++ [v], by omega, by go_num, by simp; omega, HG, hown3⟩
                          case measure => simp [intOf]; omega
              · have HB := hbad (d3_bad (s.size - k) b0 b1 b2 b3 (by omega) (by omega) (by omega) (by omega) (by omega))
                clear hbad hgood z0 z1 z2 z3 hC0 hC1 hC2 hC3
                have hr : ¬ (k : Int) + 3 ≤ s.size := by omega
                go_wp2
                go_ret2
                exact .inr ⟨rfl, HB.out, hown.below⟩
            · have hn3 : 240 ≤ C0 := by omega
              clear hc3
              have k0 : 240 ≤ C0 := by omega
              by_cases hsh : k + 4 ≤ s.size
              · have hr : (4 : Int) + k ≤ s.size := by omega
                have g1 := f1 (by omega)
                have g2 := f2 (by omega)
                have g3 := f3 (by omega)
                clear f1 f2 f3
                by_cases hl1 : C1 < 128 ∨ 192 ≤ C1
                · have HB := hbad (d4_bad (s.size - k) b0 b1 b2 b3 (by omega) (by omega) (by omega) (by omega) (by omega) (by omega))
                  clear hbad hgood z0 z1 z2 z3 hC0 hC1 hC2 hC3
                  rcases hl1 with hl1 | hl1
                  all_goals (go_wp2; refine wp_loop_rounds 1 ?_; rw [rounds_succ]; go_wp2; go_ret2; exact .inr ⟨rfl, HB.out, hown.below⟩)
                · have p1 : 128 ≤ C1 := by omega
                  have q1 : C1 < 192 := by omega
                  clear hl1
                  by_cases hl2 : C2 < 128 ∨ 192 ≤ C2
                  · have HB := hbad (d4_bad (s.size - k) b0 b1 b2 b3 (by omega) (by omega) (by omega) (by omega) (by omega) (by omega))
                    clear hbad hgood z0 z1 z2 z3 hC0 hC1 hC2 hC3
                    rcases hl2 with hl2 | hl2
                    all_goals (go_wp2; refine wp_loop_rounds 2 ?_; rw [rounds_succ]; go_wp2; rw [rounds_succ]; go_wp2; go_ret2; exact .inr ⟨rfl, HB.out, hown.below⟩)
                  · have p2 : 128 ≤ C2 := by omega
                    have q2 : C2 < 192 := by omega
                    clear hl2
                    by_cases hl3 : C3 < 128 ∨ 192 ≤ C3
                    · have HB := hbad (d4_bad (s.size - k) b0 b1 b2 b3 (by omega) (by omega) (by omega) (by omega) (by omega) (by omega))
                      clear hbad hgood z0 z1 z2 z3 hC0 hC1 hC2 hC3
                      rcases hl3 with hl3 | hl3
                      all_goals (go_wp2; refine wp_loop_rounds 3 ?_; rw [rounds_succ]; go_wp2; rw [rounds_succ]; go_wp2; rw [rounds_succ]; go_wp2; go_ret2; exact .inr ⟨rfl, HB.out, hown.below⟩)
                    · have p3 : 128 ≤ C3 := by omega
                      have q3 : C3 < 192 := by omega
                      clear hl3
                      by_cases hv0 : (64 * (64 * (64 * (C0 - 240) + C1 - 128) + C2 - 128) + C3 - 128) < 65536
                      · have HB := hbad (d4_bad (s.size - k) b0 b1 b2 b3 (by omega) (by omega) (by omega) (by omega) (by omega) (by omega))
                        clear hbad hgood z0 z1 z2 z3 hC0 hC1 hC2 hC3
                        go_wp2
                        refine wp_loop_rounds 4 ?_
                        rw [rounds_succ]
                        go_wp2
                        rw [rounds_succ]
                        go_wp2
                        rw [rounds_succ]
                        go_wp2
                        rw [rounds_succ]
                        go_wp2
                        go_ret2
                        exact .inr ⟨rfl, HB.out, hown.below⟩
                      · skip
                        by_cases hv1 : 1114111 < (64 * (64 * (64 * (C0 - 240) + C1 - 128) + C2 - 128) + C3 - 128)
                        · have HB := hbad (d4_bad (s.size - k) b0 b1 b2 b3 (by omega) (by omega) (by omega) (by omega) (by omega) (by omega))
                          clear hbad hgood z0 z1 z2 z3 hC0 hC1 hC2 hC3
                          go_wp2
                          refine wp_loop_rounds 4 ?_
                          rw [rounds_succ]
                          go_wp2
                          rw [rounds_succ]
                          go_wp2
                          rw [rounds_succ]
                          go_wp2
                          rw [rounds_succ]
                          go_wp2
                          go_ret2
                          exact .inr ⟨rfl, HB.out, hown.below⟩
                        · skip
                          obtain ⟨v, hv⟩ : ∃ v : Nat, (v : Int) = (64 * (64 * (64 * (C0 - 240) + C1 - 128) + C2 - 128) + C3 - 128) := ⟨((64 * (64 * (64 * (C0 - 240) + C1 - 128) + C2 - 128) + C3 - 128)).toNat, by omega⟩
                          have HV := Lib.hid hv.symm
                          have HG := hgood v 4 (d4_ok (s.size - k) b0 b1 b2 b3 v (by omega) (by omega) (by omega) (by omega) (by omega) (by omega) (by omega) (by omega) (by omega) (by omega) (by omega) (by omega)) (by omega)
                          clear hv hbad hgood z0 z1 z2 z3 hC0 hC1 hC2 hC3
                          go_wp2
                          refine wp_loop_rounds 4 ?_
                          rw [rounds_succ]
                          go_wp2
                          rw [rounds_succ]
                          go_wp2
                          rw [rounds_succ]
                          go_wp2
                          rw [rounds_succ]
                          go_wp2_with (at_builtin; go_loud (refine appI rfl _ _ rfl _ v hown HV.out rfl rfl hlen ?_; intro v3 w3 hown3))
                          go_roundw
                          case rel => exact ⟨k + 4, rs ++ [v], by omega, by go_num, by simp; omega, HG, hown3⟩
                          case measure => simp [intOf]; omega
              · have HB := hbad (d4_bad (s.size - k) b0 b1 b2 b3 (by omega) (by omega) (by omega) (by omega) (by omega) (by omega))
                clear hbad hgood z0 z1 z2 z3 hC0 hC1 hC2 hC3
                have hr : ¬ (k : Int) + 4 ≤ s.size := by omega
                go_wp2
                go_ret2
                exact .inr ⟨rfl, HB.out, hown.below⟩
    · rw [List.take_of_length_le (by omega)] at HR
      go_wp2
      go_ret2
      exact .inl ⟨_, rs, rfl, HR.out.1, HR.out.2, hown⟩
end Go.Proofs.YtclegocofiigiabDoor
