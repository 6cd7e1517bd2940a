/- The document's Match: the walk. -/
import Derived.Test.YtedegnngdlkbhaaS12l
import Derived.Test.YtedegnngdlkbhaaZv
namespace Go.Proofs.Ytedegnngdlkbhaa
open Go.RowKit

set_option maxHeartbeats 2000000 in
set_option maxRecDepth 100000 in
theorem rMatch_any (p s : ByteArray) (w : World) (hp : p.size ≤ 1099511627776) (hs : s.size ≤ 1099511627775) :
    Calls Try.prog 7 #[.string p, .string s] w fun e w' => e = .returned (.bool (fm (L p) 0 (prs (L s)))) ∧ Below w.heap.size w w' := by
  obtain ⟨n, hn⟩ : ∃ n : Nat, n = s.size + 1 := ⟨_, rfl⟩
  have hnI : (s.size : Int) + 1 = (n : Int) := by omega
  have HN := Lib.hid hn
  have hnn : n ≤ 1099511627776 := by omega
  have HMk := Lib.hid (fun W => make_bools n hnn W)
  have HBl := Lib.hid (fun W => rbelow_any s W)
  have hsn : s.size < n := by omega
  have hn0 : 0 < n := by omega
  have hn0I : (0 : Int) < (n : Int) := by omega
  clear hn
  obtain ⟨fo, hfo⟩ : ∃ fo, fo = foldN (L s) := ⟨_, rfl⟩
  have HFo := Lib.hid hfo
  have hfo5 : fo ≤ 5 := by rw [hfo]; unfold foldN; split <;> omega
  clear hfo
  go_enter Try.func7, Try.ntmps7
  go_upto_region 2 with fail
  go_cut [15] (fun s15 wx => s15 = .bool (isInb (L s)) ∧ wx = w)
  case first =>
    have HIn : Hid (isInb (L s) = ((s.toList == [73, 78, 66, 79, 88]) || Lib.hasPrefix (L s) (INB ++ [47]))) := Lib.hid (by unfold isInb INB; rw [toList_L])
    cases hq : (s.toList == [73, 78, 66, 79, 88]) with
    | true =>
      rw [hq] at HIn
      go_wp2
      go_meet
      exact ⟨by rw [HIn.out]; rfl, rfl⟩
    | false =>
      rw [hq] at HIn
      go_wp2_with (go_at_call 14; refine (HBl.out _).mono ?_; rintro e w' ⟨rfl, hw'⟩; rw [hw']; clear hw' w')
      go_meet
      exact ⟨by rw [HIn.out]; rfl, rfl⟩
  case rest =>
    obtain ⟨rfl, hwc⟩ := hcut
    obtain rfl : w = wc := hwc.symm
    go_upto_if 15 with fail
    go_cut [5] (fun s5 wx => s5 = .int .i64 (fo : Int) ∧ wx = w)
    case first =>
      have HF2 : Hid (fo = if isInb (L s) then 5 else 0) := Lib.hid (by rw [HFo.out]; rfl)
      cases hI : isInb (L s) with
      | true =>
        rw [hI] at HF2
        go_wp2
        go_meet
        exact ⟨by rw [HF2.out]; rfl, rfl⟩
      | false =>
        rw [hI] at HF2
        go_wp2
        go_meet
        exact ⟨by rw [HF2.out]; rfl, rfl⟩
    case rest =>
      obtain ⟨rfl, hwc⟩ := hcut
      obtain rfl : w = wc := hwc.symm
      have hm0 := HMk.out w
      have r0 : BR (w.alloc (brow n)) w.heap.size n (fun _ => false) := BR.brow (heap_alloc_new _ _)
      have c0 := r0.cells 0 hn0
      have f0 := r0.free 0 hn0
      have r1 : BR ((w.alloc (brow n)).setCell ⟨w.heap.size, 0, none⟩ (.bool true)) w.heap.size n (rg (L p) (L s) 0) := r0.set 0 hn0 true (by rw [rg_start _ _ _ (by omega)]; rfl) (fun i hi hne => by
        rw [rg_start _ _ _ (by rw [L_length]; have := HN.out; omega)]
        have : (i == 0) = false := by rw [beq_eq_false_iff_ne]; exact hne
        rw [this])
      have b1 : Below w.heap.size w ((w.alloc (brow n)).setCell ⟨w.heap.size, 0, none⟩ (.bool true)) := ((Below.refl _ _).alloc (Nat.le_refl _) _).setCell (by simp) _
      have R1 := Lib.hid (And.intro r1 b1)
      clear r0 r1 b1
      go_wp2
      clear hm0 c0 f0
      generalize (w.alloc (brow n)).setCell ⟨w.heap.size, 0, none⟩ (.bool true) = w1 at R1 ⊢
      go_loopw [6, 7] (fun v6 v7 wr => ∃ i R : Nat, v6 = .slice (some ⟨R, 0, none⟩) n n ∧ v7 = .int .i64 (i : Int) ∧ i ≤ p.size ∧ w.heap.size ≤ R ∧ BR wr R n (rg (L p) (L s) i) ∧ Below w.heap.size w wr) (fun _ v7 _ => p.size - (intOf v7).toNat)
      case atStart => exact ⟨0, _, rfl, rfl, Nat.zero_le _, Nat.le_refl _, R1.out.1, R1.out.2⟩
      case round =>
        clear R1
        obtain ⟨i, R, rfl, rfl, hi, hR, hr, hb⟩ := hrel
        by_cases hlt : i < p.size
        · have lR : R < wr.heap.size := World.block_lt_of_cell? _ _ (hr.cells 0 hn0)
          have M0 : RM w.heap.size w (L p) (L s) R wr.heap.size n i 0 (wr.alloc (brow n)) := by
            refine ⟨hr.same (Below.heap_alloc _ _ _ lR), (BR.brow (heap_alloc_new _ _)).congr (fun x _ => ?_), hb.alloc hb.size _, hR, hb.size, by omega⟩
            unfold nx; simp
          have hm0 := HMk.out wr
          have H0 := Lib.hid M0
          clear M0 hr hb
          go_wp2
          clear hm0
          obtain ⟨N, hN⟩ : ∃ N, N = wr.heap.size := ⟨_, rfl⟩
          rw [← hN] at H0 ⊢
          generalize wr.alloc (brow n) = w2 at H0 ⊢
          clear hN lR
          have ea := get_bt p i hlt
          have ha8 := bt_lt (L p) i
          obtain ⟨t42, t37, _⟩ := wild_tests (bt (L p) i)
          go_loopw [9] (fun v9 wq => ∃ k : Nat, v9 = .int .i64 (k : Int) ∧ k ≤ n ∧ RM w.heap.size w (L p) (L s) R N n i k wq) (fun v9 _ => n - (intOf v9).toNat)
          case atStart => exact ⟨0, rfl, Nat.zero_le _, H0.out⟩
          case round =>
            clear H0
            obtain ⟨k, rfl, hk, hM⟩ := hrel
            by_cases hlt2 : k < n
            · have hks : (k : Int) ≤ (s.size : Int) := by have := HN.out; omega
              have hknI : (k : Int) < (n : Int) := by omega
              have rk := hM.r.cells k hlt2
              have fk := hM.nr.free k hlt2
              have nk := hM.nr.cells k hlt2
              have HM := Lib.hid hM
              clear hM
              cases h42 : (bt (L p) i == 42) with
              | true =>
                have HC42 := Lib.hid h42
                rw [h42] at t42
                have hW : isW (bt (L p) i) = true := by unfold isW; rw [h42]; rfl
                have HW := Lib.hid hW
                clear hW h42
                by_cases hk0 : k = 0
                · have hk0I : ¬ (0 : Int) < (k : Int) := by omega
                  have hk0J : ¬ (k : Int) > 0 := by omega
                  have E0 : Hid (rg (L p) (L s) (i + 1) k = rg (L p) (L s) i k) := Lib.hid (by subst hk0; exact rg_wild0 (L p) (L s) i hlt HW.out)
                  clear hk0
                  cases hv : rg (L p) (L s) i k with
                  | true =>
                    rw [hv] at rk E0
                    go_wp2
                    go_roundw
                    case rel => exact ⟨k + 1, by push_cast; rfl, by omega, HM.out.put hlt2 true E0.out.symm⟩
                    case measure => simp [intOf]; omega
                  | false =>
                    rw [hv] at rk E0
                    go_wp2
                    go_roundw
                    case rel => exact ⟨k + 1, by push_cast; rfl, by omega, HM.out.put hlt2 false E0.out.symm⟩
                    case measure => simp [intOf]; omega
                · obtain ⟨j, hj⟩ : ∃ j, k = j + 1 := ⟨k - 1, by omega⟩
                  have hjI : (k : Int) - 1 = (j : Int) := by omega
                  have hkp : (0 : Int) < (k : Int) := by omega
                  have hkp' : (k : Int) > 0 := hkp
                  have hjn : j < n := by omega
                  have hjnI : (j : Int) < (n : Int) := by omega
                  have hjs : j < s.size := by have := HN.out; omega
                  have hjsI : (j : Int) < (s.size : Int) := by omega
                  have hj0 : (0 : Int) ≤ (j : Int) := by omega
                  have nj := HM.out.nr.cells j hjn
                  rw [nx_at _ _ _ _ _ (by omega)] at nj
                  have eb := get_bt s j hjs
                  have hb8 := bt_lt (L s) j
                  have E0 : Hid (rg (L p) (L s) (i + 1) k = (rg (L p) (L s) i k || (rg (L p) (L s) (i + 1) j && (bt (L p) i == 42 || !(bt (L s) j == 47))))) := Lib.hid (by subst hj; exact rg_wild (L p) (L s) i j hlt hjs HW.out)
                  clear hj hk0
                  cases hv : rg (L p) (L s) i k with
                  | true =>
                    rw [hv] at rk E0
                    go_wp2
                    go_roundw
                    case rel => exact ⟨k + 1, by push_cast; rfl, by omega, HM.out.put hlt2 true (by rw [E0.out]; rfl)⟩
                    case measure => simp [intOf]; omega
                  | false =>
                    rw [hv] at rk E0
                    cases hv2 : rg (L p) (L s) (i + 1) j with
                    | false =>
                      rw [hv2] at nj E0
                      go_wp2
                      go_roundw
                      case rel => exact ⟨k + 1, by push_cast; rfl, by omega, HM.out.put hlt2 false (by rw [E0.out]; rfl)⟩
                      case measure => simp [intOf]; omega
                    | true =>
                      rw [hv2] at nj E0
                      rw [HC42.out] at E0
                      go_wp2
                      go_roundw
                      case rel => exact ⟨k + 1, by push_cast; rfl, by omega, HM.out.put hlt2 true (by rw [E0.out]; rfl)⟩
                      case measure => simp [intOf]; omega
              | false =>
                have HC42 := Lib.hid h42
                rw [h42] at t42
                cases h37 : (bt (L p) i == 37) with
                | true =>
                  rw [h37] at t37
                  have hW : isW (bt (L p) i) = true := by unfold isW; rw [h42, h37]; rfl
                  have HW := Lib.hid hW
                  clear hW h42 h37
                  by_cases hk0 : k = 0
                  · have hk0I : ¬ (0 : Int) < (k : Int) := by omega
                    have hk0J : ¬ (k : Int) > 0 := by omega
                    have E0 : Hid (rg (L p) (L s) (i + 1) k = rg (L p) (L s) i k) := Lib.hid (by subst hk0; exact rg_wild0 (L p) (L s) i hlt HW.out)
                    clear hk0
                    cases hv : rg (L p) (L s) i k with
                    | true =>
                      rw [hv] at rk E0
                      go_wp2
                      go_roundw
                      case rel => exact ⟨k + 1, by push_cast; rfl, by omega, HM.out.put hlt2 true E0.out.symm⟩
                      case measure => simp [intOf]; omega
                    | false =>
                      rw [hv] at rk E0
                      go_wp2
                      go_roundw
                      case rel => exact ⟨k + 1, by push_cast; rfl, by omega, HM.out.put hlt2 false E0.out.symm⟩
                      case measure => simp [intOf]; omega
                  · obtain ⟨j, hj⟩ : ∃ j, k = j + 1 := ⟨k - 1, by omega⟩
                    have hjI : (k : Int) - 1 = (j : Int) := by omega
                    have hkp : (0 : Int) < (k : Int) := by omega
                    have hkp' : (k : Int) > 0 := hkp
                    have hjn : j < n := by omega
                    have hjnI : (j : Int) < (n : Int) := by omega
                    have hjs : j < s.size := by have := HN.out; omega
                    have hjsI : (j : Int) < (s.size : Int) := by omega
                    have hj0 : (0 : Int) ≤ (j : Int) := by omega
                    have nj := HM.out.nr.cells j hjn
                    rw [nx_at _ _ _ _ _ (by omega)] at nj
                    have eb := get_bt s j hjs
                    have hb8 := bt_lt (L s) j
                    have E0 : Hid (rg (L p) (L s) (i + 1) k = (rg (L p) (L s) i k || (rg (L p) (L s) (i + 1) j && (bt (L p) i == 42 || !(bt (L s) j == 47))))) := Lib.hid (by subst hj; exact rg_wild (L p) (L s) i j hlt hjs HW.out)
                    clear hj hk0
                    cases hv : rg (L p) (L s) i k with
                    | true =>
                      rw [hv] at rk E0
                      go_wp2
                      go_roundw
                      case rel => exact ⟨k + 1, by push_cast; rfl, by omega, HM.out.put hlt2 true (by rw [E0.out]; rfl)⟩
                      case measure => simp [intOf]; omega
                    | false =>
                      rw [hv] at rk E0
                      cases hv2 : rg (L p) (L s) (i + 1) j with
                      | false =>
                        rw [hv2] at nj E0
                        go_wp2
                        go_roundw
                        case rel => exact ⟨k + 1, by push_cast; rfl, by omega, HM.out.put hlt2 false (by rw [E0.out]; rfl)⟩
                        case measure => simp [intOf]; omega
                      | true =>
                        rw [hv2] at nj E0
                        obtain ⟨_, _, t47⟩ := wild_tests (bt (L s) j)
                        rw [HC42.out] at E0
                        go_wp2
                        go_roundw
                        case rel => exact ⟨k + 1, by push_cast; rfl, by omega, HM.out.put hlt2 _ (by rw [E0.out]; rfl)⟩
                        case measure => simp [intOf]; omega
                | false =>
                  rw [h37] at t37
                  have hW : isW (bt (L p) i) = false := by unfold isW; rw [h42, h37]; rfl
                  have HW := Lib.hid hW
                  clear hW h42 h37
                  by_cases hk0 : k = 0
                  · have hk0I : ((k : Int) == 0) = true := by subst hk0; rfl
                    have E0 : Hid (rg (L p) (L s) (i + 1) k = false) := Lib.hid (by subst hk0; exact rg_letter0 (L p) (L s) i hlt HW.out)
                    clear hk0
                    go_wp2
                    go_roundw
                    case rel => exact ⟨k + 1, by push_cast; rfl, by omega, HM.out.skip E0.out⟩
                    case measure => simp [intOf]; omega
                  · obtain ⟨j, hj⟩ : ∃ j, k = j + 1 := ⟨k - 1, by omega⟩
                    have hjI : (k : Int) - 1 = (j : Int) := by omega
                    have hk0I : ((k : Int) == 0) = false := by rw [beq_eq_false_iff_ne]; omega
                    have hjn : j < n := by omega
                    have hjnI : (j : Int) < (n : Int) := by omega
                    have hjs : j < s.size := by have := HN.out; omega
                    have hjsI : (j : Int) < (s.size : Int) := by omega
                    have hj0 : (0 : Int) ≤ (j : Int) := by omega
                    have rj := HM.out.r.cells j hjn
                    have eb := get_bt s j hjs
                    have hb8 := bt_lt (L s) j
                    have E0 : Hid (rg (L p) (L s) (i + 1) k = (rg (L p) (L s) i j && (bt (L p) i == bt (L s) j || bt (L p) i == oth (L s) j))) := Lib.hid (by subst hj; exact rg_letter (L p) (L s) i j hlt hjs HW.out)
                    have HJ := Lib.hid hj
                    clear hj hk0
                    cases hv : rg (L p) (L s) i j with
                    | false =>
                      rw [hv] at rj E0
                      go_wp2
                      go_roundw
                      case rel => exact ⟨k + 1, by push_cast; rfl, by omega, HM.out.skip (by rw [E0.out]; rfl)⟩
                      case measure => simp [intOf]; omega
                    | true =>
                      rw [hv] at rj E0
                      have tac := byte_eq (bt (L p) i) (bt (L s) j)
                      cases hac : (bt (L p) i == bt (L s) j) with
                      | true =>
                        rw [hac] at tac E0
                        clear hac
                        have HP := Lib.hid ((HM.out.put hlt2 true (by rw [E0.out]; rfl)).drew)
                        go_upto_region 16 with fail
                        go_region
                        all_goals
                          go_wp2
                          go_roundw
                          case rel => exact ⟨k + 1, by push_cast; rfl, by omega, HP.out⟩
                          case measure => simp [intOf]; omega
                      | false =>
                        by_cases hkf : (k : Int) ≤ (fo : Int)
                        · have E1 := oth_in (L p) (L s) i j (by rw [← HFo.out]; have := HJ.out; omega)
                          have hjw : IntKind.i64.wrap (j : Int) = (j : Int) := by simp only [IntKind.wrap, IntKind.signed, IntKind.bits]; simp; omega
                          have tsm := byte_eq (sm (bt (L p) i)) (sm (bt (L s) j))
                          have hL1 := Lib.hid (fun X => rlower_any (bt (L p) i) X)
                          have hL2 := Lib.hid (fun X => rlower_any (bt (L s) j) X)
                          have HP := Lib.hid ((HM.out.drew.put hlt2 (sm (bt (L p) i) == sm (bt (L s) j)) (by rw [E0.out, E1, hac]; rfl)))
                          rw [hac] at tac
                          clear hac E1
                          go_upto_region 16 with fail
                          refine wp_region_N 28 (fun X => X = wr.drew) (by kernel_rfl) ?_
                          refine wpAnyN_take (i := 0) (oi := { dst := some 89, op := Go.Op.move (Go.Operand.tmp 8), type := 38, pos := "apply.go:353", after := #[], guard := none }) (oL := { dst := none, op := Go.Op.store 4 (Go.Operand.tmp 116) (Go.Operand.tmp 115), type := 0, pos := "apply.go:353", after := #[{ on := 27, ground := Go.Ground.data }, { on := 26, ground := Go.Ground.data }, { on := 23, ground := Go.Ground.chain }, { on := 0, ground := Go.Ground.phase }, { on := 1, ground := Go.Ground.phase }, { on := 2, ground := Go.Ground.phase }, { on := 3, ground := Go.Ground.phase }, { on := 4, ground := Go.Ground.phase }, { on := 5, ground := Go.Ground.phase }, { on := 6, ground := Go.Ground.phase }, { on := 7, ground := Go.Ground.phase }, { on := 8, ground := Go.Ground.phase }, { on := 9, ground := Go.Ground.phase }, { on := 10, ground := Go.Ground.phase }, { on := 11, ground := Go.Ground.phase }, { on := 12, ground := Go.Ground.phase }, { on := 13, ground := Go.Ground.phase }, { on := 14, ground := Go.Ground.phase }, { on := 15, ground := Go.Ground.phase }, { on := 16, ground := Go.Ground.phase }, { on := 17, ground := Go.Ground.phase }, { on := 18, ground := Go.Ground.phase }, { on := 19, ground := Go.Ground.phase }, { on := 20, ground := Go.Ground.phase }, { on := 21, ground := Go.Ground.phase }, { on := 22, ground := Go.Ground.phase }, { on := 23, ground := Go.Ground.phase }, { on := 24, ground := Go.Ground.phase }, { on := 25, ground := Go.Ground.phase }, { on := 26, ground := Go.Ground.phase }], guard := none }) (v := .slice (some ⟨N, 0, none⟩) n n) rfl rfl (by kernel_rfl) (by kernel_rfl) (by kernel_rfl) (by kernel_rfl) (fun _ _ _ h => h) (Or.inl ⟨by kernel_rfl, ?_⟩) rfl ?_
                          · (intro X hX; subst hX <;> (go_simp; try (with_reducible rfl)))
                          (try simp only [Act.put, List.setIfInBounds_toArray, List.set_cons_zero, List.set_cons_succ])
                          refine wpAnyN_take (i := 1) (oi := { dst := some 90, op := Go.Op.move (Go.Operand.tmp 9), type := 3, pos := "apply.go:353", after := #[], guard := none }) (oL := { dst := none, op := Go.Op.store 4 (Go.Operand.tmp 116) (Go.Operand.tmp 115), type := 0, pos := "apply.go:353", after := #[{ on := 27, ground := Go.Ground.data }, { on := 26, ground := Go.Ground.data }, { on := 23, ground := Go.Ground.chain }, { on := 0, ground := Go.Ground.phase }, { on := 1, ground := Go.Ground.phase }, { on := 2, ground := Go.Ground.phase }, { on := 3, ground := Go.Ground.phase }, { on := 4, ground := Go.Ground.phase }, { on := 5, ground := Go.Ground.phase }, { on := 6, ground := Go.Ground.phase }, { on := 7, ground := Go.Ground.phase }, { on := 8, ground := Go.Ground.phase }, { on := 9, ground := Go.Ground.phase }, { on := 10, ground := Go.Ground.phase }, { on := 11, ground := Go.Ground.phase }, { on := 12, ground := Go.Ground.phase }, { on := 13, ground := Go.Ground.phase }, { on := 14, ground := Go.Ground.phase }, { on := 15, ground := Go.Ground.phase }, { on := 16, ground := Go.Ground.phase }, { on := 17, ground := Go.Ground.phase }, { on := 18, ground := Go.Ground.phase }, { on := 19, ground := Go.Ground.phase }, { on := 20, ground := Go.Ground.phase }, { on := 21, ground := Go.Ground.phase }, { on := 22, ground := Go.Ground.phase }, { on := 23, ground := Go.Ground.phase }, { on := 24, ground := Go.Ground.phase }, { on := 25, ground := Go.Ground.phase }, { on := 26, ground := Go.Ground.phase }], guard := none }) (v := .int .i64 (k : Int)) rfl rfl (by kernel_rfl) (by kernel_rfl) (by kernel_rfl) (by kernel_rfl) (fun _ _ _ h => h) (Or.inl ⟨by kernel_rfl, ?_⟩) rfl ?_
                          · (intro X hX; subst hX <;> (go_simp; try (with_reducible rfl)))
                          (try simp only [Act.put, List.setIfInBounds_toArray, List.set_cons_zero, List.set_cons_succ])
                          refine wpAnyN_take (i := 2) (oi := { dst := some 91, op := Go.Op.move (Go.Operand.tmp 0), type := 9, pos := "apply.go:353", after := #[], guard := none }) (oL := { dst := none, op := Go.Op.store 4 (Go.Operand.tmp 116) (Go.Operand.tmp 115), type := 0, pos := "apply.go:353", after := #[{ on := 27, ground := Go.Ground.data }, { on := 26, ground := Go.Ground.data }, { on := 23, ground := Go.Ground.chain }, { on := 0, ground := Go.Ground.phase }, { on := 1, ground := Go.Ground.phase }, { on := 2, ground := Go.Ground.phase }, { on := 3, ground := Go.Ground.phase }, { on := 4, ground := Go.Ground.phase }, { on := 5, ground := Go.Ground.phase }, { on := 6, ground := Go.Ground.phase }, { on := 7, ground := Go.Ground.phase }, { on := 8, ground := Go.Ground.phase }, { on := 9, ground := Go.Ground.phase }, { on := 10, ground := Go.Ground.phase }, { on := 11, ground := Go.Ground.phase }, { on := 12, ground := Go.Ground.phase }, { on := 13, ground := Go.Ground.phase }, { on := 14, ground := Go.Ground.phase }, { on := 15, ground := Go.Ground.phase }, { on := 16, ground := Go.Ground.phase }, { on := 17, ground := Go.Ground.phase }, { on := 18, ground := Go.Ground.phase }, { on := 19, ground := Go.Ground.phase }, { on := 20, ground := Go.Ground.phase }, { on := 21, ground := Go.Ground.phase }, { on := 22, ground := Go.Ground.phase }, { on := 23, ground := Go.Ground.phase }, { on := 24, ground := Go.Ground.phase }, { on := 25, ground := Go.Ground.phase }, { on := 26, ground := Go.Ground.phase }], guard := none }) (v := .string p) rfl rfl (by kernel_rfl) (by kernel_rfl) (by kernel_rfl) (by kernel_rfl) (fun _ _ _ h => h) (Or.inl ⟨by kernel_rfl, ?_⟩) rfl ?_
                          · (intro X hX; subst hX <;> (go_simp; try (with_reducible rfl)))
                          (try simp only [Act.put, List.setIfInBounds_toArray, List.set_cons_zero, List.set_cons_succ])
                          refine wpAnyN_take (i := 3) (oi := { dst := some 92, op := Go.Op.move (Go.Operand.tmp 7), type := 3, pos := "apply.go:353", after := #[], guard := none }) (oL := { dst := none, op := Go.Op.store 4 (Go.Operand.tmp 116) (Go.Operand.tmp 115), type := 0, pos := "apply.go:353", after := #[{ on := 27, ground := Go.Ground.data }, { on := 26, ground := Go.Ground.data }, { on := 23, ground := Go.Ground.chain }, { on := 0, ground := Go.Ground.phase }, { on := 1, ground := Go.Ground.phase }, { on := 2, ground := Go.Ground.phase }, { on := 3, ground := Go.Ground.phase }, { on := 4, ground := Go.Ground.phase }, { on := 5, ground := Go.Ground.phase }, { on := 6, ground := Go.Ground.phase }, { on := 7, ground := Go.Ground.phase }, { on := 8, ground := Go.Ground.phase }, { on := 9, ground := Go.Ground.phase }, { on := 10, ground := Go.Ground.phase }, { on := 11, ground := Go.Ground.phase }, { on := 12, ground := Go.Ground.phase }, { on := 13, ground := Go.Ground.phase }, { on := 14, ground := Go.Ground.phase }, { on := 15, ground := Go.Ground.phase }, { on := 16, ground := Go.Ground.phase }, { on := 17, ground := Go.Ground.phase }, { on := 18, ground := Go.Ground.phase }, { on := 19, ground := Go.Ground.phase }, { on := 20, ground := Go.Ground.phase }, { on := 21, ground := Go.Ground.phase }, { on := 22, ground := Go.Ground.phase }, { on := 23, ground := Go.Ground.phase }, { on := 24, ground := Go.Ground.phase }, { on := 25, ground := Go.Ground.phase }, { on := 26, ground := Go.Ground.phase }], guard := none }) (v := .int .i64 (i : Int)) rfl rfl (by kernel_rfl) (by kernel_rfl) (by kernel_rfl) (by kernel_rfl) (fun _ _ _ h => h) (Or.inl ⟨by kernel_rfl, ?_⟩) rfl ?_
                          · (intro X hX; subst hX <;> (go_simp; try (with_reducible rfl)))
                          (try simp only [Act.put, List.setIfInBounds_toArray, List.set_cons_zero, List.set_cons_succ])
                          refine wpAnyN_take (i := 4) (oi := { dst := some 93, op := Go.Op.index 9 (Go.Operand.tmp 91) (Go.Operand.tmp 92), type := 5, pos := "apply.go:353", after := #[{ on := 2, ground := Go.Ground.data }, { on := 3, ground := Go.Ground.data }], guard := none }) (oL := { dst := none, op := Go.Op.store 4 (Go.Operand.tmp 116) (Go.Operand.tmp 115), type := 0, pos := "apply.go:353", after := #[{ on := 27, ground := Go.Ground.data }, { on := 26, ground := Go.Ground.data }, { on := 23, ground := Go.Ground.chain }, { on := 0, ground := Go.Ground.phase }, { on := 1, ground := Go.Ground.phase }, { on := 2, ground := Go.Ground.phase }, { on := 3, ground := Go.Ground.phase }, { on := 4, ground := Go.Ground.phase }, { on := 5, ground := Go.Ground.phase }, { on := 6, ground := Go.Ground.phase }, { on := 7, ground := Go.Ground.phase }, { on := 8, ground := Go.Ground.phase }, { on := 9, ground := Go.Ground.phase }, { on := 10, ground := Go.Ground.phase }, { on := 11, ground := Go.Ground.phase }, { on := 12, ground := Go.Ground.phase }, { on := 13, ground := Go.Ground.phase }, { on := 14, ground := Go.Ground.phase }, { on := 15, ground := Go.Ground.phase }, { on := 16, ground := Go.Ground.phase }, { on := 17, ground := Go.Ground.phase }, { on := 18, ground := Go.Ground.phase }, { on := 19, ground := Go.Ground.phase }, { on := 20, ground := Go.Ground.phase }, { on := 21, ground := Go.Ground.phase }, { on := 22, ground := Go.Ground.phase }, { on := 23, ground := Go.Ground.phase }, { on := 24, ground := Go.Ground.phase }, { on := 25, ground := Go.Ground.phase }, { on := 26, ground := Go.Ground.phase }], guard := none }) (v := .int .u8 ((bt (L p) i).toNat : Int)) rfl rfl (by kernel_rfl) (by kernel_rfl) (by kernel_rfl) (by kernel_rfl) (fun _ _ _ h => h) (Or.inl ⟨by kernel_rfl, ?_⟩) rfl ?_
                          · (intro X hX; subst hX <;> (go_simp; try (with_reducible rfl)))
                          (try simp only [Act.put, List.setIfInBounds_toArray, List.set_cons_zero, List.set_cons_succ])
                          refine wpAnyN_take (i := 5) (oi := { dst := some 94, op := Go.Op.move (Go.Operand.tmp 1), type := 9, pos := "apply.go:353", after := #[], guard := none }) (oL := { dst := none, op := Go.Op.store 4 (Go.Operand.tmp 116) (Go.Operand.tmp 115), type := 0, pos := "apply.go:353", after := #[{ on := 27, ground := Go.Ground.data }, { on := 26, ground := Go.Ground.data }, { on := 23, ground := Go.Ground.chain }, { on := 0, ground := Go.Ground.phase }, { on := 1, ground := Go.Ground.phase }, { on := 2, ground := Go.Ground.phase }, { on := 3, ground := Go.Ground.phase }, { on := 4, ground := Go.Ground.phase }, { on := 5, ground := Go.Ground.phase }, { on := 6, ground := Go.Ground.phase }, { on := 7, ground := Go.Ground.phase }, { on := 8, ground := Go.Ground.phase }, { on := 9, ground := Go.Ground.phase }, { on := 10, ground := Go.Ground.phase }, { on := 11, ground := Go.Ground.phase }, { on := 12, ground := Go.Ground.phase }, { on := 13, ground := Go.Ground.phase }, { on := 14, ground := Go.Ground.phase }, { on := 15, ground := Go.Ground.phase }, { on := 16, ground := Go.Ground.phase }, { on := 17, ground := Go.Ground.phase }, { on := 18, ground := Go.Ground.phase }, { on := 19, ground := Go.Ground.phase }, { on := 20, ground := Go.Ground.phase }, { on := 21, ground := Go.Ground.phase }, { on := 22, ground := Go.Ground.phase }, { on := 23, ground := Go.Ground.phase }, { on := 24, ground := Go.Ground.phase }, { on := 25, ground := Go.Ground.phase }, { on := 26, ground := Go.Ground.phase }], guard := none }) (v := .string s) rfl rfl (by kernel_rfl) (by kernel_rfl) (by kernel_rfl) (by kernel_rfl) (fun _ _ _ h => h) (Or.inl ⟨by kernel_rfl, ?_⟩) rfl ?_
                          · (intro X hX; subst hX <;> (go_simp; try (with_reducible rfl)))
                          (try simp only [Act.put, List.setIfInBounds_toArray, List.set_cons_zero, List.set_cons_succ])
                          refine wpAnyN_take (i := 6) (oi := { dst := some 95, op := Go.Op.move (Go.Operand.tmp 9), type := 3, pos := "apply.go:353", after := #[], guard := none }) (oL := { dst := none, op := Go.Op.store 4 (Go.Operand.tmp 116) (Go.Operand.tmp 115), type := 0, pos := "apply.go:353", after := #[{ on := 27, ground := Go.Ground.data }, { on := 26, ground := Go.Ground.data }, { on := 23, ground := Go.Ground.chain }, { on := 0, ground := Go.Ground.phase }, { on := 1, ground := Go.Ground.phase }, { on := 2, ground := Go.Ground.phase }, { on := 3, ground := Go.Ground.phase }, { on := 4, ground := Go.Ground.phase }, { on := 5, ground := Go.Ground.phase }, { on := 6, ground := Go.Ground.phase }, { on := 7, ground := Go.Ground.phase }, { on := 8, ground := Go.Ground.phase }, { on := 9, ground := Go.Ground.phase }, { on := 10, ground := Go.Ground.phase }, { on := 11, ground := Go.Ground.phase }, { on := 12, ground := Go.Ground.phase }, { on := 13, ground := Go.Ground.phase }, { on := 14, ground := Go.Ground.phase }, { on := 15, ground := Go.Ground.phase }, { on := 16, ground := Go.Ground.phase }, { on := 17, ground := Go.Ground.phase }, { on := 18, ground := Go.Ground.phase }, { on := 19, ground := Go.Ground.phase }, { on := 20, ground := Go.Ground.phase }, { on := 21, ground := Go.Ground.phase }, { on := 22, ground := Go.Ground.phase }, { on := 23, ground := Go.Ground.phase }, { on := 24, ground := Go.Ground.phase }, { on := 25, ground := Go.Ground.phase }, { on := 26, ground := Go.Ground.phase }], guard := none }) (v := .int .i64 (k : Int)) rfl rfl (by kernel_rfl) (by kernel_rfl) (by kernel_rfl) (by kernel_rfl) (fun _ _ _ h => h) (Or.inl ⟨by kernel_rfl, ?_⟩) rfl ?_
                          · (intro X hX; subst hX <;> (go_simp; try (with_reducible rfl)))
                          (try simp only [Act.put, List.setIfInBounds_toArray, List.set_cons_zero, List.set_cons_succ])
                          refine wpAnyN_take (i := 7) (oi := { dst := some 96, op := Go.Op.binOp Go.BinOp.sub 3 (Go.Operand.tmp 95) (Go.Operand.const (Go.Value.int Go.IntKind.i64 1)) 3, type := 3, pos := "apply.go:353", after := #[{ on := 6, ground := Go.Ground.data }], guard := none }) (oL := { dst := none, op := Go.Op.store 4 (Go.Operand.tmp 116) (Go.Operand.tmp 115), type := 0, pos := "apply.go:353", after := #[{ on := 27, ground := Go.Ground.data }, { on := 26, ground := Go.Ground.data }, { on := 23, ground := Go.Ground.chain }, { on := 0, ground := Go.Ground.phase }, { on := 1, ground := Go.Ground.phase }, { on := 2, ground := Go.Ground.phase }, { on := 3, ground := Go.Ground.phase }, { on := 4, ground := Go.Ground.phase }, { on := 5, ground := Go.Ground.phase }, { on := 6, ground := Go.Ground.phase }, { on := 7, ground := Go.Ground.phase }, { on := 8, ground := Go.Ground.phase }, { on := 9, ground := Go.Ground.phase }, { on := 10, ground := Go.Ground.phase }, { on := 11, ground := Go.Ground.phase }, { on := 12, ground := Go.Ground.phase }, { on := 13, ground := Go.Ground.phase }, { on := 14, ground := Go.Ground.phase }, { on := 15, ground := Go.Ground.phase }, { on := 16, ground := Go.Ground.phase }, { on := 17, ground := Go.Ground.phase }, { on := 18, ground := Go.Ground.phase }, { on := 19, ground := Go.Ground.phase }, { on := 20, ground := Go.Ground.phase }, { on := 21, ground := Go.Ground.phase }, { on := 22, ground := Go.Ground.phase }, { on := 23, ground := Go.Ground.phase }, { on := 24, ground := Go.Ground.phase }, { on := 25, ground := Go.Ground.phase }, { on := 26, ground := Go.Ground.phase }], guard := none }) (v := .int .i64 (j : Int)) rfl rfl (by kernel_rfl) (by kernel_rfl) (by kernel_rfl) (by kernel_rfl) (fun _ _ _ h => h) (Or.inl ⟨by kernel_rfl, ?_⟩) rfl ?_
                          · (intro X hX; subst hX <;> (go_simp; try (with_reducible rfl)))
                          (try simp only [Act.put, List.setIfInBounds_toArray, List.set_cons_zero, List.set_cons_succ])
                          refine wpAnyN_take (i := 8) (oi := { dst := some 97, op := Go.Op.index 9 (Go.Operand.tmp 94) (Go.Operand.tmp 96), type := 5, pos := "apply.go:353", after := #[{ on := 5, ground := Go.Ground.data }, { on := 7, ground := Go.Ground.data }], guard := none }) (oL := { dst := none, op := Go.Op.store 4 (Go.Operand.tmp 116) (Go.Operand.tmp 115), type := 0, pos := "apply.go:353", after := #[{ on := 27, ground := Go.Ground.data }, { on := 26, ground := Go.Ground.data }, { on := 23, ground := Go.Ground.chain }, { on := 0, ground := Go.Ground.phase }, { on := 1, ground := Go.Ground.phase }, { on := 2, ground := Go.Ground.phase }, { on := 3, ground := Go.Ground.phase }, { on := 4, ground := Go.Ground.phase }, { on := 5, ground := Go.Ground.phase }, { on := 6, ground := Go.Ground.phase }, { on := 7, ground := Go.Ground.phase }, { on := 8, ground := Go.Ground.phase }, { on := 9, ground := Go.Ground.phase }, { on := 10, ground := Go.Ground.phase }, { on := 11, ground := Go.Ground.phase }, { on := 12, ground := Go.Ground.phase }, { on := 13, ground := Go.Ground.phase }, { on := 14, ground := Go.Ground.phase }, { on := 15, ground := Go.Ground.phase }, { on := 16, ground := Go.Ground.phase }, { on := 17, ground := Go.Ground.phase }, { on := 18, ground := Go.Ground.phase }, { on := 19, ground := Go.Ground.phase }, { on := 20, ground := Go.Ground.phase }, { on := 21, ground := Go.Ground.phase }, { on := 22, ground := Go.Ground.phase }, { on := 23, ground := Go.Ground.phase }, { on := 24, ground := Go.Ground.phase }, { on := 25, ground := Go.Ground.phase }, { on := 26, ground := Go.Ground.phase }], guard := none }) (v := .int .u8 ((bt (L s) j).toNat : Int)) rfl rfl (by kernel_rfl) (by kernel_rfl) (by kernel_rfl) (by kernel_rfl) (fun _ _ _ h => h) (Or.inl ⟨by kernel_rfl, ?_⟩) rfl ?_
                          · (intro X hX; subst hX <;> (go_simp; try (with_reducible rfl)))
                          (try simp only [Act.put, List.setIfInBounds_toArray, List.set_cons_zero, List.set_cons_succ])
                          refine wpAnyN_take (i := 9) (oi := { dst := some 98, op := Go.Op.binOp Go.BinOp.eql 5 (Go.Operand.tmp 93) (Go.Operand.tmp 97) 5, type := 4, pos := "apply.go:353", after := #[{ on := 4, ground := Go.Ground.data }, { on := 8, ground := Go.Ground.data }], guard := none }) (oL := { dst := none, op := Go.Op.store 4 (Go.Operand.tmp 116) (Go.Operand.tmp 115), type := 0, pos := "apply.go:353", after := #[{ on := 27, ground := Go.Ground.data }, { on := 26, ground := Go.Ground.data }, { on := 23, ground := Go.Ground.chain }, { on := 0, ground := Go.Ground.phase }, { on := 1, ground := Go.Ground.phase }, { on := 2, ground := Go.Ground.phase }, { on := 3, ground := Go.Ground.phase }, { on := 4, ground := Go.Ground.phase }, { on := 5, ground := Go.Ground.phase }, { on := 6, ground := Go.Ground.phase }, { on := 7, ground := Go.Ground.phase }, { on := 8, ground := Go.Ground.phase }, { on := 9, ground := Go.Ground.phase }, { on := 10, ground := Go.Ground.phase }, { on := 11, ground := Go.Ground.phase }, { on := 12, ground := Go.Ground.phase }, { on := 13, ground := Go.Ground.phase }, { on := 14, ground := Go.Ground.phase }, { on := 15, ground := Go.Ground.phase }, { on := 16, ground := Go.Ground.phase }, { on := 17, ground := Go.Ground.phase }, { on := 18, ground := Go.Ground.phase }, { on := 19, ground := Go.Ground.phase }, { on := 20, ground := Go.Ground.phase }, { on := 21, ground := Go.Ground.phase }, { on := 22, ground := Go.Ground.phase }, { on := 23, ground := Go.Ground.phase }, { on := 24, ground := Go.Ground.phase }, { on := 25, ground := Go.Ground.phase }, { on := 26, ground := Go.Ground.phase }], guard := none }) (v := .bool false) rfl rfl (by kernel_rfl) (by kernel_rfl) (by kernel_rfl) (by kernel_rfl) (fun _ _ _ h => h) (Or.inl ⟨by kernel_rfl, ?_⟩) rfl ?_
                          · (intro X hX; subst hX <;> (go_simp; try (with_reducible rfl)))
                          (try simp only [Act.put, List.setIfInBounds_toArray, List.set_cons_zero, List.set_cons_succ])
                          refine wpAnyN_take (i := 10) (oi := { dst := some 99, op := Go.Op.move (Go.Operand.tmp 98), type := 4, pos := "apply.go:353", after := #[{ on := 9, ground := Go.Ground.data }], guard := none }) (oL := { dst := none, op := Go.Op.store 4 (Go.Operand.tmp 116) (Go.Operand.tmp 115), type := 0, pos := "apply.go:353", after := #[{ on := 27, ground := Go.Ground.data }, { on := 26, ground := Go.Ground.data }, { on := 23, ground := Go.Ground.chain }, { on := 0, ground := Go.Ground.phase }, { on := 1, ground := Go.Ground.phase }, { on := 2, ground := Go.Ground.phase }, { on := 3, ground := Go.Ground.phase }, { on := 4, ground := Go.Ground.phase }, { on := 5, ground := Go.Ground.phase }, { on := 6, ground := Go.Ground.phase }, { on := 7, ground := Go.Ground.phase }, { on := 8, ground := Go.Ground.phase }, { on := 9, ground := Go.Ground.phase }, { on := 10, ground := Go.Ground.phase }, { on := 11, ground := Go.Ground.phase }, { on := 12, ground := Go.Ground.phase }, { on := 13, ground := Go.Ground.phase }, { on := 14, ground := Go.Ground.phase }, { on := 15, ground := Go.Ground.phase }, { on := 16, ground := Go.Ground.phase }, { on := 17, ground := Go.Ground.phase }, { on := 18, ground := Go.Ground.phase }, { on := 19, ground := Go.Ground.phase }, { on := 20, ground := Go.Ground.phase }, { on := 21, ground := Go.Ground.phase }, { on := 22, ground := Go.Ground.phase }, { on := 23, ground := Go.Ground.phase }, { on := 24, ground := Go.Ground.phase }, { on := 25, ground := Go.Ground.phase }, { on := 26, ground := Go.Ground.phase }], guard := none }) (v := .bool false) rfl rfl (by kernel_rfl) (by kernel_rfl) (by kernel_rfl) (by kernel_rfl) (fun _ _ _ h => h) (Or.inl ⟨by kernel_rfl, ?_⟩) rfl ?_
                          · (intro X hX; subst hX <;> (go_simp; try (with_reducible rfl)))
                          (try simp only [Act.put, List.setIfInBounds_toArray, List.set_cons_zero, List.set_cons_succ])
                          refine wpAnyN_take (i := 11) (oi := { dst := some 100, op := Go.Op.move (Go.Operand.tmp 9), type := 3, pos := "apply.go:353", after := #[{ on := 10, ground := Go.Ground.guard }], guard := some (10, false) }) (oL := { dst := none, op := Go.Op.store 4 (Go.Operand.tmp 116) (Go.Operand.tmp 115), type := 0, pos := "apply.go:353", after := #[{ on := 27, ground := Go.Ground.data }, { on := 26, ground := Go.Ground.data }, { on := 23, ground := Go.Ground.chain }, { on := 0, ground := Go.Ground.phase }, { on := 1, ground := Go.Ground.phase }, { on := 2, ground := Go.Ground.phase }, { on := 3, ground := Go.Ground.phase }, { on := 4, ground := Go.Ground.phase }, { on := 5, ground := Go.Ground.phase }, { on := 6, ground := Go.Ground.phase }, { on := 7, ground := Go.Ground.phase }, { on := 8, ground := Go.Ground.phase }, { on := 9, ground := Go.Ground.phase }, { on := 10, ground := Go.Ground.phase }, { on := 11, ground := Go.Ground.phase }, { on := 12, ground := Go.Ground.phase }, { on := 13, ground := Go.Ground.phase }, { on := 14, ground := Go.Ground.phase }, { on := 15, ground := Go.Ground.phase }, { on := 16, ground := Go.Ground.phase }, { on := 17, ground := Go.Ground.phase }, { on := 18, ground := Go.Ground.phase }, { on := 19, ground := Go.Ground.phase }, { on := 20, ground := Go.Ground.phase }, { on := 21, ground := Go.Ground.phase }, { on := 22, ground := Go.Ground.phase }, { on := 23, ground := Go.Ground.phase }, { on := 24, ground := Go.Ground.phase }, { on := 25, ground := Go.Ground.phase }, { on := 26, ground := Go.Ground.phase }], guard := none }) (v := .int .i64 (k : Int)) rfl rfl (by kernel_rfl) (by kernel_rfl) (by kernel_rfl) (by kernel_rfl) (fun _ _ _ h => h) (Or.inl ⟨by kernel_rfl, ?_⟩) rfl ?_
                          · (intro X hX; subst hX <;> (go_simp; try (with_reducible rfl)))
                          (try simp only [Act.put, List.setIfInBounds_toArray, List.set_cons_zero, List.set_cons_succ])
                          refine wpAnyN_take (i := 12) (oi := { dst := some 101, op := Go.Op.move (Go.Operand.tmp 5), type := 3, pos := "apply.go:353", after := #[{ on := 10, ground := Go.Ground.guard }], guard := some (10, false) }) (oL := { dst := none, op := Go.Op.store 4 (Go.Operand.tmp 116) (Go.Operand.tmp 115), type := 0, pos := "apply.go:353", after := #[{ on := 27, ground := Go.Ground.data }, { on := 26, ground := Go.Ground.data }, { on := 23, ground := Go.Ground.chain }, { on := 0, ground := Go.Ground.phase }, { on := 1, ground := Go.Ground.phase }, { on := 2, ground := Go.Ground.phase }, { on := 3, ground := Go.Ground.phase }, { on := 4, ground := Go.Ground.phase }, { on := 5, ground := Go.Ground.phase }, { on := 6, ground := Go.Ground.phase }, { on := 7, ground := Go.Ground.phase }, { on := 8, ground := Go.Ground.phase }, { on := 9, ground := Go.Ground.phase }, { on := 10, ground := Go.Ground.phase }, { on := 11, ground := Go.Ground.phase }, { on := 12, ground := Go.Ground.phase }, { on := 13, ground := Go.Ground.phase }, { on := 14, ground := Go.Ground.phase }, { on := 15, ground := Go.Ground.phase }, { on := 16, ground := Go.Ground.phase }, { on := 17, ground := Go.Ground.phase }, { on := 18, ground := Go.Ground.phase }, { on := 19, ground := Go.Ground.phase }, { on := 20, ground := Go.Ground.phase }, { on := 21, ground := Go.Ground.phase }, { on := 22, ground := Go.Ground.phase }, { on := 23, ground := Go.Ground.phase }, { on := 24, ground := Go.Ground.phase }, { on := 25, ground := Go.Ground.phase }, { on := 26, ground := Go.Ground.phase }], guard := none }) (v := .int .i64 (fo : Int)) rfl rfl (by kernel_rfl) (by kernel_rfl) (by kernel_rfl) (by kernel_rfl) (fun _ _ _ h => h) (Or.inl ⟨by kernel_rfl, ?_⟩) rfl ?_
                          · (intro X hX; subst hX <;> (go_simp; try (with_reducible rfl)))
                          (try simp only [Act.put, List.setIfInBounds_toArray, List.set_cons_zero, List.set_cons_succ])
                          refine wpAnyN_take (i := 13) (oi := { dst := some 102, op := Go.Op.binOp Go.BinOp.leq 3 (Go.Operand.tmp 100) (Go.Operand.tmp 101) 3, type := 4, pos := "apply.go:353", after := #[{ on := 11, ground := Go.Ground.data }, { on := 12, ground := Go.Ground.data }, { on := 10, ground := Go.Ground.guard }], guard := some (10, false) }) (oL := { dst := none, op := Go.Op.store 4 (Go.Operand.tmp 116) (Go.Operand.tmp 115), type := 0, pos := "apply.go:353", after := #[{ on := 27, ground := Go.Ground.data }, { on := 26, ground := Go.Ground.data }, { on := 23, ground := Go.Ground.chain }, { on := 0, ground := Go.Ground.phase }, { on := 1, ground := Go.Ground.phase }, { on := 2, ground := Go.Ground.phase }, { on := 3, ground := Go.Ground.phase }, { on := 4, ground := Go.Ground.phase }, { on := 5, ground := Go.Ground.phase }, { on := 6, ground := Go.Ground.phase }, { on := 7, ground := Go.Ground.phase }, { on := 8, ground := Go.Ground.phase }, { on := 9, ground := Go.Ground.phase }, { on := 10, ground := Go.Ground.phase }, { on := 11, ground := Go.Ground.phase }, { on := 12, ground := Go.Ground.phase }, { on := 13, ground := Go.Ground.phase }, { on := 14, ground := Go.Ground.phase }, { on := 15, ground := Go.Ground.phase }, { on := 16, ground := Go.Ground.phase }, { on := 17, ground := Go.Ground.phase }, { on := 18, ground := Go.Ground.phase }, { on := 19, ground := Go.Ground.phase }, { on := 20, ground := Go.Ground.phase }, { on := 21, ground := Go.Ground.phase }, { on := 22, ground := Go.Ground.phase }, { on := 23, ground := Go.Ground.phase }, { on := 24, ground := Go.Ground.phase }, { on := 25, ground := Go.Ground.phase }, { on := 26, ground := Go.Ground.phase }], guard := none }) (v := .bool true) rfl rfl (by kernel_rfl) (by kernel_rfl) (by kernel_rfl) (by kernel_rfl) (fun _ _ _ h => h) (Or.inl ⟨by kernel_rfl, ?_⟩) rfl ?_
                          · (intro X hX; subst hX <;> (go_simp; try (with_reducible rfl)))
                          (try simp only [Act.put, List.setIfInBounds_toArray, List.set_cons_zero, List.set_cons_succ])
                          refine wpAnyN_take (i := 14) (oi := { dst := some 103, op := Go.Op.move (Go.Operand.tmp 102), type := 4, pos := "apply.go:353", after := #[{ on := 13, ground := Go.Ground.data }, { on := 10, ground := Go.Ground.chain }, { on := 10, ground := Go.Ground.guard }], guard := some (10, false) }) (oL := { dst := none, op := Go.Op.store 4 (Go.Operand.tmp 116) (Go.Operand.tmp 115), type := 0, pos := "apply.go:353", after := #[{ on := 27, ground := Go.Ground.data }, { on := 26, ground := Go.Ground.data }, { on := 23, ground := Go.Ground.chain }, { on := 0, ground := Go.Ground.phase }, { on := 1, ground := Go.Ground.phase }, { on := 2, ground := Go.Ground.phase }, { on := 3, ground := Go.Ground.phase }, { on := 4, ground := Go.Ground.phase }, { on := 5, ground := Go.Ground.phase }, { on := 6, ground := Go.Ground.phase }, { on := 7, ground := Go.Ground.phase }, { on := 8, ground := Go.Ground.phase }, { on := 9, ground := Go.Ground.phase }, { on := 10, ground := Go.Ground.phase }, { on := 11, ground := Go.Ground.phase }, { on := 12, ground := Go.Ground.phase }, { on := 13, ground := Go.Ground.phase }, { on := 14, ground := Go.Ground.phase }, { on := 15, ground := Go.Ground.phase }, { on := 16, ground := Go.Ground.phase }, { on := 17, ground := Go.Ground.phase }, { on := 18, ground := Go.Ground.phase }, { on := 19, ground := Go.Ground.phase }, { on := 20, ground := Go.Ground.phase }, { on := 21, ground := Go.Ground.phase }, { on := 22, ground := Go.Ground.phase }, { on := 23, ground := Go.Ground.phase }, { on := 24, ground := Go.Ground.phase }, { on := 25, ground := Go.Ground.phase }, { on := 26, ground := Go.Ground.phase }], guard := none }) (v := .bool true) rfl rfl (by kernel_rfl) (by kernel_rfl) (by kernel_rfl) (by kernel_rfl) (fun _ _ _ h => h) (Or.inl ⟨by kernel_rfl, ?_⟩) rfl ?_
                          · (intro X hX; subst hX <;> (go_simp; try (with_reducible rfl)))
                          (try simp only [Act.put, List.setIfInBounds_toArray, List.set_cons_zero, List.set_cons_succ])
                          refine wpAnyN_take (i := 15) (oi := { dst := some 104, op := Go.Op.move (Go.Operand.tmp 0), type := 9, pos := "apply.go:353", after := #[{ on := 14, ground := Go.Ground.guard }], guard := some (14, true) }) (oL := { dst := none, op := Go.Op.store 4 (Go.Operand.tmp 116) (Go.Operand.tmp 115), type := 0, pos := "apply.go:353", after := #[{ on := 27, ground := Go.Ground.data }, { on := 26, ground := Go.Ground.data }, { on := 23, ground := Go.Ground.chain }, { on := 0, ground := Go.Ground.phase }, { on := 1, ground := Go.Ground.phase }, { on := 2, ground := Go.Ground.phase }, { on := 3, ground := Go.Ground.phase }, { on := 4, ground := Go.Ground.phase }, { on := 5, ground := Go.Ground.phase }, { on := 6, ground := Go.Ground.phase }, { on := 7, ground := Go.Ground.phase }, { on := 8, ground := Go.Ground.phase }, { on := 9, ground := Go.Ground.phase }, { on := 10, ground := Go.Ground.phase }, { on := 11, ground := Go.Ground.phase }, { on := 12, ground := Go.Ground.phase }, { on := 13, ground := Go.Ground.phase }, { on := 14, ground := Go.Ground.phase }, { on := 15, ground := Go.Ground.phase }, { on := 16, ground := Go.Ground.phase }, { on := 17, ground := Go.Ground.phase }, { on := 18, ground := Go.Ground.phase }, { on := 19, ground := Go.Ground.phase }, { on := 20, ground := Go.Ground.phase }, { on := 21, ground := Go.Ground.phase }, { on := 22, ground := Go.Ground.phase }, { on := 23, ground := Go.Ground.phase }, { on := 24, ground := Go.Ground.phase }, { on := 25, ground := Go.Ground.phase }, { on := 26, ground := Go.Ground.phase }], guard := none }) (v := .string p) rfl rfl (by kernel_rfl) (by kernel_rfl) (by kernel_rfl) (by kernel_rfl) (fun _ _ _ h => h) (Or.inl ⟨by kernel_rfl, ?_⟩) rfl ?_
                          · (intro X hX; subst hX <;> (go_simp; try (with_reducible rfl)))
                          (try simp only [Act.put, List.setIfInBounds_toArray, List.set_cons_zero, List.set_cons_succ])
                          refine wpAnyN_take (i := 16) (oi := { dst := some 105, op := Go.Op.move (Go.Operand.tmp 7), type := 3, pos := "apply.go:353", after := #[{ on := 14, ground := Go.Ground.guard }], guard := some (14, true) }) (oL := { dst := none, op := Go.Op.store 4 (Go.Operand.tmp 116) (Go.Operand.tmp 115), type := 0, pos := "apply.go:353", after := #[{ on := 27, ground := Go.Ground.data }, { on := 26, ground := Go.Ground.data }, { on := 23, ground := Go.Ground.chain }, { on := 0, ground := Go.Ground.phase }, { on := 1, ground := Go.Ground.phase }, { on := 2, ground := Go.Ground.phase }, { on := 3, ground := Go.Ground.phase }, { on := 4, ground := Go.Ground.phase }, { on := 5, ground := Go.Ground.phase }, { on := 6, ground := Go.Ground.phase }, { on := 7, ground := Go.Ground.phase }, { on := 8, ground := Go.Ground.phase }, { on := 9, ground := Go.Ground.phase }, { on := 10, ground := Go.Ground.phase }, { on := 11, ground := Go.Ground.phase }, { on := 12, ground := Go.Ground.phase }, { on := 13, ground := Go.Ground.phase }, { on := 14, ground := Go.Ground.phase }, { on := 15, ground := Go.Ground.phase }, { on := 16, ground := Go.Ground.phase }, { on := 17, ground := Go.Ground.phase }, { on := 18, ground := Go.Ground.phase }, { on := 19, ground := Go.Ground.phase }, { on := 20, ground := Go.Ground.phase }, { on := 21, ground := Go.Ground.phase }, { on := 22, ground := Go.Ground.phase }, { on := 23, ground := Go.Ground.phase }, { on := 24, ground := Go.Ground.phase }, { on := 25, ground := Go.Ground.phase }, { on := 26, ground := Go.Ground.phase }], guard := none }) (v := .int .i64 (i : Int)) rfl rfl (by kernel_rfl) (by kernel_rfl) (by kernel_rfl) (by kernel_rfl) (fun _ _ _ h => h) (Or.inl ⟨by kernel_rfl, ?_⟩) rfl ?_
                          · (intro X hX; subst hX <;> (go_simp; try (with_reducible rfl)))
                          (try simp only [Act.put, List.setIfInBounds_toArray, List.set_cons_zero, List.set_cons_succ])
                          refine wpAnyN_take (i := 17) (oi := { dst := some 106, op := Go.Op.index 9 (Go.Operand.tmp 104) (Go.Operand.tmp 105), type := 5, pos := "apply.go:353", after := #[{ on := 15, ground := Go.Ground.data }, { on := 16, ground := Go.Ground.data }, { on := 14, ground := Go.Ground.guard }], guard := some (14, true) }) (oL := { dst := none, op := Go.Op.store 4 (Go.Operand.tmp 116) (Go.Operand.tmp 115), type := 0, pos := "apply.go:353", after := #[{ on := 27, ground := Go.Ground.data }, { on := 26, ground := Go.Ground.data }, { on := 23, ground := Go.Ground.chain }, { on := 0, ground := Go.Ground.phase }, { on := 1, ground := Go.Ground.phase }, { on := 2, ground := Go.Ground.phase }, { on := 3, ground := Go.Ground.phase }, { on := 4, ground := Go.Ground.phase }, { on := 5, ground := Go.Ground.phase }, { on := 6, ground := Go.Ground.phase }, { on := 7, ground := Go.Ground.phase }, { on := 8, ground := Go.Ground.phase }, { on := 9, ground := Go.Ground.phase }, { on := 10, ground := Go.Ground.phase }, { on := 11, ground := Go.Ground.phase }, { on := 12, ground := Go.Ground.phase }, { on := 13, ground := Go.Ground.phase }, { on := 14, ground := Go.Ground.phase }, { on := 15, ground := Go.Ground.phase }, { on := 16, ground := Go.Ground.phase }, { on := 17, ground := Go.Ground.phase }, { on := 18, ground := Go.Ground.phase }, { on := 19, ground := Go.Ground.phase }, { on := 20, ground := Go.Ground.phase }, { on := 21, ground := Go.Ground.phase }, { on := 22, ground := Go.Ground.phase }, { on := 23, ground := Go.Ground.phase }, { on := 24, ground := Go.Ground.phase }, { on := 25, ground := Go.Ground.phase }, { on := 26, ground := Go.Ground.phase }], guard := none }) (v := .int .u8 ((bt (L p) i).toNat : Int)) rfl rfl (by kernel_rfl) (by kernel_rfl) (by kernel_rfl) (by kernel_rfl) (fun _ _ _ h => h) (Or.inl ⟨by kernel_rfl, ?_⟩) rfl ?_
                          · (intro X hX; subst hX <;> (go_simp; try (with_reducible rfl)))
                          (try simp only [Act.put, List.setIfInBounds_toArray, List.set_cons_zero, List.set_cons_succ])
                          refine wpAnyN_take (i := 19) (oi := { dst := some 108, op := Go.Op.move (Go.Operand.tmp 1), type := 9, pos := "apply.go:353", after := #[{ on := 14, ground := Go.Ground.guard }], guard := some (14, true) }) (oL := { dst := none, op := Go.Op.store 4 (Go.Operand.tmp 116) (Go.Operand.tmp 115), type := 0, pos := "apply.go:353", after := #[{ on := 27, ground := Go.Ground.data }, { on := 26, ground := Go.Ground.data }, { on := 23, ground := Go.Ground.chain }, { on := 0, ground := Go.Ground.phase }, { on := 1, ground := Go.Ground.phase }, { on := 2, ground := Go.Ground.phase }, { on := 3, ground := Go.Ground.phase }, { on := 4, ground := Go.Ground.phase }, { on := 5, ground := Go.Ground.phase }, { on := 6, ground := Go.Ground.phase }, { on := 7, ground := Go.Ground.phase }, { on := 8, ground := Go.Ground.phase }, { on := 9, ground := Go.Ground.phase }, { on := 10, ground := Go.Ground.phase }, { on := 11, ground := Go.Ground.phase }, { on := 12, ground := Go.Ground.phase }, { on := 13, ground := Go.Ground.phase }, { on := 14, ground := Go.Ground.phase }, { on := 15, ground := Go.Ground.phase }, { on := 16, ground := Go.Ground.phase }, { on := 17, ground := Go.Ground.phase }, { on := 18, ground := Go.Ground.phase }, { on := 19, ground := Go.Ground.phase }, { on := 20, ground := Go.Ground.phase }, { on := 21, ground := Go.Ground.phase }, { on := 22, ground := Go.Ground.phase }, { on := 23, ground := Go.Ground.phase }, { on := 24, ground := Go.Ground.phase }, { on := 25, ground := Go.Ground.phase }, { on := 26, ground := Go.Ground.phase }], guard := none }) (v := .string s) rfl rfl (by kernel_rfl) (by kernel_rfl) (by kernel_rfl) (by kernel_rfl) (fun _ _ _ h => h) (Or.inl ⟨by kernel_rfl, ?_⟩) rfl ?_
                          · (intro X hX; subst hX <;> (go_simp; try (with_reducible rfl)))
                          (try simp only [Act.put, List.setIfInBounds_toArray, List.set_cons_zero, List.set_cons_succ])
                          refine wpAnyN_take (i := 20) (oi := { dst := some 109, op := Go.Op.move (Go.Operand.tmp 9), type := 3, pos := "apply.go:353", after := #[{ on := 14, ground := Go.Ground.guard }], guard := some (14, true) }) (oL := { dst := none, op := Go.Op.store 4 (Go.Operand.tmp 116) (Go.Operand.tmp 115), type := 0, pos := "apply.go:353", after := #[{ on := 27, ground := Go.Ground.data }, { on := 26, ground := Go.Ground.data }, { on := 23, ground := Go.Ground.chain }, { on := 0, ground := Go.Ground.phase }, { on := 1, ground := Go.Ground.phase }, { on := 2, ground := Go.Ground.phase }, { on := 3, ground := Go.Ground.phase }, { on := 4, ground := Go.Ground.phase }, { on := 5, ground := Go.Ground.phase }, { on := 6, ground := Go.Ground.phase }, { on := 7, ground := Go.Ground.phase }, { on := 8, ground := Go.Ground.phase }, { on := 9, ground := Go.Ground.phase }, { on := 10, ground := Go.Ground.phase }, { on := 11, ground := Go.Ground.phase }, { on := 12, ground := Go.Ground.phase }, { on := 13, ground := Go.Ground.phase }, { on := 14, ground := Go.Ground.phase }, { on := 15, ground := Go.Ground.phase }, { on := 16, ground := Go.Ground.phase }, { on := 17, ground := Go.Ground.phase }, { on := 18, ground := Go.Ground.phase }, { on := 19, ground := Go.Ground.phase }, { on := 20, ground := Go.Ground.phase }, { on := 21, ground := Go.Ground.phase }, { on := 22, ground := Go.Ground.phase }, { on := 23, ground := Go.Ground.phase }, { on := 24, ground := Go.Ground.phase }, { on := 25, ground := Go.Ground.phase }, { on := 26, ground := Go.Ground.phase }], guard := none }) (v := .int .i64 (k : Int)) rfl rfl (by kernel_rfl) (by kernel_rfl) (by kernel_rfl) (by kernel_rfl) (fun _ _ _ h => h) (Or.inl ⟨by kernel_rfl, ?_⟩) rfl ?_
                          · (intro X hX; subst hX <;> (go_simp; try (with_reducible rfl)))
                          (try simp only [Act.put, List.setIfInBounds_toArray, List.set_cons_zero, List.set_cons_succ])
                          refine wpAnyN_take (i := 21) (oi := { dst := some 110, op := Go.Op.binOp Go.BinOp.sub 3 (Go.Operand.tmp 109) (Go.Operand.const (Go.Value.int Go.IntKind.i64 1)) 3, type := 3, pos := "apply.go:353", after := #[{ on := 20, ground := Go.Ground.data }, { on := 14, ground := Go.Ground.guard }], guard := some (14, true) }) (oL := { dst := none, op := Go.Op.store 4 (Go.Operand.tmp 116) (Go.Operand.tmp 115), type := 0, pos := "apply.go:353", after := #[{ on := 27, ground := Go.Ground.data }, { on := 26, ground := Go.Ground.data }, { on := 23, ground := Go.Ground.chain }, { on := 0, ground := Go.Ground.phase }, { on := 1, ground := Go.Ground.phase }, { on := 2, ground := Go.Ground.phase }, { on := 3, ground := Go.Ground.phase }, { on := 4, ground := Go.Ground.phase }, { on := 5, ground := Go.Ground.phase }, { on := 6, ground := Go.Ground.phase }, { on := 7, ground := Go.Ground.phase }, { on := 8, ground := Go.Ground.phase }, { on := 9, ground := Go.Ground.phase }, { on := 10, ground := Go.Ground.phase }, { on := 11, ground := Go.Ground.phase }, { on := 12, ground := Go.Ground.phase }, { on := 13, ground := Go.Ground.phase }, { on := 14, ground := Go.Ground.phase }, { on := 15, ground := Go.Ground.phase }, { on := 16, ground := Go.Ground.phase }, { on := 17, ground := Go.Ground.phase }, { on := 18, ground := Go.Ground.phase }, { on := 19, ground := Go.Ground.phase }, { on := 20, ground := Go.Ground.phase }, { on := 21, ground := Go.Ground.phase }, { on := 22, ground := Go.Ground.phase }, { on := 23, ground := Go.Ground.phase }, { on := 24, ground := Go.Ground.phase }, { on := 25, ground := Go.Ground.phase }, { on := 26, ground := Go.Ground.phase }], guard := none }) (v := .int .i64 (j : Int)) rfl rfl (by kernel_rfl) (by kernel_rfl) (by kernel_rfl) (by kernel_rfl) (fun _ _ _ h => h) (Or.inl ⟨by kernel_rfl, ?_⟩) rfl ?_
                          · (intro X hX; subst hX <;> (go_simp; try (with_reducible rfl)))
                          (try simp only [Act.put, List.setIfInBounds_toArray, List.set_cons_zero, List.set_cons_succ])
                          refine wpAnyN_take (i := 22) (oi := { dst := some 111, op := Go.Op.index 9 (Go.Operand.tmp 108) (Go.Operand.tmp 110), type := 5, pos := "apply.go:353", after := #[{ on := 19, ground := Go.Ground.data }, { on := 21, ground := Go.Ground.data }, { on := 14, ground := Go.Ground.guard }], guard := some (14, true) }) (oL := { dst := none, op := Go.Op.store 4 (Go.Operand.tmp 116) (Go.Operand.tmp 115), type := 0, pos := "apply.go:353", after := #[{ on := 27, ground := Go.Ground.data }, { on := 26, ground := Go.Ground.data }, { on := 23, ground := Go.Ground.chain }, { on := 0, ground := Go.Ground.phase }, { on := 1, ground := Go.Ground.phase }, { on := 2, ground := Go.Ground.phase }, { on := 3, ground := Go.Ground.phase }, { on := 4, ground := Go.Ground.phase }, { on := 5, ground := Go.Ground.phase }, { on := 6, ground := Go.Ground.phase }, { on := 7, ground := Go.Ground.phase }, { on := 8, ground := Go.Ground.phase }, { on := 9, ground := Go.Ground.phase }, { on := 10, ground := Go.Ground.phase }, { on := 11, ground := Go.Ground.phase }, { on := 12, ground := Go.Ground.phase }, { on := 13, ground := Go.Ground.phase }, { on := 14, ground := Go.Ground.phase }, { on := 15, ground := Go.Ground.phase }, { on := 16, ground := Go.Ground.phase }, { on := 17, ground := Go.Ground.phase }, { on := 18, ground := Go.Ground.phase }, { on := 19, ground := Go.Ground.phase }, { on := 20, ground := Go.Ground.phase }, { on := 21, ground := Go.Ground.phase }, { on := 22, ground := Go.Ground.phase }, { on := 23, ground := Go.Ground.phase }, { on := 24, ground := Go.Ground.phase }, { on := 25, ground := Go.Ground.phase }, { on := 26, ground := Go.Ground.phase }], guard := none }) (v := .int .u8 ((bt (L s) j).toNat : Int)) rfl rfl (by kernel_rfl) (by kernel_rfl) (by kernel_rfl) (by kernel_rfl) (fun _ _ _ h => h) (Or.inl ⟨by kernel_rfl, ?_⟩) rfl ?_
                          · (intro X hX; subst hX <;> (go_simp; try (with_reducible rfl)))
                          (try simp only [Act.put, List.setIfInBounds_toArray, List.set_cons_zero, List.set_cons_succ])
                          refine wpAnyN_one (i := 18) (o := { dst := some 107, op := Go.Op.call { callee := Go.Callee.value (Go.Operand.func 15), args := #[Go.Operand.tmp 106], argTypes := #[5] }, type := 5, pos := "apply.go:353", after := #[{ on := 17, ground := Go.Ground.data }, { on := 14, ground := Go.Ground.chain }, { on := 14, ground := Go.Ground.guard }], guard := some (14, true) }) (by kernel_rfl) rfl (fun K hK => ?_)
                          go_simp
                          refine (hL1.out _).mono ?_
                          rintro e w3 ⟨rfl, hw3⟩
                          subst w3
                          refine hK.out _ _ (fun _ => rfl) ?_
                          clear hK K
                          (try simp only [Act.put, List.setIfInBounds_toArray, List.set_cons_zero, List.set_cons_succ])
                          refine wpAnyN_one (i := 23) (o := { dst := some 112, op := Go.Op.call { callee := Go.Callee.value (Go.Operand.func 15), args := #[Go.Operand.tmp 111], argTypes := #[5] }, type := 5, pos := "apply.go:353", after := #[{ on := 22, ground := Go.Ground.data }, { on := 18, ground := Go.Ground.chain }, { on := 14, ground := Go.Ground.guard }], guard := some (14, true) }) (by kernel_rfl) rfl (fun K hK => ?_)
                          go_simp
                          refine (hL2.out _).mono ?_
                          rintro e w3 ⟨rfl, hw3⟩
                          subst w3
                          refine hK.out _ _ (fun _ => rfl) ?_
                          clear hK K
                          (try simp only [Act.put, List.setIfInBounds_toArray, List.set_cons_zero, List.set_cons_succ])
                          refine wpAnyN_take (i := 24) (oi := { dst := some 113, op := Go.Op.binOp Go.BinOp.eql 5 (Go.Operand.tmp 107) (Go.Operand.tmp 112) 5, type := 4, pos := "apply.go:353", after := #[{ on := 18, ground := Go.Ground.data }, { on := 23, ground := Go.Ground.data }, { on := 14, ground := Go.Ground.guard }], guard := some (14, true) }) (oL := { dst := none, op := Go.Op.store 4 (Go.Operand.tmp 116) (Go.Operand.tmp 115), type := 0, pos := "apply.go:353", after := #[{ on := 27, ground := Go.Ground.data }, { on := 26, ground := Go.Ground.data }, { on := 23, ground := Go.Ground.chain }, { on := 0, ground := Go.Ground.phase }, { on := 1, ground := Go.Ground.phase }, { on := 2, ground := Go.Ground.phase }, { on := 3, ground := Go.Ground.phase }, { on := 4, ground := Go.Ground.phase }, { on := 5, ground := Go.Ground.phase }, { on := 6, ground := Go.Ground.phase }, { on := 7, ground := Go.Ground.phase }, { on := 8, ground := Go.Ground.phase }, { on := 9, ground := Go.Ground.phase }, { on := 10, ground := Go.Ground.phase }, { on := 11, ground := Go.Ground.phase }, { on := 12, ground := Go.Ground.phase }, { on := 13, ground := Go.Ground.phase }, { on := 14, ground := Go.Ground.phase }, { on := 15, ground := Go.Ground.phase }, { on := 16, ground := Go.Ground.phase }, { on := 17, ground := Go.Ground.phase }, { on := 18, ground := Go.Ground.phase }, { on := 19, ground := Go.Ground.phase }, { on := 20, ground := Go.Ground.phase }, { on := 21, ground := Go.Ground.phase }, { on := 22, ground := Go.Ground.phase }, { on := 23, ground := Go.Ground.phase }, { on := 24, ground := Go.Ground.phase }, { on := 25, ground := Go.Ground.phase }, { on := 26, ground := Go.Ground.phase }], guard := none }) (v := .bool (sm (bt (L p) i) == sm (bt (L s) j))) rfl rfl (by kernel_rfl) (by kernel_rfl) (by kernel_rfl) (by kernel_rfl) (fun _ _ _ h => h) (Or.inl ⟨by kernel_rfl, ?_⟩) rfl ?_
                          · (intro X hX; subst hX <;> (go_simp; try (with_reducible rfl)))
                          (try simp only [Act.put, List.setIfInBounds_toArray, List.set_cons_zero, List.set_cons_succ])
                          refine wpAnyN_take (i := 25) (oi := { dst := some 114, op := Go.Op.pick (Go.Operand.tmp 103) (Go.Operand.tmp 113) (Go.Operand.const (Go.Value.bool false)), type := 4, pos := "apply.go:353", after := #[{ on := 14, ground := Go.Ground.data }, { on := 24, ground := Go.Ground.data }, { on := 10, ground := Go.Ground.guard }], guard := some (10, false) }) (oL := { dst := none, op := Go.Op.store 4 (Go.Operand.tmp 116) (Go.Operand.tmp 115), type := 0, pos := "apply.go:353", after := #[{ on := 27, ground := Go.Ground.data }, { on := 26, ground := Go.Ground.data }, { on := 23, ground := Go.Ground.chain }, { on := 0, ground := Go.Ground.phase }, { on := 1, ground := Go.Ground.phase }, { on := 2, ground := Go.Ground.phase }, { on := 3, ground := Go.Ground.phase }, { on := 4, ground := Go.Ground.phase }, { on := 5, ground := Go.Ground.phase }, { on := 6, ground := Go.Ground.phase }, { on := 7, ground := Go.Ground.phase }, { on := 8, ground := Go.Ground.phase }, { on := 9, ground := Go.Ground.phase }, { on := 10, ground := Go.Ground.phase }, { on := 11, ground := Go.Ground.phase }, { on := 12, ground := Go.Ground.phase }, { on := 13, ground := Go.Ground.phase }, { on := 14, ground := Go.Ground.phase }, { on := 15, ground := Go.Ground.phase }, { on := 16, ground := Go.Ground.phase }, { on := 17, ground := Go.Ground.phase }, { on := 18, ground := Go.Ground.phase }, { on := 19, ground := Go.Ground.phase }, { on := 20, ground := Go.Ground.phase }, { on := 21, ground := Go.Ground.phase }, { on := 22, ground := Go.Ground.phase }, { on := 23, ground := Go.Ground.phase }, { on := 24, ground := Go.Ground.phase }, { on := 25, ground := Go.Ground.phase }, { on := 26, ground := Go.Ground.phase }], guard := none }) (v := .bool (sm (bt (L p) i) == sm (bt (L s) j))) rfl rfl (by kernel_rfl) (by kernel_rfl) (by kernel_rfl) (by kernel_rfl) (fun _ _ _ h => h) (Or.inl ⟨by kernel_rfl, ?_⟩) rfl ?_
                          · (intro X hX; subst hX <;> (go_simp; try (with_reducible rfl)))
                          (try simp only [Act.put, List.setIfInBounds_toArray, List.set_cons_zero, List.set_cons_succ])
                          refine wpAnyN_take (i := 26) (oi := { dst := some 115, op := Go.Op.pick (Go.Operand.tmp 99) (Go.Operand.const (Go.Value.bool true)) (Go.Operand.tmp 114), type := 4, pos := "apply.go:353", after := #[{ on := 10, ground := Go.Ground.data }, { on := 25, ground := Go.Ground.data }], guard := none }) (oL := { dst := none, op := Go.Op.store 4 (Go.Operand.tmp 116) (Go.Operand.tmp 115), type := 0, pos := "apply.go:353", after := #[{ on := 27, ground := Go.Ground.data }, { on := 26, ground := Go.Ground.data }, { on := 23, ground := Go.Ground.chain }, { on := 0, ground := Go.Ground.phase }, { on := 1, ground := Go.Ground.phase }, { on := 2, ground := Go.Ground.phase }, { on := 3, ground := Go.Ground.phase }, { on := 4, ground := Go.Ground.phase }, { on := 5, ground := Go.Ground.phase }, { on := 6, ground := Go.Ground.phase }, { on := 7, ground := Go.Ground.phase }, { on := 8, ground := Go.Ground.phase }, { on := 9, ground := Go.Ground.phase }, { on := 10, ground := Go.Ground.phase }, { on := 11, ground := Go.Ground.phase }, { on := 12, ground := Go.Ground.phase }, { on := 13, ground := Go.Ground.phase }, { on := 14, ground := Go.Ground.phase }, { on := 15, ground := Go.Ground.phase }, { on := 16, ground := Go.Ground.phase }, { on := 17, ground := Go.Ground.phase }, { on := 18, ground := Go.Ground.phase }, { on := 19, ground := Go.Ground.phase }, { on := 20, ground := Go.Ground.phase }, { on := 21, ground := Go.Ground.phase }, { on := 22, ground := Go.Ground.phase }, { on := 23, ground := Go.Ground.phase }, { on := 24, ground := Go.Ground.phase }, { on := 25, ground := Go.Ground.phase }, { on := 26, ground := Go.Ground.phase }], guard := none }) (v := .bool (sm (bt (L p) i) == sm (bt (L s) j))) rfl rfl (by kernel_rfl) (by kernel_rfl) (by kernel_rfl) (by kernel_rfl) (fun _ _ _ h => h) (Or.inl ⟨by kernel_rfl, ?_⟩) rfl ?_
                          · (intro X hX; subst hX <;> (go_simp; try (with_reducible rfl)))
                          (try simp only [Act.put, List.setIfInBounds_toArray, List.set_cons_zero, List.set_cons_succ])
                          refine wpAnyN_take (i := 27) (oi := { dst := some 116, op := Go.Op.indexAddr 38 (Go.Operand.tmp 89) (Go.Operand.tmp 90), type := 0, pos := "apply.go:353", after := #[{ on := 0, ground := Go.Ground.data }, { on := 1, ground := Go.Ground.data }, { on := 0, ground := Go.Ground.phase }, { on := 1, ground := Go.Ground.phase }, { on := 2, ground := Go.Ground.phase }, { on := 3, ground := Go.Ground.phase }, { on := 4, ground := Go.Ground.phase }, { on := 5, ground := Go.Ground.phase }, { on := 6, ground := Go.Ground.phase }, { on := 7, ground := Go.Ground.phase }, { on := 8, ground := Go.Ground.phase }, { on := 9, ground := Go.Ground.phase }, { on := 10, ground := Go.Ground.phase }, { on := 11, ground := Go.Ground.phase }, { on := 12, ground := Go.Ground.phase }, { on := 13, ground := Go.Ground.phase }, { on := 14, ground := Go.Ground.phase }, { on := 15, ground := Go.Ground.phase }, { on := 16, ground := Go.Ground.phase }, { on := 17, ground := Go.Ground.phase }, { on := 18, ground := Go.Ground.phase }, { on := 19, ground := Go.Ground.phase }, { on := 20, ground := Go.Ground.phase }, { on := 21, ground := Go.Ground.phase }, { on := 22, ground := Go.Ground.phase }, { on := 23, ground := Go.Ground.phase }, { on := 24, ground := Go.Ground.phase }, { on := 25, ground := Go.Ground.phase }, { on := 26, ground := Go.Ground.phase }], guard := none }) (oL := { dst := none, op := Go.Op.store 4 (Go.Operand.tmp 116) (Go.Operand.tmp 115), type := 0, pos := "apply.go:353", after := #[{ on := 27, ground := Go.Ground.data }, { on := 26, ground := Go.Ground.data }, { on := 23, ground := Go.Ground.chain }, { on := 0, ground := Go.Ground.phase }, { on := 1, ground := Go.Ground.phase }, { on := 2, ground := Go.Ground.phase }, { on := 3, ground := Go.Ground.phase }, { on := 4, ground := Go.Ground.phase }, { on := 5, ground := Go.Ground.phase }, { on := 6, ground := Go.Ground.phase }, { on := 7, ground := Go.Ground.phase }, { on := 8, ground := Go.Ground.phase }, { on := 9, ground := Go.Ground.phase }, { on := 10, ground := Go.Ground.phase }, { on := 11, ground := Go.Ground.phase }, { on := 12, ground := Go.Ground.phase }, { on := 13, ground := Go.Ground.phase }, { on := 14, ground := Go.Ground.phase }, { on := 15, ground := Go.Ground.phase }, { on := 16, ground := Go.Ground.phase }, { on := 17, ground := Go.Ground.phase }, { on := 18, ground := Go.Ground.phase }, { on := 19, ground := Go.Ground.phase }, { on := 20, ground := Go.Ground.phase }, { on := 21, ground := Go.Ground.phase }, { on := 22, ground := Go.Ground.phase }, { on := 23, ground := Go.Ground.phase }, { on := 24, ground := Go.Ground.phase }, { on := 25, ground := Go.Ground.phase }, { on := 26, ground := Go.Ground.phase }], guard := none }) (v := .pointer (some ⟨N, k, none⟩)) rfl rfl (by kernel_rfl) (by kernel_rfl) (by kernel_rfl) (by kernel_rfl) (fun _ _ _ h => h) (Or.inl ⟨by kernel_rfl, ?_⟩) rfl ?_
                          · (intro X hX; subst hX <;> (go_simp; try (with_reducible rfl)))
                          (try simp only [Act.put, List.setIfInBounds_toArray, List.set_cons_zero, List.set_cons_succ])
                          refine wpAnyN_one (i := 28) (o := { dst := none, op := Go.Op.store 4 (Go.Operand.tmp 116) (Go.Operand.tmp 115), type := 0, pos := "apply.go:353", after := #[{ on := 27, ground := Go.Ground.data }, { on := 26, ground := Go.Ground.data }, { on := 23, ground := Go.Ground.chain }, { on := 0, ground := Go.Ground.phase }, { on := 1, ground := Go.Ground.phase }, { on := 2, ground := Go.Ground.phase }, { on := 3, ground := Go.Ground.phase }, { on := 4, ground := Go.Ground.phase }, { on := 5, ground := Go.Ground.phase }, { on := 6, ground := Go.Ground.phase }, { on := 7, ground := Go.Ground.phase }, { on := 8, ground := Go.Ground.phase }, { on := 9, ground := Go.Ground.phase }, { on := 10, ground := Go.Ground.phase }, { on := 11, ground := Go.Ground.phase }, { on := 12, ground := Go.Ground.phase }, { on := 13, ground := Go.Ground.phase }, { on := 14, ground := Go.Ground.phase }, { on := 15, ground := Go.Ground.phase }, { on := 16, ground := Go.Ground.phase }, { on := 17, ground := Go.Ground.phase }, { on := 18, ground := Go.Ground.phase }, { on := 19, ground := Go.Ground.phase }, { on := 20, ground := Go.Ground.phase }, { on := 21, ground := Go.Ground.phase }, { on := 22, ground := Go.Ground.phase }, { on := 23, ground := Go.Ground.phase }, { on := 24, ground := Go.Ground.phase }, { on := 25, ground := Go.Ground.phase }, { on := 26, ground := Go.Ground.phase }], guard := none }) (by kernel_rfl) rfl (fun K hK => ?_)
                          go_simp
                          refine hK.out _ _ (fun e => absurd (e.symm.trans (by kernel_rfl) : false = true) Bool.false_ne_true) ?_
                          clear hK K
                          (try simp only [Act.put, List.setIfInBounds_toArray, List.set_cons_zero, List.set_cons_succ])
                          refine wpAnyN_of_H (S' := fun _ => True) _ _ _ _ (by kernel_rfl) ?_
                          refine wpAnyH_done (by kernel_rfl) ?_ _
                          go_wp2
                          go_roundw
                          case rel => exact ⟨k + 1, by push_cast; rfl, by omega, HP.out⟩
                          case measure => simp [intOf]; omega
                        · have E1 := oth_out (L p) (L s) i j (by rw [← HFo.out]; have := HJ.out; omega)
                          have HP := Lib.hid ((HM.out.put hlt2 false (by rw [E0.out, E1, hac]; rfl)).drew)
                          rw [hac] at tac
                          clear hac E1
                          go_upto_region 16 with fail
                          go_region
                          all_goals
                            go_wp2
                            go_roundw
                            case rel => exact ⟨k + 1, by push_cast; rfl, by omega, HP.out⟩
                            case measure => simp [intOf]; omega
            · obtain rfl : k = n := by omega
              have hkI : ¬ (k : Int) ≤ (s.size : Int) := by have := HN.out; omega
              have hr2 : BR wr N k (rg (L p) (L s) (i + 1)) := hM.nr.congr (fun x hx => nx_at _ _ _ _ _ hx)
              have hN := hM.hN
              have HB := Lib.hid hM.below
              have HR2 := Lib.hid hr2
              clear hM hr2
              go_wp2
              go_roundw
              case rel => exact ⟨i + 1, N, rfl, by push_cast; rfl, by omega, hN, HR2.out, HB.out⟩
              case measure => simp [intOf]; omega
        · obtain rfl : i = p.size := by omega
          have hc := hr.cells s.size hsn
          have e0 := rg_end (L p) (L s)
          rw [L_length, L_length] at e0
          rw [e0] at hc
          have HB := Lib.hid hb
          have hsnI : (s.size : Int) < (n : Int) := by omega
          clear hb hr e0
          go_wp2
          go_ret
          exact ⟨rfl, HB.out⟩

end Go.Proofs.Ytedegnngdlkbhaa
