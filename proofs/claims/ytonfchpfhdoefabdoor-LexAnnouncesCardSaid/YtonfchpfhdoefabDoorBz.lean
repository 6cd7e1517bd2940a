/- lex: the document's Announced; the statement LexAnnounces: the walk. -/
import Derived.Test.YtonfchpfhdoefabDoorBy
namespace Go.Proofs.YtonfchpfhdoefabDoor
open Go.RowKit

theorem hit_at (l : List UInt8) (k : Nat) (hk : k < l.length) : hitB (l.drop k) = (annI (l.drop k) && decide (annZ k (l.drop k) = (l.length : Int))) := by
  have hlen : (l.drop k).length = l.length - k := List.length_drop
  cases hI : annI (l.drop k) with
  | true =>
    have h1 := hI
    unfold annI at h1
    rw [Bool.and_eq_true] at h1
    unfold hitB annZ
    rw [h1.1, hI, hlen, if_pos rfl]
    by_cases h : annS (l.drop k) = l.length - k
    · rw [h]; simp; omega
    · have h2 : ¬ ((k + annS (l.drop k) : Nat) : Int) = (l.length : Int) := by omega
      rw [decide_eq_false h2]
      simp [h]
  | false =>
    rw [Bool.false_and]
    cases hh : hitB (l.drop k) with
    | false => rfl
    | true =>
      exfalso
      unfold hitB at hh
      rw [Bool.and_eq_true, beq_iff_eq (a := annS (l.drop k))] at hh
      have hb : annB (l.drop k) = false := by
        unfold annI at hI
        rw [hh.1, Bool.true_and] at hI
        exact hI
      have h3 := hh.2
      unfold annS at h3
      rw [hb, hlen] at h3
      simp at h3
      omega
theorem refA_at (l : List UInt8) (k s : Nat) (hk : k < l.length) : refA (l.drop k) s = if s = 0 ∧ hitB (l.drop k) = true then some (annN (l.drop k), annQ (l.drop k)) else refA (l.drop (k + 1)) (qstep s (bt l k)) := by
  rw [bt_cons l k hk]; rfl
theorem refA_skip (l : List UInt8) (k : Nat) (hk : k < l.length) (hc : bt l k = 92) : refA (l.drop k) 1 = refA (l.drop (k + 2)) 1 := by
  rw [refA_at l k 1 hk, if_neg (by simp), hc, show qstep 1 92 = 2 from rfl]
  by_cases h : k + 1 < l.length
  · rw [refA_at l (k + 1) 2 h, if_neg (by simp)]; rfl
  · rw [List.drop_of_length_le (by omega), List.drop_of_length_le (by omega)]; rfl
theorem anc_hit {l : List UInt8} {k : Nat} (h : refA l 0 = refA (l.drop k) 0) (hk : k < l.length) (hh : hitB (l.drop k) = true) : ancN l = annM (l.drop k) ∧ ancP l = (annI (l.drop k) && annQ (l.drop k)) ∧ ancI l = true := by
  rw [refA_at l k 0 hk, if_pos ⟨rfl, hh⟩, refA_anced] at h
  have hI : annI (l.drop k) = true := by
    rw [hit_at l k hk, Bool.and_eq_true] at hh
    exact hh.1
  obtain ⟨e1, e2, e3⟩ := anc_yes h
  unfold annM
  rw [e1, e2, e3, hI]
  exact ⟨rfl, rfl, rfl⟩
set_option maxRecDepth 100000 in
set_option maxHeartbeats 8000000 in
theorem rAnnounced_any (s : ByteArray) (w : World) (hs : s.size ≤ 140737488355328) :
    Calls Tryd.prog 18 #[.string s] w fun e w' => e = .returned (.tuple #[.int .i64 (ancN (L s)), .bool (ancP (L s)), .bool (ancI (L s))]) ∧ w' = w := by
  have hll := L_length s
  go_enter Tryd.func18, Tryd.ntmps18
  go_wp2_with fail
  go_loop [5, 6] (fun a b => ∃ (q : Bool) (k : Nat), k ≤ s.size + 1 ∧ a = .bool q ∧ b = .int .i64 (k : Int) ∧ Hid (refA (L s) 0 = refA ((L s).drop k) (b2n q))) (fun _ b => s.size + 1 - (intOf b).toNat)
  case atStart => exact ⟨false, 0, Nat.zero_le _, rfl, rfl, Lib.hid rfl⟩
  case round =>
    obtain ⟨q, k, hk, rfl, rfl, HI⟩ := hrel
    by_cases hlt : k < s.size
    · have ea := get_btx s k hlt
      have hk0 : (0 : Int) ≤ (k : Int) := by omega
      have hkz : (k : Int) < (s.size : Int) := by omega
      have h256 := bt_lt (L s) k
      have HD := Lib.hid (refA_at (L s) k (b2n q) (by omega))
      have hA := hit_at (L s) k (by omega)
      rw [hll] at hA
      cases q with
      | false =>
        have HR := Lib.hid (fun W => rann_any s k W hlt hs)
        have HH := Lib.hid (fun hh => anc_hit HI.out (by omega) hh)
        have HN : Hid (hitB ((L s).drop k) = false → refA (L s) 0 = refA ((L s).drop (k + 1)) (b2n (decide (bt (L s) k = 34)))) := Lib.hid (fun hh => by
          rw [HI.out, HD.out, if_neg (by rw [hh]; simp)]
          by_cases hc : bt (L s) k = 34
          · rw [hc]; rfl
          · rw [decide_eq_false hc]; simp [qstep, hc, b2n])
        have hcz : (((bt (L s) k).toNat : Int) == 34) = decide (bt (L s) k = 34) := by
          by_cases hc : bt (L s) k = 34
          · rw [hc]; rfl
          · rw [decide_eq_false hc, beq_eq_false_iff_ne]
            intro e
            exact hc (UInt8.toNat_inj.1 (by have : (34 : UInt8).toNat = 34 := rfl; omega))
        clear HI HD
        generalize decide (bt (L s) k = 34) = qc at *
        generalize bt (L s) k = c at *
        generalize annM ((L s).drop k) = am at *
        generalize (annI ((L s).drop k) && annQ ((L s).drop k)) = aq at *
        generalize annZ k ((L s).drop k) = az at *
        generalize annI ((L s).drop k) = ai at *
        generalize hitB ((L s).drop k) = hb at *
        cases ai with
        | false =>
          rw [Bool.false_and] at hA
          have HN2 := Lib.hid (HN.out hA)
          clear HN HH hA
          go_wp2_with (go_at_call 47; refine (HR.out _).mono ?_; rintro e w' ⟨rfl, hw'⟩; rw [hw']; clear hw' w')
          go_round
          case rel => exact ⟨qc, k + 1, by omega, by first | rfl | (rw [hcz]), by go_num, HN2⟩
          case measure => simp [intOf]; omega
        | true =>
          rw [Bool.true_and] at hA
          by_cases hz : az = (s.size : Int)
          · rw [decide_eq_true hz] at hA
            have HH2 := Lib.hid (HH.out hA)
            clear HN HH hA
            go_wp2_with (go_at_call 47; refine (HR.out _).mono ?_; rintro e w' ⟨rfl, hw'⟩; rw [hw']; clear hw' w')
            go_ret3
            exact ⟨by rw [HH2.out.1, HH2.out.2.1, HH2.out.2.2]; rfl, rfl⟩
          · rw [decide_eq_false hz] at hA
            have HN2 := Lib.hid (HN.out hA)
            clear HN HH hA
            go_wp2_with (go_at_call 47; refine (HR.out _).mono ?_; rintro e w' ⟨rfl, hw'⟩; rw [hw']; clear hw' w')
            go_round
            case rel => exact ⟨qc, k + 1, by omega, by first | rfl | (rw [hcz]), by go_num, HN2⟩
            case measure => simp [intOf]; omega
      | true =>
        clear hA
        by_cases hc : bt (L s) k = 92
        · have hcz : ((bt (L s) k).toNat : Int) = 92 := by rw [hc]; rfl
          have HI2 : Hid (refA (L s) 0 = refA ((L s).drop (k + 2)) (b2n true)) := Lib.hid (HI.out.trans (refA_skip (L s) k (by omega) hc))
          clear HI HD hc
          generalize bt (L s) k = c at *
          go_wp2_with fail
          go_round
          case rel => exact ⟨true, k + 2, by omega, rfl, by go_num, HI2⟩
          case measure => simp [intOf]; omega
        · have hcz : ¬ ((bt (L s) k).toNat : Int) = 92 := fun e => hc (UInt8.toNat_inj.1 (by have : (92 : UInt8).toNat = 92 := rfl; omega))
          have hdz : (((bt (L s) k).toNat : Int) != 34) = !decide (bt (L s) k = 34) := by
            by_cases hd : bt (L s) k = 34
            · rw [hd]; rfl
            · rw [decide_eq_false hd]
              have : ¬ ((bt (L s) k).toNat : Int) = 34 := fun e => hd (UInt8.toNat_inj.1 (by have : (34 : UInt8).toNat = 34 := rfl; omega))
              simpa using this
          have HI2 : Hid (refA (L s) 0 = refA ((L s).drop (k + 1)) (b2n (!decide (bt (L s) k = 34)))) := Lib.hid (by
            rw [HI.out, HD.out, if_neg (by simp [b2n])]
            by_cases hd : bt (L s) k = 34
            · rw [hd]; rfl
            · rw [decide_eq_false hd]; simp [qstep, hc, hd, b2n])
          clear HI HD hc
          generalize decide (bt (L s) k = 34) = qc at *
          generalize bt (L s) k = c at *
          go_wp2_with fail
          go_round
          case rel => exact ⟨!qc, k + 1, by omega, by first | rfl | (rw [hdz]), by go_num, HI2⟩
          case measure => simp [intOf]; omega
    · have hkz : ¬ (k : Int) < (s.size : Int) := by omega
      have HF : Hid (ancN (L s) = 0 ∧ ancP (L s) = false ∧ ancI (L s) = false) := Lib.hid (anc_no (by
        rw [← refA_anced, HI.out, List.drop_of_length_le (by omega)]
        rfl))
      clear HI
      go_wp2_with fail
      go_ret3
      exact ⟨by rw [HF.out.1, HF.out.2.1, HF.out.2.2]; rfl, rfl⟩
theorem k5A : anced (L ⟨#[97, 32, 123, 51, 125]⟩) = some (3, false) := by decide +kernel
set_option maxRecDepth 100000 in
set_option maxHeartbeats 4000000 in
theorem LexAnnounces_walk (s : ByteArray) (w : World) (he : Env w) (hs : s.size ≤ 140737488355328) :
    Calls Tryd.prog 5 #[.string s] w fun e w' => e = .returned (.bool true) ∧ Below w.heap.size w w' := by
  have HK := Lib.hid (known_any w he)
  have HR := Lib.hid (fun W => rAnnounced_any s W hs)
  have HA := Lib.hid (fun W => Announced_any s W hs)
  have HF := Lib.hid (fun W => Announced_any ⟨#[97, 32, 123, 51, 125]⟩ W (by decide))
  obtain ⟨e1, e2, e3⟩ := anc_yes k5A
  rw [e1, e2, e3] at HF
  clear e1 e2 e3 he
  generalize ancN (L s) = an at *
  generalize ancP (L s) = ap at *
  generalize ancI (L s) = ai at *
  go_enter Tryd.func5, Tryd.ntmps5
  go_upto_region 6 with (first | (go_at_call 9; refine HK.out.mono ?_; rintro e w1 ⟨rfl, hb1⟩) | (go_at_call 18; refine (HR.out _).mono ?_; rintro e w' ⟨rfl, hw'⟩; rw [hw']; clear hw' w') | (go_at_call 13; refine (HA.out _).mono ?_; rintro e w' ⟨rfl, hw'⟩; rw [hw']; clear hw' w'))
  go_wp2_with (go_at_call 13; refine (HF.out _).mono ?_; rintro e w' ⟨rfl, hw'⟩; rw [hw']; clear hw' w')
  go_ret
  exact ⟨rfl, hb1⟩
end Go.Proofs.YtonfchpfhdoefabDoor
