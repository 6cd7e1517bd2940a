/- The document's ReadHeader: pieces, the walk. -/
import Derived.Test.YtckdmbeokajdjaaGreatDoorH2d
namespace Go.Proofs.YtckdmbeokajdjaaGreatDoor
open Go.RowKit

def PcOut (H : Nat) (l : List UInt8) (w0 : World) (e : Ending) (w : World) : Prop :=
  Below H w0 w ∧ ((pcs l = none ∧ e = .returned (.tuple #[.slice none 0 0, .bool false])) ∨ ∃ v ps, pcs l = some ps ∧ e = .returned (.tuple #[v, .bool true]) ∧ PsAt w v ps ∧ GdL l.length ps)

set_option maxRecDepth 100000 in
set_option maxHeartbeats 4000000 in
theorem rpieces_any (s : ByteArray) (w : World) (hs : s.size ≤ 1048576) :
    Calls Tryz.prog 35 #[.string s] w fun e w' => PcOut w.heap.size (L s) w e w' := by
  have hS0 := Lib.hid (rskip_any s 0 w (Nat.zero_le _) (by omega))
  go_enter Tryz.func35, Tryz.ntmps35
  go_wp2_with fail
  refine hS0.out.mono ?_
  rintro e w1 ⟨rfl, hw1⟩
  rw [hw1]; clear hw1 w1 hS0
  rw [List.drop_zero, Nat.zero_add]
  have hsk := skD_le (L s) 0 false
  go_wp2_with fail
  go_loopw [4, 5] (fun v4 v5 wr => ∃ ps k, v5 = .int .i64 ((k : Nat) : Int) ∧ PcI w.heap.size (L s) v4 ps k w wr) (fun _ v5 _ => s.size - (intOf v5).toNat)
  case atStart => exact ⟨[], _, rfl, OwnP.nil (Below.refl _ _) (Nat.le_refl _), hsk, by rw [pcs_A]; simp, Nat.zero_le _, fun x hx => by cases hx⟩
  case round =>
    clear hsk
    rename_i v4 v5
    obtain ⟨ps, k, rfl, hI⟩ := hrel
    have hkl := hI.le
    rw [L_length] at hkl
    by_cases hlt : k < s.size
    · have ea := get_bt s k hlt
      have hc8 := bt_lt (L s) k
      have hL := Lib.hid (fun W => risLetter_any (bt (L s) k) W)
      have hD := Lib.hid (fun W => risDigit_any (bt (L s) k) W)
      have q43 := byte_test (bt (L s) k) 43 43 rfl
      have q45 := byte_test (bt (L s) k) 45 45 rfl
      have q44 := neq_test (bt (L s) k) 44 44 rfl
      have q58 := neq_test (bt (L s) k) 58 58 rfl
      have hRn := Lib.hid (fun W i d (hi : i ≤ s.size) => rrun_any s i d W hi (by omega))
      have hSk := Lib.hid (fun W i (hi : i ≤ s.size) => rskip_any s i W hi (by omega))
      have HI := Lib.hid hI
      clear hI
      cases h0 : isLet (bt (L s) k) with
      | true =>
        rw [h0] at hL
        obtain ⟨cK, cN, cA⟩ := rcut_let (L s) k hlt h0
        obtain ⟨en, hen⟩ : ∃ en, en = k + (rnN false ((L s).drop k)) := ⟨_, rfl⟩
        have hnl := cutN_le ((L s).drop k)
        rw [cN, List.length_drop, L_length] at hnl
        have hkn : 1 ≤ rnN false ((L s).drop k) := by have := cutN_pos ((L s).drop k) (by rw [cK]; decide); rw [cN] at this; exact this
        have hel : en ≤ s.size := by omega
        have hke : k < en := by omega
        have helI : (en : Int) ≤ (s.size : Int) := by omega
        have hkeI : (k : Int) ≤ (en : Int) := by omega
        have he0 : (0 : Int) ≤ (en : Int) := by omega
        have HTx : Hid (s.extract k en = S (((L s).drop k).take (rnN false ((L s).drop k)))) := Lib.hid (by rw [extract_S, hen, Nat.add_sub_cancel_left])
        have HLen : Hid (ps.length + 1 ≤ 1099511627776) := Lib.hid (by have := HI.out.few; omega)
        have HNx := Lib.hid (fun v2 w2 hown2 => HI.out.next (v' := v2) (w' := w2) cK cN (by decide) (by decide) hen ⟨fun h => absurd h (by decide), fun _ => cA⟩ hown2)
        have hS1 := Lib.hid (fun W => rskip_any s en W hel (by omega))
        obtain ⟨kn, hkn2⟩ : ∃ kn, kn = en + skD ((L s).drop en) 0 false := ⟨_, rfl⟩
        rw [← hkn2] at HNx hS1
        have hkk : k < kn := by omega
        have hks := skD_le ((L s).drop en) 0 false
        rw [List.length_drop, L_length] at hks
        have hkns : kn ≤ s.size := by omega
        have hR1 : Hid (∀ W, Calls Tryz.prog 58 #[.string s, .int .i64 (k : Int), .bool false] W fun e w' => e = .returned (.int .i64 (en : Int)) ∧ w' = W) := Lib.hid (fun W => by rw [hen]; exact hRn.out W k false hkl)
        clear hnl hkn hks hkn2
        clear q43 q45 q44 q58 hD hen cK cN cA h0
        go_upto_region 21 with (first | (go_at_call 57; refine (hL.out _).mono ?_; rintro e w' ⟨rfl, hw'⟩; rw [hw']; clear hw' w') | (go_at_call 58; refine (hR1.out _).mono ?_; rintro e w' ⟨rfl, hw'⟩; rw [hw']; clear hw' w'))
        go_wp2_with (first | (at_builtin; refine appPc rfl _ _ rfl (1, ((L s).drop k).take (rnN false ((L s).drop k))) _ _ rfl HTx.out (HI.out.own.alloc _) rfl _ rfl (by simp) HLen.out ?_; intro v2 w2 hown2) | (go_at_call 56; refine (hS1.out _).mono ?_; rintro e w' ⟨rfl, hw'⟩; rw [hw']; clear hw' w'))
        go_roundw
        case rel => exact ⟨_, kn, rfl, HNx.out _ _ hown2⟩
        case measure => simp [intOf]; omega
      | false =>
        rw [h0] at hL
        cases h1 : isDig (bt (L s) k) with
        | true =>
          rw [h1] at hD
          obtain ⟨cK, cN, cA, cB⟩ := rcut_dig (L s) k hlt h0 h1
          obtain ⟨en, hen⟩ : ∃ en, en = k + (rnN true ((L s).drop k)) := ⟨_, rfl⟩
          have hnl := cutN_le ((L s).drop k)
          rw [cN, List.length_drop, L_length] at hnl
          have hkn : 1 ≤ rnN true ((L s).drop k) := by have := cutN_pos ((L s).drop k) (by rw [cK]; decide); rw [cN] at this; exact this
          have hel : en ≤ s.size := by omega
          have hke : k < en := by omega
          have helI : (en : Int) ≤ (s.size : Int) := by omega
          have hkeI : (k : Int) ≤ (en : Int) := by omega
          have he0 : (0 : Int) ≤ (en : Int) := by omega
          have HTx : Hid (s.extract k en = S (((L s).drop k).take (rnN true ((L s).drop k)))) := Lib.hid (by rw [extract_S, hen, Nat.add_sub_cancel_left])
          have HLen : Hid (ps.length + 1 ≤ 1099511627776) := Lib.hid (by have := HI.out.few; omega)
          have HNx := Lib.hid (fun v2 w2 hown2 => HI.out.next (v' := v2) (w' := w2) cK cN (by decide) (by decide) hen ⟨fun _ => ⟨cA, cB⟩, fun h => absurd h (by decide)⟩ hown2)
          have hS1 := Lib.hid (fun W => rskip_any s en W hel (by omega))
          obtain ⟨kn, hkn2⟩ : ∃ kn, kn = en + skD ((L s).drop en) 0 false := ⟨_, rfl⟩
          rw [← hkn2] at HNx hS1
          have hkk : k < kn := by omega
          have hks := skD_le ((L s).drop en) 0 false
          rw [List.length_drop, L_length] at hks
          have hkns : kn ≤ s.size := by omega
          have hR1 : Hid (∀ W, Calls Tryz.prog 58 #[.string s, .int .i64 (k : Int), .bool true] W fun e w' => e = .returned (.int .i64 (en : Int)) ∧ w' = W) := Lib.hid (fun W => by rw [hen]; exact hRn.out W k true hkl)
          clear hnl hkn hks hkn2
          clear q43 q45 q44 q58 hen cK cN cA cB h0 h1
          go_upto_region 21 with (first | (go_at_call 57; refine (hL.out _).mono ?_; rintro e w' ⟨rfl, hw'⟩; rw [hw']; clear hw' w') | (go_at_call 59; refine (hD.out _).mono ?_; rintro e w' ⟨rfl, hw'⟩; rw [hw']; clear hw' w') | (go_at_call 58; refine (hR1.out _).mono ?_; rintro e w' ⟨rfl, hw'⟩; rw [hw']; clear hw' w'))
          go_wp2_with (first | (at_builtin; refine appPc rfl _ _ rfl (2, ((L s).drop k).take (rnN true ((L s).drop k))) _ _ rfl HTx.out (HI.out.own.alloc _) rfl _ rfl (by simp) HLen.out ?_; intro v2 w2 hown2) | (go_at_call 56; refine (hS1.out _).mono ?_; rintro e w' ⟨rfl, hw'⟩; rw [hw']; clear hw' w'))
          go_roundw
          case rel => exact ⟨_, kn, rfl, HNx.out _ _ hown2⟩
          case measure => simp [intOf]; omega
        | false =>
          rw [h1] at hD
          cases h43 : (bt (L s) k == 43) with
          | true =>
            rw [h43] at q43
            obtain ⟨cN, cP, cZ⟩ := rcut_sign (L s) k hlt h0 h1 (.inl (by simpa using h43))
            by_cases hz : rnN true ((L s).drop (k + 1)) = 0
            · have hk1I : (k : Int) + 1 = ((k + 1 : Nat) : Int) := by omega
              obtain ⟨k1, hk1⟩ : ∃ k1, k1 = k + 1 := ⟨_, rfl⟩
              have hkk : (k : Int) + 1 = (k1 : Int) := by omega
              have hR1 : Hid (∀ W, Calls Tryz.prog 58 #[.string s, .int .i64 (k1 : Int), .bool true] W fun e w' => e = .returned (.int .i64 (k1 : Int)) ∧ w' = W) := Lib.hid (fun W => by have := hRn.out W k1 true (by omega); rw [hk1, hz, Nat.add_zero] at this; rw [hk1]; exact this)
              have hbad := HI.out.bad (cZ hz)
              have HBad := Lib.hid hbad
              clear hbad
              clear hz cZ cP cN h0 h1 h43 hk1I hk1
              go_wp2_with (first | (go_at_call 57; refine (hL.out _).mono ?_; rintro e w' ⟨rfl, hw'⟩; rw [hw']; clear hw' w') | (go_at_call 59; refine (hD.out _).mono ?_; rintro e w' ⟨rfl, hw'⟩; rw [hw']; clear hw' w') | (go_at_call 58; refine (hR1.out _).mono ?_; rintro e w' ⟨rfl, hw'⟩; rw [hw']; clear hw' w'))
              go_ret2
              exact ⟨(HI.out.own.alloc _).below, .inl ⟨HBad.out, rfl⟩⟩
            · have cK := cP (by omega)
              obtain ⟨en, hen⟩ : ∃ en, en = k + (1 + rnN true ((L s).drop (k + 1))) := ⟨_, rfl⟩
              have hnl := cutN_le ((L s).drop k)
              rw [cN, List.length_drop, L_length] at hnl
              have hkn : 1 ≤ 1 + rnN true ((L s).drop (k + 1)) := by have := cutN_pos ((L s).drop k) (by rw [cK]; decide); rw [cN] at this; exact this
              have hel : en ≤ s.size := by omega
              have hke : k < en := by omega
              have helI : (en : Int) ≤ (s.size : Int) := by omega
              have hkeI : (k : Int) ≤ (en : Int) := by omega
              have he0 : (0 : Int) ≤ (en : Int) := by omega
              have HTx : Hid (s.extract k en = S (((L s).drop k).take (1 + rnN true ((L s).drop (k + 1))))) := Lib.hid (by rw [extract_S, hen, Nat.add_sub_cancel_left])
              have HLen : Hid (ps.length + 1 ≤ 1099511627776) := Lib.hid (by have := HI.out.few; omega)
              have HNx := Lib.hid (fun v2 w2 hown2 => HI.out.next (v' := v2) (w' := w2) cK cN (by decide) (by decide) hen ⟨fun h => absurd h (by decide), fun h => absurd h (by decide)⟩ hown2)
              have hS1 := Lib.hid (fun W => rskip_any s en W hel (by omega))
              obtain ⟨kn, hkn2⟩ : ∃ kn, kn = en + skD ((L s).drop en) 0 false := ⟨_, rfl⟩
              rw [← hkn2] at HNx hS1
              have hkk : k < kn := by omega
              have hks := skD_le ((L s).drop en) 0 false
              rw [List.length_drop, L_length] at hks
              have hkns : kn ≤ s.size := by omega
              obtain ⟨k1, hk1⟩ : ∃ k1, k1 = k + 1 := ⟨_, rfl⟩
              have hkk1 : (k : Int) + 1 = (k1 : Int) := by omega
              have hne : ((en : Int) == (k1 : Int)) = false := by rw [beq_eq_false_iff_ne]; omega
              have hR1 : Hid (∀ W, Calls Tryz.prog 58 #[.string s, .int .i64 (k1 : Int), .bool true] W fun e w' => e = .returned (.int .i64 (en : Int)) ∧ w' = W) := Lib.hid (fun W => by have := hRn.out W k1 true (by omega); rw [hk1] at this; rw [hen, hk1, ← Nat.add_assoc]; exact this)
              clear hnl hkn hks hkn2
              clear hz cZ cP cN cK h0 h1 h43 hen hk1
              go_upto_region 21 with (first | (go_at_call 57; refine (hL.out _).mono ?_; rintro e w' ⟨rfl, hw'⟩; rw [hw']; clear hw' w') | (go_at_call 59; refine (hD.out _).mono ?_; rintro e w' ⟨rfl, hw'⟩; rw [hw']; clear hw' w') | (go_at_call 58; refine (hR1.out _).mono ?_; rintro e w' ⟨rfl, hw'⟩; rw [hw']; clear hw' w'))
              go_wp2_with (first | (at_builtin; refine appPc rfl _ _ rfl (3, ((L s).drop k).take (1 + rnN true ((L s).drop (k + 1)))) _ _ rfl HTx.out (HI.out.own.alloc _) rfl _ rfl (by simp) HLen.out ?_; intro v2 w2 hown2) | (go_at_call 56; refine (hS1.out _).mono ?_; rintro e w' ⟨rfl, hw'⟩; rw [hw']; clear hw' w'))
              go_roundw
              case rel => exact ⟨_, kn, rfl, HNx.out _ _ hown2⟩
              case measure => simp [intOf]; omega
          | false =>
            rw [h43] at q43
            cases h45 : (bt (L s) k == 45) with
            | true =>
              rw [h45] at q45
              obtain ⟨cN, cP, cZ⟩ := rcut_sign (L s) k hlt h0 h1 (.inr (by simpa using h45))
              by_cases hz : rnN true ((L s).drop (k + 1)) = 0
              · have hk1I : (k : Int) + 1 = ((k + 1 : Nat) : Int) := by omega
                obtain ⟨k1, hk1⟩ : ∃ k1, k1 = k + 1 := ⟨_, rfl⟩
                have hkk : (k : Int) + 1 = (k1 : Int) := by omega
                have hR1 : Hid (∀ W, Calls Tryz.prog 58 #[.string s, .int .i64 (k1 : Int), .bool true] W fun e w' => e = .returned (.int .i64 (k1 : Int)) ∧ w' = W) := Lib.hid (fun W => by have := hRn.out W k1 true (by omega); rw [hk1, hz, Nat.add_zero] at this; rw [hk1]; exact this)
                have hbad := HI.out.bad (cZ hz)
                have HBad := Lib.hid hbad
                clear hbad
                clear hz cZ cP cN h0 h1 h43 hk1I h45 hk1
                go_wp2_with (first | (go_at_call 57; refine (hL.out _).mono ?_; rintro e w' ⟨rfl, hw'⟩; rw [hw']; clear hw' w') | (go_at_call 59; refine (hD.out _).mono ?_; rintro e w' ⟨rfl, hw'⟩; rw [hw']; clear hw' w') | (go_at_call 58; refine (hR1.out _).mono ?_; rintro e w' ⟨rfl, hw'⟩; rw [hw']; clear hw' w'))
                go_ret2
                exact ⟨(HI.out.own.alloc _).below, .inl ⟨HBad.out, rfl⟩⟩
              · have cK := cP (by omega)
                obtain ⟨en, hen⟩ : ∃ en, en = k + (1 + rnN true ((L s).drop (k + 1))) := ⟨_, rfl⟩
                have hnl := cutN_le ((L s).drop k)
                rw [cN, List.length_drop, L_length] at hnl
                have hkn : 1 ≤ 1 + rnN true ((L s).drop (k + 1)) := by have := cutN_pos ((L s).drop k) (by rw [cK]; decide); rw [cN] at this; exact this
                have hel : en ≤ s.size := by omega
                have hke : k < en := by omega
                have helI : (en : Int) ≤ (s.size : Int) := by omega
                have hkeI : (k : Int) ≤ (en : Int) := by omega
                have he0 : (0 : Int) ≤ (en : Int) := by omega
                have HTx : Hid (s.extract k en = S (((L s).drop k).take (1 + rnN true ((L s).drop (k + 1))))) := Lib.hid (by rw [extract_S, hen, Nat.add_sub_cancel_left])
                have HLen : Hid (ps.length + 1 ≤ 1099511627776) := Lib.hid (by have := HI.out.few; omega)
                have HNx := Lib.hid (fun v2 w2 hown2 => HI.out.next (v' := v2) (w' := w2) cK cN (by decide) (by decide) hen ⟨fun h => absurd h (by decide), fun h => absurd h (by decide)⟩ hown2)
                have hS1 := Lib.hid (fun W => rskip_any s en W hel (by omega))
                obtain ⟨kn, hkn2⟩ : ∃ kn, kn = en + skD ((L s).drop en) 0 false := ⟨_, rfl⟩
                rw [← hkn2] at HNx hS1
                have hkk : k < kn := by omega
                have hks := skD_le ((L s).drop en) 0 false
                rw [List.length_drop, L_length] at hks
                have hkns : kn ≤ s.size := by omega
                obtain ⟨k1, hk1⟩ : ∃ k1, k1 = k + 1 := ⟨_, rfl⟩
                have hkk1 : (k : Int) + 1 = (k1 : Int) := by omega
                have hne : ((en : Int) == (k1 : Int)) = false := by rw [beq_eq_false_iff_ne]; omega
                have hR1 : Hid (∀ W, Calls Tryz.prog 58 #[.string s, .int .i64 (k1 : Int), .bool true] W fun e w' => e = .returned (.int .i64 (en : Int)) ∧ w' = W) := Lib.hid (fun W => by have := hRn.out W k1 true (by omega); rw [hk1] at this; rw [hen, hk1, ← Nat.add_assoc]; exact this)
                clear hnl hkn hks hkn2
                clear hz cZ cP cN cK h0 h1 h43 h45 hen hk1
                go_upto_region 21 with (first | (go_at_call 57; refine (hL.out _).mono ?_; rintro e w' ⟨rfl, hw'⟩; rw [hw']; clear hw' w') | (go_at_call 59; refine (hD.out _).mono ?_; rintro e w' ⟨rfl, hw'⟩; rw [hw']; clear hw' w') | (go_at_call 58; refine (hR1.out _).mono ?_; rintro e w' ⟨rfl, hw'⟩; rw [hw']; clear hw' w'))
                go_wp2_with (first | (at_builtin; refine appPc rfl _ _ rfl (3, ((L s).drop k).take (1 + rnN true ((L s).drop (k + 1)))) _ _ rfl HTx.out (HI.out.own.alloc _) rfl _ rfl (by simp) HLen.out ?_; intro v2 w2 hown2) | (go_at_call 56; refine (hS1.out _).mono ?_; rintro e w' ⟨rfl, hw'⟩; rw [hw']; clear hw' w'))
                go_roundw
                case rel => exact ⟨_, kn, rfl, HNx.out _ _ hown2⟩
                case measure => simp [intOf]; omega
            | false =>
              rw [h45] at q45
              obtain ⟨cN, c44, c58, c6⟩ := rcut_mark (L s) k hlt h0 h1 (by simpa using h43) (by simpa using h45)
              cases h44 : (bt (L s) k == 44) with
              | true =>
                rw [h44] at q44
                have cK := c44 (by simpa using h44)
                have kb4 : ((bt (L s) k).toNat : Int) = 44 := by rw [show bt (L s) k = 44 by simpa using h44]; rfl
                obtain ⟨en, hen⟩ : ∃ en, en = k + (1) := ⟨_, rfl⟩
                have hnl := cutN_le ((L s).drop k)
                rw [cN, List.length_drop, L_length] at hnl
                have hkn : 1 ≤ 1 := by have := cutN_pos ((L s).drop k) (by rw [cK]; decide); rw [cN] at this; exact this
                have hel : en ≤ s.size := by omega
                have hke : k < en := by omega
                have helI : (en : Int) ≤ (s.size : Int) := by omega
                have hkeI : (k : Int) ≤ (en : Int) := by omega
                have he0 : (0 : Int) ≤ (en : Int) := by omega
                have HTx : Hid (s.extract k en = S (((L s).drop k).take (1))) := Lib.hid (by rw [extract_S, hen, Nat.add_sub_cancel_left])
                have HLen : Hid (ps.length + 1 ≤ 1099511627776) := Lib.hid (by have := HI.out.few; omega)
                have HNx := Lib.hid (fun v2 w2 hown2 => HI.out.next (v' := v2) (w' := w2) cK cN (by decide) (by decide) hen ⟨fun h => absurd h (by decide), fun h => absurd h (by decide)⟩ hown2)
                have hS1 := Lib.hid (fun W => rskip_any s en W hel (by omega))
                obtain ⟨kn, hkn2⟩ : ∃ kn, kn = en + skD ((L s).drop en) 0 false := ⟨_, rfl⟩
                rw [← hkn2] at HNx hS1
                have hkk : k < kn := by omega
                have hks := skD_le ((L s).drop en) 0 false
                rw [List.length_drop, L_length] at hks
                have hkns : kn ≤ s.size := by omega
                clear hnl hkn hks hkn2
                have hek : (k : Int) + 1 = (en : Int) := by omega
                have HKB := Lib.hid kb4
                clear cN c44 c58 c6 cK h0 h1 h43 h45 h44 hen kb4
                go_upto_region 21 with (first | (go_at_call 57; refine (hL.out _).mono ?_; rintro e w' ⟨rfl, hw'⟩; rw [hw']; clear hw' w') | (go_at_call 59; refine (hD.out _).mono ?_; rintro e w' ⟨rfl, hw'⟩; rw [hw']; clear hw' w'))
                go_wp2_with (first | (at_builtin; refine appPc rfl _ _ rfl (4, ((L s).drop k).take (1)) _ _ HKB.out HTx.out (HI.out.own.alloc _) rfl _ rfl (by simp) HLen.out ?_; intro v2 w2 hown2) | (go_at_call 56; refine (hS1.out _).mono ?_; rintro e w' ⟨rfl, hw'⟩; rw [hw']; clear hw' w'))
                go_roundw
                case rel => exact ⟨_, kn, rfl, HNx.out _ _ hown2⟩
                case measure => simp [intOf]; omega
              | false =>
                rw [h44] at q44
                cases h58 : (bt (L s) k == 58) with
                | true =>
                  rw [h58] at q58
                  have cK := c58 (by simpa using h58)
                  have kb5 : ((bt (L s) k).toNat : Int) = 58 := by rw [show bt (L s) k = 58 by simpa using h58]; rfl
                  obtain ⟨en, hen⟩ : ∃ en, en = k + (1) := ⟨_, rfl⟩
                  have hnl := cutN_le ((L s).drop k)
                  rw [cN, List.length_drop, L_length] at hnl
                  have hkn : 1 ≤ 1 := by have := cutN_pos ((L s).drop k) (by rw [cK]; decide); rw [cN] at this; exact this
                  have hel : en ≤ s.size := by omega
                  have hke : k < en := by omega
                  have helI : (en : Int) ≤ (s.size : Int) := by omega
                  have hkeI : (k : Int) ≤ (en : Int) := by omega
                  have he0 : (0 : Int) ≤ (en : Int) := by omega
                  have HTx : Hid (s.extract k en = S (((L s).drop k).take (1))) := Lib.hid (by rw [extract_S, hen, Nat.add_sub_cancel_left])
                  have HLen : Hid (ps.length + 1 ≤ 1099511627776) := Lib.hid (by have := HI.out.few; omega)
                  have HNx := Lib.hid (fun v2 w2 hown2 => HI.out.next (v' := v2) (w' := w2) cK cN (by decide) (by decide) hen ⟨fun h => absurd h (by decide), fun h => absurd h (by decide)⟩ hown2)
                  have hS1 := Lib.hid (fun W => rskip_any s en W hel (by omega))
                  obtain ⟨kn, hkn2⟩ : ∃ kn, kn = en + skD ((L s).drop en) 0 false := ⟨_, rfl⟩
                  rw [← hkn2] at HNx hS1
                  have hkk : k < kn := by omega
                  have hks := skD_le ((L s).drop en) 0 false
                  rw [List.length_drop, L_length] at hks
                  have hkns : kn ≤ s.size := by omega
                  clear hnl hkn hks hkn2
                  have hek : (k : Int) + 1 = (en : Int) := by omega
                  have HKB := Lib.hid kb5
                  clear cN c44 c58 c6 cK h0 h1 h43 h45 h44 h58 hen kb5
                  go_upto_region 21 with (first | (go_at_call 57; refine (hL.out _).mono ?_; rintro e w' ⟨rfl, hw'⟩; rw [hw']; clear hw' w') | (go_at_call 59; refine (hD.out _).mono ?_; rintro e w' ⟨rfl, hw'⟩; rw [hw']; clear hw' w'))
                  go_wp2_with (first | (at_builtin; refine appPc rfl _ _ rfl (5, ((L s).drop k).take (1)) _ _ HKB.out HTx.out (HI.out.own.alloc _) rfl _ rfl (by simp) HLen.out ?_; intro v2 w2 hown2) | (go_at_call 56; refine (hS1.out _).mono ?_; rintro e w' ⟨rfl, hw'⟩; rw [hw']; clear hw' w'))
                  go_roundw
                  case rel => exact ⟨_, kn, rfl, HNx.out _ _ hown2⟩
                  case measure => simp [intOf]; omega
                | false =>
                  rw [h58] at q58
                  have hbad := HI.out.bad (c6 (by simpa using h44) (by simpa using h58))
                  have HBad := Lib.hid hbad
                  clear hbad
                  clear c6 c44 c58 cN h0 h1 h43 h45 h44 h58
                  go_wp2_with (first | (go_at_call 57; refine (hL.out _).mono ?_; rintro e w' ⟨rfl, hw'⟩; rw [hw']; clear hw' w') | (go_at_call 59; refine (hD.out _).mono ?_; rintro e w' ⟨rfl, hw'⟩; rw [hw']; clear hw' w'))
                  go_ret2
                  exact ⟨(HI.out.own.alloc _).below, .inl ⟨HBad.out, rfl⟩⟩
    · obtain rfl : k = s.size := by omega
      have hd := hI.done
      have ha := hI.own.at
      have hb := hI.own.below
      have hgd := hI.good
      have HE := Lib.hid (And.intro hd (And.intro ha (And.intro hb hgd)))
      clear hd ha hb hgd hI
      go_wp2
      go_ret2
      exact ⟨HE.out.2.2.1, .inr ⟨_, ps, HE.out.1, rfl, HE.out.2.1, HE.out.2.2.2⟩⟩

end Go.Proofs.YtckdmbeokajdjaaGreatDoor
