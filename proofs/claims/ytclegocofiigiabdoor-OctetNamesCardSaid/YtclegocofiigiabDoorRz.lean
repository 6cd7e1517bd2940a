/- postbagref1: unrun. -/
import Derived.Test.YtclegocofiigiabDoorRy
namespace Go.Proofs.YtclegocofiigiabDoor
open Go.RowKit Go.Shelf

theorem up2_pair (u : List UInt8) (f k : Nat) (h : k + 1 < u.length) (hh : hiB (vB u k) = true) (h3 : k + 3 < u.length) :
    up2 u (f + 1) k = (if 65536 + (vB u k - 55296) * 1024 + vB u (k + 2) - 56320 ≤ 1114111 then utfL (65536 + (vB u k - 55296) * 1024 + vB u (k + 2) - 56320) else []) ++ up2 u f (k + 4) := by
  rw [up2, if_pos h, if_pos ⟨hh, h3⟩]
theorem up2_one (u : List UInt8) (f k : Nat) (h : k + 1 < u.length) (hh : ¬ (hiB (vB u k) = true ∧ k + 3 < u.length)) : up2 u (f + 1) k = utfL (vB u k) ++ up2 u f (k + 2) := by
  rw [up2, if_pos h, if_neg hh]

theorem Own.lower {B0 B : Nat} {v : Value} {l : List UInt8} {W0 W1 w : World} (h : Own B v l W1 w) (hB : B0 ≤ B) (hb : Below B0 W0 W1) : Own B0 v l W0 w := by
  refine ⟨⟨h.row.1, ?_⟩, hb.trans (h.below.mono hB), Nat.le_trans hB h.base⟩
  rcases h.row.2 with hn | ⟨g, cap, cur, e, hg, rest⟩
  · exact .inl hn
  · exact .inr ⟨g, cap, cur, e, Nat.le_trans hB hg, rest⟩

set_option maxRecDepth 100000 in
set_option maxHeartbeats 4000000 in
theorem unrun_any (s : ByteArray) (w : World) (hs : s.size ≤ 100000) :
    Calls Tryd.prog 57 #[.string s] w fun e w' => ∃ v, e = .returned v ∧ Own w.heap.size v (unrunL (L s)) w w' := by
  have HR : Hid (unrunL (L s) = up2 (loose64 ((L s).map cms)) (loose64 ((L s).map cms)).length 0) := Lib.hid rfl
  have hlo : (loose64 ((L s).map cms)).length ≤ s.size := by
    have := Nat.le_trans (up_len_le (Lib.cut ((L s).map cms) [61]).1 mailL) (cut_le _ _)
    rw [List.length_map, L_length] at this
    exact this
  have kb := fun (W : World) (x : ByteArray) => run_bytes_of_string (P := Tryd.prog) W 9 44 5 x Tryd.underlying9 Tryd.underlying44 Tryd.underlying5
  have hLs := L_length s
  obtain ⟨p, hp⟩ : ∃ p, p = L s := ⟨_, rfl⟩
  rw [← hp] at HR hlo hLs
  have hsp : s = S p := by rw [hp]; rfl
  subst hsp
  clear hp
  go_enter Tryd.func57, Tryd.ntmps57
  go_wp2
  have HS0 := Lib.hid (RowB.startD w p (grownCap w (S p).size 0 5))
  clear kb
  generalize grownCap w (S p).size 0 5 = cp at *
  obtain ⟨w4, hw4⟩ : ∃ w4, w4 = (w.alloc (.cells (bytesRow (S p) cp) 5 ((bytesRow (S p) cp).size, (bytesRow (S p) cp).size + 1))).drew := ⟨_, rfl⟩
  have hb4 : Below w.heap.size w w4 := by rw [hw4]; exact ((Below.refl _ _).alloc (Nat.le_refl _) _).drew
  rw [← hw4] at HS0 ⊢
  clear hw4
  go_loopw [4] (fun i wr => ∃ k : Nat, k ≤ p.length ∧ i = .int .i64 k ∧ RowB w.heap.size (mid cms p k) wr ∧ Below w.heap.size w wr) (fun i _ => p.length - (intOf i).toNat)
  case atStart => exact ⟨0, Nat.zero_le _, rfl, HS0.out, hb4⟩
  case round =>
    clear hb4 HS0
    obtain ⟨k, hk, rfl, hrow, hbw⟩ := hrel
    by_cases hlt : k < p.length
    · have hcell := hrow.cell k (by rw [mid_len]; exact hlt)
      rw [mid_bt cms p k hlt] at hcell
      have c0 := bt_lt p k
      by_cases h44 : bt p k = 44
      · have hq : ((bt p k).toNat : Int) = 44 := by rw [h44]; rfl
        have hfz := hrow.frozen k (by rw [mid_len]; exact hlt)
        have HN : Hid (RowB w.heap.size (mid cms p (k + 1)) (wr.setCell ⟨w.heap.size, k, none⟩ (.int .u8 47))) := Lib.hid (by
          rw [← mid_set cms p k hlt, h44]
          exact hrow.set k 47 (by rw [mid_len]; exact hlt) 47 rfl)
        clear h44
        go_wp2
        go_roundw
        case rel => exact ⟨k + 1, by omega, by go_num, HN.out, hbw.setCell (Nat.le_refl _) _⟩
        case measure => simp [intOf]; omega
      · have hq : (((bt p k).toNat : Int) == 44) = false := by
          rw [beq_eq_false_iff_ne]; intro e; apply h44
          apply UInt8.toNat_inj.1
          have : (44 : UInt8).toNat = 44 := rfl
          omega
        have HN : Hid (RowB w.heap.size (mid cms p (k + 1)) wr) := Lib.hid (by
          rw [mid_same cms p k hlt (by unfold cms; rw [if_neg h44])]
          exact hrow)
        clear h44
        go_wp2
        go_roundw
        case rel => exact ⟨k + 1, by omega, by go_num, HN.out, hbw⟩
        case measure => simp [intOf]; omega
    · have hcv := hrow.back cp
      rw [mid_len, mid_end cms p k (by omega)] at hcv
      have hml : (p.map cms).length = p.length := List.length_map _
      clear hLs
      have hps : (S p).size = p.length := S_size p
      have hLo := Lib.hid (fun W => refLoose64_any (S (p.map cms)) W (by rw [S_size]; omega))
      rw [L_S] at hLo
      generalize loose64 (p.map cms) = U at *
      generalize p.map cms = m at *
      have hus : (S U).size = U.length := S_size U
      go_wp2_with (go_at_call 26; refine (hLo.out _).mono ?_; rintro e w1 ⟨rfl, hb1⟩)
      have q1 := hbw.trans (hb1.mono hbw.size)
      clear hcv hLo hrow hml
      go_loopw [6, 7] (fun v i wr => ∃ (k f : Nat) (o : List UInt8), k ≤ U.length + 1 ∧ i = .int .i64 k ∧ o.length ≤ 4 * k ∧ Hid (U.length ≤ k + f ∧ o ++ up2 U f k = unrunL p) ∧ Own w1.heap.size v o w1 wr) (fun _ i _ => U.length + 4 - (intOf i).toNat)
      case atStart => exact ⟨0, U.length, [], by omega, rfl, by simp, Lib.hid ⟨by omega, HR.out.symm⟩, Own.nil (Below.refl _ _) (Nat.le_refl _)⟩
      case round =>
        clear hb1 hbw
        obtain ⟨k, f, o, hk, rfl, hol, HF, hown⟩ := hrel
        by_cases hlt : k + 1 < U.length
        · obtain ⟨f, rfl⟩ : ∃ g, f = g + 1 := ⟨f - 1, by have := HF.out.1; omega⟩
          have hsz : (S U).size ≤ 100000 := by omega
          obtain ⟨k1, hK1⟩ : ∃ k1, k1 = k + 1 := ⟨_, rfl⟩
          have hk0 : k < (S U).size := by omega
          have hk1 : k1 < (S U).size := by omega
          have e0 := get_bt (S U) k hk0
          have e1 := get_bt (S U) k1 hk1
          rw [L_S] at e0 e1
          have z0 := bt_lt U k
          have z1 := bt_lt U k1
          have hw1 : IntKind.i64.wrap ((k : Int) + 1) = (k1 : Int) := by rw [IntKind.wrap_i64]; omega
          obtain ⟨A, hA⟩ : ∃ A : Int, A = ((bt U k).toNat : Int) := ⟨_, rfl⟩
          obtain ⟨B, hB⟩ : ∃ B : Int, B = ((bt U k1).toNat : Int) := ⟨_, rfl⟩
          have g0 : ((((S U)[k]'hk0).toNat : Nat) : Int) = A := by rw [e0, ← hA]
          have g1 : ((((S U)[k1]'hk1).toNat : Nat) : Int) = B := by rw [e1, ← hB]
          have HVB : Hid ((vB U k : Int) = 256 * A + B) := Lib.hid (by unfold vB; rw [← hK1]; omega)
          have a0 : 0 ≤ A := by omega
          have a1 : A < 256 := by omega
          have b0 : 0 ≤ B := by omega
          have b1 : B < 256 := by omega
          have hkk : (k : Int) + 1 < (U.length : Int) := by omega
          have HK1 := Lib.hid hK1
          clear e0 e1 z0 z1 hA hB hK1
          by_cases hh : hiB (vB U k) = true ∧ k + 3 < U.length
          · obtain ⟨hh, h3⟩ := hh
            have hv1 : 55296 ≤ 256 * A + B := by have := HVB.out; unfold hiB at hh; simp at hh; omega
            have hv2 : 256 * A + B < 56320 := by have := HVB.out; unfold hiB at hh; simp at hh; omega
            have HU := Lib.hid (up2_pair U f k hlt hh h3)
            obtain ⟨k2, hK2⟩ : ∃ k2, k2 = k + 2 := ⟨_, rfl⟩
            obtain ⟨k3, hK3⟩ : ∃ k3, k3 = k + 3 := ⟨_, rfl⟩
            have hk2 : k2 < (S U).size := by omega
            have hk3 : k3 < (S U).size := by omega
            have e2 := get_bt (S U) k2 hk2
            have e3 := get_bt (S U) k3 hk3
            rw [L_S] at e2 e3
            have z2 := bt_lt U k2
            have z3 := bt_lt U k3
            have hw2 : IntKind.i64.wrap ((k : Int) + 2) = (k2 : Int) := by rw [IntKind.wrap_i64]; omega
            have hw3 : IntKind.i64.wrap ((k : Int) + 3) = (k3 : Int) := by rw [IntKind.wrap_i64]; omega
            obtain ⟨C, hC⟩ : ∃ C : Int, C = ((bt U k2).toNat : Int) := ⟨_, rfl⟩
            obtain ⟨D, hD⟩ : ∃ D : Int, D = ((bt U k3).toNat : Int) := ⟨_, rfl⟩
            have g2 : ((((S U)[k2]'hk2).toNat : Nat) : Int) = C := by rw [e2, ← hC]
            have g3 : ((((S U)[k3]'hk3).toNat : Nat) : Int) = D := by rw [e3, ← hD]
            have c0 : 0 ≤ C := by omega
            have c1 : C < 256 := by omega
            have d0 : 0 ≤ D := by omega
            have d1 : D < 256 := by omega
            obtain ⟨n, hn⟩ : ∃ n, n = 65536 + (vB U k - 55296) * 1024 + vB U (k + 2) - 56320 := ⟨_, rfl⟩
            have hnv : (65536 + (256 * A + B - 55296) * 1024 + 256 * C + D - 56320 : Int) = (n : Int) := by
              have e4 : k + 2 + 1 = k3 := by omega
              have h1 := HVB.out
              rw [hn]
              unfold vB at h1 ⊢
              rw [e4, ← hK2]
              omega
            rw [← hn] at HU
            have hkt : (k : Int) + 3 < (U.length : Int) := by omega
            have HK2 := Lib.hid hK2
            have e5 : k + 4 = k2 + 2 := by omega
            rw [e5] at HU
            clear e5
            clear hh e2 e3 z2 z3 hC hD hK2 hK3 hn HVB
            by_cases hn9 : n ≤ 1114111
            · have hut := Lib.hid (fun W => utf_any (65536 + (256 * A + B - 55296) * 1024 + 256 * C + D - 56320) n W hnv hn9)
              have hx9 : 65536 + (256 * A + B - 55296) * 1024 + 256 * C + D - 56320 ≤ 1114111 := by omega
              have hx0 : 0 ≤ 65536 + (256 * A + B - 55296) * 1024 + 256 * C + D - 56320 := by omega
              have hnl := utf_len n
              have hlen : o.length + (utfL n).length ≤ 140737488355328 := by omega
              have HF2 : Hid (U.length ≤ (k2 + 2) + f ∧ (o ++ utfL n) ++ up2 U f (k2 + 2) = unrunL p) := Lib.hid ⟨by have := HF.out.1; have := HK2.out; omega, by
                have := HU.out
                rw [if_pos hn9] at this
                rw [List.append_assoc, ← this]; exact HF.out.2⟩
              have hol2 : (o ++ utfL n).length ≤ 4 * (k2 + 2) := by rw [List.length_append]; have := HK2.out; omega
              clear HU HF hnv hnl hn9
              generalize utfL n = x at *
              go_wp2
              go_quiet (fail)
              go_wp2
              go_quiet (fail)
              go_wp2_with (first | (go_at_call 72; refine (hut.out _).mono ?_; rintro e w2 ⟨v2, rfl, ho2⟩) | (at_builtin; go_loud (refine appR rfl _ _ rfl ((hown.drewN _).on ho2.below) ho2 rfl rfl hlen ?_; intro v3 w3 hown3)))
              go_roundw
              case rel => exact ⟨k2 + 2, f, o ++ x, by have := HK2.out; omega, by go_num, hol2, HF2, hown3⟩
              case measure => have := HK2.out; simp [intOf]; omega
            · have hx9 : ¬ (65536 + (256 * A + B - 55296) * 1024 + 256 * C + D - 56320 ≤ 1114111) := by omega
              have HF2 : Hid (U.length ≤ (k2 + 2) + f ∧ o ++ up2 U f (k2 + 2) = unrunL p) := Lib.hid ⟨by have := HF.out.1; have := HK2.out; omega, by
                have := HU.out
                rw [if_neg hn9, List.nil_append] at this
                rw [← this]; exact HF.out.2⟩
              clear HU HF hnv hn9
              go_wp2
              go_quiet (fail)
              go_wp2
              go_quiet (fail)
              go_wp2
              go_roundw
              case rel => exact ⟨k2 + 2, f, o, by have := HK2.out; omega, by go_num, by have := HK2.out; omega, HF2, hown.drewN _⟩
              case measure => have := HK2.out; simp [intOf]; omega
          · have HU := Lib.hid (up2_one U f k hlt hh)
            obtain ⟨n, hn⟩ : ∃ n, n = vB U k := ⟨_, rfl⟩
            have hnv : (256 * A + B : Int) = (n : Int) := by rw [hn]; exact HVB.out.symm
            have hn9 : n ≤ 1114111 := by omega
            have hut := Lib.hid (fun W => utf_any (256 * A + B) n W hnv hn9)
            have hnl := utf_len n
            have hlen : o.length + (utfL n).length ≤ 140737488355328 := by omega
            have HF2 : Hid (U.length ≤ (k + 2) + f ∧ (o ++ utfL n) ++ up2 U f (k + 2) = unrunL p) := Lib.hid ⟨by have := HF.out.1; omega, by rw [hn, List.append_assoc, ← HU.out]; exact HF.out.2⟩
            have hol2 : (o ++ utfL n).length ≤ 4 * (k + 2) := by rw [List.length_append]; omega
            have hcs : 256 * A + B < 55296 ∨ (55296 ≤ 256 * A + B ∧ 56320 ≤ 256 * A + B) ∨ (55296 ≤ 256 * A + B ∧ 256 * A + B < 56320 ∧ ¬ ((k : Int) + 3 < (U.length : Int))) := by
              by_cases c1 : 256 * A + B < 55296
              · exact .inl c1
              · by_cases c2 : 56320 ≤ 256 * A + B
                · exact .inr (.inl ⟨by omega, c2⟩)
                · refine .inr (.inr ⟨by omega, by omega, fun h => hh ⟨?_, by omega⟩⟩)
                  have := HVB.out
                  unfold hiB; simp; omega
            clear hh HU HF hn hnv HVB hnl hn9
            generalize utfL n = x at *
            rcases hcs with hcs | ⟨hcs, hct⟩ | ⟨hcs, hct, hcu⟩
            all_goals (
              go_wp2
              go_quiet (fail)
              go_wp2_with (first | (go_at_call 72; refine (hut.out _).mono ?_; rintro e w2 ⟨v2, rfl, ho2⟩) | (at_builtin; go_loud (refine appR rfl _ _ rfl ((hown.drewN _).on ho2.below) ho2 rfl rfl hlen ?_; intro v3 w3 hown3)))
              go_roundw
              case rel => exact ⟨k + 2, f, o ++ x, by omega, by go_num, hol2, HF2, hown3⟩
              case measure => simp [intOf]; omega)
        · have HE : Hid (o = unrunL p) := Lib.hid (by
            have := HF.out.2
            cases f with
            | zero => simpa [up2] using this
            | succ f => rw [up2, if_neg hlt] at this; simpa using this)
          clear HF
          go_wp2
          go_ret
          exact ⟨_, rfl, by rw [L_S, ← HE.out]; exact hown.lower q1.size q1⟩
end Go.Proofs.YtclegocofiigiabDoor
