/- postbagref1: FromWire. -/
import Derived.Test.YtclegocofiigiabDoorRz
namespace Go.Proofs.YtclegocofiigiabDoor
open Go.RowKit Go.Shelf

theorem dash_none : ∀ (p : List UInt8), (∀ c ∈ p, c ≠ 45) → dash p = none := by
  intro p
  induction p with
  | nil => intro _; rfl
  | cons c p ih => intro h; rw [dash, if_neg (h c (by simp)), ih (fun x hx => h x (by simp [hx]))]; rfl
theorem gs_other (l : List UInt8) (k : Nat) (h : k < l.length) (hc : bt l k ≠ 38) : gs (l.drop k) 0 = bt l k :: gs (l.drop (k + 1)) 0 := by
  rw [drop_cons l k h, gs, if_neg hc]
theorem gs_at (l : List UInt8) (k m : Nat) (hk : k < l.length) (hc : bt l k = 38) (h1 : k + 1 ≤ m) (h2 : m ≤ l.length) (hno : ∀ q, k + 1 ≤ q → q < m → bt l q ≠ 45) (hend : m = l.length ∨ (m < l.length ∧ bt l m = 45)) :
    gs (l.drop k) 0 = gp ((l.drop (k + 1)).take (m - (k + 1))) ++ gs (l.drop (m + 1)) 0 := by
  have e : l.drop (k + 1) = (l.drop (k + 1)).take (m - (k + 1)) ++ l.drop m := by
    have := List.take_append_drop (m - (k + 1)) (l.drop (k + 1))
    rw [List.drop_drop] at this
    have e2 : k + 1 + (m - (k + 1)) = m := by omega
    rw [e2] at this
    exact this.symm
  have hP : ∀ c ∈ (l.drop (k + 1)).take (m - (k + 1)), c ≠ 45 := by
    intro c hm
    obtain ⟨q, hq, hq2⟩ := List.getElem_of_mem hm
    have hl : q < m - (k + 1) := by rw [List.length_take, List.length_drop] at hq; omega
    rw [List.getElem_take, List.getElem_drop] at hq2
    have := hno (k + 1 + q) (by omega) (by omega)
    rw [bt_getElem l _ (by omega), hq2] at this
    exact this
  have hPl : ((l.drop (k + 1)).take (m - (k + 1))).length = m - (k + 1) := by rw [List.length_take, List.length_drop]; omega
  have hd : (dash (l.drop (k + 1))).getD (l.drop (k + 1)).length = m - (k + 1) := by
    rcases hend with h | ⟨h, hb⟩
    · have e3 : l.drop m = [] := List.drop_eq_nil_of_le (by omega)
      rw [e3, List.append_nil] at e
      rw [e, dash_none _ hP]
      exact hPl
    · rw [drop_cons l m h, hb] at e
      rw [e, dash_app _ _ hP, Option.getD_some]
      exact hPl
  rw [drop_cons l k hk, gs, if_pos hc, gs_skip, hd, List.drop_drop]
  have e4 : k + 1 + (m - (k + 1) + 1) = m + 1 := by omega
  rw [e4]
theorem gp_len (run : List UInt8) : (gp run).length ≤ 4 * run.length + 1 := by
  unfold gp
  split
  · simp
  · unfold unrunL
    have h1 := up2_len (loose64 (run.map cms)) (loose64 (run.map cms)).length 0
    have h2 := Nat.le_trans (up_len_le (Lib.cut (run.map cms) [61]).1 mailL) (cut_le _ _)
    rw [List.length_map] at h2
    change (loose64 (run.map cms)).length ≤ _ at h2
    omega

set_option maxHeartbeats 4000000 in
theorem refFromWire_any (s : ByteArray) (w : World) (hs : s.size ≤ 1000000) :
    Calls Tryd.prog 29 #[.string s] w fun e w' => e = .returned (.tuple #[.string (S (refFrom (L s)).1), .int .i64 (refFrom (L s)).2]) ∧ Below w.heap.size w w' := by
  have hLs := L_length s
  by_cases h1 : 4096 < s.size
  · have HR : Hid (refFrom (L s) = ([], 2)) := Lib.hid (by unfold refFrom; rw [if_pos (by omega)])
    go_enter Tryd.func29, Tryd.ntmps29
    go_wp2
    go_ret2
    exact ⟨by rw [HR.out]; rfl, Below.refl _ _⟩
  · have HR : Hid (refFrom (L s) = if wire (gs (withInbox (L s)) 0) = (withInbox (L s), 0) then (gs (withInbox (L s)) 0, 0) else ([], 11)) := Lib.hid (by unfold refFrom; rw [if_neg (by omega)])
    have hF := Lib.hid (fun W => First_any s W hs)
    have hTl := withInbox_len (L s)
    generalize withInbox (L s) = T at *
    have hts : (S T).size = T.length := S_size T
    have hT4 : T.length ≤ 5000 := by omega
    clear hTl
    go_enter Tryd.func29, Tryd.ntmps29
    go_wp2_with (go_at_call 56; refine (hF.out _).mono ?_; rintro e w1 ⟨rfl, hb1⟩)
    go_loopw [5, 6] (fun v i wr => ∃ (k : Nat) (o : List UInt8), k ≤ T.length + 1 ∧ i = .int .i64 k ∧ o.length ≤ 4 * k ∧ Hid (o ++ gs (T.drop k) 0 = gs T 0) ∧ Own w1.heap.size v o w1 wr) (fun _ i _ => T.length + 1 - (intOf i).toNat)
    case atStart => exact ⟨0, [], by omega, rfl, by simp, Lib.hid rfl, Own.nil (Below.refl _ _) (Nat.le_refl _)⟩
    case round =>
      obtain ⟨k, o, hk, rfl, hol, HG, hown⟩ := hrel
      by_cases hlt : k < T.length
      · have ea := get_bt (S T) k (by omega)
        rw [L_S] at ea
        have c0 := bt_lt T k
        by_cases h38 : bt T k = 38
        · have hq : (((bt T k).toNat : Int) != 38) = false := by rw [h38]; rfl
          have HAmp := Lib.hid h38
          clear h38
          go_wp2
          go_loop [7] (fun j => ∃ m : Nat, k + 1 ≤ m ∧ m ≤ T.length ∧ j = .int .i64 m ∧ Hid (∀ q, k + 1 ≤ q → q < m → bt T q ≠ 45)) (fun j => T.length - (intOf j).toNat)
          case atStart => exact ⟨k + 1, Nat.le_refl _, by omega, by go_num, Lib.hid (fun q h1 h2 => by omega)⟩
          case round =>
            obtain ⟨m, hm1, hm2, rfl, HQ⟩ := hrel
            by_cases hgo : m < T.length ∧ bt T m ≠ 45
            · obtain ⟨hlm, hnm⟩ := hgo
              have eb := get_bt (S T) m (by omega)
              rw [L_S] at eb
              have c1 := bt_lt T m
              have hq2 : (((bt T m).toNat : Int) != 45) = true := by
                rw [bne_iff_ne]; intro e; apply hnm
                apply UInt8.toNat_inj.1
                have : (45 : UInt8).toNat = 45 := rfl
                omega
              have HQ2 : Hid (∀ q, k + 1 ≤ q → q < m + 1 → bt T q ≠ 45) := Lib.hid (fun q h1 h2 => by
                by_cases e : q = m
                · subst e; exact hnm
                · exact HQ.out q h1 (by omega))
              clear hnm
              go_wp2
              go_round
              case rel => exact ⟨m + 1, by omega, by omega, by go_num, HQ2⟩
              case measure => simp [intOf]; omega
            · have hend : m = T.length ∨ (m < T.length ∧ bt T m = 45) := by
                by_cases e : m < T.length
                · right
                  refine ⟨e, ?_⟩
                  by_cases hpm : bt T m = 45
                  · exact hpm
                  · exact absurd ⟨e, hpm⟩ hgo
                · left; omega
              have HP := Lib.hid (gs_at T k m hlt HAmp.out hm1 hm2 HQ.out hend)
              have hpl : ((T.drop (k + 1)).take (m - (k + 1))).length = m - (k + 1) := by rw [List.length_take, List.length_drop]; omega
              have hx : (S T).extract (k + 1) m = S ((T.drop (k + 1)).take (m - (k + 1))) := by rw [extract_S, L_S]
              have HG2 : Hid ((o ++ gp ((T.drop (k + 1)).take (m - (k + 1)))) ++ gs (T.drop (m + 1)) 0 = gs T 0) := Lib.hid (by rw [List.append_assoc, ← HP.out]; exact HG.out)
              have hgl := gp_len ((T.drop (k + 1)).take (m - (k + 1)))
              rw [hpl] at hgl
              have hol2 : (o ++ gp ((T.drop (k + 1)).take (m - (k + 1)))).length ≤ 4 * (m + 1) := by rw [List.length_append]; omega
              have hgd : (decide ((m : Int) < (T.length : Int)) = false) ∨ (∃ h : m < (S T).size, (((bt T m).toNat : Int) != 45) = false) := by
                rcases hend with h | ⟨h, hb⟩
                · left; simp; omega
                · right; exact ⟨by omega, by rw [hb]; rfl⟩
              clear HP HQ HAmp HG hend hgo
              by_cases hmk : m = k + 1
              · have he : (T.drop (k + 1)).take (m - (k + 1)) = [] := by rw [hmk, Nat.sub_self]; rfl
                rw [he, show gp [] = [38] from rfl] at HG2 hol2
                have hmi : ((m : Int) == (k : Int) + 1) = true := by rw [beq_iff_eq]; omega
                have hlen : o.length + 1 ≤ 140737488355328 := by omega
                clear he hx hpl hgl hmk
                rcases hgd with hg1 | ⟨hg0, hg1⟩
                · have hnl : ¬ ((m : Int) < (T.length : Int)) := by simpa using hg1
                  clear hg1
                  go_wp2_with (at_builtin; go_loud (refine app1 rfl _ _ rfl _ 38 hown rfl rfl rfl hlen ?_; intro v3 w3 hown3))
                  go_roundw
                  case rel => exact ⟨m + 1, o ++ [38], by omega, by go_num, hol2, HG2, hown3⟩
                  case measure => simp [intOf]; omega
                · have eb := get_bt (S T) m hg0
                  rw [L_S] at eb
                  have c1 := bt_lt T m
                  go_wp2_with (at_builtin; go_loud (refine app1 rfl _ _ rfl _ 38 hown rfl rfl rfl hlen ?_; intro v3 w3 hown3))
                  go_roundw
                  case rel => exact ⟨m + 1, o ++ [38], by omega, by go_num, hol2, HG2, hown3⟩
                  case measure => simp [intOf]; omega
              · have hmi : ((m : Int) == (k : Int) + 1) = false := by rw [beq_eq_false_iff_ne]; omega
                have hgp : gp ((T.drop (k + 1)).take (m - (k + 1))) = unrunL ((T.drop (k + 1)).take (m - (k + 1))) := by
                  unfold gp; rw [if_neg (by intro e; rw [e] at hpl; simp at hpl; omega)]
                rw [hgp] at HG2 hol2 hgl
                have hU := Lib.hid (fun W => unrun_any (S ((T.drop (k + 1)).take (m - (k + 1)))) W (by rw [S_size]; omega))
                rw [L_S] at hU
                clear hgp hpl
                generalize (T.drop (k + 1)).take (m - (k + 1)) = run at *
                generalize unrunL run = y at *
                have hlen : o.length + y.length ≤ 140737488355328 := by omega
                rcases hgd with hg1 | ⟨hg0, hg1⟩
                · have hnl : ¬ ((m : Int) < (T.length : Int)) := by simpa using hg1
                  clear hg1
                  go_wp2_with (first | (go_at_call 57; refine (hU.out _).mono ?_; rintro e w2 ⟨v2, rfl, ho2⟩) | (at_builtin; go_loud (refine appR rfl _ _ rfl (hown.on ho2.below) ho2 rfl rfl hlen ?_; intro v3 w3 hown3)))
                  go_roundw
                  case rel => exact ⟨m + 1, o ++ y, by omega, by go_num, hol2, HG2, hown3⟩
                  case measure => simp [intOf]; omega
                · have eb := get_bt (S T) m hg0
                  rw [L_S] at eb
                  have c1 := bt_lt T m
                  go_wp2_with (first | (go_at_call 57; refine (hU.out _).mono ?_; rintro e w2 ⟨v2, rfl, ho2⟩) | (at_builtin; go_loud (refine appR rfl _ _ rfl (hown.on ho2.below) ho2 rfl rfl hlen ?_; intro v3 w3 hown3)))
                  go_roundw
                  case rel => exact ⟨m + 1, o ++ y, by omega, by go_num, hol2, HG2, hown3⟩
                  case measure => simp [intOf]; omega
        · have hq : (((bt T k).toNat : Int) != 38) = true := by
            rw [bne_iff_ne]; intro e; apply h38
            apply UInt8.toNat_inj.1
            have : (38 : UInt8).toNat = 38 := rfl
            omega
          have HG2 : Hid ((o ++ [bt T k]) ++ gs (T.drop (k + 1)) 0 = gs T 0) := Lib.hid (by rw [← HG.out, gs_other T k hlt h38]; simp)
          have hlen : o.length + 1 ≤ 140737488355328 := by omega
          clear h38 HG
          go_wp2_with (at_builtin; go_loud (refine app1 rfl _ _ rfl _ (bt T k) hown rfl rfl rfl hlen ?_; intro v3 w3 hown3))
          go_roundw
          case rel => exact ⟨k + 1, o ++ [bt T k], by omega, by go_num, by simp; omega, HG2, hown3⟩
          case measure => simp [intOf]; omega
      · rw [List.drop_eq_nil_of_le (by omega)] at HG
        have HE : Hid (o = gs T 0) := Lib.hid (by have := HG.out; simpa [gs] using this)
        rw [← HE.out] at HR
        clear HG HE
        have hcv := hown.back
        have hW := Lib.hid (fun W => refWire_any (S o) W (by rw [S_size]; omega))
        rw [L_S] at hW
        generalize wire o = X at *
        obtain ⟨x, c⟩ := X
        simp only at hW HR
        by_cases hc0 : c = 0
        · subst hc0
          by_cases hxT : x = T
          · subst hxT
            rw [if_pos rfl] at HR
            have hq : (!((S x).toList == (S x).toList)) = false := by simp
            go_wp2_with fail
            refine (hW.out _).mono ?_
            rintro e w2 ⟨rfl, hb2⟩
            have hcv2 := (hown.on hb2).back
            go_wp2
            go_ret2
            have q2 := hown.below.trans (hb2.mono hown.base)
            exact ⟨by rw [HR.out]; rfl, hb1.trans (q2.mono hb1.size)⟩
          · rw [if_neg (by intro e; exact hxT (congrArg Prod.fst e))] at HR
            have hq : (!((S x).toList == (S T).toList)) = true := by rw [toList_L, toList_L, L_S, L_S]; simpa using hxT
            clear hxT
            go_wp2_with fail
            refine (hW.out _).mono ?_
            rintro e w2 ⟨rfl, hb2⟩
            go_wp2
            go_ret2
            have q2 := hown.below.trans (hb2.mono hown.base)
            exact ⟨by rw [HR.out]; rfl, hb1.trans (q2.mono hb1.size)⟩
        · rw [if_neg (by intro e; exact hc0 (congrArg Prod.snd e))] at HR
          have hq : (c != 0) = true := by simpa using hc0
          clear hc0
          go_wp2_with fail
          refine (hW.out _).mono ?_
          rintro e w2 ⟨rfl, hb2⟩
          go_wp2
          go_ret2
          have q2 := hown.below.trans (hb2.mono hown.base)
          exact ⟨by rw [HR.out]; rfl, hb1.trans (q2.mono hb1.size)⟩
end Go.Proofs.YtclegocofiigiabDoor
