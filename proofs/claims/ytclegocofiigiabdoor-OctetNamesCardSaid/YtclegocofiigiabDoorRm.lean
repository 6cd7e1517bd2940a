/- postbagref1: First, Named, utf, units. -/
import Derived.Test.YtclegocofiigiabDoorRl
import Derived.Test.YtclegocofiigiabDoorNy
import Derived.Test.YtclegocofiigiabDoorBf
namespace Go.Proofs.YtclegocofiigiabDoor
open Go.RowKit Go.Shelf

theorem inbox5 (f rest : List UInt8) (h : same f inboxL = true) : (f ++ rest).take 5 = f ∧ (f ++ rest).drop 5 = rest ∧ 5 ≤ (f ++ rest).length := by
  have h5 := same_len5 f h
  exact ⟨List.take_left' h5, List.drop_left' h5, by simp; omega⟩
theorem first_lo (l : List UInt8) (h : l.length < 5) : withInbox l = l := by
  rcases inbox_parts l with h1 | ⟨f, rest, hf, hr, hrd, h1⟩
  · exact h1
  · have := (inbox5 f rest hf).2.2; rw [← hrd] at this; omega
theorem first_ne (l : List UInt8) (h : 5 < l.length) (hc : bt l 5 ≠ 47) : withInbox l = l := by
  rcases inbox_parts l with h1 | ⟨f, rest, hf, hr, hrd, h1⟩
  · exact h1
  · have h5 := same_len5 f hf
    rcases hr with rfl | ⟨b, rfl⟩
    · rw [hrd] at h; simp at h; omega
    · exfalso; apply hc; rw [hrd]; unfold bt; rw [List.getElem?_append_right (by omega), h5]; rfl
theorem first_mid (l : List UInt8) (h : l.length = 5 ∨ (5 < l.length ∧ bt l 5 = 47)) : withInbox l = if same (l.take 5) inboxL then inboxL ++ l.drop 5 else l := by
  have hr : l.drop 5 = [] ∨ ∃ b, l.drop 5 = 47 :: b := by
    rcases h with h | ⟨h, hc⟩
    · left; apply List.drop_eq_nil_of_le; omega
    · right; refine ⟨l.drop 6, ?_⟩; rw [drop_cons l 5 h, hc]
  cases hs : same (l.take 5) inboxL with
  | true =>
    have := inbox_app (l.take 5) (l.drop 5) hs hr
    rw [List.take_append_drop] at this
    rw [this]; rfl
  | false =>
    rcases inbox_parts l with h1 | ⟨f, rest, hf, hr, hrd, h1⟩
    · exact h1
    · have := (inbox5 f rest hf).1
      rw [← hrd] at this
      rw [this, hf] at hs; cases hs

set_option maxHeartbeats 400000 in
theorem First_any (s : ByteArray) (w : World) (hs : s.size ≤ 1000000) :
    Calls Tryd.prog 56 #[.string s] w fun e w' => e = .returned (.string (S (withInbox (L s)))) ∧ Below w.heap.size w w' := by
  have hLs := L_length s
  by_cases h5 : s.size < 5
  · have HR := Lib.hid (first_lo (L s) (by omega))
    go_enter Tryd.func56, Tryd.ntmps56
    go_wp2
    go_ret
    exact ⟨ret_str (by rw [HR.out]; rfl), Below.refl _ _⟩
  · have hx : s.extract 0 5 = S ((L s).take 5) := by rw [extract_S]; simp
    have hx2 : s.extract 5 s.size = S ((L s).drop 5) := by rw [extract_S, List.take_of_length_le (by rw [List.length_drop, L_length]; omega)]
    by_cases h6 : 5 < s.size
    · have ea := get_bt s 5 h6
      have c0 : (bt (L s) 5).toNat < 256 := bt_lt _ _
      by_cases h47 : bt (L s) 5 = 47
      · have hq : (((bt (L s) 5).toNat : Int) != 47) = false := by rw [h47]; rfl
        have hm := first_mid (L s) (.inr ⟨by omega, h47⟩)
        clear h47
        have hS := Lib.hid (fun W => refSame_any (S ((L s).take 5)) ⟨#[73, 78, 66, 79, 88]⟩ W (by rw [S_size]; simp; omega) (by decide))
        rw [L_S] at hS
        change Hid (∀ W, Calls _ _ _ W fun e w' => e = .returned (.bool (same ((L s).take 5) inboxL)) ∧ _) at hS
        cases hb : same ((L s).take 5) inboxL with
        | true =>
          rw [hb] at hm hS
          have HR := Lib.hid hm
          clear hm
          have hcat : (⟨#[73, 78, 66, 79, 88]⟩ : ByteArray) ++ S ((L s).drop 5) = S (inboxL ++ (L s).drop 5) := S_append inboxL _
          have hc : ¬ 9223372036854775807 < 5 + (S ((L s).drop 5)).size := by rw [S_size, List.length_drop]; omega
          go_enter Tryd.func56, Tryd.ntmps56
          go_wp2_with fail
          refine (hS.out _).mono ?_
          rintro e w1 ⟨rfl, hb1⟩
          go_wp2
          go_ret
          exact ⟨ret_str (by rw [HR.out]; rfl), hb1⟩
        | false =>
          rw [hb] at hm hS
          have HR := Lib.hid hm
          clear hm
          go_enter Tryd.func56, Tryd.ntmps56
          go_wp2_with fail
          refine (hS.out _).mono ?_
          rintro e w1 ⟨rfl, hb1⟩
          go_wp2
          go_ret
          exact ⟨ret_str (by rw [HR.out]; rfl), hb1⟩
      · have hq : (((bt (L s) 5).toNat : Int) != 47) = true := by
          rw [bne_iff_ne]; intro e; apply h47
          apply UInt8.toNat_inj.1
          have : (47 : UInt8).toNat = 47 := rfl
          omega
        have HR := Lib.hid (first_ne (L s) (by omega) h47)
        clear h47
        go_enter Tryd.func56, Tryd.ntmps56
        go_wp2
        go_ret
        exact ⟨ret_str (by rw [HR.out]; rfl), Below.refl _ _⟩
    · have h55 : s.size = 5 := by omega
      have hm := first_mid (L s) (.inl (by omega))
      have hS := Lib.hid (fun W => refSame_any (S ((L s).take 5)) ⟨#[73, 78, 66, 79, 88]⟩ W (by rw [S_size]; simp; omega) (by decide))
      rw [L_S] at hS
      change Hid (∀ W, Calls _ _ _ W fun e w' => e = .returned (.bool (same ((L s).take 5) inboxL)) ∧ _) at hS
      cases hb : same ((L s).take 5) inboxL with
      | true =>
        rw [hb] at hm hS
        have HR := Lib.hid hm
        clear hm
        have hcat : (⟨#[73, 78, 66, 79, 88]⟩ : ByteArray) ++ S ((L s).drop 5) = S (inboxL ++ (L s).drop 5) := S_append inboxL _
        have hc : ¬ 9223372036854775807 < 5 + (S ((L s).drop 5)).size := by rw [S_size, List.length_drop]; omega
        go_enter Tryd.func56, Tryd.ntmps56
        go_wp2_with fail
        refine (hS.out _).mono ?_
        rintro e w1 ⟨rfl, hb1⟩
        go_wp2
        go_ret
        exact ⟨ret_str (by rw [HR.out, if_pos trivial, List.drop_eq_nil_of_le (by omega)]; rfl), hb1⟩
      | false =>
        rw [hb] at hm hS
        have HR := Lib.hid hm
        clear hm
        go_enter Tryd.func56, Tryd.ntmps56
        go_wp2_with fail
        refine (hS.out _).mono ?_
        rintro e w1 ⟨rfl, hb1⟩
        go_wp2
        go_ret
        exact ⟨ret_str (by rw [HR.out]; rfl), hb1⟩

theorem nb_at (l : List UInt8) (k lv n : Nat) (h : k < l.length) : nb (l.drop k) lv n = if bt l k = 47 then endB lv n && nb (l.drop (k + 1)) (lv + 1) 0 else !badB (bt l k) && nb (l.drop (k + 1)) lv (n + 1) := by
  rw [drop_cons l k h, nb]
theorem endB_iff (lv n : Nat) : endB lv n = true ↔ (1 ≤ n ∧ n ≤ 32 ∧ lv ≤ 6) := by
  unfold endB fitsI; simp; omega
theorem badB_iff (c : UInt8) : badB c = true ↔ (c.toNat < 32 ∨ c.toNat = 127 ∨ c.toNat = 37 ∨ c.toNat = 42) := by
  unfold badB; simp; omega

set_option maxHeartbeats 1000000 in
theorem Named_any (s : ByteArray) (w : World) (hs : s.size ≤ 1000000) :
    Calls Tryd.prog 51 #[.string s] w fun e w' => e = .returned (.bool (named (L s))) ∧ Below w.heap.size w w' := by
  have hLs := L_length s
  have hF := Lib.hid (fun W => First_any s W hs)
  go_enter Tryd.func51, Tryd.ntmps51
  go_wp2
  go_loop [3, 4, 5] (fun lv n i => ∃ (k a b : Nat), k ≤ s.size + 1 ∧ i = .int .i64 k ∧ lv = .int .i64 a ∧ n = .int .i64 b ∧ a ≤ k + 1 ∧ b ≤ k ∧ Hid ((k ≤ s.size ∧ nb ((L s).drop k) a b = nb (L s) 1 0) ∨ (k = s.size + 1 ∧ nb (L s) 1 0 = true))) (fun _ _ i => s.size + 1 - (intOf i).toNat)
  case atStart => exact ⟨0, 1, 0, Nat.zero_le _, rfl, rfl, rfl, by omega, by omega, Lib.hid (.inl ⟨by omega, rfl⟩)⟩
  case round =>
    obtain ⟨k, a, b, hk, rfl, rfl, rfl, ha, hb, HI⟩ := hrel
    by_cases hk1 : k = s.size + 1
    · have HN : Hid (nb (L s) 1 0 = true) := Lib.hid (by rcases HI.out with ⟨h, _⟩ | ⟨_, h⟩; omega; exact h)
      clear HI
      go_wp2_with fail
      refine (hF.out _).mono ?_
      rintro e w1 ⟨rfl, hb1⟩
      go_wp2
      go_ret
      exact ⟨ret_bool (by rw [toList_L, toList_L, L_S]; unfold named; rw [HN.out, Bool.true_and]), hb1⟩
    · have hk2 : k ≤ s.size := by omega
      have hnb : nb ((L s).drop k) a b = nb (L s) 1 0 := by rcases HI.out with ⟨_, h⟩ | ⟨h, _⟩; exact h; omega
      clear HI
      by_cases hlt : k < s.size
      · have ea := get_bt s k hlt
        have c0 : (bt (L s) k).toNat < 256 := bt_lt _ _
        rw [nb_at (L s) k a b (by omega)] at hnb
        by_cases h47 : bt (L s) k = 47
        · have hq : ((bt (L s) k).toNat : Int) = 47 := by rw [h47]; rfl
          rw [if_pos h47] at hnb
          have hne : ((k : Int) == (s.size : Int)) = false := by rw [beq_eq_false_iff_ne]; omega
          cases he : endB a b with
          | true =>
            obtain ⟨h1, h2, h3⟩ := (endB_iff a b).1 he
            rw [he, Bool.true_and] at hnb
            have HN := Lib.hid hnb
            clear hnb he h47
            go_wp2
            go_round
            case rel => exact ⟨k + 1, a + 1, 0, by omega, by go_num, by go_num, rfl, by omega, by omega, Lib.hid (.inl ⟨by omega, HN.out⟩)⟩
            case measure => simp [intOf]; omega
          | false =>
            rw [he, Bool.false_and] at hnb
            have HN : Hid (named (L s) = false) := Lib.hid (by unfold named; rw [← hnb]; rfl)
            have hd : b < 1 ∨ (1 ≤ b ∧ 32 < b) ∨ (1 ≤ b ∧ b ≤ 32 ∧ 6 < a) := by
              have : ¬ (1 ≤ b ∧ b ≤ 32 ∧ a ≤ 6) := fun h => by rw [(endB_iff a b).2 h] at he; cases he
              omega
            clear hnb he h47
            rcases hd with h | ⟨h, h'⟩ | ⟨h, h', h''⟩
            all_goals (go_wp2; go_ret; exact ⟨ret_bool HN.out.symm, Below.refl _ _⟩)
        · have hq : (((bt (L s) k).toNat : Int) == 47) = false := by
            rw [beq_eq_false_iff_ne]; intro e; apply h47
            apply UInt8.toNat_inj.1
            have : (47 : UInt8).toNat = 47 := rfl
            omega
          rw [if_neg h47] at hnb
          have hne : ((k : Int) == (s.size : Int)) = false := by rw [beq_eq_false_iff_ne]; omega
          cases hbd : badB (bt (L s) k) with
          | true =>
            rw [hbd] at hnb
            have HN : Hid (named (L s) = false) := Lib.hid (by unfold named; rw [← hnb]; rfl)
            have hd := (badB_iff _).1 hbd
            clear hnb hbd h47
            have hd2 : ((bt (L s) k).toNat : Int) < 32 ∨ (¬ ((bt (L s) k).toNat : Int) < 32 ∧ (((bt (L s) k).toNat : Int) == 127) = true) ∨ (¬ ((bt (L s) k).toNat : Int) < 32 ∧ (((bt (L s) k).toNat : Int) == 127) = false ∧ (((bt (L s) k).toNat : Int) == 37) = true) ∨ (¬ ((bt (L s) k).toNat : Int) < 32 ∧ (((bt (L s) k).toNat : Int) == 127) = false ∧ (((bt (L s) k).toNat : Int) == 37) = false ∧ (((bt (L s) k).toNat : Int) == 42) = true) := by
              simp only [beq_iff_eq, beq_eq_false_iff_ne]; omega
            clear hd
            rcases hd2 with h1 | ⟨h1, h2⟩ | ⟨h1, h2, h3⟩ | ⟨h1, h2, h3, h4⟩
            all_goals (go_wp2; go_ret; exact ⟨ret_bool HN.out.symm, Below.refl _ _⟩)
          | false =>
            rw [hbd] at hnb
            have hd : ¬ _ := fun h => by rw [(badB_iff (bt (L s) k)).2 h] at hbd; cases hbd
            have h1 : ¬ ((bt (L s) k).toNat : Int) < 32 := by omega
            have h2 : (((bt (L s) k).toNat : Int) == 127) = false := by rw [beq_eq_false_iff_ne]; omega
            have h3 : (((bt (L s) k).toNat : Int) == 37) = false := by rw [beq_eq_false_iff_ne]; omega
            have h4 : (((bt (L s) k).toNat : Int) == 42) = false := by rw [beq_eq_false_iff_ne]; omega
            have HN := Lib.hid hnb
            clear hnb hbd h47 hd
            go_wp2
            go_round
            case rel => exact ⟨k + 1, a, b + 1, by omega, by go_num, rfl, by go_num, by omega, by omega, Lib.hid (.inl ⟨by omega, by rw [← HN.out]; simp⟩)⟩
            case measure => simp [intOf]; omega
      · have hks : k = s.size := by omega
        have hke : (k : Int) = (s.size : Int) := by omega
        rw [List.drop_eq_nil_of_le (by omega), nb] at hnb
        cases he : endB a b with
        | true =>
          obtain ⟨h1, h2, h3⟩ := (endB_iff a b).1 he
          rw [he] at hnb
          have HN := Lib.hid hnb
          clear hnb he
          go_wp2
          go_round
          case rel => exact ⟨k + 1, a + 1, 0, by omega, by go_num, by go_num, rfl, by omega, by omega, Lib.hid (.inr ⟨by omega, HN.out.symm⟩)⟩
          case measure => simp [intOf]; omega
        | false =>
          rw [he] at hnb
          have HN : Hid (named (L s) = false) := Lib.hid (by unfold named; rw [← hnb]; rfl)
          have hd : b < 1 ∨ (1 ≤ b ∧ 32 < b) ∨ (1 ≤ b ∧ b ≤ 32 ∧ 6 < a) := by
            have : ¬ (1 ≤ b ∧ b ≤ 32 ∧ a ≤ 6) := fun h => by rw [(endB_iff a b).2 h] at he; cases he
            omega
          clear hnb he
          rcases hd with h | ⟨h, h'⟩ | ⟨h, h', h''⟩
          all_goals (go_wp2; go_ret; exact ⟨ret_bool HN.out.symm, Below.refl _ _⟩)
end Go.Proofs.YtclegocofiigiabDoor
