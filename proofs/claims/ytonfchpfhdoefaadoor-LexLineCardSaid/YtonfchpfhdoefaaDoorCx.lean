/- lex: the statement's own functions announced and plain. -/
import Derived.Test.YtonfchpfhdoefaaDoorBw
namespace Go.Proofs.YtonfchpfhdoefaaDoor
open Go.RowKit

theorem bt_row {B : Nat} {g n cap : Nat} {l : List UInt8} {w : World} (h : w.ownsRow B 5 1 (.slice (some ⟨g, 0, none⟩) n cap) l.length (bc l)) (i : Nat) (hi : i < l.length) : w.cell? ⟨g, i, none⟩ = some (.int .u8 ((bt l i).toNat : Int)) := by
  have := h.cells (g := g) rfl i (.int .u8 ((bt l i).toNat : Int)) (by unfold bc bt; simp [hi])
  rw [Addr.add_lit] at this
  simpa using this
theorem row_shape {B : Nat} {v : Value} {l : List UInt8} {w : World} (h : w.ownsRow B 5 1 v l.length (bc l)) : (v = .slice none 0 0 ∧ l = []) ∨ ∃ g cap, v = .slice (some ⟨g, 0, none⟩) l.length cap ∧ l.length ≤ cap := by
  rcases h.2 with ⟨rfl, h0⟩ | ⟨g, cap, cur, rfl, hB, hh, h1, rest⟩
  · exact .inl ⟨rfl, List.eq_nil_of_length_eq_zero h0⟩
  · exact .inr ⟨g, cap, rfl, by omega⟩
theorem anned_at (b : List UInt8) (k : Nat) (hk : k ≤ b.length) (hd : ∀ j, k ≤ j → j < b.length → isDig (bt b j) = true) (he : k = 0 ∨ isDig (bt b (k - 1)) = false) : annedB b = (decide (0 < k) && decide (k < b.length) && (bt b (k - 1) == 123)) := by
  have hD : ∀ x ∈ (b.drop k).reverse, isDig x = true := by
    intro x hx
    rw [List.mem_reverse] at hx
    obtain ⟨i, hi, rfl⟩ := List.mem_iff_getElem.1 hx
    rw [List.length_drop] at hi
    have := hd (k + i) (by omega) (by omega)
    unfold bt at this
    rw [List.getElem?_eq_getElem (by omega)] at this
    rw [List.getElem_drop]
    exact this
  rcases Nat.eq_zero_or_pos k with h0 | h0
  · subst h0
    rw [List.drop_zero] at hD
    unfold annedB
    have : b.reverse.dropWhile isDig = [] := by
      have h := List.takeWhile_append_dropWhile (p := isDig) (l := b.reverse)
      rw [tw_id b.reverse (List.all_eq_true.2 hD)] at h
      have h2 := congrArg List.length h
      rw [List.length_append] at h2
      exact List.eq_nil_of_length_eq_zero (by omega)
    rw [this]
    simp
  · have hx : isDig (bt b (k - 1)) = false := by
      rcases he with he | he
      · omega
      · exact he
    have hs : b.reverse = (b.drop k).reverse ++ bt b (k - 1) :: (b.take (k - 1)).reverse := by
      have e1 : b.take k = b.take (k - 1) ++ [bt b (k - 1)] := by
        have := one_at b (k - 1) (by omega)
        rw [show k - 1 + 1 = k by omega] at this
        exact this
      conv => lhs; rw [← List.take_append_drop k b, e1]
      simp
    have h1 : b.reverse.takeWhile isDig = (b.drop k).reverse := by
      rw [hs]
      exact tw_of _ _ hD (fun c q h => by injection h with h _; rw [← h]; exact hx)
    have h2 : b.reverse.dropWhile isDig = bt b (k - 1) :: (b.take (k - 1)).reverse := by
      have := List.takeWhile_append_dropWhile (p := isDig) (l := b.reverse)
      rw [h1] at this
      rw [hs] at this
      rw [hs]
      exact List.append_cancel_left this
    unfold annedB
    rw [h1, h2]
    have e : (b.drop k).reverse.isEmpty = !decide (k < b.length) := by
      by_cases hlt : k < b.length
      · rw [decide_eq_true hlt]
        cases hh : (b.drop k).reverse with
        | nil =>
          have := congrArg List.length hh
          simp at this
          omega
        | cons a q => rfl
      · rw [decide_eq_false hlt, List.drop_of_length_le (by omega)]
        rfl
    rw [e, decide_eq_true h0]
    simp
set_option maxRecDepth 100000 in
set_option maxHeartbeats 4000000 in
theorem announced_any (B : Nat) (v : Value) (b : List UInt8) (w : World) (h : w.ownsRow B 5 1 v b.length (bc b)) (hb : b.length ≤ 140737488355328) :
    Calls Tryd.prog 34 #[v] w fun e w' => e = .returned (.bool (annedB b)) ∧ w' = w := by
  rcases row_shape h with ⟨rfl, rfl⟩ | ⟨g, cap, rfl, hcap⟩
  · have hA : annedB [] = false := rfl
    rw [hA]
    go_enter Tryd.func34, Tryd.ntmps34
    go_wp2_with fail
    go_loop [3] (fun a => a = .int .i64 0) (fun _ => 0)
    case atStart => rfl
    case round =>
      subst hrel
      go_wp2_with fail
      go_ret
      exact ⟨rfl, rfl⟩
  · have HC := Lib.hid (fun i hi => bt_row h i hi)
    have HA := Lib.hid (anned_at b)
    clear h
    go_enter Tryd.func34, Tryd.ntmps34
    go_wp2_with fail
    go_loop [3] (fun a => ∃ k : Nat, k ≤ b.length ∧ a = .int .i64 (k : Int) ∧ Hid (∀ j, k ≤ j → j < b.length → isDig (bt b j) = true)) (fun a => (intOf a).toNat)
    case atStart => exact ⟨b.length, Nat.le_refl _, rfl, Lib.hid (fun j h1 h2 => absurd h2 (by omega))⟩
    case round =>
      obtain ⟨k, hk, rfl, HI⟩ := hrel
      cases k with
      | zero =>
        have HF := Lib.hid (HA.out 0 hk HI.out (.inl rfl))
        go_wp2_with fail
        go_ret
        exact ⟨ret_bool (by rw [HF.out]; rfl), rfl⟩
      | succ k =>
        have hc := HC.out k (by omega)
        have h256 := bt_lt b k
        have hk1 : ((k + 1 : Nat) : Int) - 1 = (k : Int) := by omega
        have hk0 : (0 : Int) < ((k + 1 : Nat) : Int) := by omega
        have hkz : (0 : Int) ≤ (k : Int) := by omega
        have hkl : (k : Int) < (b.length : Int) := by omega
        by_cases hd : isDig (bt b k) = true
        · have hdd := (isDig_iff (bt b k)).1 hd
          have hd1 : ((bt b k).toNat : Int) ≥ 48 := by omega
          have hd2 : ((bt b k).toNat : Int) ≤ 57 := by omega
          have HI2 : Hid (∀ j, k ≤ j → j < b.length → isDig (bt b j) = true) := Lib.hid (fun j h1 h2 => by
            by_cases hj : j = k
            · rw [hj]; exact hd
            · exact HI.out j (by omega) h2)
          clear HI HA HC hd hdd
          generalize bt b k = c at *
          go_wp2_with fail
          go_round
          case rel => exact ⟨k, by omega, by go_num, HI2⟩
          case measure => simp [intOf]
        · have hdf : isDig (bt b k) = false := by simpa using hd
          have HF := Lib.hid (HA.out (k + 1) hk HI.out (.inr hdf))
          rw [show k + 1 - 1 = k from rfl] at HF
          have hnd : ¬ (48 ≤ (bt b k).toNat ∧ (bt b k).toNat ≤ 57) := fun h => hd ((isDig_iff _).2 h)
          have hcase : (¬ ((bt b k).toNat : Int) ≥ 48) ∨ (((bt b k).toNat : Int) ≥ 48 ∧ ¬ ((bt b k).toNat : Int) ≤ 57) := by omega
          have h123 : (bt b k == 123) = decide (((bt b k).toNat : Int) = 123) := by
            by_cases e : bt b k = 123
            · rw [e]; rfl
            · have : ¬ ((bt b k).toNat : Int) = 123 := fun e' => e (UInt8.toNat_inj.1 (by have : (123 : UInt8).toNat = 123 := rfl; omega))
              rw [decide_eq_false this]
              simpa using e
          rw [h123] at HF
          clear HI HA HC hd hdf hnd h123
          generalize bt b k = c at *
          by_cases hlt : k + 1 < b.length
          · have hltz : ((k + 1 : Nat) : Int) < (b.length : Int) := by omega
            rw [decide_eq_true hlt] at HF
            by_cases h1 : (c.toNat : Int) = 123
            · rw [decide_eq_true h1] at HF
              rcases hcase with hcase | ⟨hca, hcb⟩
              · omega
              · go_wp2_with fail
                go_ret
                exact ⟨ret_bool (by rw [HF.out]; rfl), rfl⟩
            · have h1b : ((c.toNat : Int) == 123) = false := by simpa using h1
              rw [decide_eq_false h1] at HF
              clear h1
              rcases hcase with hcase | ⟨hca, hcb⟩
              · go_wp2_with fail
                go_ret
                exact ⟨ret_bool (by rw [HF.out]; rfl), rfl⟩
              · go_wp2_with fail
                go_ret
                exact ⟨ret_bool (by rw [HF.out]; rfl), rfl⟩
          · have hltz : ¬ ((k + 1 : Nat) : Int) < (b.length : Int) := by omega
            rw [decide_eq_false hlt] at HF
            rcases hcase with hcase | ⟨hca, hcb⟩
            · go_wp2_with fail
              go_ret
              exact ⟨ret_bool (by rw [HF.out]; simp), rfl⟩
            · go_wp2_with fail
              go_ret
              exact ⟨ret_bool (by rw [HF.out]; simp), rfl⟩
def prevO (l : List UInt8) : Nat → Option UInt8
  | 0 => none
  | k + 1 => some (bt l k)
theorem prevO_succ (l : List UInt8) (k : Nat) : prevO l (k + 1) = some (bt l k) := rfl
theorem head_drop (l : List UInt8) (k : Nat) : digO (l.drop k).head? = (decide (k < l.length) && isDig (bt l k)) := by
  by_cases h : k < l.length
  · rw [drop_at l k h, decide_eq_true h]
    rfl
  · rw [List.drop_of_length_le (by omega), decide_eq_false h]
    rfl
theorem last_at (b : List UInt8) (m : Nat) (h : b.length = m + 1) : last123 b = (bt b m == 123) := by
  unfold last123 bt
  rw [List.getLast?_eq_getElem?, h, show m + 1 - 1 = m from rfl, List.getElem?_eq_getElem (by omega)]
  rfl
set_option maxRecDepth 100000 in
set_option maxHeartbeats 16000000 in
theorem lplain_any (s : ByteArray) (w : World) (hs : s.size ≤ 4096) :
    Calls Tryd.prog 20 #[.string s] w fun e w' => e = .returned (.string (S (pm [] false none (L s)))) ∧ Below w.heap.size w w' := by
  have hll := L_length s
  have HAN := Lib.hid (fun (B : Nat) (v : Value) (b : List UInt8) (W : World) (h : W.ownsRow B 5 1 v b.length (bc b) ∧ b.length ≤ 4096) => announced_any B v b W h.1 (by have := h.2; omega))
  go_enter Tryd.func20, Tryd.ntmps20
  go_wp2_with fail
  go_loopg [3, 4, 5] s.size (fun gg s3 s4 s5 wr => ∃ (k : Nat) (b : List UInt8) (q : Bool), k ≤ s.size ∧ s.size - k ≤ gg ∧ s4 = .bool q ∧ s5 = .int .i64 (k : Int) ∧ Own w.heap.size s3 b w wr ∧ Hid (pm b q (prevO (L s) k) ((L s).drop k) = pm [] false none (L s)) ∧ b.length ≤ k)
  case atStart => exact ⟨0, [], false, Nat.zero_le _, by omega, rfl, rfl, Own.nil (Below.refl _ _) (Nat.le_refl _), Lib.hid rfl, by simp⟩
  case round =>
    obtain ⟨k, b, q, hk, hgg, rfl, rfl, hown, HQ, hbk⟩ := hrel
    have HO := Lib.hid hown
    clear hown
    by_cases hlt : k < s.size
    · have hiz : (k : Int) < (s.size : Int) := by omega
      have hi0 : (0 : Int) ≤ (k : Int) := by omega
      have ea := get_btx s k hlt
      have h256 := bt_lt (L s) k
      have hdr := drop_at (L s) k (by omega)
      have hb4 : b.length ≤ 4096 := by omega
      have HB4 := Lib.hid hb4
      obtain ⟨c, hcc⟩ : ∃ c, c = bt (L s) k := ⟨_, rfl⟩
      rw [← hcc] at ea h256 hdr
      have hp1 : prevO (L s) (k + 1) = some c := by rw [hcc]; rfl
      cases q with
      | true =>
        by_cases h92 : c = 92
        · have hcz92 : (c.toNat : Int) = 92 := by rw [h92]; rfl
          by_cases hk1 : k + 1 < s.size
          · have hk1z : (k : Int) + 1 < (s.size : Int) := by omega
            have ea2 := get_btx s (k + 1) hk1
            have h256b := bt_lt (L s) (k + 1)
            have hdr2 := drop_at (L s) (k + 1) (by omega)
            have HP : Hid (pm (b ++ [c] ++ [bt (L s) (k + 1)]) true (prevO (L s) (k + 2)) ((L s).drop (k + 2)) = pm [] false none (L s)) := Lib.hid (by
              rw [← HQ.out, hdr, pm, hdr2, h92]
              simp only [Bool.true_and, beq_self_eq_true, List.isEmpty_cons, Bool.not_false, if_true, List.drop_succ_cons, List.drop_zero]
              rw [List.append_assoc]
              rfl)
            clear HQ hdr hdr2 hp1 hcc h92
            generalize bt (L s) (k + 1) = d at *
            go_wp2_with (first | (at_builtin; refine app1 rfl _ _ rfl _ c HO.out (by first | rfl | omega) rfl rfl (by have := HB4.out; omega) ?_; intro v1 w1 hown1; have HO1 := Lib.hid hown1; clear hown1 HO) | (at_builtin; refine app1 rfl _ _ rfl _ d HO1.out (by first | rfl | omega) rfl rfl (by have := HB4.out; simp; omega) ?_; intro v2 w2 hown2))
            go_roundg (s.size - (k + 2))
            case measure => omega
            case rel => exact ⟨k + 2, b ++ [c] ++ [d], true, by omega, Nat.le_refl _, rfl, by go_num, hown2, HP, by simp; omega⟩
          · have hk1z : ¬ (k : Int) + 1 < (s.size : Int) := by omega
            have hdn : (L s).drop (k + 1) = [] := List.drop_of_length_le (by omega)
            have HP : Hid (pm (b ++ [c]) true (prevO (L s) (k + 1)) ((L s).drop (k + 1)) = pm [] false none (L s)) := Lib.hid (by rw [hp1, ← HQ.out, hdr, pm]; rw [hdn, h92]; simp)
            clear HQ hdr hdn hp1 hcc h92
            go_wp2_with (at_builtin; refine app1 rfl _ _ rfl _ c HO.out (by first | rfl | omega) rfl rfl (by have := HB4.out; omega) ?_; intro v1 w1 hown1)
            go_roundg (s.size - (k + 1))
            case measure => omega
            case rel => exact ⟨k + 1, b ++ [c], true, by omega, Nat.le_refl _, rfl, by go_num, hown1, HP, by simp; omega⟩
        · have hcz92 : ¬ (c.toNat : Int) = 92 := fun e => h92 (UInt8.toNat_inj.1 (by have : (92 : UInt8).toNat = 92 := rfl; omega))
          by_cases h34 : c = 34
          · have hcz34 : (c.toNat : Int) = 34 := by rw [h34]; rfl
            have HP : Hid (pm (b ++ [c]) false (prevO (L s) (k + 1)) ((L s).drop (k + 1)) = pm [] false none (L s)) := Lib.hid (by rw [hp1, ← HQ.out, hdr, pm]; rw [h34]; simp)
            clear HQ hdr hp1 hcc h92 h34
            go_wp2_with (at_builtin; refine app1 rfl _ _ rfl _ c HO.out (by first | rfl | omega) rfl rfl (by have := HB4.out; omega) ?_; intro v1 w1 hown1)
            go_roundg (s.size - (k + 1))
            case measure => omega
            case rel => exact ⟨k + 1, b ++ [c], false, by omega, Nat.le_refl _, rfl, by go_num, hown1, HP, by simp; omega⟩
          · have hcz34 : ¬ (c.toNat : Int) = 34 := fun e => h34 (UInt8.toNat_inj.1 (by have : (34 : UInt8).toNat = 34 := rfl; omega))
            have HP : Hid (pm (b ++ [c]) true (prevO (L s) (k + 1)) ((L s).drop (k + 1)) = pm [] false none (L s)) := Lib.hid (by rw [hp1, ← HQ.out, hdr, pm]; simp [h92, h34])
            clear HQ hdr hp1 hcc h92 h34
            go_wp2_with (at_builtin; refine app1 rfl _ _ rfl _ c HO.out (by first | rfl | omega) rfl rfl (by have := HB4.out; omega) ?_; intro v1 w1 hown1)
            go_roundg (s.size - (k + 1))
            case measure => omega
            case rel => exact ⟨k + 1, b ++ [c], true, by omega, Nat.le_refl _, rfl, by go_num, hown1, HP, by simp; omega⟩
      | false =>
        by_cases h34 : c = 34
        · have hcz34 : (c.toNat : Int) = 34 := by rw [h34]; rfl
          have HP : Hid (pm (b ++ [c]) true (prevO (L s) (k + 1)) ((L s).drop (k + 1)) = pm [] false none (L s)) := Lib.hid (by rw [hp1, ← HQ.out, hdr, pm]; rw [h34]; simp)
          clear HQ hdr hp1 hcc h34
          go_wp2_with (at_builtin; refine app1 rfl _ _ rfl _ c HO.out (by first | rfl | omega) rfl rfl (by have := HB4.out; omega) ?_; intro v1 w1 hown1)
          go_roundg (s.size - (k + 1))
          case measure => omega
          case rel => exact ⟨k + 1, b ++ [c], true, by omega, Nat.le_refl _, rfl, by go_num, hown1, HP, by simp; omega⟩
        · have hcz34 : ¬ (c.toNat : Int) = 34 := fun e => h34 (UInt8.toNat_inj.1 (by have : (34 : UInt8).toNat = 34 := rfl; omega))
          by_cases h43 : c = 43
          · have hcz43 : (c.toNat : Int) = 43 := by rw [h43]; rfl
            cases k with
            | zero =>
              have HP : Hid (pm (b ++ [c]) false (prevO (L s) (0 + 1)) ((L s).drop (0 + 1)) = pm [] false none (L s)) := Lib.hid (by rw [hp1, ← HQ.out, hdr, pm]; rw [h43]; simp [prevO, digO])
              have HBK := Lib.hid hbk
              clear HQ hdr hp1 hcc h34 h43
              go_wp2_with (at_builtin; refine app1 rfl _ _ rfl _ c HO.out (by first | rfl | omega) rfl rfl (by have := HB4.out; omega) ?_; intro v1 w1 hown1)
              go_roundg (s.size - (0 + 1))
              case measure => omega
              case rel => exact ⟨0 + 1, b ++ [c], false, by omega, Nat.le_refl _, rfl, by go_num, hown1, HP, by have := HBK.out; rw [List.length_append, List.length_singleton]; omega⟩
            | succ k =>
              have ep := get_btx s k (by omega)
              have h256p := bt_lt (L s) k
              have hpk : ((k + 1 : Nat) : Int) - 1 = (k : Int) := by omega
              have hpz : (0 : Int) ≤ (k : Int) := by omega
              have hpl : (k : Int) < (s.size : Int) := by omega
              have hp0 : (0 : Int) < ((k + 1 : Nat) : Int) := by omega
              have hdp : digO (prevO (L s) (k + 1)) = isDig (bt (L s) k) := rfl
              by_cases hd : isDig (bt (L s) k) = true
              · have hdd := (isDig_iff _).1 hd
                have hd1 : ((bt (L s) k).toNat : Int) ≥ 48 := by omega
                have hd2 : ((bt (L s) k).toNat : Int) ≤ 57 := by omega
                cases han : annedB b with
                | true =>
                  have HP : Hid (pm b false (prevO (L s) (k + 1 + 1)) ((L s).drop (k + 1 + 1)) = pm [] false none (L s)) := Lib.hid (by rw [hp1, ← HQ.out, hdr, pm]; rw [hdp, hd, han, h43]; simp)
                  have HAN2 : Hid (∀ v W, W.ownsRow w.heap.size 5 1 v b.length (bc b) → Calls Tryd.prog 34 #[v] W fun e w' => e = .returned (.bool true) ∧ w' = W) := Lib.hid (fun v W h => by have := HAN.out _ v b W ⟨h, HB4.out⟩; rw [han] at this; exact this)
                  clear HQ hdr hp1 hcc h34 h43 hdp hd hdd han
                  generalize bt (L s) k = d at *
                  go_wp2_with (go_at_call 34; with_reducible refine (HAN2.out _ _ HO.out.row).mono ?_; rintro e w' ⟨rfl, hw'⟩; rw [hw']; clear hw' w')
                  go_roundg (s.size - (k + 1 + 1))
                  case measure => omega
                  case rel => exact ⟨k + 1 + 1, b, false, by omega, Nat.le_refl _, rfl, by go_num, HO.out, HP, by omega⟩
                | false =>
                  have HP : Hid (pm (b ++ [c]) false (prevO (L s) (k + 1 + 1)) ((L s).drop (k + 1 + 1)) = pm [] false none (L s)) := Lib.hid (by rw [hp1, ← HQ.out, hdr, pm]; rw [han, h43]; simp)
                  have HAN2 : Hid (∀ v W, W.ownsRow w.heap.size 5 1 v b.length (bc b) → Calls Tryd.prog 34 #[v] W fun e w' => e = .returned (.bool false) ∧ w' = W) := Lib.hid (fun v W h => by have := HAN.out _ v b W ⟨h, HB4.out⟩; rw [han] at this; exact this)
                  clear HQ hdr hp1 hcc h34 h43 hdp hd hdd han
                  generalize bt (L s) k = d at *
                  go_wp2_with (first | (go_at_call 34; with_reducible refine (HAN2.out _ _ HO.out.row).mono ?_; rintro e w' ⟨rfl, hw'⟩; rw [hw']; clear hw' w') | (at_builtin; refine app1 rfl _ _ rfl _ c HO.out (by first | rfl | omega) rfl rfl (by have := HB4.out; omega) ?_; intro v1 w1 hown1))
                  go_roundg (s.size - (k + 1 + 1))
                  case measure => omega
                  case rel => exact ⟨k + 1 + 1, b ++ [c], false, by omega, Nat.le_refl _, rfl, by go_num, hown1, HP, by simp; omega⟩
              · have hdf : isDig (bt (L s) k) = false := by simpa using hd
                have HP : Hid (pm (b ++ [c]) false (prevO (L s) (k + 1 + 1)) ((L s).drop (k + 1 + 1)) = pm [] false none (L s)) := Lib.hid (by rw [hp1, ← HQ.out, hdr, pm]; rw [hdp, hdf, h43]; simp)
                have hnd : ¬ (48 ≤ (bt (L s) k).toNat ∧ (bt (L s) k).toNat ≤ 57) := fun h => hd ((isDig_iff _).2 h)
                have hcase : (¬ ((bt (L s) k).toNat : Int) ≥ 48) ∨ (((bt (L s) k).toNat : Int) ≥ 48 ∧ ¬ ((bt (L s) k).toNat : Int) ≤ 57) := by omega
                clear HQ hdr hp1 hcc h34 h43 hdp hd hdf hnd
                generalize bt (L s) k = d at *
                rcases hcase with hcase | ⟨hca, hcb⟩
                · go_wp2_with (at_builtin; refine app1 rfl _ _ rfl _ c HO.out (by first | rfl | omega) rfl rfl (by have := HB4.out; omega) ?_; intro v1 w1 hown1)
                  go_roundg (s.size - (k + 1 + 1))
                  case measure => omega
                  case rel => exact ⟨k + 1 + 1, b ++ [c], false, by omega, Nat.le_refl _, rfl, by go_num, hown1, HP, by simp; omega⟩
                · go_wp2_with (at_builtin; refine app1 rfl _ _ rfl _ c HO.out (by first | rfl | omega) rfl rfl (by have := HB4.out; omega) ?_; intro v1 w1 hown1)
                  go_roundg (s.size - (k + 1 + 1))
                  case measure => omega
                  case rel => exact ⟨k + 1 + 1, b ++ [c], false, by omega, Nat.le_refl _, rfl, by go_num, hown1, HP, by simp; omega⟩
          · have hcz43 : ¬ (c.toNat : Int) = 43 := fun e => h43 (UInt8.toNat_inj.1 (by have : (43 : UInt8).toNat = 43 := rfl; omega))
            by_cases h48 : c = 48
            · have hcz48 : (c.toNat : Int) = 48 := by rw [h48]; rfl
              rcases row_shape HO.out.row with ⟨hv, hbn⟩ | ⟨g, cap, hv, hcap⟩
              · subst hv
                have HP : Hid (pm (b ++ [c]) false (prevO (L s) (k + 1)) ((L s).drop (k + 1)) = pm [] false none (L s)) := Lib.hid (by rw [hp1, ← HQ.out, hdr, pm]; rw [hbn, h48]; simp [last123])
                clear HQ hdr hp1 hcc h34 h43 h48
                go_wp2_with (at_builtin; refine app1 rfl _ _ rfl _ c HO.out (by first | rfl | omega) rfl rfl (by have := HB4.out; omega) ?_; intro v1 w1 hown1)
                go_roundg (s.size - (k + 1))
                case measure => omega
                case rel => exact ⟨k + 1, b ++ [c], false, by omega, Nat.le_refl _, rfl, by go_num, hown1, HP, by simp; omega⟩
              · subst hv
                rcases Nat.eq_zero_or_pos b.length with hb0 | hb0
                · have hbn : b = [] := List.eq_nil_of_length_eq_zero hb0
                  have HP : Hid (pm (b ++ [c]) false (prevO (L s) (k + 1)) ((L s).drop (k + 1)) = pm [] false none (L s)) := Lib.hid (by rw [hp1, ← HQ.out, hdr, pm]; rw [hbn, h48]; simp [last123])
                  have hb0z : ¬ (0 : Int) < (b.length : Int) := by omega
                  clear HQ hdr hp1 hcc h34 h43 h48 hbn hb0
                  go_wp2_with (at_builtin; refine app1 rfl _ _ rfl _ c HO.out (by first | rfl | omega) rfl rfl (by have := HB4.out; omega) ?_; intro v1 w1 hown1)
                  go_roundg (s.size - (k + 1))
                  case measure => omega
                  case rel => exact ⟨k + 1, b ++ [c], false, by omega, Nat.le_refl _, rfl, by go_num, hown1, HP, by simp; omega⟩
                · obtain ⟨mm, hmm⟩ : ∃ mm, b.length = mm + 1 := ⟨b.length - 1, by omega⟩
                  have hlast := last_at b mm hmm
                  have hcell := bt_row HO.out.row mm (by omega)
                  have hb0z : (0 : Int) < (b.length : Int) := by omega
                  have hm1 : (b.length : Int) - 1 = (mm : Int) := by omega
                  have hm2 : (0 : Int) ≤ (mm : Int) := by omega
                  have hm3 : (mm : Int) < (b.length : Int) := by omega
                  have h256l := bt_lt b mm
                  clear hmm
                  by_cases h123 : bt b mm = 123
                  · have hl123 : ((bt b mm).toNat : Int) = 123 := by rw [h123]; rfl
                    rw [h123] at hlast
                    by_cases hk1 : k + 1 < s.size
                    · have hk1z : (k : Int) + 1 < (s.size : Int) := by omega
                      have ea2 := get_btx s (k + 1) hk1
                      have h256b := bt_lt (L s) (k + 1)
                      have hhd := head_drop (L s) (k + 1)
                      rw [decide_eq_true (by omega), Bool.true_and] at hhd
                      by_cases hd : isDig (bt (L s) (k + 1)) = true
                      · have hdd := (isDig_iff _).1 hd
                        have hd1 : ((bt (L s) (k + 1)).toNat : Int) ≥ 48 := by omega
                        have hd2 : ((bt (L s) (k + 1)).toNat : Int) ≤ 57 := by omega
                        have HP : Hid (pm b false (prevO (L s) (k + 1)) ((L s).drop (k + 1)) = pm [] false none (L s)) := Lib.hid (by rw [hp1, ← HQ.out, hdr, pm]; rw [hhd, hd, hlast, h48]; simp)
                        clear HQ hdr hp1 hcc h34 h43 h48 hlast h123 hhd hd hdd
                        generalize bt (L s) (k + 1) = d at *
                        generalize bt b mm = d2 at *
                        go_wp2_with fail
                        go_roundg (s.size - (k + 1))
                        case measure => omega
                        case rel => exact ⟨k + 1, b, false, by omega, Nat.le_refl _, rfl, by go_num, HO.out, HP, by omega⟩
                      · have hdf : isDig (bt (L s) (k + 1)) = false := by simpa using hd
                        have HP : Hid (pm (b ++ [c]) false (prevO (L s) (k + 1)) ((L s).drop (k + 1)) = pm [] false none (L s)) := Lib.hid (by rw [hp1, ← HQ.out, hdr, pm]; rw [hhd, hdf, hlast, h48]; simp)
                        have hnd : ¬ (48 ≤ (bt (L s) (k + 1)).toNat ∧ (bt (L s) (k + 1)).toNat ≤ 57) := fun h => hd ((isDig_iff _).2 h)
                        have hcase : (¬ ((bt (L s) (k + 1)).toNat : Int) ≥ 48) ∨ (((bt (L s) (k + 1)).toNat : Int) ≥ 48 ∧ ¬ ((bt (L s) (k + 1)).toNat : Int) ≤ 57) := by omega
                        clear HQ hdr hp1 hcc h34 h43 h48 hlast h123 hhd hd hdf hnd
                        generalize bt (L s) (k + 1) = d at *
                        generalize bt b mm = d2 at *
                        rcases hcase with hcase | ⟨hca, hcb⟩
                        · go_wp2_with (at_builtin; refine app1 rfl _ _ rfl _ c HO.out (by first | rfl | omega) rfl rfl (by have := HB4.out; omega) ?_; intro v1 w1 hown1)
                          go_roundg (s.size - (k + 1))
                          case measure => omega
                          case rel => exact ⟨k + 1, b ++ [c], false, by omega, Nat.le_refl _, rfl, by go_num, hown1, HP, by simp; omega⟩
                        · go_wp2_with (at_builtin; refine app1 rfl _ _ rfl _ c HO.out (by first | rfl | omega) rfl rfl (by have := HB4.out; omega) ?_; intro v1 w1 hown1)
                          go_roundg (s.size - (k + 1))
                          case measure => omega
                          case rel => exact ⟨k + 1, b ++ [c], false, by omega, Nat.le_refl _, rfl, by go_num, hown1, HP, by simp; omega⟩
                    · have hk1z : ¬ (k : Int) + 1 < (s.size : Int) := by omega
                      have hhd := head_drop (L s) (k + 1)
                      rw [decide_eq_false (by omega), Bool.false_and] at hhd
                      have HP : Hid (pm (b ++ [c]) false (prevO (L s) (k + 1)) ((L s).drop (k + 1)) = pm [] false none (L s)) := Lib.hid (by rw [hp1, ← HQ.out, hdr, pm]; rw [hhd, hlast, h48]; simp)
                      clear HQ hdr hp1 hcc h34 h43 h48 hlast h123 hhd
                      generalize bt b mm = d2 at *
                      go_wp2_with (at_builtin; refine app1 rfl _ _ rfl _ c HO.out (by first | rfl | omega) rfl rfl (by have := HB4.out; omega) ?_; intro v1 w1 hown1)
                      go_roundg (s.size - (k + 1))
                      case measure => omega
                      case rel => exact ⟨k + 1, b ++ [c], false, by omega, Nat.le_refl _, rfl, by go_num, hown1, HP, by simp; omega⟩
                  · have hl123 : ¬ ((bt b mm).toNat : Int) = 123 := fun e => h123 (UInt8.toNat_inj.1 (by have : (123 : UInt8).toNat = 123 := rfl; omega))
                    have hl2 : last123 b = false := by rw [hlast]; simpa using h123
                    have HP : Hid (pm (b ++ [c]) false (prevO (L s) (k + 1)) ((L s).drop (k + 1)) = pm [] false none (L s)) := Lib.hid (by rw [hp1, ← HQ.out, hdr, pm]; rw [hl2, h48]; simp)
                    clear HQ hdr hp1 hcc h34 h43 h48 hlast h123 hl2
                    generalize bt b mm = d2 at *
                    go_wp2_with (at_builtin; refine app1 rfl _ _ rfl _ c HO.out (by first | rfl | omega) rfl rfl (by have := HB4.out; omega) ?_; intro v1 w1 hown1)
                    go_roundg (s.size - (k + 1))
                    case measure => omega
                    case rel => exact ⟨k + 1, b ++ [c], false, by omega, Nat.le_refl _, rfl, by go_num, hown1, HP, by simp; omega⟩
            · have hcz48 : ¬ (c.toNat : Int) = 48 := fun e => h48 (UInt8.toNat_inj.1 (by have : (48 : UInt8).toNat = 48 := rfl; omega))
              have HP : Hid (pm (b ++ [c]) false (prevO (L s) (k + 1)) ((L s).drop (k + 1)) = pm [] false none (L s)) := Lib.hid (by rw [hp1, ← HQ.out, hdr, pm]; simp [h34, h43, h48])
              clear HQ hdr hp1 hcc h34 h43 h48
              go_wp2_with (at_builtin; refine app1 rfl _ _ rfl _ c HO.out (by first | rfl | omega) rfl rfl (by have := HB4.out; omega) ?_; intro v1 w1 hown1)
              go_roundg (s.size - (k + 1))
              case measure => omega
              case rel => exact ⟨k + 1, b ++ [c], false, by omega, Nat.le_refl _, rfl, by go_num, hown1, HP, by simp; omega⟩
    · have hiz : ¬ (k : Int) < (s.size : Int) := by omega
      have HF : Hid (b = pm [] false none (L s)) := Lib.hid (by rw [← HQ.out, List.drop_of_length_le (by omega), pm])
      have hcv := HO.out.back
      clear HQ
      go_wp2_with fail
      go_ret
      exact ⟨ret_str (by rw [HF.out]), HO.out.below⟩
end Go.Proofs.YtonfchpfhdoefaaDoor

/- The statement LexLine: the walk. -/
namespace Go.Proofs.YtonfchpfhdoefaaDoor
open Go.RowKit

theorem below_go {w a b : World} (h : Below w.heap.size w a) (h2 : Below a.heap.size a b) : Below w.heap.size w b := h.trans (h2.mono h.size)
theorem scanW_no {l : List UInt8} {lits : List ByteArray} (h : scanE l lits ≠ 0) : scanW l lits = [] := by
  unfold scanW
  rw [if_neg h]
  split <;> rfl
theorem scanE_len {l : List UInt8} {lits : List ByteArray} (h : scanE l lits = 0) : l.length ≤ 4096 := by
  cases hh : longB l lits with
  | false => exact (long_no hh).1
  | true =>
    unfold scanE at h
    rw [hh, if_pos rfl] at h
    exact absurd h (by decide)
set_option maxRecDepth 100000 in
set_option maxHeartbeats 4000000 in
theorem LexLine_walk (line : ByteArray) (v : Value) (lits : List ByteArray) (w : World) (he : Env w) (hl : Strs w v lits) (hs : line.size ≤ 140737488355328) (hz : ∀ i, i < lits.length → (lits.getD i ByteArray.empty).size ≤ 140737488355328) :
    Calls Tryd.prog 6 #[.string line, v] w fun e w' => e = .returned (.bool true) ∧ Below w.heap.size w w' := by
  have hll := L_length line
  have HK := Lib.hid (known_any w he)
  have HE := Lib.hid he
  have HLS := Lib.hid hl
  have HSC := Lib.hid (fun W (hW : Below w.heap.size w W) => Scan_any line v lits W (hl.on hW) hs hz)
  have HN := Lib.hid num_any
  clear he hl hz
  go_enter Tryd.func6, Tryd.ntmps6
  go_upto_region 5 with (first | (go_at_call 14; refine HK.out.mono ?_; rintro e w1 ⟨rfl, hb1⟩) | (go_at_call 17; refine (HSC.out _ hb1).mono ?_; rintro e w2 ⟨a2, n2, c2, D2, rfl, hl2, hd2, hb2⟩))
  have HB2 := Lib.hid (below_go hb1 hb2)
  have HL2 := Lib.hid hl2
  clear hl2 hd2 hb1 hb2 HSC HK
  by_cases h1 : scanE (L line) lits = 0
  · obtain ⟨j1, j2, j3⟩ := line_back h1
    have hpc := plain_canon h1
    have hsh := scanE_len h1
    rw [h1]
    have HJ := Lib.hid (Join_any (scanW (L line) lits) a2 n2 c2 D2 w2 HL2.out (HE.out.on HB2.out))
    rw [j1, j2, j3] at HJ
    have HP := Lib.hid (fun W => lplain_any line W (by omega))
    rw [hpc] at HP
    have hss : ((S (canon (L line))).toList == (S (canon (L line))).toList) = true := by simp
    clear j1 j2 j3 hpc h1 hsh hll
    generalize S (canon (L line)) = cn at *
    go_upto_region 8 with (first | (go_at_call 16; refine (HN.out _ _).mono ?_; rintro e w' ⟨rfl, hw'⟩; rw [hw']; clear hw' w') | (go_at_call 15; refine HJ.out.mono ?_; rintro e w3 ⟨vt, rfl, hs3, hb3⟩))
    have HB3 := Lib.hid (below_go HB2.out hb3)
    have HS3 := Lib.hid hs3
    clear hb3 hs3 HJ HB2 HL2
    go_wp2_with (first | (go_at_call 16; refine (HN.out _ _).mono ?_; rintro e w' ⟨rfl, hw'⟩; rw [hw']; clear hw' w') | (go_at_call 20; refine (HP.out _).mono ?_; rintro e w4 ⟨rfl, hb4⟩) | (go_at_call 19; refine (texts_any vt v lits lits _ (HS3.out.on hb4) (HLS.out.on (below_go HB3.out hb4))).mono ?_; rw [decide_eq_true rfl]; rintro e w5 ⟨rfl, hb5⟩))
    go_ret
    exact ⟨rfl, below_go (below_go HB3.out hb4) hb5⟩
  · have hne : (scanE (L line) lits != 0) = true := by simpa using h1
    have hn := HL2.out.len
    rw [scanW_no h1] at hn
    subst hn
    clear h1 HL2
    generalize scanE (L line) lits = ec at *
    go_wp2_with (go_at_call 16; refine (HN.out _ _).mono ?_; rintro e w' ⟨rfl, hw'⟩; rw [hw']; clear hw' w')
    go_ret
    exact ⟨rfl, HB2.out⟩
end Go.Proofs.YtonfchpfhdoefaaDoor
