/- lex: an announcement at the beginning of a text; small functions of the scanner. -/
import Derived.Test.YtliiapdakojomabDoorAb
import Derived.Test.YtliiapdakojomabDoorXb
namespace Go.Proofs.YtliiapdakojomabDoor
open Go.RowKit

theorem pre_one (r : List UInt8) (c : UInt8) : Lib.hasPrefix r [c] = (r.head? == some c) ∧ Lib.trimPrefix r [c] = if r.head? == some c then r.tail else r := by
  cases r with
  | nil => exact ⟨rfl, rfl⟩
  | cons a l =>
    have h1 : Lib.hasPrefix (a :: l) [c] = ((a :: l).head? == some c) := by
      simp only [Lib.hasPrefix, List.isPrefixOf, List.head?_cons, Option.some_beq_some, Bool.and_true]
      by_cases h : a = c
      · subst h; simp
      · rw [beq_eq_false_iff_ne.2 h, beq_eq_false_iff_ne.2 (fun e => h e.symm)]
    refine ⟨h1, ?_⟩
    by_cases h : (a :: l).head? == some c
    · rw [h] at h1
      rw [if_pos h]
      simp [Lib.trimPrefix, h1]
    · have h2 : ((a :: l).head? == some c) = false := by simpa using h
      rw [h2] at h1
      rw [if_neg h]
      simp [Lib.trimPrefix, h1]
theorem bt_drop (l : List UInt8) (k i : Nat) : bt (l.drop k) i = bt l (k + i) := by
  unfold bt; simp [List.getElem?_drop]
theorem tw_in {p : UInt8 → Bool} {r : List UInt8} {k : Nat} (h : k < (r.takeWhile p).length) : k < r.length ∧ p (bt r k) = true := by
  induction r generalizing k with
  | nil => simp at h
  | cons a r ih =>
    cases hp : p a with
    | false => rw [List.takeWhile_cons_of_neg (by simp [hp])] at h; simp at h
    | true =>
      rw [List.takeWhile_cons_of_pos hp] at h
      cases k with
      | zero => exact ⟨by simp, hp⟩
      | succ k =>
        have := ih (k := k) (by simpa using h)
        exact ⟨by simpa using this.1, this.2⟩
theorem tw_out {p : UInt8 → Bool} {r : List UInt8} (h : (r.takeWhile p).length < r.length) : p (bt r (r.takeWhile p).length) = false := by
  induction r with
  | nil => simp at h
  | cons a r ih =>
    cases hp : p a with
    | false => rw [List.takeWhile_cons_of_neg (by simp [hp])]; exact hp
    | true =>
      rw [List.takeWhile_cons_of_pos hp] at h ⊢
      exact ih (by simpa using h)
theorem tw_le (p : UInt8 → Bool) (r : List UInt8) : (r.takeWhile p).length ≤ r.length := by
  induction r with
  | nil => simp
  | cons a r ih =>
    cases hp : p a with
    | false => rw [List.takeWhile_cons_of_neg (by simp [hp])]; simp
    | true => rw [List.takeWhile_cons_of_pos hp]; simpa using ih
theorem tw_bt {p : UInt8 → Bool} {r : List UInt8} {k : Nat} (h : k < (r.takeWhile p).length) : bt (r.takeWhile p) k = bt r k := by
  induction r generalizing k with
  | nil => simp at h
  | cons a r ih =>
    cases hp : p a with
    | false => rw [List.takeWhile_cons_of_neg (by simp [hp])] at h; simp at h
    | true =>
      rw [List.takeWhile_cons_of_pos hp] at h ⊢
      cases k with
      | zero => rfl
      | succ k => exact ih (k := k) (by simpa using h)
theorem fold_snoc {α : Type} (f : α → UInt8 → α) (a : α) (l : List UInt8) (k : Nat) (hk : k < l.length) : (l.take (k + 1)).foldl f a = f ((l.take k).foldl f a) (bt l k) := by
  rw [← List.take_append_getElem hk, List.foldl_append]
  unfold bt
  simp [List.getElem?_eq_getElem hk]
theorem cap_le (l : List UInt8) (a : Nat) (ha : a ≤ 4294967296) : l.foldl capN a ≤ 4294967296 := by
  induction l generalizing a with
  | nil => exact ha
  | cons c l ih => exact ih _ (by unfold capN; omega)
theorem annD_len (l : List UInt8) (h : 0 < l.length) : (annD l).length + 1 ≤ l.length := by
  have := tw_le isDig (l.drop 1)
  unfold annD
  rw [List.length_drop] at this
  omega
theorem annE_len (l : List UInt8) : (annE l).length ≤ l.length := by
  unfold annE annR
  split <;> simp <;> omega
theorem S_drop (s : ByteArray) (k : Nat) : s.extract k s.size = S ((L s).drop k) := by
  apply ByteArray.ext
  unfold S L
  simp only [ByteArray.data_extract]
  apply Array.ext'
  simp [List.extract_eq_take_drop, ← ByteArray.size_data]
  exact List.take_of_length_le (by simp)
set_option maxRecDepth 100000 in
set_option maxHeartbeats 4000000 in
theorem ann_any (s : ByteArray) (w : World) (h0 : 0 < s.size) (hs : s.size ≤ 140737488355328) :
    Calls Tryd.prog 42 #[.string s] w fun e w' => e = .returned (.tuple #[.int .i64 (annN (L s)), .bool (annQ (L s)), .int .i64 (annS (L s))]) ∧ w' = w := by
  have hll := L_length s
  have hd := annD_len (L s) (by omega)
  rw [hll] at hd
  obtain ⟨d, hdd⟩ : ∃ d, d = (annD (L s)).length := ⟨_, rfl⟩
  rw [← hdd] at hd
  have HR : Hid (s.extract (1 + d) s.size = S (annR (L s))) := Lib.hid (by rw [S_drop, hdd]; rfl)
  have HC : Hid (∀ W, Calls Tryd.prog 65 #[.string (S (annR (L s))), .string ⟨#[43]⟩] W fun e w' => e = .returned (.tuple #[.string (S (annE (L s))), .bool (annP (L s))]) ∧ w' = W) := Lib.hid (fun W => by
    have := Tryd.strings_CutPrefix (S (annR (L s))) ⟨#[43]⟩ W
    have e := pre_one (annR (L s)) 43
    rw [show (S (annR (L s))).data.toList = annR (L s) from rfl, show (⟨#[43]⟩ : ByteArray).data.toList = [43] from rfl, e.1, e.2] at this
    exact this)
  have HH : Hid (∀ W, Calls Tryd.prog 66 #[.string (S (annE (L s))), .string ⟨#[125]⟩] W fun e w' => e = .returned (.bool ((annE (L s)).head? == some 125)) ∧ w' = W) := Lib.hid (fun W => by
    have := Tryd.strings_HasPrefix (S (annE (L s))) ⟨#[125]⟩ W
    have e := pre_one (annE (L s)) 125
    rw [show (S (annE (L s))).data.toList = annE (L s) from rfl, show (⟨#[125]⟩ : ByteArray).data.toList = [125] from rfl, e.1] at this
    exact this)
  have HB : Hid (annB (L s) = (!(decide (d = 0)) && (annE (L s)).head? == some 125)) := Lib.hid (by
    unfold annB
    rw [hdd]
    cases annD (L s) <;> simp)
  have hel := annE_len (L s)
  have hes : (S (annE (L s))).size = (annE (L s)).length := S_size _
  rw [hll] at hel
  go_enter Tryd.func42, Tryd.ntmps42
  go_wp2_with fail
  go_loop [2, 5] (fun a b => ∃ k : Nat, k ≤ d ∧ a = .int .i64 (((annD (L s)).take k).foldl capN 0 : Nat) ∧ b = .int .i64 (1 + k : Nat)) (fun _ b => s.size - (intOf b).toNat)
  case atStart => exact ⟨0, Nat.zero_le _, rfl, rfl⟩
  case round =>
    obtain ⟨k, hk, rfl, rfl⟩ := hrel
    by_cases hlt : k < d
    · have hin := tw_in (p := isDig) (r := (L s).drop 1) (k := k) (by rw [hdd] at hlt; exact hlt)
      rw [bt_drop] at hin
      have hsz : 1 + k < s.size := by omega
      have ea := get_btx s (1 + k) hsz
      have HF : Hid (((annD (L s)).take (k + 1)).foldl capN 0 = capN (((annD (L s)).take k).foldl capN 0) (bt (L s) (1 + k))) := Lib.hid (by
        rw [fold_snoc _ _ _ _ (by omega)]
        unfold annD
        rw [tw_bt (by rw [hdd] at hlt; exact hlt), bt_drop])
      have hcap := cap_le ((annD (L s)).take k) 0 (by omega)
      have hD := Lib.hid (fun W => isDigit_any (bt (L s) (1 + k)) W)
      have hg := hin.2
      rw [hg] at hD
      rw [isDig_iff] at hg
      have HX : Hid (capN (((annD (L s)).take k).foldl capN 0) (bt (L s) (1 + k)) = min (((annD (L s)).take k).foldl capN 0 * 10 + ((bt (L s) (1 + k)).toNat - 48)) 4294967296) := Lib.hid rfl
      generalize ((annD (L s)).take k).foldl capN 0 = n at *
      generalize bt (L s) (1 + k) = c at *
      have hc1 := hg.1
      have hc2 := hg.2
      obtain ⟨q, hq⟩ : ∃ q : Nat, c.toNat = q + 48 := ⟨c.toNat - 48, by omega⟩
      have hq9 : q ≤ 9 := by omega
      have hks : ((1 + k : Nat) : Int) < (s.size : Int) := by omega
      have hks0 : (0 : Int) ≤ ((1 + k : Nat) : Int) := by omega
      rw [hq, show ((q + 48 : Nat) : Int) = (q : Int) + 48 by omega] at hD
      rw [hq, show q + 48 - 48 = q by omega] at HX
      clear hin hg
      go_wp2_with (go_at_call 64; with_reducible refine (hD.out _).mono ?_; rintro e w' ⟨rfl, rfl⟩)
      go_round
      case rel => exact ⟨k + 1, by omega, by rw [HF.out, HX.out]; congr 1; omega, by go_num⟩
      case measure => simp [intOf]; omega
    · obtain rfl : k = d := by omega
      clear hlt
      have hcase : (1 + k < s.size ∧ isDig (bt (L s) (1 + k)) = false) ∨ 1 + k = s.size := by
        by_cases hz : 1 + k < s.size
        · have hout := tw_out (p := isDig) (r := (L s).drop 1) (by rw [List.length_drop, hll]; unfold annD at hdd; omega)
          rw [bt_drop] at hout
          unfold annD at hdd
          rw [← hdd] at hout
          exact .inl ⟨hz, hout⟩
        · exact .inr (by omega)
      have HN : ((annD (L s)).take k).foldl capN 0 = annF (L s) := by rw [List.take_of_length_le (by omega)]; rfl
      have HV : Hid (annN (L s) = if annB (L s) then annF (L s) else 0) := Lib.hid rfl
      have HQ : Hid (annQ (L s) = (annB (L s) && annP (L s))) := Lib.hid rfl
      have HS : Hid (annS (L s) = if annB (L s) then (L s).length - (annE (L s)).length + 1 else 0) := Lib.hid rfl
      rw [HN]
      rw [hll] at HS
      clear HN hdd
      rw [HB.out] at HV HQ HS
      clear HB
      have hcap : annF (L s) ≤ 4294967296 := cap_le _ 0 (by omega)
      have hk1 : ((1 + k : Nat) : Int) ≤ (s.size : Int) := by omega
      have hk0 : (0 : Int) ≤ ((1 + k : Nat) : Int) := by omega
      generalize annF (L s) = n at *
      generalize annP (L s) = pl at *
      generalize ((annE (L s)).head? == some 125) = hb at *
      generalize annE (L s) = re at *
      generalize re.length = te at *
      generalize S re = tr at *
      generalize annR (L s) = ra at *
      rcases hcase with ⟨hz, hnd⟩ | hz
      · have ea := get_btx s (1 + k) hz
        have hks : ((1 + k : Nat) : Int) < (s.size : Int) := by omega
        have hD := Lib.hid (fun W => isDigit_any (bt (L s) (1 + k)) W)
        rw [hnd] at hD
        have h256 : (bt (L s) (1 + k)).toNat < 256 := bt_lt _ _
        clear hnd
        generalize bt (L s) (1 + k) = c at *
        have HR2 := HR.out
        by_cases hd0 : k = 0
        · subst hd0
          go_wp2_with (first | (go_at_call 64; with_reducible refine (hD.out _).mono ?_; rintro e w' ⟨rfl, rfl⟩) | (go_at_call 65; with_reducible refine (HC.out _).mono ?_; rintro e w' ⟨rfl, rfl⟩) | (go_at_call 66; with_reducible refine (HH.out _).mono ?_; rintro e w' ⟨rfl, rfl⟩))
          go_ret3
          exact ⟨by rw [HV.out, HQ.out, HS.out]; rfl, rfl⟩
        · have hkz : ((k : Int) == 0) = false := by rw [beq_eq_false_iff_ne]; omega
          rw [decide_eq_false hd0] at HV HQ HS
          cases hb
          · go_wp2_with (first | (go_at_call 64; with_reducible refine (hD.out _).mono ?_; rintro e w' ⟨rfl, rfl⟩) | (go_at_call 65; with_reducible refine (HC.out _).mono ?_; rintro e w' ⟨rfl, rfl⟩) | (go_at_call 66; with_reducible refine (HH.out _).mono ?_; rintro e w' ⟨rfl, rfl⟩))
            go_ret3
            exact ⟨by rw [HV.out, HQ.out, HS.out]; rfl, rfl⟩
          · have hsub : (s.size : Int) - (te : Int) + 1 = ((s.size - te + 1 : Nat) : Int) := by omega
            have hlo : te ≤ s.size := hel
            go_wp2_with (first | (go_at_call 64; with_reducible refine (hD.out _).mono ?_; rintro e w' ⟨rfl, rfl⟩) | (go_at_call 65; with_reducible refine (HC.out _).mono ?_; rintro e w' ⟨rfl, rfl⟩) | (go_at_call 66; with_reducible refine (HH.out _).mono ?_; rintro e w' ⟨rfl, rfl⟩))
            go_ret3
            exact ⟨by rw [HV.out, HQ.out, HS.out]; simp, rfl⟩
      · have HR2 := HR.out
        have hks : ¬ ((1 + k : Nat) : Int) < (s.size : Int) := by omega
        clear hz
        by_cases hd0 : k = 0
        · subst hd0
          go_wp2_with (first | (go_at_call 65; with_reducible refine (HC.out _).mono ?_; rintro e w' ⟨rfl, rfl⟩) | (go_at_call 66; with_reducible refine (HH.out _).mono ?_; rintro e w' ⟨rfl, rfl⟩))
          go_ret3
          exact ⟨by rw [HV.out, HQ.out, HS.out]; rfl, rfl⟩
        · have hkz : ((k : Int) == 0) = false := by rw [beq_eq_false_iff_ne]; omega
          rw [decide_eq_false hd0] at HV HQ HS
          cases hb
          · go_wp2_with (first | (go_at_call 65; with_reducible refine (HC.out _).mono ?_; rintro e w' ⟨rfl, rfl⟩) | (go_at_call 66; with_reducible refine (HH.out _).mono ?_; rintro e w' ⟨rfl, rfl⟩))
            go_ret3
            exact ⟨by rw [HV.out, HQ.out, HS.out]; rfl, rfl⟩
          · have hsub : (s.size : Int) - (te : Int) + 1 = ((s.size - te + 1 : Nat) : Int) := by omega
            have hlo : te ≤ s.size := hel
            go_wp2_with (first | (go_at_call 65; with_reducible refine (HC.out _).mono ?_; rintro e w' ⟨rfl, rfl⟩) | (go_at_call 66; with_reducible refine (HH.out _).mono ?_; rintro e w' ⟨rfl, rfl⟩))
            go_ret3
            exact ⟨by rw [HV.out, HQ.out, HS.out]; simp, rfl⟩
end Go.Proofs.YtliiapdakojomabDoor
