/- span: Of. -/
import Derived.Test.YtiphbnmnoofpkaaVm
namespace Go.Proofs.Ytiphbnmnoofpkaa
open Go.RowKit

def lastI (list : List Int) : Int := list.getD (list.length - 1) 0
def ofL (l : List Rg) (list : List Int) : List Int := list.filter fun n => hasB l n (lastI list)
theorem ofL_small (l : List Rg) (list : List Int) (h : ¬ 1 ≤ lastI list) : ofL l list = [] := by
  unfold ofL
  rw [List.filter_eq_nil_iff]
  intro n _
  unfold hasB
  rw [decide_eq_false h]; simp
theorem any_tog (l : List Rg) (n g : Int) (hg : 1 ≤ g) (hg2 : g ≤ 9223372036854775807) : ((tog (setsL l g)).any fun p => inB p n) = hasB l n g := by
  have h := (tog_canon (l := setsL l g) (m := -1) (fun p hp => by have := setsL_ok hg hg2 p hp; omega)).2 n
  rw [cov_setsL l n g hg] at h
  rw [Bool.eq_iff_iff, ← h, List.any_eq_true]
  unfold cov inB
  simp
theorem filter_snoc (p : Int → Bool) (l : List Int) (k : Nat) (hk : k < l.length) : (l.take (k + 1)).filter p = (l.take k).filter p ++ (if p (l.getD k 0) = true then [l.getD k 0] else []) := by
  rw [take_snocI l k hk, List.filter_append]
  congr 1
  by_cases h : p (l.getD k 0) = true
  · rw [if_pos h, List.filter_cons_of_pos h]; rfl
  · rw [if_neg h, List.filter_cons_of_neg h]; rfl
set_option maxRecDepth 100000 in
set_option maxHeartbeats 4000000 in
theorem of_any (v v2 : Value) (l : List Rg) (list : List Int) (w : World) (hr : Rgs w v l) (hr2 : Ints w v2 list) (hl : l.length ≤ 1000000) (hl2 : list.length ≤ 1000000) (hmax : ∀ n ∈ list, n ≤ 9223372036854775807) :
    Calls Try.prog 31 #[v, v2] w fun e w' => ∃ v', e = .returned v' ∧ OwnI w.heap.size v' (ofL l list) w w' := by
  rcases hr2 with ⟨rfl, ao, cap, rfl, _⟩ | ⟨b, off, cap, rfl, _, hbs, hc⟩
  · go_enter Try.func31, Try.ntmps31
    go_wp2
    go_ret
    exact ⟨_, rfl, OwnI.nil (Below.refl _ _) (Nat.le_refl _)⟩
  · by_cases h0 : list = []
    · subst h0
      go_enter Try.func31, Try.ntmps31
      go_wp2
      go_ret
      exact ⟨_, rfl, OwnI.nil (Below.refl _ _) (Nat.le_refl _)⟩
    obtain ⟨m, hm⟩ : ∃ m, list.length = m + 1 := ⟨list.length - 1, by have := List.length_pos_iff.2 h0; omega⟩
    have HC := Lib.hid hc
    have HM := Lib.hid hm
    have cl : w.cell? ⟨b, off + m, none⟩ = some (.int .i64 (lastI list)) := by (have := hc m (by omega); unfold lastI; rw [hm]; exact this)
    have hlm : lastI list ≤ 9223372036854775807 := hmax _ (by unfold lastI; rw [List.getD_eq_getElem?_getD, List.getElem?_eq_getElem (by omega)]; exact List.getElem_mem (by omega))
    have hmb : m + 1 ≤ 1000000 := by omega
    rw [hm]
    have hz0 : ((m : Int) + 1 == 0) = false := by (rw [beq_eq_false_iff_ne]; omega)
    clear hc hm h0 hl2
    by_cases hg : 1 ≤ lastI list
    · have HA := Lib.hid (allSettled_any v l (lastI list) w hr hl hg hlm)
      have HT := Lib.hid (fun n => any_tog l n (lastI list) hg hlm)
      have HCN := Lib.hid (tog_canon (l := setsL l (lastI list)) (m := -1) (fun p hp => by (have := setsL_ok hg hlm p hp; omega))).1
      have htl : (tog (setsL l (lastI list))).length ≤ 1000000 := Nat.le_trans tog_length (Nat.le_trans (setsL_length l _) hl)
      have HOL : Hid (ofL l list = list.filter fun n => hasB l n (lastI list)) := Lib.hid rfl
      clear hr hmax
      generalize lastI list = g at *
      generalize tog (setsL l g) = T at *
      go_enter Try.func31, Try.ntmps31
      go_wp2_with (go_at_call 50; refine HA.out.mono ?_; rintro e w1 ⟨v1, rfl, ho1⟩; have HO1 := Lib.hid ho1; clear ho1)
      go_loopg [6, 33] (m + 1) (fun gg s6 s33 wr => ∃ (k : Nat) (v6 : Value), k ≤ m + 1 ∧ m + 1 - k ≤ gg ∧ s33 = .int .i64 k ∧ v6 = s6 ∧ OwnI w1.heap.size v6 ((list.take k).filter fun n => hasB l n g) w1 wr)
      case atStart => exact ⟨0, _, Nat.zero_le _, by omega, rfl, rfl, OwnI.nil (Below.refl _ _) (Nat.le_refl _)⟩
      case round =>
        obtain ⟨k, v6, hk, hgg, rfl, hv6, hown⟩ := hrel
        subst hv6
        have HOW := Lib.hid hown
        clear hown
        by_cases hlt : k < m + 1
        · have hltz : (k : Int) < (m : Int) + 1 := by omega
          have c1 := HC.out k (by rw [HM.out]; exact hlt)
          have hbb := (HO1.out.below.trans (HOW.out.below.mono HO1.out.base))
          rw [← hbb.cell (p := ⟨b, off + k, none⟩) hbs] at c1
          clear hbb
          have hac := Lib.hid (filter_snoc (fun n => hasB l n g) list k (by rw [HM.out]; exact hlt))
          have hfl : ((list.take k).filter fun n => hasB l n g).length ≤ 1000000 := by (have := List.length_filter_le (fun n => hasB l n g) (list.take k); rw [List.length_take] at this; omega)
          generalize list.getD k 0 = x at *
          have HSR := Lib.hid (fun X (hX : OwnI w1.heap.size v6 ((list.take k).filter fun n => hasB l n g) w1 X) => search_any v1 T (-1) x X ((HO1.out.rgs (by omega)).on hX.below) htl HCN.out)
          rw [HT.out x] at HSR
          cases hh : hasB l x g with
          | true =>
            rw [hh] at HSR
            rw [if_pos hh] at hac
            clear hh
            go_wp2_with (first | (go_at_call 51; refine (HSR.out _ HOW.out).mono ?_; rintro e w2 ⟨⟨i2, rfl⟩, hb2⟩) | (at_builtin; refine appI rfl _ _ rfl x (HOW.out.on hb2) rfl rfl (by omega) ?_))
            intro v7 w7 ho7
            have HO7 := Lib.hid ho7
            clear ho7
            go_wp2_with fail
            go_roundg (m + 1 - (k + 1))
            case measure => omega
            case rel => exact ⟨k + 1, _, by omega, by omega, by go_num, rfl, by rw [hac.out]; exact HO7.out⟩
          | false =>
            rw [hh] at HSR
            rw [if_neg (by rw [hh]; simp), List.append_nil] at hac
            clear hh
            go_wp2_with (go_at_call 51; refine (HSR.out _ HOW.out).mono ?_; rintro e w2 ⟨⟨i2, rfl⟩, hb2⟩)
            go_roundg (m + 1 - (k + 1))
            case measure => omega
            case rel => exact ⟨k + 1, _, by omega, by omega, by go_num, rfl, by rw [hac.out]; exact HOW.out.on hb2⟩
        · have hltz : ¬ (k : Int) < (m : Int) + 1 := by omega
          have : k = m + 1 := by omega
          subst this
          rw [List.take_of_length_le (by rw [HM.out]; exact Nat.le_refl _)] at HOW
          go_wp2_with fail
          go_ret
          exact ⟨_, rfl, by rw [HOL.out]; exact (HOW.out.mono HO1.out.base).shift HO1.out.below⟩
    · have HE := Lib.hid (ofL_small l list hg)
      clear hr hmax
      generalize lastI list = g at *
      go_enter Try.func31, Try.ntmps31
      go_wp2_with fail
      go_ret
      exact ⟨_, rfl, by rw [HE.out]; exact OwnI.nil (Below.refl _ _) (Nat.le_refl _)⟩
end Go.Proofs.Ytiphbnmnoofpkaa
