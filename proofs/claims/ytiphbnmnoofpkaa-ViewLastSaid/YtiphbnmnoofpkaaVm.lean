/- span: the search among pieces, Of. -/
import Derived.Test.YtiphbnmnoofpkaaVl
namespace Go.Proofs.Ytiphbnmnoofpkaa
open Go.RowKit

theorem side_neg (a b n : Int) : sideI a b n < 0 ↔ b < n := by
  unfold sideI
  by_cases h1 : b < n
  · rw [if_pos h1]; omega
  · rw [if_neg h1]; split <;> omega
set_option maxRecDepth 100000 in
set_option maxHeartbeats 4000000 in
theorem search_any (v : Value) (l : List Rg) (m n : Int) (w : World) (hr : Rgs w v l) (hl : l.length ≤ 1000000) (hc : canonF m l) :
    Calls Try.prog 51 #[v, .int .i64 n, .func (.func 52) #[] #[]] w fun e w' => (∃ i : Int, e = .returned (.tuple #[.int .i64 i, .bool (l.any fun p => inB p n)])) ∧ Below w.heap.size w w' := by
  obtain ⟨ao, cap, hv, hcs⟩ := hr.shape
  subst hv
  have HCS := Lib.hid hcs
  have HCA := Lib.hid hc
  have HANY : ∃ R, R = l.any fun p => inB p n := ⟨_, rfl⟩
  obtain ⟨R, hR⟩ := HANY
  have HR := Lib.hid hR
  rw [← hR]
  clear hcs hr hc hR
  go_enter Try.func51, Try.ntmps51
  go_wp2_with fail
  go_loopg [9, 10] l.length (fun kx s9 s10 wr => ∃ lo hi : Nat, s9 = .int .i64 lo ∧ s10 = .int .i64 hi ∧ lo ≤ hi ∧ hi ≤ l.length ∧ hi - lo ≤ kx ∧ Below w.heap.size w wr ∧ Hid ((∀ t, t < lo → (l.getD t (0, 0)).2 < n) ∧ (∀ t, hi ≤ t → t < l.length → n ≤ (l.getD t (0, 0)).2)))
  case atStart => exact ⟨0, l.length, rfl, rfl, Nat.zero_le _, Nat.le_refl _, by omega, Below.refl _ _, Lib.hid ⟨fun t ht => absurd ht (Nat.not_lt_zero _), fun t h1 h2 => by omega⟩⟩
  case round =>
    obtain ⟨lo, hi, rfl, rfl, hlh, hin, hg, hbw, I⟩ := hrel
    have hbl := hbw.size
    by_cases hlt : lo < hi
    · obtain ⟨b, off, hao, hbs, hc⟩ := HCS.out (by omega)
      subst hao
      obtain ⟨c1, c2⟩ := hc ((lo + hi) / 2) (by omega)
      rw [← hbw.cell (p := ⟨b, off + (lo + hi) / 2 * 2, none⟩) hbs] at c1
      rw [← hbw.cell (p := ⟨b, off + (lo + hi) / 2 * 2 + 1, none⟩) hbs] at c2
      have HY : ∃ y, y = (l.getD ((lo + hi) / 2) (0, 0)).2 := ⟨_, rfl⟩
      obtain ⟨y, hy⟩ := HY
      have Y := Lib.hid hy
      rw [← hy] at c2
      clear hc hy
      generalize (l.getD ((lo + hi) / 2) (0, 0)).1 = x at c1
      have HS := Lib.hid (sideOf_any x y n)
      have HN := Lib.hid (side_neg x y n)
      generalize sideI x y n = q at *
      by_cases hyx : y < n
      · have hq : q < 0 := HN.out.2 hyx
        go_wp2_with (go_at_call 52; refine (HS.out _).mono ?_; rintro e w' ⟨rfl, hb'⟩)
        go_roundg (hi - ((lo + hi) / 2 + 1))
        case measure => omega
        case rel =>
          refine ⟨(lo + hi) / 2 + 1, hi, by rw [show ((lo : Int) + (hi : Int)) / 2 + 1 = (((lo + hi) / 2 + 1 : Nat) : Int) by omega], rfl, by omega, hin, Nat.le_refl _, hbw.trans (hb'.mono hbl), Lib.hid ⟨fun t ht => ?_, I.out.2⟩⟩
          by_cases e : t = (lo + hi) / 2
          · subst e; rw [← Y.out]; exact hyx
          · have a := canonF_lt HCA.out t ((lo + hi) / 2) (by omega) (by omega)
            have b := canonF_le HCA.out ((lo + hi) / 2) (by omega)
            rw [← Y.out] at b
            omega
      · have hq : ¬ q < 0 := fun h => hyx (HN.out.1 h)
        go_wp2_with (go_at_call 52; refine (HS.out _).mono ?_; rintro e w' ⟨rfl, hb'⟩)
        go_roundg ((lo + hi) / 2 - lo)
        case measure => omega
        case rel =>
          refine ⟨lo, (lo + hi) / 2, rfl, by rw [show ((lo : Int) + (hi : Int)) / 2 = (((lo + hi) / 2 : Nat) : Int) by omega], by omega, by omega, Nat.le_refl _, hbw.trans (hb'.mono hbl), Lib.hid ⟨I.out.1, fun t ht htn => ?_⟩⟩
          by_cases e : t = (lo + hi) / 2
          · subst e; rw [← Y.out]; omega
          · have a := canonF_lt HCA.out ((lo + hi) / 2) t (by omega) htn
            have b := canonF_le HCA.out t htn
            rw [← Y.out] at a
            omega
    · obtain rfl : hi = lo := by omega
      by_cases hn : hi < l.length
      · obtain ⟨b, off, hao, hbs, hc⟩ := HCS.out (by omega)
        subst hao
        obtain ⟨c1, c2⟩ := hc hi hn
        rw [← hbw.cell (p := ⟨b, off + hi * 2, none⟩) hbs] at c1
        rw [← hbw.cell (p := ⟨b, off + hi * 2 + 1, none⟩) hbs] at c2
        have hit := Lib.hid (fun h => find_hit (l := l) (n := n) hn h)
        have miss := Lib.hid (fun h => find_miss (n := n) HCA.out I.out.1 I.out.2 (fun _ => h))
        have h2 := Lib.hid (I.out.2 hi (Nat.le_refl _) hn)
        clear hc
        generalize (l.getD hi (0, 0)).1 = x at *
        generalize (l.getD hi (0, 0)).2 = y at *
        have HS := Lib.hid (sideOf_any x y n)
        have HZ : Hid ((sideI x y n == 0) = inB (x, y) n) := Lib.hid (side_zero (x, y) n)
        generalize sideI x y n = q at *
        by_cases hxn : n < x
        · have hq : (q == 0) = false := by rw [HZ.out]; unfold inB; rw [Bool.and_eq_false_iff, decide_eq_false_iff_not]; left; exact Int.not_le.2 hxn
          have HRR : Hid (R = false) := Lib.hid (HR.out.trans (miss.out hxn))
          go_wp2_with (go_at_call 52; refine (HS.out _).mono ?_; rintro e w' ⟨rfl, hb'⟩)
          go_ret2
          exact ⟨⟨_, by rw [HRR.out]; rfl⟩, hbw.trans (hb'.mono hbl)⟩
        · have hin2 : inB (x, y) n = true := by unfold inB; rw [Bool.and_eq_true, decide_eq_true_iff, decide_eq_true_iff]; exact ⟨Int.not_lt.1 hxn, h2.out⟩
          have hq : (q == 0) = true := by rw [HZ.out]; exact hin2
          have HRR : Hid (R = true) := Lib.hid (HR.out.trans (hit.out hin2))
          clear hin2
          go_wp2_with (go_at_call 52; refine (HS.out _).mono ?_; rintro e w' ⟨rfl, hb'⟩)
          go_ret2
          exact ⟨⟨_, by rw [HRR.out]; rfl⟩, hbw.trans (hb'.mono hbl)⟩
      · have HRR : Hid (R = false) := Lib.hid (HR.out.trans (find_miss (n := n) HCA.out I.out.1 I.out.2 (fun h => absurd h hn)))
        go_wp2
        go_ret2
        exact ⟨⟨_, by rw [HRR.out]; rfl⟩, hbw⟩
end Go.Proofs.Ytiphbnmnoofpkaa
