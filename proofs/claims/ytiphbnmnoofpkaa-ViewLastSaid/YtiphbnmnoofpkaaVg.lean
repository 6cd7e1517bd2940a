/- span: together. -/
import Derived.Test.YtiphbnmnoofpkaaVf
import Derived.Deep.QuietTactic
import Derived.BigQuiet
namespace Go.Proofs.Ytiphbnmnoofpkaa
open Go.RowKit

theorem OwnR.form {B : Nat} {v : Value} {pre : List Rg} {q : Rg} {W0 w : World} (h : OwnR B v (pre ++ [q]) W0 w) : ∃ g cap, v = .slice (some ⟨g, 0, none⟩) (pre.length + 1) cap ∧ B ≤ g ∧ g < w.heap.size ∧ w.cell? ⟨g, pre.length * 2, none⟩ = some (.int .i64 q.1) ∧ w.cell? ⟨g, pre.length * 2 + 1, none⟩ = some (.int .i64 q.2) ∧ w.frozen? ⟨g, pre.length * 2 + 1, none⟩ = false := by
  rcases h.row.2 with ⟨rfl, h0⟩ | ⟨g, cap, cur, rfl, hB, hg, rest⟩
  · simp at h0
  · have e : (pre ++ [q]).length = pre.length + 1 := by simp
    refine ⟨g, cap, by rw [e], hB, (Array.getElem?_eq_some_iff.1 hg).1, ?_, ?_, h.row.frozenAt _⟩
    · rw [h.row.cellAt _ (by rw [e]; omega), (rc_at (pre ++ [q]) pre.length (by simp)).1]; simp
    · rw [h.row.cellAt _ (by rw [e]; omega), (rc_at (pre ++ [q]) pre.length (by simp)).2]; simp
theorem rc_set2 (pre : List Rg) (q : Rg) (z : Int) : (rc (pre ++ [q])).set (pre.length * 2 + 1) (.int .i64 z) = rc (pre ++ [(q.1, z)]) := by
  rw [rc_append, rc_append, List.set_append_right _ _ (by rw [rc_length]; omega), rc_length, show pre.length * 2 + 1 - pre.length * 2 = 1 by omega]
  rfl
theorem OwnR.setTo {B g cap : Nat} {pre : List Rg} {q : Rg} {W0 w : World} (h : OwnR B (.slice (some ⟨g, 0, none⟩) (pre.length + 1) cap) (pre ++ [q]) W0 w) (hB : B ≤ g) (z : Int) :
    OwnR B (.slice (some ⟨g, 0, none⟩) (pre.length + 1) cap) (pre ++ [(q.1, z)]) W0 (w.setCell ⟨g, pre.length * 2 + 1, none⟩ (.int .i64 z)) := by
  have e : (pre ++ [q]).length = pre.length + 1 := by simp
  have e' : (pre ++ [(q.1, z)]).length = pre.length + 1 := by simp
  have hr := h.row
  rw [e] at hr
  have hs := hr.stored (pre.length * 2 + 1) (.int .i64 z)
  rw [rc_set2] at hs
  exact ⟨by rw [e']; exact hs.1, h.below.setCell hB _, by simpa using h.base⟩

def accT (l : List Rg) (k : Nat) : List Rg := (l.take k).foldl stp []
theorem accT_succ (l : List Rg) (k : Nat) (hk : k < l.length) : accT l (k + 1) = stp (accT l k) (l.getD k (0, 0)) := by
  unfold accT
  rw [List.take_succ_eq_append_getElem hk, List.foldl_append]
  simp [hk]
theorem stp_length (a : List Rg) (p : Rg) : (stp a p).length ≤ a.length + 1 := by
  induction a with
  | nil => simp [stp]
  | cons x r ih =>
    cases r with
    | nil => unfold stp; split <;> simp
    | cons y r => show (x :: stp (y :: r) p).length ≤ _; simp at ih ⊢; omega
theorem accT_length (l : List Rg) (k : Nat) : (accT l k).length ≤ k := by
  induction k with
  | zero => simp [accT]
  | succ k ih =>
    by_cases hk : k < l.length
    · rw [accT_succ l k hk]; have := stp_length (accT l k) (l.getD k (0, 0)); omega
    · have : accT l (k + 1) = accT l k := by unfold accT; rw [List.take_of_length_le (by omega), List.take_of_length_le (by omega)]
      rw [this]; omega
theorem snoc_of {l : List Rg} (h : l ≠ []) : ∃ pre q, l = pre ++ [q] := ⟨l.dropLast, l.getLast h, (List.dropLast_concat_getLast h).symm⟩

set_option maxRecDepth 100000 in
set_option maxHeartbeats 2000000 in
theorem together_any (v : Value) (l : List Rg) (w : World) (hr : Rgs w v l) (hl : l.length ≤ 8796093022207) (hb : ∀ p ∈ l, 1 ≤ p.1 ∧ p.1 ≤ p.2 ∧ p.1 ≤ 9223372036854775807) :
    Calls Try.prog 60 #[v] w fun e w' => ∃ v', e = .returned v' ∧ OwnR w.heap.size v' (tog l) w w' := by
  have HC := Lib.hid (clone_any v l w hr)
  have HB := Lib.hid hb
  clear hr hb
  go_enter Try.func60, Try.ntmps60
  go_wp2_with fail
  refine HC.out.mono ?_
  rintro e w1 ⟨v1, rfl, ho1⟩
  have HO1 := Lib.hid ho1
  clear ho1
  go_wp2_with fail
  refine (sort_any HO1.out (by omega)).mono ?_
  rintro e w2 ⟨rfl, l', hr2, hlen, hmem, hso, hbw, hsz⟩
  have HR2 := Lib.hid hr2
  have HM := Lib.hid hmem
  have HS := Lib.hid hso
  have HBW := Lib.hid hbw
  have HLN := Lib.hid hlen
  have HSZ := Lib.hid hsz
  clear hr2 hmem hso hbw hlen hsz
  rcases HR2.out with ⟨hl0, ao, cap, rfl, _⟩ | ⟨gs, off, cap, hv1, hl2, hgs, hcs⟩
  · have HE : Hid (tog l = []) := Lib.hid (by
      have := HLN.out
      rw [hl0] at this
      have : l = [] := List.eq_nil_of_length_eq_zero (by simpa using this.symm)
      rw [this]; rfl)
    go_wp2_with fail
    refine wp_loop_rounds 1 ?_
    rw [rounds_succ]
    go_wp2_with fail
    go_ret
    refine ⟨_, rfl, ?_⟩
    rw [HE.out]
    exact OwnR.nil HBW.out (Nat.le_trans HO1.out.base HSZ.out)
  · subst hv1
    have HCS := Lib.hid hcs
    have HT : Hid (accT l' l'.length = tog l) := Lib.hid (by
      unfold accT
      rw [List.take_of_length_le (Nat.le_refl _)]
      exact tog_of_sorted (m := -1) (fun p hp => by have := HB.out p hp; omega) HM.out HS.out)
    clear hcs
    go_wp2_with fail
    go_loopg [4, 14] l'.length (fun gg s4 s14 wr => ∃ (k : Nat) (v4 : Value), k ≤ l'.length ∧ l'.length - k ≤ gg ∧ s14 = .int .i64 k ∧ v4 = s4 ∧ OwnR w2.heap.size v4 (accT l' k) w2 wr)
    case atStart => exact ⟨0, _, Nat.zero_le _, by omega, rfl, rfl, OwnR.nil (Below.refl _ _) (Nat.le_refl _)⟩
    case round =>
      obtain ⟨k, v4, hk, hgg, rfl, hv4, hown⟩ := hrel
      subst hv4
      have HOW := Lib.hid hown
      clear hown
      by_cases hlt : k < l'.length
      · have hltz : (k : Int) < (l'.length : Int) := by omega
        obtain ⟨c1, c2⟩ := HCS.out k hlt
        rw [← HOW.out.below.cell (p := ⟨gs, off + k * 2, none⟩) hgs] at c1
        rw [← HOW.out.below.cell (p := ⟨gs, off + k * 2 + 1, none⟩) hgs] at c2
        have hbd := HB.out (l'.getD k (0, 0)) ((HM.out _).1 (by rw [List.getD_eq_getElem?_getD, List.getElem?_eq_getElem hlt]; exact List.getElem_mem hlt))
        have hac := Lib.hid (accT_succ l' k hlt)
        have hal := accT_length l' k
        have HQ : Hid (l'.getD k (0, 0) = ((l'.getD k (0, 0)).1, (l'.getD k (0, 0)).2)) := Lib.hid rfl
        generalize (l'.getD k (0, 0)).1 = x at *
        generalize (l'.getD k (0, 0)).2 = y at *
        rw [HQ.out] at hac
        clear HQ
        obtain ⟨hx1, hxy, hx2⟩ := hbd
        by_cases hz : accT l' k = []
        · rw [hz] at HOW hac
          replace hac : Hid (accT l' (k + 1) = [(x, y)]) := hac
          obtain ⟨ao, cp, hsl⟩ : ∃ ao cp, v4 = .slice ao 0 cp := by
            rcases HOW.out.row.2 with ⟨h, _⟩ | ⟨g, cap, cur, h, _⟩
            · exact ⟨_, _, h⟩
            · exact ⟨_, _, h⟩
          subst hsl
          go_wp2_with fail
          go_quiet (fail)
          go_wp2_with (at_builtin; refine appP rfl _ _ rfl x y ((HOW.out.alloc _).drewN _) rfl (by show Value.slice _ 1 1 = _; simp) (by simp) ?_)
          intro v5 w5 ho5
          have HO5 := Lib.hid ho5
          clear ho5
          go_wp2_with fail
          go_roundg (l'.length - (k + 1))
          case measure => omega
          case rel => exact ⟨k + 1, _, by omega, by omega, by go_num, rfl, by rw [hac.out]; exact HO5.out⟩
        · obtain ⟨pre, q, hpq⟩ := snoc_of hz
          rw [hpq] at HOW hac hal
          rw [stp_snoc] at hac
          obtain ⟨g, cp, hsl, hg1, hg2, d1, d2, d3⟩ := HOW.out.form
          subst hsl
          clear hz hpq
          generalize hq1 : q.1 = q1 at *
          generalize hq2 : q.2 = q2 at *
          have HQ1 := Lib.hid hq1
          have HQ2 := Lib.hid hq2
          clear hq1 hq2
          have hpl : pre.length + 2 ≤ 8796093022208 := by (have := HLN.out; simp at hal; omega)
          have b0 : (0 : Int) ≤ (pre.length : Int) := by omega
          by_cases hc : x - 1 ≤ q2
          · have hcd : decide (x - 1 ≤ q2) = true := by simpa using hc
            go_wp2_with fail
            go_quiet (fail)
            rw [if_pos hc] at hac
            go_wp2_with fail
            go_region
            go_wp2_with fail
            go_roundg (l'.length - (k + 1))
            case measure => omega
            case rel => exact ⟨k + 1, _, by omega, by omega, by go_num, rfl, by rw [hac.out, ← HQ1.out]; exact OwnR.setTo ((HOW.out.alloc _).drewN _) hg1 (max q2 y)⟩
          · rw [if_neg hc] at hac
            have hcd : decide (x - 1 ≤ q2) = false := by simpa using hc
            go_wp2_with fail
            go_quiet (fail)
            go_wp2_with (at_builtin; refine appP rfl _ _ rfl x y ((HOW.out.alloc _).drewN _) rfl (by show Value.slice _ 1 1 = _; simp) (by simpa using hpl) ?_)
            intro v5 w5 ho5
            have HO5 := Lib.hid ho5
            clear ho5
            go_wp2_with fail
            go_roundg (l'.length - (k + 1))
            case measure => omega
            case rel => exact ⟨k + 1, _, by omega, by omega, by go_num, rfl, by rw [hac.out, List.append_assoc]; exact HO5.out⟩
      · have hltz : ¬ (k : Int) < (l'.length : Int) := by omega
        have : k = l'.length := by omega
        subst this
        go_wp2_with fail
        go_ret
        refine ⟨_, rfl, ?_⟩
        rw [← HT.out]
        exact (HOW.out.mono (Nat.le_trans HO1.out.base HSZ.out)).shift HBW.out
end Go.Proofs.Ytiphbnmnoofpkaa
