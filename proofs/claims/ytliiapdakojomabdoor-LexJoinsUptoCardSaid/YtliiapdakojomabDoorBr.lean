/- lex: lists of texts and lists of words that are alike, as the statements see it. -/
import Derived.Test.YtliiapdakojomabDoorAv
import Derived.Deep.QuietTactic
namespace Go.Proofs.YtliiapdakojomabDoor
open Go.RowKit

mutual
theorem eqW_eq : ∀ (c d : Wd), eqW c d = true → c = d
  | .mk k t l g, .mk k' t' l' g', h => by
    simp only [eqW, Bool.and_eq_true, decide_eq_true_eq] at h
    obtain ⟨h1, h2, h3, h4⟩ := h
    rw [h1, h2, h3, eqL_eq l l' h4]
theorem eqL_eq : ∀ (l m : List Wd), eqL l m = true → l = m
  | [], [], _ => rfl
  | a :: r, b :: s, h => by
    simp only [eqL, Bool.and_eq_true] at h
    rw [eqW_eq a b h.1, eqL_eq r s h.2]
  | [], _ :: _, h => by simp [eqL] at h
  | _ :: _, [], h => by simp [eqL] at h
end
theorem strs_of_all {a b : List ByteArray} (hl : a.length = b.length) (h : ∀ j, j < a.length → a.getD j ByteArray.empty = b.getD j ByteArray.empty) : a = b := by
  apply List.ext_getElem hl
  intro i h1 h2
  have := h i h1
  rw [List.getD_eq_getElem?_getD, List.getD_eq_getElem?_getD, List.getElem?_eq_getElem h1, List.getElem?_eq_getElem h2] at this
  simpa using this
theorem Strs.shape {w : World} {v : Value} {ss : List ByteArray} (h : Strs w v ss) : ∃ ao cap, v = .slice ao ss.length cap ∧ ss.length ≤ 140737488355328 ∧ (0 < ss.length → ∃ b off, ao = some ⟨b, off, none⟩ ∧ b < w.heap.size ∧ ∀ i, i < ss.length → w.cell? ⟨b, off + i, none⟩ = some (.string (ss.getD i ByteArray.empty))) := by
  rcases h with ⟨rfl, ao, cap, rfl⟩ | ⟨b, off, cap, rfl, _, h0, h1, h2⟩
  · exact ⟨ao, cap, rfl, by simp, fun h => by simp at h⟩
  · exact ⟨_, cap, rfl, h0, fun _ => ⟨b, off, rfl, h1, h2⟩⟩
theorem txt_eq {a b : ByteArray} : (a.toList == b.toList) = decide (a = b) := by
  by_cases h : a = b
  · rw [h]; simp
  · rw [decide_eq_false h, beq_eq_false_iff_ne]
    intro e
    exact h (by rw [← S_L a, ← S_L b, ← toList_L, ← toList_L, e])
set_option maxRecDepth 100000 in
set_option maxHeartbeats 2000000 in
theorem texts_any (v1 v2 : Value) (l1 l2 : List ByteArray) (w : World) (h1 : Strs w v1 l1) (h2 : Strs w v2 l2) :
    Calls Tryd.prog 22 #[v1, v2] w fun e w' => e = .returned (.bool (decide (l1 = l2))) ∧ Below w.heap.size w w' := by
  obtain ⟨ao, cap, rfl, hz1, hc1⟩ := h1.shape
  obtain ⟨bo, cap2, rfl, hz2, hc2⟩ := h2.shape
  have HC1 := Lib.hid hc1
  have HC2 := Lib.hid hc2
  clear h1 h2 hc1 hc2
  by_cases hlen : l1.length = l2.length
  · have hq : ((l1.length : Int) != (l2.length : Int)) = false := by rw [hlen]; simp
    have HLEN := Lib.hid hlen
    clear hlen
    go_enter Tryd.func22, Tryd.ntmps22
    go_wp2_with fail
    go_loopg [5] l1.length (fun gg s5 wr => ∃ k : Nat, k ≤ l1.length ∧ l1.length - k ≤ gg ∧ s5 = .int .i64 k ∧ Below w.heap.size w wr ∧ Hid (∀ j, j < k → l1.getD j ByteArray.empty = l2.getD j ByteArray.empty))
    case atStart => exact ⟨0, Nat.zero_le _, by omega, rfl, Below.refl _ _, Lib.hid fun j hj => absurd hj (Nat.not_lt_zero _)⟩
    case round =>
      obtain ⟨k, hk, hgg, rfl, hbw, I⟩ := hrel
      have HBW := Lib.hid hbw
      clear hbw
      by_cases hlt : k < l1.length
      · have hltz : (k : Int) < (l1.length : Int) := by omega
        have hlt2 : k < l2.length := by (have := HLEN.out; omega)
        have hltz2 : (k : Int) < (l2.length : Int) := by omega
        obtain ⟨b1, o1, hb1, hs1, g1⟩ := HC1.out (by omega)
        obtain ⟨b2, o2, hb2, hs2, g2⟩ := HC2.out (by omega)
        subst hb1
        subst hb2
        have c1 := g1 k hlt
        have d1 := g2 k hlt2
        rw [← HBW.out.cell (p := ⟨b1, o1 + k, none⟩) hs1] at c1
        rw [← HBW.out.cell (p := ⟨b2, o2 + k, none⟩) hs2] at d1
        have HF : Hid (¬ l1.getD k ByteArray.empty = l2.getD k ByteArray.empty → decide (l1 = l2) = false) := Lib.hid (fun h => decide_eq_false (fun e => h (by rw [e])))
        have HX := Lib.hid (txt_eq (a := l1.getD k ByteArray.empty) (b := l2.getD k ByteArray.empty))
        by_cases he : l1.getD k ByteArray.empty = l2.getD k ByteArray.empty
        · have hb : ((l1.getD k ByteArray.empty).toList == (l2.getD k ByteArray.empty).toList) = true := by rw [he]; simp
          have HE : Hid (∀ j, j = k → l1.getD j ByteArray.empty = l2.getD j ByteArray.empty) := Lib.hid (fun j hj => by rw [hj]; exact he)
          clear he HF HX g1 g2
          generalize l1.getD k ByteArray.empty = x at *
          generalize l2.getD k ByteArray.empty = y at *
          go_wp2_with fail
          go_quiet (fail)
          go_wp2_with fail
          go_roundg (l1.length - (k + 1))
          case measure => omega
          case rel =>
            refine ⟨k + 1, by omega, by omega, by go_num, below_drewN HBW.out _, Lib.hid fun j hj => ?_⟩
            by_cases e : j = k
            · exact HE.out j e
            · exact I.out j (by omega)
        · have hb : ((l1.getD k ByteArray.empty).toList == (l2.getD k ByteArray.empty).toList) = false := by
            rw [HX.out, decide_eq_false he]
          have HD := Lib.hid (HF.out he)
          clear he HF HX g1 g2
          generalize l1.getD k ByteArray.empty = x at *
          generalize l2.getD k ByteArray.empty = y at *
          go_wp2_with fail
          go_quiet (fail)
          go_wp2_with fail
          go_ret
          exact ⟨ret_bool HD.out.symm, below_drewN HBW.out _⟩
      · have hltz : ¬ (k : Int) < (l1.length : Int) := by omega
        have HY : Hid (decide (l1 = l2) = true) := Lib.hid (decide_eq_true (strs_of_all HLEN.out (fun j hj => I.out j (by omega))))
        go_wp2_with fail
        go_ret
        exact ⟨ret_bool HY.out.symm, HBW.out⟩
  · have hq : ((l1.length : Int) != (l2.length : Int)) = true := by rw [bne_iff_ne]; omega
    have HF : Hid (decide (l1 = l2) = false) := Lib.hid (decide_eq_false (fun e => hlen (by rw [e])))
    clear hlen
    go_enter Tryd.func22, Tryd.ntmps22
    go_wp2_with fail
    go_ret
    exact ⟨ret_bool HF.out.symm, Below.refl _ _⟩
end Go.Proofs.YtliiapdakojomabDoor
