/- span: Join. -/
import Derived.Test.YtkclcjnfjielfabDoorVj
namespace Go.Proofs.YtkclcjnfjielfabDoor
open Go.RowKit

/-- What Join holds in a round. -/
structure JW (B : Nat) (W0 : World) (st : JS) (v3 v4 : Value) (w : World) : Prop where
  r : OwnR B v3 st.1 W0 w
  n : OwnI B v4 st.2.1 W0 w
theorem JW.on {B : Nat} {W0 w w' : World} {st : JS} {v3 v4 : Value} (h : JW B W0 st v3 v4 w) (hb : Below w.heap.size w w') : JW B W0 st v3 v4 w' := ⟨h.r.on hb, h.n.on hb⟩
theorem JW.alloc {B : Nat} {W0 w : World} {st : JS} {v3 v4 : Value} (h : JW B W0 st v3 v4 w) (o : Obj) : JW B W0 st v3 v4 (w.alloc o) := ⟨h.r.alloc o, h.n.alloc o⟩
theorem own_shapeI {B : Nat} {v : Value} {l : List Int} {W0 w : World} (h : OwnI B v l W0 w) : ∃ ao cap, v = .slice ao l.length cap ∧ (l ≠ [] → ∃ g, ao = some ⟨g, 0, none⟩ ∧ ∀ i, i < l.length → w.cell? ⟨g, 0 + i, none⟩ = some (.int .i64 (l.getD i 0))) := by
  rcases h.row.2 with ⟨rfl, h0⟩ | ⟨g, cap, cur, rfl, hB, hg, rest⟩
  · have : l = [] := List.eq_nil_of_length_eq_zero h0
    subst this
    exact ⟨none, 0, rfl, fun h => absurd rfl h⟩
  · refine ⟨_, _, rfl, fun _ => ⟨g, rfl, fun i hi => ?_⟩⟩
    have c1 := h.row.cells (g := g) rfl i _ (ic_at l i hi)
    rw [Addr.add_lit] at c1
    exact c1

set_option maxRecDepth 100000 in
set_option maxHeartbeats 4000000 in
theorem join_any (v : Value) (ll : List (List Rg)) (w : World) (hr : Sets w v ll) (hl : ll.flatten.length ≤ 1000000) :
    Calls Tryd.prog 25 #[v] w fun e w' => ∃ v', e = .returned v' ∧ OwnR w.heap.size v' (joinL ll) w w' := by
  obtain ⟨ao, cap, hv, hcs⟩ : ∃ ao cap, v = .slice ao ll.length cap ∧ (0 < ll.length → ∃ (b off : Nat) (f : Nat → Value), ao = some ⟨b, off, none⟩ ∧ b < w.heap.size ∧ ∀ i, i < ll.length → w.cell? ⟨b, off + i, none⟩ = some (f i) ∧ Rgs w (f i) (ll.getD i [])) := by
    rcases hr with ⟨rfl, ao, cap, rfl, _⟩ | ⟨b, off, cap, f, rfl, _, h1, h2⟩
    · exact ⟨ao, cap, rfl, fun h => by simp at h⟩
    · exact ⟨_, _, rfl, fun _ => ⟨b, off, f, rfl, h1, h2⟩⟩
  subst hv
  have HCS := Lib.hid hcs
  have hbig : ll.length ≤ 5864062014805 := by
    rcases hr with ⟨rfl, _⟩ | ⟨_, _, _, _, _, h, _⟩
    · simp
    · exact h
  clear hcs hr
  go_enter Tryd.func25, Tryd.ntmps25
  go_wp2_with fail
  go_loopg [3, 4, 5, 12] ll.length (fun gg s3 s4 s5 s12 wr => ∃ (i : Nat) (v3 v4 : Value) (bb : Bool), i ≤ ll.length ∧ ll.length - i ≤ gg ∧ s12 = .int .i64 i ∧ v3 = s3 ∧ v4 = s4 ∧ s5 = .bool bb ∧ Hid (bb = (jfold (ll.take i).flatten).2.2) ∧ JW w.heap.size w (jfold (ll.take i).flatten) v3 v4 wr)
  case atStart => exact ⟨0, _, _, _, Nat.zero_le _, by omega, rfl, rfl, rfl, rfl, Lib.hid rfl, OwnR.nil (Below.refl _ _) (Nat.le_refl _), OwnI.nil (Below.refl _ _) (Nat.le_refl _)⟩
  case round =>
    obtain ⟨i, v3, v4, bb, hi, hgg, rfl, hv3, hv4, rfl, hbb, hjw⟩ := hrel
    subst hv3
    subst hv4
    have HJ := Lib.hid hjw
    clear hjw
    by_cases hlt : i < ll.length
    · have hltz : (i : Int) < (ll.length : Int) := by omega
      obtain ⟨b, off, f, rfl, hb, hc⟩ := HCS.out (by omega)
      obtain ⟨c1, c2⟩ := hc i hlt
      rw [← HJ.out.r.below.cell (p := ⟨b, off + i, none⟩) hb] at c1
      obtain ⟨ao2, cap2, hs2, hcell2⟩ := c2.shape
      have HC2 := Lib.hid hcell2
      have HFT := Lib.hid (flatten_take ll i hlt)
      have hfl : ((ll.take i).flatten ++ ll.getD i []).length ≤ 1000000 := by (rw [← flatten_take ll i hlt]; exact Nat.le_trans (flatten_take_le ll (i + 1)) hl)
      rw [hs2] at c1
      clear hcell2 c2 hc hs2
      generalize ll.getD i [] = l at *
      generalize (ll.take i).flatten = P at *
      have hll : l.length ≤ 1000000 := by (rw [List.length_append] at hfl; omega)
      go_wp2_with fail
      go_loopg [3, 4, 5, 18] l.length (fun gg s3 s4 s5 s18 wr => ∃ (k : Nat) (v3 v4 : Value) (bb : Bool), k ≤ l.length ∧ l.length - k ≤ gg ∧ s18 = .int .i64 k ∧ v3 = s3 ∧ v4 = s4 ∧ s5 = .bool bb ∧ Hid (bb = (jfold (P ++ l.take k)).2.2) ∧ JW w.heap.size w (jfold (P ++ l.take k)) v3 v4 wr)
      case atStart => exact ⟨0, _, _, _, Nat.zero_le _, by omega, rfl, rfl, rfl, rfl, by rw [List.take_zero, List.append_nil]; exact hbb, by rw [List.take_zero, List.append_nil]; exact HJ.out⟩
      case round =>
        clear HJ hbb
        obtain ⟨k, v3, v4, bb, hk, hgg2, rfl, hv3, hv4, rfl, hbb, hjw⟩ := hrel
        subst hv3
        subst hv4
        have HJ := Lib.hid hjw
        clear hjw
        by_cases hlt2 : k < l.length
        · have hltz2 : (k : Int) < (l.length : Int) := by omega
          obtain ⟨b2, off2, rfl, hb2, hc2⟩ := HC2.out (by omega)
          obtain ⟨c1, c2⟩ := hc2 k hlt2
          rw [← HJ.out.r.below.cell (p := ⟨b2, off2 + k * 2, none⟩) hb2] at c1
          rw [← HJ.out.r.below.cell (p := ⟨b2, off2 + k * 2 + 1, none⟩) hb2] at c2
          have HST : Hid (jfold (P ++ l.take (k + 1)) = jst (jfold (P ++ l.take k)) (l.getD k (0, 0))) := Lib.hid (by rw [take_snocR l k hlt2, ← List.append_assoc, jfold_snoc])
          have hlen := jfold_length (P ++ l.take k)
          have hpl : (P ++ l.take k).length ≤ 1000000 := by (simp only [List.length_append, List.length_take] at hfl ⊢; omega)
          have hl1 : (jfold (P ++ l.take k)).1.length ≤ 1000000 := Nat.le_trans hlen.1 hpl
          have hl2 : (jfold (P ++ l.take k)).2.1.length ≤ 1000000 := Nat.le_trans hlen.2 hpl
          have HQ : Hid (l.getD k (0, 0) = ((l.getD k (0, 0)).1, (l.getD k (0, 0)).2)) := Lib.hid rfl
          clear hlen hpl hc2
          generalize (l.getD k (0, 0)).1 = x at *
          generalize (l.getD k (0, 0)).2 = y at *
          rw [HQ.out] at HST
          clear HQ
          generalize jfold (P ++ l.take k) = st at *
          cases hp : pieceB (x, y) with
          | false =>
            have HE : Hid (jst st (x, y) = st) := Lib.hid (by unfold jst; rw [if_pos hp])
            rw [HE.out] at HST
            go_wp2_with (go_at_call 46; refine (isPiece_any _ _ _).mono ?_; rintro e w1 ⟨rfl, hb1⟩)
            go_roundg (l.length - (k + 1))
            case measure => omega
            case rel => exact ⟨k + 1, _, _, _, by omega, by omega, by go_num, rfl, rfl, rfl, by rw [HST.out]; exact hbb, by rw [HST.out]; exact (HJ.out.alloc _).on hb1⟩
          | true =>
            by_cases hx : x = 0
            · subst hx
              by_cases hy : y = 0
              · subst hy
                have HE : Hid (jst st (0, 0) = (st.1, st.2.1, true)) := Lib.hid (by unfold jst; rw [if_neg (by rw [hp]; simp), if_neg (by simp), if_neg (by simp)])
                rw [HE.out] at HST
                go_wp2_with (go_at_call 46; refine (isPiece_any _ _ _).mono ?_; rintro e w1 ⟨rfl, hb1⟩; obtain ⟨hc, hf⟩ := bcell hb1)
                go_roundg (l.length - (k + 1))
                case measure => omega
                case rel => exact ⟨k + 1, _, _, _, by omega, by omega, by go_num, rfl, rfl, rfl, by rw [HST.out]; exact Lib.hid rfl, by rw [HST.out]; exact ⟨((HJ.out.alloc _).on hb1).r, ((HJ.out.alloc _).on hb1).n⟩⟩
              · have hne : ((0 : Int) != y) = true := by (rw [bne_iff_ne]; omega)
                have HE : Hid (jst st (0, y) = (st.1, st.2.1 ++ [max 0 y], st.2.2)) := Lib.hid (by unfold jst; rw [if_neg (by rw [hp]; simp), if_neg (by simp), if_pos (by simpa using fun h => hy h.symm)])
                rw [HE.out] at HST
                go_wp2_with (first | (go_at_call 46; refine (isPiece_any _ _ _).mono ?_; rintro e w1 ⟨rfl, hb1⟩; obtain ⟨hc, hf⟩ := bcell hb1) | (at_builtin; refine appIk rfl _ _ rfl (max 0 y) ((HJ.out.alloc _).on hb1).r ((HJ.out.alloc _).on hb1).n rfl rfl (by omega) ?_))
                intro v5 w5 ho5 ho6
                have HO5 := Lib.hid ho5
                have HO6 := Lib.hid ho6
                clear ho5 ho6
                go_wp2_with fail
                go_roundg (l.length - (k + 1))
                case measure => omega
                case rel => exact ⟨k + 1, _, _, _, by omega, by omega, by go_num, rfl, rfl, rfl, by rw [HST.out]; exact hbb, by rw [HST.out]; exact ⟨HO5.out, HO6.out⟩⟩
            · have hx0 : (x != 0) = true := by (rw [bne_iff_ne]; exact hx)
              by_cases hy : y = 0
              · subst hy
                have HE : Hid (jst st (x, 0) = (st.1, st.2.1 ++ [max x 0], st.2.2)) := Lib.hid (by unfold jst; rw [if_neg (by rw [hp]; simp), if_neg (by simp), if_pos (by exact hx)])
                rw [HE.out] at HST
                go_wp2_with (first | (go_at_call 46; refine (isPiece_any _ _ _).mono ?_; rintro e w1 ⟨rfl, hb1⟩; obtain ⟨hc, hf⟩ := bcell hb1) | (at_builtin; refine appIk rfl _ _ rfl (max x 0) ((HJ.out.alloc _).on hb1).r ((HJ.out.alloc _).on hb1).n rfl rfl (by omega) ?_))
                intro v5 w5 ho5 ho6
                have HO5 := Lib.hid ho5
                have HO6 := Lib.hid ho6
                clear ho5 ho6
                go_wp2_with fail
                go_roundg (l.length - (k + 1))
                case measure => omega
                case rel => exact ⟨k + 1, _, _, _, by omega, by omega, by go_num, rfl, rfl, rfl, by rw [HST.out]; exact hbb, by rw [HST.out]; exact ⟨HO5.out, HO6.out⟩⟩
              · have hy0 : (y != 0) = true := by (rw [bne_iff_ne]; exact hy)
                have HE : Hid (jst st (x, y) = (st.1 ++ [(min x y, max x y)], st.2.1, st.2.2)) := Lib.hid (by unfold jst; rw [if_neg (by rw [hp]; simp), if_pos ⟨hx, hy⟩])
                rw [HE.out] at HST
                go_wp2_with (first | (go_at_call 46; refine (isPiece_any _ _ _).mono ?_; rintro e w1 ⟨rfl, hb1⟩; obtain ⟨hc, hf⟩ := bcell hb1) | (go_at_call 50; refine (rising_any _ _ _).mono ?_; rintro e w2 ⟨rfl, hb2'⟩) | (at_builtin; refine appPk rfl _ _ rfl (min x y) (max x y) (((HJ.out.alloc _).on hb1).on hb2').r (((HJ.out.alloc _).on hb1).on hb2').n rfl rfl (by omega) ?_))
                intro v5 w5 ho5 ho6
                have HO5 := Lib.hid ho5
                have HO6 := Lib.hid ho6
                clear ho5 ho6
                go_wp2_with fail
                go_roundg (l.length - (k + 1))
                case measure => omega
                case rel => exact ⟨k + 1, _, _, _, by omega, by omega, by go_num, rfl, rfl, rfl, by rw [HST.out]; exact hbb, by rw [HST.out]; exact ⟨HO5.out, HO6.out⟩⟩
        · have hltz2 : ¬ (k : Int) < (l.length : Int) := by omega
          have : k = l.length := by omega
          subst this
          rw [List.take_of_length_le (Nat.le_refl _), ← HFT.out] at hbb HJ
          go_wp2_with fail
          go_roundg (ll.length - (i + 1))
          case measure => omega
          case rel => exact ⟨i + 1, _, _, _, by omega, by omega, by go_num, rfl, rfl, rfl, hbb, HJ.out⟩
    · have hltz : ¬ (i : Int) < (ll.length : Int) := by omega
      have : i = ll.length := by omega
      subst this
      rw [List.take_of_length_le (Nat.le_refl _)] at hbb HJ
      have hlen := jfold_length ll.flatten
      have hl1 : (jfold ll.flatten).1.length ≤ 1000000 := Nat.le_trans hlen.1 hl
      have hl2 : (jfold ll.flatten).2.1.length ≤ 1000000 := Nat.le_trans hlen.2 hl
      have HK := Lib.hid (jfold_ok ll.flatten)
      have HJL : Hid (joinL ll = joinS (jfold ll.flatten)) := Lib.hid rfl
      clear hlen
      generalize jfold ll.flatten = st at *
      obtain ⟨ao4, cap4, hs4, hcell4⟩ := own_shapeI HJ.out.n
      have HC4 := Lib.hid hcell4
      clear hcell4
      subst hs4
      have HG : Hid (∀ X, OwnR w.heap.size v3 st.1 w X → Calls Tryd.prog 38 #[v3] X fun e w' => ∃ v', e = .returned v' ∧ OwnR w.heap.size v' (tog st.1) w w') := Lib.hid (fun X hX => (together_any v3 st.1 X (hX.rgs (by omega)) (by omega) (fun p hp => by (have := HK.out.1 p hp; omega))).mono fun e w' ⟨v', he, ho⟩ => ⟨v', he, (ho.mono hX.base).shift hX.below⟩)
      by_cases h0 : st.2.1 = []
      · have hz : st.2.1.length = 0 := by rw [h0]; rfl
        rw [hz]
        cases bb with
        | false =>
          have HR : Hid (joinL ll = tog st.1) := Lib.hid (by rw [HJL.out]; unfold joinS; rw [if_pos h0, if_neg (by rw [← hbb.out]; simp)])
          clear hz h0
          go_wp2_with fail
          refine (HG.out _ HJ.out.r).mono ?_
          rintro e w1 ⟨v1, rfl, ho1⟩
          have HO1 := Lib.hid ho1
          clear ho1
          go_wp2_with fail
          go_ret
          exact ⟨_, rfl, by rw [HR.out]; exact HO1.out⟩
        | true =>
          have HR : Hid (joinL ll = tog st.1 ++ [(0, 0)]) := Lib.hid (by rw [HJL.out]; unfold joinS; rw [if_pos h0, if_pos hbb.out.symm])
          have hlt3 : (tog st.1).length + 1 ≤ 8796093022208 := by (have := tog_length (l := st.1); omega)
          clear hz h0
          go_wp2_with fail
          refine (HG.out _ HJ.out.r).mono ?_
          rintro e w1 ⟨v1, rfl, ho1⟩
          have HO1 := Lib.hid ho1
          clear ho1
          go_wp2_with (at_builtin; refine appP rfl _ _ rfl 0 0 HO1.out rfl rfl hlt3 ?_)
          intro v6 w6 ho6
          have HO6 := Lib.hid ho6
          clear ho6
          go_wp2_with fail
          go_ret
          exact ⟨_, rfl, by rw [HR.out]; exact HO6.out⟩
      · obtain ⟨g, hao, hc4⟩ := HC4.out h0
        subst hao
        have HR : Hid (joinL ll = starL st.1 (Lib.minOf st.2.1) (Lib.maxOf st.2.1)) := Lib.hid (by rw [HJL.out]; unfold joinS; rw [if_neg h0])
        have hpos : 0 < st.2.1.length := List.length_pos_iff.2 h0
        have HMin := Lib.hid (fun (X : World) (hX : ∀ i, i < st.2.1.length → X.cell? ⟨g, 0 + i, none⟩ = some (.int .i64 (st.2.1.getD i 0))) => Tryd.slices_Min_int g 0 st.2.1.length cap4 st.2.1 X hpos (Nat.le_refl _) (by omega) hX)
        have HMax := Lib.hid (fun (X : World) (hX : ∀ i, i < st.2.1.length → X.cell? ⟨g, 0 + i, none⟩ = some (.int .i64 (st.2.1.getD i 0))) => Tryd.slices_Max_int g 0 st.2.1.length cap4 st.2.1 X hpos (Nat.le_refl _) (by omega) hX)
        rw [List.take_of_length_le (Nat.le_refl _)] at HMin HMax
        have mn := minOf_mem st.2.1 h0
        have mx := maxOf_mem st.2.1 h0
        have k1 := HK.out.2 _ mn.1
        have k2 := HK.out.2 _ mx.1
        have HW := Lib.hid (withStar_any (Lib.minOf st.2.1) (Lib.maxOf st.2.1) HJ.out.r hl1 (fun p hp => by (have := HK.out.1 p hp; omega)) k1.1 k2.2)
        have HC := Lib.hid hc4
        have hposz : (0 : Int) < (st.2.1.length : Int) := by omega
        clear mn mx h0 hc4 k1 k2
        generalize Lib.minOf st.2.1 = m1 at *
        generalize Lib.maxOf st.2.1 = m2 at *
        go_wp2_with (first | (go_at_call 52; refine (HMin.out _ HC.out).mono ?_; rintro e w1 ⟨rfl, rfl⟩) | (go_at_call 53; refine (HMax.out _ HC.out).mono ?_; rintro e w1 ⟨rfl, rfl⟩) | (go_at_call 51; refine HW.out.mono ?_; rintro e w6 ⟨v6, rfl, ho6⟩; have HO6 := Lib.hid ho6; clear ho6))
        go_ret
        exact ⟨_, rfl, by rw [HR.out]; exact HO6.out⟩
end Go.Proofs.YtkclcjnfjielfabDoor
