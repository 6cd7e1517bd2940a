/- The reference: Of. -/
import Derived.Test.YtkclcjnfjielfabDoorYh
import Derived.Test.YtkclcjnfjielfabDoorYp
namespace Go.Proofs.YtkclcjnfjielfabDoor
open Go.RowKit

abbrev ofS (w : World) (b o1 o2 : Nat) (n g : Int) : World → Prop := fun X => X.cell? ⟨b, o1, none⟩ = some (.int .i64 n) ∧ X.cell? ⟨b, o2, none⟩ = some (.int .i64 g) ∧ Below w.heap.size w X
set_option maxRecDepth 100000 in
set_option maxHeartbeats 4000000 in
theorem refOf_any (v v2 : Value) (l : List Rg) (list : List Int) (w : World) (hr : Rgs w v l) (hr2 : Ints w v2 list) (hl2 : list.length ≤ 1000000) :
    Calls Tryd.prog 28 #[v, v2] w fun e w' => ∃ v', e = .returned v' ∧ OwnI w.heap.size v' (ofL l list) w w' := by
  obtain ⟨ao, cap, hv, hc⟩ := hr2.shp'
  subst hv
  have HC := Lib.hid hc
  have HR := Lib.hid hr
  have HE : Hid (ofL l list = list.filter fun n => hasB l n (lastI list)) := Lib.hid rfl
  have HLI : Hid (∀ m, list.length = m + 1 → list.getD m 0 = lastI list) := Lib.hid (fun m hm => by unfold lastI; rw [hm]; rfl)
  obtain ⟨av, cv, hvv, _⟩ := hr.shape
  have HS := Lib.hid (fun k hk => filter_snoc (fun n => hasB l n (lastI list)) list k hk)
  have HHas := Lib.hid (fun n Y (hY : Below w.heap.size w Y) => refHas_any v l n (lastI list) Y (hr.on hY))
  generalize hasB l = hb at *
  generalize ofL l list = r at *
  generalize lastI list = last at *
  clear hc hr hr2
  subst hvv
  go_enter Tryd.func28, Tryd.ntmps28
  go_wp2_with fail
  go_loopg [5, 6] list.length (fun gg s5 s6 wr => ∃ (k : Nat) (v5 : Value) (X : World), X = wr ∧ k ≤ list.length ∧ list.length - k ≤ gg ∧ s6 = .int .i64 k ∧ v5 = s5 ∧ OwnI w.heap.size v5 ((list.take k).filter fun n => hb n last) w X)
  case atStart => exact ⟨0, _, _, rfl, Nat.zero_le _, by omega, rfl, rfl, OwnI.nil (Below.refl _ _) (Nat.le_refl _)⟩
  case round =>
    obtain ⟨k, v5, X, hX, hk, hgg, rfl, hv5, hown⟩ := hrel
    subst hX
    subst hv5
    have HO := Lib.hid hown
    clear hown
    by_cases hlt : k < list.length
    · have hltz : (k : Int) < (list.length : Int) := by omega
      have hk0 : (0 : Int) ≤ (k : Int) := by omega
      have hme : list.length - (k + 1) < list.length - k := by omega
      obtain ⟨m, hm⟩ : ∃ m, list.length = m + 1 := ⟨list.length - 1, by omega⟩
      obtain ⟨b, off, hbb, hs, hcc⟩ := HC.out (by omega)
      subst hbb
      have c1 := hcc k hlt
      have c2 := hcc m (by omega)
      rw [HLI.out m hm] at c2
      rw [← HO.out.below.cell (p := ⟨b, off + k, none⟩) hs] at c1
      rw [← HO.out.below.cell (p := ⟨b, off + m, none⟩) hs] at c2
      have hm1 : (list.length : Int) - 1 = (m : Int) := by omega
      have hw1 : IntKind.i64.wrap (m : Int) = (m : Int) := by rw [IntKind.wrap_i64]; omega
      have hm2 : (m : Int) < (list.length : Int) := by omega
      have hm0 : (0 : Int) ≤ (m : Int) := by omega
      have HSN := Lib.hid (HS.out k hlt)
      have HFL : Hid (((list.take k).filter fun n => hb n last).length ≤ 1000000) := Lib.hid (by have := List.length_filter_le (fun n => hb n last) (list.take k); rw [List.length_take] at this; omega)
      clear hcc hm
      generalize list.getD k 0 = n at *
      generalize hL2 : (list.take (k + 1)).filter (fun n => hb n last) = L2 at *
      have HL2 := Lib.hid hL2
      clear hL2
      generalize (list.take k).filter (fun n => hb n last) = L1 at *
      have HH := Lib.hid (HHas.out n)
      have st : ofS w b (off + k) (off + m) n last X.drew := ⟨c1, c2, HO.out.below.drew⟩
      have hll1 : L1.length ≤ 1000000 := HFL.out
      clear c1 c2
      cases hbn : hb n last with
      | true =>
        rw [hbn] at HH HSN
        have HSN2 : Hid (L2 = L1 ++ [n]) := Lib.hid (by rw [HSN.out]; rfl)
        clear hbn HSN
        go_wp2_with fail
        go_region_held3 (ofS w b (off + k) (off + m) n last) (first | with_reducible exact st | with_reducible assumption) (first | (go_at_call 23; refine (HH.out _ st.2.2).mono ?_; rintro e w1 ⟨rfl, hb1⟩; have HO1 := Lib.hid ((HO.out.on (Below.refl _ _).drew).on hb1); have st1 : ofS w b (off + k) (off + m) n last w1 := ⟨cellOn' st.1 hb1, cellOn' st.2.1 hb1, HO1.out.below⟩; clear hb1))
        have d1 := st1.1
        go_wp2_with (at_builtin; refine appI rfl _ _ rfl n HO1.out rfl rfl (by omega) ?_)
        intro v10 w10 ho10
        have HO10 := Lib.hid ho10
        clear ho10
        go_wp2_with fail
        go_roundg (list.length - (k + 1))
        case measure => exact Nat.lt_of_lt_of_le hme hgg
        case rel => exact ⟨k + 1, _, _, rfl, hlt, Nat.le_refl _, by go_num, rfl, by rw [HL2.out, HSN2.out]; exact HO10.out⟩
      | false =>
        rw [hbn] at HH HSN
        have HSN2 : Hid (L2 = L1) := Lib.hid (by rw [HSN.out]; simp)
        clear hbn HSN
        go_wp2_with fail
        go_region_held3 (ofS w b (off + k) (off + m) n last) (first | with_reducible exact st | with_reducible assumption) (first | (go_at_call 23; refine (HH.out _ st.2.2).mono ?_; rintro e w1 ⟨rfl, hb1⟩; have HO1 := Lib.hid ((HO.out.on (Below.refl _ _).drew).on hb1); have st1 : ofS w b (off + k) (off + m) n last w1 := ⟨cellOn' st.1 hb1, cellOn' st.2.1 hb1, HO1.out.below⟩; clear hb1))
        go_wp2_with fail
        go_roundg (list.length - (k + 1))
        case measure => exact Nat.lt_of_lt_of_le hme hgg
        case rel => exact ⟨k + 1, _, _, rfl, hlt, Nat.le_refl _, by go_num, rfl, by rw [HL2.out, HSN2.out]; exact HO1.out⟩
    · have hltz : ¬ (k : Int) < (list.length : Int) := by omega
      have hkl : k = list.length := by omega
      subst hkl
      have HF : Hid ((list.take list.length).filter (fun n => hb n last) = r) := Lib.hid (by rw [List.take_length, HE.out])
      go_wp2_with fail
      go_ret
      exact ⟨_, rfl, by rw [← HF.out]; exact HO.out⟩
end Go.Proofs.YtkclcjnfjielfabDoor
