/- The reference: Least. -/
import Derived.Test.YtkclcjnfjielfabDoorYo
import Derived.Deep.RegionHeld3
import Derived.Deep.QuietTactic
import Derived.BigQuiet
namespace Go.Proofs.YtkclcjnfjielfabDoor
open Go.RowKit

theorem leastL_snoc (l : List Int) (k : Nat) (hk : k < l.length) : leastL (l.take (k + 1)) = if okN (l.getD k 0) = true then putR (leastL (l.take k)) (l.getD k 0, l.getD k 0) else leastL (l.take k) := by
  unfold leastL
  rw [take_snocI l k hk, ones_append]
  unfold ones tog
  by_cases h : okN (l.getD k 0) = true
  · rw [if_pos h, List.filter_cons_of_pos h]
    simp
  · rw [if_neg h, List.filter_cons_of_neg h]
    simp
theorem leastL_len (l : List Int) : (leastL l).length ≤ l.length := Nat.le_trans tog_length (ones_length l)
theorem Ints.shp' {w : World} {v : Value} {l : List Int} (h : Ints w v l) : ∃ ao cap, v = .slice ao l.length cap ∧ (0 < l.length → ∃ (b off : Nat), ao = some ⟨b, off, none⟩ ∧ b < w.heap.size ∧ ∀ i, i < l.length → w.cell? ⟨b, off + i, none⟩ = some (.int .i64 (l.getD i 0))) := by
  rcases h with ⟨rfl, ao, cap, rfl, _⟩ | ⟨b, off, cap, rfl, h0, h1, h2⟩
  · exact ⟨ao, cap, rfl, fun h => by simp at h⟩
  · exact ⟨_, _, rfl, fun _ => ⟨b, off, rfl, h1, h2⟩⟩
theorem OwnR.shp {B : Nat} {v : Value} {l : List Rg} {W0 w : World} (h : OwnR B v l W0 w) : ∃ ao cap, v = .slice ao l.length cap := by
  rcases h.row.2 with ⟨rfl, h0⟩ | ⟨g, cap, cur, rfl, _⟩
  · exact ⟨none, 0, by rw [h0]⟩
  · exact ⟨_, _, rfl⟩
abbrev lsS (w : World) (b o : Nat) (n : Int) : World → Prop := fun X => X.cell? ⟨b, o, none⟩ = some (.int .i64 n) ∧ Below w.heap.size w X
set_option maxRecDepth 100000 in
set_option maxHeartbeats 4000000 in
theorem refLeast_any (v : Value) (l : List Int) (w : World) (hr : Ints w v l) (hl : l.length ≤ 1000000) :
    Calls Tryd.prog 11 #[v] w fun e w' => ∃ v', e = .returned v' ∧ OwnR w.heap.size v' (leastL l) w w' := by
  obtain ⟨ao, cap, hv, hc⟩ := hr.shp'
  subst hv
  have HC := Lib.hid hc
  clear hc hr
  go_enter Tryd.func11, Tryd.ntmps11
  go_wp2_with fail
  go_loopg [3, 4] l.length (fun gg s3 s4 wr => ∃ (k : Nat) (v3 : Value) (X : World), X = wr ∧ k ≤ l.length ∧ l.length - k ≤ gg ∧ s4 = .int .i64 k ∧ v3 = s3 ∧ OwnR w.heap.size v3 (leastL (l.take k)) w X)
  case atStart => exact ⟨0, _, _, rfl, Nat.zero_le _, by omega, rfl, rfl, OwnR.nil (Below.refl _ _) (Nat.le_refl _)⟩
  case round =>
    obtain ⟨k, v3, X, hX, hk, hgg, rfl, hv3, hown⟩ := hrel
    subst hX
    subst hv3
    have HO := Lib.hid hown
    clear hown
    by_cases hlt : k < l.length
    · have hltz : (k : Int) < (l.length : Int) := by omega
      have hk0 : (0 : Int) ≤ (k : Int) := by omega
      obtain ⟨b, off, hb, hs, hcc⟩ := HC.out (by omega)
      subst hb
      have c1 := hcc k hlt
      rw [← HO.out.below.cell (p := ⟨b, off + k, none⟩) hs] at c1
      have HSN := Lib.hid (leastL_snoc l k hlt)
      have HLN := Lib.hid (leastL_len (l.take k))
      have HOC := Lib.hid (leastL_form (l.take k))
      have hlk : (l.take k).length ≤ 1000000 := by rw [List.length_take]; omega
      clear hcc
      generalize l.getD k 0 = n at *
      generalize hL2 : leastL (l.take (k + 1)) = L2 at *
      have HL2 := Lib.hid hL2
      clear hL2
      generalize leastL (l.take k) = L1 at *
      by_cases h1 : 1 ≤ n
      · by_cases h2 : n ≤ 4294967295
        · have HSN2 : Hid (L2 = putR L1 (n, n)) := Lib.hid (by rw [HSN.out, if_pos (by unfold okN; simp; omega)])
          have st : lsS w b (off + k) n X.drew := ⟨c1, HO.out.below.drew⟩
          have HPUT : Hid (∀ Y, lsS w b (off + k) n Y → OwnR w.heap.size v3 L1 w Y → Calls Tryd.prog 37 #[v3, .int .i64 n, .int .i64 n] Y fun e w' => ∃ ao c, e = .returned (.slice ao L2.length c) ∧ OwnR w.heap.size (.slice ao L2.length c) L2 w w' ∧ lsS w b (off + k) n w') := Lib.hid (fun Y hY hOY => by
            refine (put_any v3 L1 n n Y (hOY.rgs (by have := HLN.out; omega)) (by have := HLN.out; omega) HOC.out ⟨h1, Int.le_refl _, h2⟩).mono ?_
            rintro e w' ⟨v', rfl, ho⟩
            rw [← HSN2.out] at ho
            have ho2 : OwnR w.heap.size v' L2 w w' := (ho.mono hOY.base).shift hOY.below
            obtain ⟨ao, c, hs⟩ := ho2.shp
            subst hs
            exact ⟨ao, c, rfl, ho2, by rw [ho.below.cell (p := ⟨b, off + k, none⟩) (block_lt_of_cell hY.1)]; exact hY.1, ho2.below⟩)
          have HOD := Lib.hid (HO.out.drew)
          clear HSN
          go_wp2_with fail
          go_region_held3 (lsS w b (off + k) n) (first | with_reducible exact st | with_reducible assumption) (first | (go_at_call 37; refine (HPUT.out _ st HOD.out).mono ?_; rintro e w1 ⟨ao1, cp1, rfl, ho1, st1⟩; have HO1 := Lib.hid ho1; clear ho1))
          go_wp2_with fail
          go_roundg (l.length - (k + 1))
          case measure => omega
          case rel => exact ⟨k + 1, _, _, rfl, by omega, by omega, by go_num, rfl, by rw [HL2.out]; exact HO1.out⟩
        · have h2z : ¬ n ≤ 4294967295 := h2
          have HSN2 : Hid (L2 = L1) := Lib.hid (by rw [HSN.out, if_neg (by unfold okN; simp; omega)])
          clear HSN
          go_wp2_with fail
          go_roundg (l.length - (k + 1))
          case measure => omega
          case rel => exact ⟨k + 1, _, _, rfl, by omega, by omega, by go_num, rfl, by rw [HL2.out, HSN2.out]; exact HO.out⟩
      · have h1z : ¬ 1 ≤ n := h1
        have HSN2 : Hid (L2 = L1) := Lib.hid (by rw [HSN.out, if_neg (by unfold okN; simp; omega)])
        clear HSN
        go_wp2_with fail
        go_roundg (l.length - (k + 1))
        case measure => omega
        case rel => exact ⟨k + 1, _, _, rfl, by omega, by omega, by go_num, rfl, by rw [HL2.out, HSN2.out]; exact HO.out⟩
    · have hltz : ¬ (k : Int) < (l.length : Int) := by omega
      have hkl : k = l.length := by omega
      subst hkl
      have HE : Hid (leastL (l.take l.length) = leastL l) := Lib.hid (by rw [List.take_length])
      go_wp2_with fail
      go_ret
      exact ⟨_, rfl, by rw [← HE.out]; exact HO.out⟩
end Go.Proofs.YtkclcjnfjielfabDoor
