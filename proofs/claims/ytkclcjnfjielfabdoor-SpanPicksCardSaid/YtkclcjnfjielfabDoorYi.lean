/- The reference: Print. -/
import Derived.Test.YtkclcjnfjielfabDoorYd
import Derived.Lib.ItoaNum
namespace Go.Proofs.YtkclcjnfjielfabDoor
open Go.RowKit

theorem dec_step (u : Nat) (h : ¬ u < 10) : Lib.decDigits u = Lib.decDigits (u / 10) ++ [UInt8.ofNat (48 + u % 10)] := by
  rw [Lib.decDigits, dif_neg h]
def WrI (x u : Nat) (t : List UInt8) : Prop := (u = 0 ∧ t = Lib.decDigits x) ∨ (0 < u ∧ Lib.decDigits x = Lib.decDigits u ++ t)
theorem WrI.next {x u : Nat} {t : List UInt8} (h : WrI x u t) (hu : 0 < u) : WrI x (u / 10) (UInt8.ofNat (48 + u % 10) :: t) := by
  rcases h with ⟨h, _⟩ | ⟨_, h⟩
  · omega
  · by_cases h10 : u < 10
    · refine .inl ⟨by omega, ?_⟩
      rw [h, Lib.decDigits_one h10, Nat.mod_eq_of_lt h10]
      rfl
    · refine .inr ⟨by omega, ?_⟩
      rw [h, dec_step u h10]
      simp
theorem digit_is (u : Nat) : ((UInt8.ofNat (48 + u % 10)).toNat : Int) = 48 + ((u % 10 : Nat) : Int) := by
  have : u % 10 < 10 := Nat.mod_lt _ (by omega)
  rw [UInt8.toNat_ofNat']
  omega
theorem conv1 (X : World) (c : UInt8) (C : Int) (hC : C = (c.toNat : Int)) : (convert 85 9 (.slice (some ⟨X.heap.size, 0, none⟩) 1 1)).run Tryd.prog (X.alloc (.cells #[.int .u8 C] 5)) = .ok (.string (S [c])) (X.alloc (.cells #[.int .u8 C] 5)) := by
  subst hC
  refine back_row _ _ _ 5 X.heap.size 1 1 [c] rfl Tryd.underlying85 Tryd.underlying5 Tryd.underlying9 ?_
  intro j hj
  have : j = 0 := by simpa using hj
  subst this
  simp [bt]
set_option maxRecDepth 100000 in
set_option maxHeartbeats 2000000 in
theorem written_any (x : Nat) (w : World) (hx : x ≤ 4294967295) :
    Calls Tryd.prog 40 #[.int .i64 (x : Int)] w fun e w' => e = .returned (.string (S (endT (x : Int)))) ∧ Below w.heap.size w w' := by
  unfold endT
  by_cases h0 : x = 0
  · subst h0
    go_enter Tryd.func40, Tryd.ntmps40
    go_wp2_with fail
    go_ret
    exact ⟨rfl, Below.refl _ _⟩
  · have h0z : ((x : Int) == 0) = false := by simpa using h0
    have h0y : ¬ (x : Int) = 0 := by omega
    have HE : Hid ((if (x : Int) = 0 then [42] else Lib.itoa (x : Int)) = Lib.decDigits x) := Lib.hid (by rw [if_neg h0y, Lib.itoa_nonneg])
    generalize (if (x : Int) = 0 then [42] else Lib.itoa (x : Int)) = r at *
    clear h0y
    go_enter Tryd.func40, Tryd.ntmps40
    go_wp2_with fail
    go_loopg [0, 3] (x + 1) (fun gg s0 s3 wr => ∃ (u : Nat) (t : List UInt8) (X : World), X = wr ∧ u ≤ x ∧ u < gg ∧ s0 = .int .i64 u ∧ s3 = .string (S t) ∧ (S t).size ≤ 4294967295 - u ∧ Below w.heap.size w X ∧ Hid (WrI x u t))
    case atStart => exact ⟨x, [], _, rfl, Nat.le_refl _, by omega, rfl, rfl, by show ([] : List UInt8).length ≤ _; simp, Below.refl _ _, Lib.hid (.inr ⟨by omega, by simp⟩)⟩
    case round =>
      obtain ⟨u, t, X, hX, hux, hgg, rfl, rfl, ht, hbw, HW⟩ := hrel
      subst hX
      have HBW := Lib.hid hbw
      clear hbw
      by_cases hu : 0 < u
      · have huz : (0 : Int) < (u : Int) := by omega
        have HN := Lib.hid (HW.out.next hu)
        have hlt10 : u % 10 < 10 := Nat.mod_lt _ (by omega)
        have hlt11 : u / 10 < u := by omega
        have hcv := conv1 X (UInt8.ofNat (48 + u % 10)) (48 + (u : Int) % 10) (by rw [digit_is]; omega)
        generalize UInt8.ofNat (48 + u % 10) = c at *
        have HT : Hid (t.length ≤ 4294967295 - u) := Lib.hid ht
        have ha : (S [c]).size = 1 := rfl
        have hb : (S t).size ≤ 4294967295 := by omega
        have HAB := Lib.hid (S_append [c] t)
        clear ht
        generalize S [c] = a at *
        generalize S t = b at *
        go_wp2_with fail
        go_roundg u
        case measure => omega
        case rel =>
          refine ⟨u / 10, c :: t, _, rfl, by omega, hlt11, by go_num, ?_, ?_, (HBW.out.alloc HBW.out.size _), HN⟩
          · exact congrArg Value.string HAB.out
          · show (c :: t).length ≤ _
            have : t.length ≤ 4294967295 - u := HT.out
            rw [List.length_cons]
            omega
      · have huz : ¬ (0 : Int) < (u : Int) := by omega
        have hu0 : u = 0 := by omega
        subst hu0
        have HR : Hid (t = Lib.decDigits x) := Lib.hid (by
          rcases HW.out with ⟨_, h⟩ | ⟨h, _⟩
          · exact h
          · omega)
        go_wp2_with fail
        go_ret
        exact ⟨ret_str (by rw [HE.out, HR.out]), HBW.out⟩
theorem writtenI_any (x : Int) (w : World) (h0 : 0 ≤ x) (h1 : x ≤ 4294967295) :
    Calls Tryd.prog 40 #[.int .i64 x] w fun e w' => e = .returned (.string (S (endT x))) ∧ Below w.heap.size w w' := by
  obtain ⟨u, rfl⟩ := Int.eq_ofNat_of_zero_le h0
  exact written_any u w (by omega)
end Go.Proofs.YtkclcjnfjielfabDoor
