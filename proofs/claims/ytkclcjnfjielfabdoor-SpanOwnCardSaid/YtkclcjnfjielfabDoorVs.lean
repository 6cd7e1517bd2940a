/- span: Parse; the law's own same, alike, num. -/
import Derived.Test.YtkclcjnfjielfabDoorVr
import Derived.Laws.StructEq
namespace Go.Proofs.YtkclcjnfjielfabDoor
open Go.RowKit

set_option maxRecDepth 100000 in
set_option maxHeartbeats 1000000 in
theorem parse_any (s : ByteArray) (w : World) (he : Env w) (hs : s.size ≤ 140737488355328) :
    Calls Tryd.prog 31 #[.string s] w fun e w' => ∃ v', e = .returned (.tuple #[v', .int .i64 (parseE (L s))]) ∧ OwnR w.heap.size v' (parseL (L s)) w w' := by
  by_cases hl : 4096 < s.size
  · have HE : Hid (parseE (L s) = 2 ∧ parseL (L s) = []) := Lib.hid (by unfold parseE parseL; rw [if_pos (by rw [L_length]; exact hl), if_pos (by rw [L_length]; exact hl)]; exact ⟨rfl, rfl⟩)
    have hz : (4096 : Int) < (s.size : Int) := by omega
    go_enter Tryd.func31, Tryd.ntmps31
    go_wp2_with fail
    go_ret2
    exact ⟨_, ret_tup HE.out.1.symm, by rw [HE.out.2]; exact OwnR.nil (Below.refl _ _) (Nat.le_refl _)⟩
  · have hz : ¬ (4096 : Int) < (s.size : Int) := by omega
    have HR := Lib.hid (readPieces_any s w he (by omega))
    have HE : Hid (parseE (L s) = (match pcs (L s) with | none => 40 | some s => if 64 < s.length then 41 else 0) ∧ parseL (L s) = (match pcs (L s) with | none => [] | some s => if 64 < s.length then [] else s)) := Lib.hid (by unfold parseE parseL; rw [if_neg (by rw [L_length]; exact hl), if_neg (by rw [L_length]; exact hl)]; exact ⟨rfl, rfl⟩)
    generalize parseE (L s) = pe at *
    generalize parseL (L s) = pl at *
    generalize pcs (L s) = R at *
    clear he
    cases R with
    | none =>
      have h1 : pe = 40 := HE.out.1
      have h2 : pl = [] := HE.out.2
      subst h1
      subst h2
      clear HE
      go_enter Tryd.func31, Tryd.ntmps31
      go_wp2_with (go_at_call 56; refine HR.out.mono ?_; rintro e w1 ⟨v1, rfl, ho1⟩; have HO1 := Lib.hid ho1; clear ho1)
      go_ret2
      exact ⟨_, rfl, OwnR.nil HO1.out.below HO1.out.base⟩
    | some l =>
      by_cases h64 : 64 < l.length
      · have h1 : pe = 41 := by rw [HE.out.1]; show (if 64 < l.length then (41 : Int) else 0) = 41; rw [if_pos h64]
        have h2 : pl = [] := by rw [HE.out.2]; show (if 64 < l.length then [] else l) = []; rw [if_pos h64]
        subst h1
        subst h2
        clear HE
        go_enter Tryd.func31, Tryd.ntmps31
        go_wp2_with fail
        refine HR.out.mono ?_
        rintro e w1 ⟨v1, rfl, ho1⟩
        have HO1 := Lib.hid ho1
        obtain ⟨ao, cap, hsh⟩ : ∃ ao cap, v1 = .slice ao l.length cap := by
          rcases ho1.row.2 with ⟨rfl, h0⟩ | ⟨g, cap, cur, rfl, _⟩
          · exact ⟨none, 0, by rw [show l.length = 0 from h0]⟩
          · exact ⟨_, _, rfl⟩
        subst hsh
        have hz2 : (64 : Int) < (l.length : Int) := by omega
        clear ho1
        go_wp2_with fail
        go_ret2
        exact ⟨_, rfl, OwnR.nil HO1.out.below HO1.out.base⟩
      · have h1 : pe = 0 := by rw [HE.out.1]; show (if 64 < l.length then (41 : Int) else 0) = 0; rw [if_neg h64]
        have h2 : pl = l := by rw [HE.out.2]; show (if 64 < l.length then [] else l) = l; rw [if_neg h64]
        subst h1
        subst h2
        clear HE
        go_enter Tryd.func31, Tryd.ntmps31
        go_wp2_with fail
        refine HR.out.mono ?_
        rintro e w1 ⟨v1, rfl, ho1⟩
        have HO1 := Lib.hid ho1
        obtain ⟨ao, cap, hsh⟩ : ∃ ao cap, v1 = .slice ao pl.length cap := by
          rcases ho1.row.2 with ⟨rfl, h0⟩ | ⟨g, cap, cur, rfl, _⟩
          · exact ⟨none, 0, by rw [show pl.length = 0 from h0]⟩
          · exact ⟨_, _, rfl⟩
        subst hsh
        have hz2 : ¬ (64 : Int) < (pl.length : Int) := by omega
        clear ho1
        go_wp2_with fail
        go_ret2
        exact ⟨_, rfl, HO1.out⟩

theorem Tryd.neqRange (w : World) (a b c d : Int) : (binOp .neq 63 (rgV a b) (rgV c d)).run Tryd.prog w = .ok (.bool (!(a == c && b == d))) w := by
  have u3 := Tryd.underlying3
  have a3 := Tryd.isAgg3
  have z3 := Tryd.sizeOf3
  have hS : Tryd.prog.underlying 63 = some (.struct (Tryd.prog.fieldsOf 63)) := by kernel_rfl
  have hp : Tryd.prog.stoodInHeld 63 = false := by kernel_rfl
  rw [run_neq_struct, show (10000 : Nat) = 9999 + 1 from rfl, run_equalIn_agg w 9999 63 _ _ hS hp]
  simp only [Program.fieldsOf, Tryd.underlying63]
  go_simp
  by_cases h1 : a = c <;> by_cases h2 : b = d <;> simp [h1, h2]
end Go.Proofs.YtkclcjnfjielfabDoor
