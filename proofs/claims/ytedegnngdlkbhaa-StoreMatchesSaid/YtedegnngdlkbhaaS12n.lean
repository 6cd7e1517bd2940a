/- The statement StoreMatches: the walk. -/
import Derived.Test.YtedegnngdlkbhaaS12m
namespace Go.Proofs.Ytedegnngdlkbhaa
open Go.RowKit

set_option maxHeartbeats 1000000 in
set_option maxRecDepth 100000 in
theorem StoreMatches_walk (p s : ByteArray) (w : World) :
    Calls Try.prog 4 #[.string p, .string s] w fun e w' => e = .returned (.bool true) ∧ Below w.heap.size w w' := by
  by_cases hp : p.size ≤ 400
  · have hp' : ¬ (p.size : Int) > 400 := by omega
    have hp'' : ¬ 400 < (p.size : Int) := by omega
    by_cases hs : s.size ≤ 400
    · have hs' : ¬ (s.size : Int) > 400 := by omega
      have hs'' : ¬ 400 < (s.size : Int) := by omega
      obtain ⟨v, hv⟩ : ∃ v, fm (L p) 0 (prs (L s)) = v := ⟨_, rfl⟩
      have on : ∀ {f : Nat} {args : Array Value} {b : Bool} {X : World}, Below w.heap.size w X → Calls Try.prog f args X (fun e w' => e = .returned (.bool b) ∧ Below X.heap.size X w') → Calls Try.prog f args X (fun e w' => e = .returned (.bool b) ∧ Below w.heap.size w w') :=
        fun hX h => h.mono (fun e w' ⟨h1, h2⟩ => ⟨h1, hX.trans (h2.mono hX.size)⟩)
      have M1 := Lib.hid (fun X (hX : Below w.heap.size w X) => on hX (Match_any p s X (by omega) (by omega)))
      have M2 := Lib.hid (fun X (hX : Below w.heap.size w X) => on hX (rMatch_any p s X (by omega) (by omega)))
      rw [hv] at M1 M2
      have e3 : fm (L ⟨#[105, 110, 98, 37]⟩) 0 (prs (L ⟨#[73, 78, 66, 79, 88]⟩)) = true := by decide +kernel
      have e4 : fm (L ⟨#[37]⟩) 0 (prs (L ⟨#[97, 47, 98]⟩)) = false := by decide +kernel
      have M3 := Lib.hid (fun X (hX : Below w.heap.size w X) => on hX (Match_any ⟨#[105, 110, 98, 37]⟩ ⟨#[73, 78, 66, 79, 88]⟩ X (by decide) (by decide)))
      have M4 := Lib.hid (fun X (hX : Below w.heap.size w X) => on hX (Match_any ⟨#[37]⟩ ⟨#[97, 47, 98]⟩ X (by decide) (by decide)))
      rw [e3] at M3
      rw [e4] at M4
      clear e3 e4 hv on
      have hB0 : Below w.heap.size w w := Below.refl _ _
      go_enter Try.func4, Try.ntmps4
      go_wp2_with fail
      refine (M1.out _ hB0).mono ?_
      rintro e w1 ⟨rfl, hB1⟩
      go_wp2_with fail
      refine (M2.out _ hB1).mono ?_
      rintro e w2 ⟨rfl, hB2⟩
      go_wp2_with fail
      refine (M3.out _ hB2).mono ?_
      rintro e w3 ⟨rfl, hB3⟩
      go_wp2_with fail
      refine (M4.out _ hB3).mono ?_
      rintro e w4 ⟨rfl, hB4⟩
      go_wp2_with fail
      go_ret
      exact ⟨rfl, hB4⟩
    · have hs' : (s.size : Int) > 400 := by omega
      have hs'' : 400 < (s.size : Int) := by omega
      go_enter Try.func4, Try.ntmps4
      go_wp2
      go_ret
      exact ⟨rfl, Below.refl _ _⟩
  · have hp' : (p.size : Int) > 400 := by omega
    have hp'' : 400 < (p.size : Int) := by omega
    go_enter Try.func4, Try.ntmps4
    go_wp2
    go_ret
    exact ⟨rfl, Below.refl _ _⟩

end Go.Proofs.Ytedegnngdlkbhaa
