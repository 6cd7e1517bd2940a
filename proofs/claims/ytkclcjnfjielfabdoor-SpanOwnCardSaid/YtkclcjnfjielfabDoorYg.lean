/- A place at which numbers are laid. -/
import Derived.Test.YtkclcjnfjielfabDoorVu
import Derived.Test.YtkclcjnfjielfabDoorYc
namespace Go.Proofs.YtkclcjnfjielfabDoor
open Go.RowKit

theorem ic_set (m : List Int) (i : Nat) (x : Int) : (ic m).set i (.int .i64 x) = ic (m.set i x) := by simp [ic, List.map_set]
theorem ic_drop (m : List Int) (k : Nat) : (ic m).drop k = ic (m.drop k) := by simp [ic, List.map_drop]
theorem Ints.upto {w : World} {ao : Option Addr} {n cap k : Nat} {m : List Int} (h : Ints w (.slice ao n cap) m) (hk : k ≤ m.length) (c : Nat) (hc : ao = none → c = 0) : Ints w (.slice ao k c) (m.take k) := by
  have e : (m.take k).length = k := by rw [List.length_take]; omega
  rcases h with ⟨rfl, ao', cap', he, hn⟩ | ⟨b, off, cap', he, h0, h1, h2⟩
  · have : k = 0 := by simpa using hk
    subst this
    exact .inl ⟨by simp, ao, c, rfl, hc⟩
  · simp only [Value.slice.injEq] at he
    obtain ⟨rfl, rfl, rfl⟩ := he
    refine .inr ⟨b, off, c, by rw [e], by omega, h1, fun i hi => ?_⟩
    rw [e] at hi
    rw [List.getD_eq_getElem?_getD, List.getElem?_take_of_lt hi, ← List.getD_eq_getElem?_getD]
    exact h2 i (by omega)
theorem row_ints {B n : Nat} {v : Value} {m : List Int} {w : World} (h : w.ownsRow B 3 1 v n (ic m)) (hn : n = m.length) (hl : m.length ≤ 17592186044416) : Ints w v m := by
  subst hn
  refine OwnI.ints (B := 0) (W0 := w) ⟨⟨h.1, ?_⟩, ⟨rfl, rfl, rfl, Nat.le_refl _, fun _ _ => rfl⟩, Nat.zero_le _⟩ hl
  rcases h.2 with h2 | ⟨g, cap, cur, rfl, hB, rest⟩
  · exact .inl h2
  · exact .inr ⟨g, cap, cur, rfl, Nat.zero_le _, rest⟩
theorem Ints.src {w : World} {v : Value} {l : List Int} (h : Ints w v l) : ∃ sp cap, v = .slice sp l.length cap ∧ (l.length = 0 → sp = none → cap = 0) ∧ (0 < l.length → ∃ ad, sp = some ad ∧ ∀ j u, (ic l)[j]? = some u → w.cell? (ad.add j) = some u) := by
  rcases h with ⟨rfl, ao, cap, rfl, hn⟩ | ⟨b, off, cap, rfl, h0, h1, h2⟩
  · exact ⟨ao, cap, rfl, fun _ => hn, fun h => by simp at h⟩
  · refine ⟨_, cap, rfl, fun _ h => (by cases h), fun _ => ⟨_, rfl, fun j u hj => ?_⟩⟩
    have hj2 : j < l.length := by rw [← ic_length]; exact (List.getElem?_eq_some_iff.1 hj).1
    rw [ic_at l j hj2] at hj
    rw [Addr.add_lit, h2 j hj2, hj]
end Go.Proofs.YtkclcjnfjielfabDoor
