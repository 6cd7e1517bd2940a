/- frame: told. -/
import Derived.Test.YtllpejkfbgpobaaF10n
namespace Go.Proofs.Ytllpejkfbgpobaa
open Go.RowKit

/-- What stays true while told's scan goes. -/
def TI (w0 : World) (s : ByteArray) (i a : Nat) (W : World) : Prop :=
  ∃ F, scan (L s) 0 0 = F ++ scan (L s) i a ∧ 18 * F.length ≤ i ∧ i ≤ s.size ∧ Td w0 (w0.heap.size + 7) s F (F.map Fr.ends) W ∧ W.heap[w0.heap.size + 3]? = some (.cells #[.string s] 9) ∧ W.heap[w0.heap.size + 6]? = some (.cells (tabC 256) 48)
theorem heap4 (w : World) (a b c d : Obj) : (((((w.alloc a).alloc b).alloc c).alloc d).heap[w.heap.size]? = some a) ∧ (((((w.alloc a).alloc b).alloc c).alloc d).heap[w.heap.size + 1]? = some b) ∧ (((((w.alloc a).alloc b).alloc c).alloc d).heap[w.heap.size + 2]? = some c) ∧ (((((w.alloc a).alloc b).alloc c).alloc d).heap[w.heap.size + 3]? = some d) := by
  have key : ((((w.alloc a).alloc b).alloc c).alloc d).heap = (((w.heap.push a).push b).push c).push d := rfl
  rw [key]
  refine ⟨?_, ?_, ?_, ?_⟩ <;> (simp only [Array.getElem?_push, Array.size_push]; repeat (first | rw [if_pos trivial] | rw [if_pos rfl] | rw [if_neg (by omega)]))
set_option maxHeartbeats 2000000 in
theorem told_any (s : ByteArray) (w : World) (hs : s.size ≤ 1099511627776) :
    Calls Try.prog 11 #[.string s] w fun e w' => ∃ v3 v4 B, e = .returned (.tuple #[v3, v4]) ∧ Two B v3 (scan (L s) 0 0) v4 ((scan (L s) 0 0).map Fr.ends) w' ∧ Below w.heap.size w w' ∧ w.heap.size ≤ B := by
  have hmf : ∀ (fn : Fn) (first cap : Array Value) (w : World), (Instr.makeFunc fn first cap).run Try.prog w = .ok (.func fn first cap) w := fun _ _ _ _ => rfl
  have hnf : ∀ (k : Fn) (a b : Array Value) (w : World), Sem.run Try.prog (binOp BinOp.eql 52 (Value.func k a b) Value.nilFunc) w = .ok (.bool false) w := fun _ _ _ _ => by kernel_rfl
  go_enter Try.func11, Try.ntmps11
  go_wp2_with fail
  refine (Scan_any s _).mono ?_
  rintro e w3 ⟨rfl, hw3⟩
  have hz : (((w.alloc (.cells #[.string s] 9)).alloc (.cells #[.slice none 0 0] 26)).alloc (.cells #[.slice none 0 0] 27)).heap.size = w.heap.size + 3 := by simp
  rw [hz]
  have h3 : w3.heap.size = w.heap.size + 4 := by rw [hw3]; simp
  have hst : ∀ W, Below w3.heap.size w3 W → W.heap[w3.heap.size + 2]? = some (.cells (tabC 256) 48) → TI w s 0 0 W := by
    intro W hb ht
    obtain ⟨g0, g1, g2, g3⟩ := heap4 w (.cells #[.string s] 9) (.cells #[.slice none 0 0] 26) (.cells #[.slice none 0 0] 27) (.cells #[.string s] 9)
    rw [← hw3] at g0 g1 g2 g3
    have hb0 : Below w.heap.size w w3 := by
      rw [hw3]
      exact ((((Below.refl _ _).alloc (Nat.le_refl _) _).alloc (by simp) _).alloc (by simp; omega) _).alloc (by simp; omega) _
    rw [h3] at ht
    have hlt := heap_lt ht
    exact ⟨[], rfl, Nat.le_refl _, Nat.zero_le _, ⟨hb0.trans (hb.mono hb0.size), ⟨_, _, Two.nil (by omega), keeps hb g1, keeps hb g2⟩, keeps hb g0⟩, keeps hb g3, ht⟩
  have HST := Lib.hid hst
  have H3 := Lib.hid h3
  clear hst hw3 hz h3
  go_wp2_with fail
  have hscan := scanT s ⟨w.heap.size + 3, 0, none⟩ ⟨w.heap.size + 1, 0, none⟩ ⟨w.heap.size + 2, 0, none⟩ ⟨w.heap.size, 0, none⟩ w3 (by omega) (TI w s) (fun _ => False)
    (fun i a W h => by
      obtain ⟨F, _, _, _, _, _, h6⟩ := h
      rw [H3.out]; exact h6)
    (fun i a W h => by
      obtain ⟨F, _, _, _, _, h5, _⟩ := h
      exact cell_of_row _ _ 0 _ _ _ h5)
    (fun i a W W' h hb => by
      obtain ⟨F, h1, h2, h3, h4, h5, h6⟩ := h
      exact ⟨F, h1, h2, h3, h4.on hb, keeps hb h5, keeps hb h6⟩)
    (fun i a W hF hn h => by
      obtain ⟨F, h1, h2, h3, h4, h5, h6⟩ := h
      obtain ⟨e1, e2⟩ := frAt_ends hF
      have hls : (L s).length = s.size := rfl
      refine (told1 (frAt (L s) i) (frAt (L s) i).ends s F (F.map Fr.ends) W (by omega) (by omega) h4 (by omega) (by simp)).mono ?_
      rintro e W' ⟨rfl, h7, h8⟩
      refine ⟨true, ret_bool (by rw [decide_eq_true_iff]; omega), fun _ => ⟨F ++ [frAt (L s) i], ?_, ?_, ?_, ?_, ?_, ?_⟩, fun hx => by cases hx⟩
      · rw [h1, scan_on hF hn, List.append_assoc]; rfl
      · rw [List.length_append]; show 18 * (F.length + 1) ≤ _; omega
      · omega
      · rw [List.map_append]; exact h7
      · rw [h8 _ (by omega) (by omega)]; exact h5
      · rw [h8 _ (by omega) (by omega)]; exact h6)
    HST.out
  refine hscan.mono ?_
  clear hscan
  rintro e w4 ⟨rfl, h4⟩
  have hk : ∃ i a, TI w s i a w4 ∧ scan (L s) i a = [] := by
    rcases h4 with ⟨i, a, h, hno⟩ | h
    · exact ⟨i, a, h, scan_off hno⟩
    · exact absurd h id
  obtain ⟨i, a, ⟨F, k1, _, _, k4, _, _⟩, k7⟩ := hk
  rw [k7, List.append_nil] at k1
  rw [← k1] at k4
  obtain ⟨v3, v4, t1, t2, t3⟩ := k4.rows
  have c1 : w4.drew.cell? ⟨w.heap.size + 1, 0, none⟩ = some v3 := cell_of_row _ _ 0 _ _ _ t2
  have c2 : w4.drew.cell? ⟨w.heap.size + 2, 0, none⟩ = some v4 := cell_of_row _ _ 0 _ _ _ t3
  have c3 : w4.cell? ⟨w.heap.size + 1, 0, none⟩ = some v3 := cell_of_row _ _ 0 _ _ _ t2
  have c4 : w4.cell? ⟨w.heap.size + 2, 0, none⟩ = some v4 := cell_of_row _ _ 0 _ _ _ t3
  have HT := Lib.hid t1
  have HK := Lib.hid k4.below
  clear t1 t2 t3 k4 k1 k7 h4 HST H3 hmf hnf
  go_wp2_with fail
  go_region
  go_wp2_with fail
  go_ret2
  exact ⟨v3, v4, w.heap.size + 7, rfl, HT.out.on (Below.refl _ _).drew, HK.out.drew, by omega⟩
end Go.Proofs.Ytllpejkfbgpobaa
