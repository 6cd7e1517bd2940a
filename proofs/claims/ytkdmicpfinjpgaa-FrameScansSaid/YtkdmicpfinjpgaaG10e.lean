/- frame: goes. -/
import Derived.Test.YtkdmicpfinjpgaaG10d
namespace Go.Proofs.Ytkdmicpfinjpgaa
open Go.RowKit

/-- Two rows of what a scan tells, that lie. -/
def Wp (v3 v4 : Value) (F : List Fr) (W : World) : Prop :=
  ∃ ao c bo d, v3 = .slice ao F.length c ∧ v4 = .slice bo F.length d ∧ (F ≠ [] → ∃ g h, ao = some ⟨g, 0, none⟩ ∧ bo = some ⟨h, 0, none⟩ ∧ Lay g F h (F.map Fr.ends) W)
theorem Wp.on {v3 v4 : Value} {F : List Fr} {W W' : World} (h : Wp v3 v4 F W) (hb : Below W.heap.size W W') : Wp v3 v4 F W' := by
  obtain ⟨ao, c, bo, d, rfl, rfl, h⟩ := h
  refine ⟨ao, c, bo, d, rfl, rfl, fun h0 => ?_⟩
  obtain ⟨g, h, e1, e2, l⟩ := h h0
  exact ⟨g, h, e1, e2, l.on hb⟩
theorem Two.wp {B : Nat} {v3 v4 : Value} {F : List Fr} {w : World} (h : Two B v3 F v4 (F.map Fr.ends) w) : Wp v3 v4 F w := by
  by_cases h0 : F = []
  · obtain ⟨ao, c, e1⟩ := h.shape3
    obtain ⟨bo, d, e2⟩ := h.shape4
    exact ⟨ao, c, bo, d, e1, by rw [e2, List.length_map], fun h1 => absurd h0 h1⟩
  · obtain ⟨g, h', c, d, e1, e2, l⟩ := h.lay h0 (by simpa using h0)
    exact ⟨_, c, _, d, e1, by rw [e2, List.length_map], fun _ => ⟨g, h', rfl, rfl, l⟩⟩
theorem heap6 (w : World) (a b c d e f : Obj) : let W := (((((w.alloc a).alloc b).alloc c).alloc d).alloc e).alloc f
    W.heap[w.heap.size]? = some a ∧ W.heap[w.heap.size + 1]? = some b ∧ W.heap[w.heap.size + 2]? = some c ∧ W.heap[w.heap.size + 3]? = some d ∧ W.heap[w.heap.size + 4]? = some e ∧ W.heap[w.heap.size + 5]? = some f := by
  have key : ((((((w.alloc a).alloc b).alloc c).alloc d).alloc e).alloc f).heap = (((((w.heap.push a).push b).push c).push d).push e).push f := rfl
  simp only []
  rw [key]
  refine ⟨?_, ?_, ?_, ?_, ?_, ?_⟩ <;> (simp only [Array.getElem?_push, Array.size_push]; repeat (first | rw [if_pos trivial] | rw [if_pos rfl] | rw [if_neg (by omega)]))
/-- What stays true while goes' scan goes. -/
def GI (w : World) (s : ByteArray) (st : Int) (v3 v4 : Value) (i a : Nat) (X : World) : Prop :=
  ∃ k, k ≤ (scan (L s) 0 0).length ∧ (scan (L s) 0 0).drop k = scan (L s) i a ∧ Gs w.heap.size st v3 v4 k false X ∧ Below w.heap.size w X ∧ X.heap[w.heap.size + 8]? = some (.cells (tabC 256) 54)
set_option maxHeartbeats 4000000 in
theorem goes_any (s : ByteArray) (q : Addr) (v3 v4 : Value) (st : Int) (w : World) (hs : s.size ≤ 1099511627776) (hq : w.cell? q = some (.string s)) (hql : q.block < w.heap.size) (hW : Wp v3 v4 (scan (L s) 0 0) w) :
    Calls Try.prog 15 #[.func (.func 25) #[] #[.pointer (some q)], v3, v4, .int .i64 st] w fun e w' => e = .returned (.bool true) ∧ Below w.heap.size w w' := by
  have hmf : ∀ (fn : Fn) (first cap : Array Value) (w : World), (Instr.makeFunc fn first cap).run Try.prog w = .ok (.func fn first cap) w := fun _ _ _ _ => rfl
  have hlen := scan_len (L s)
  rw [L_length] at hlen
  obtain ⟨ao, c, bo, d, rfl, rfl, hl⟩ := hW
  have HL := Lib.hid hl
  have HQ := Lib.hid hq
  have HQL := Lib.hid hql
  clear hl hq hql
  obtain ⟨M, hM⟩ : ∃ M, M = (scan (L s) 0 0).length := ⟨_, rfl⟩
  rw [← hM]
  have HM := Lib.hid hM
  clear hM
  go_enter Try.func15, Try.ntmps15
  go_wp2_with fail
  obtain ⟨g0, g1, g2, g3, g4, g5⟩ := heap6 w (.cells #[.slice ao M c] 41) (.cells #[.slice bo M d] 42) (.cells #[.int .i64 st] 3) (.cells #[.int .i64 0] 3) (.cells #[.bool false] 4) (.cells #[.bool true] 4)
  have hG0 : Gs w.heap.size st (.slice ao M c) (.slice bo M d) 0 false ((((((w.alloc (.cells #[.slice ao M c] 41)).alloc (.cells #[.slice bo M d] 42)).alloc (.cells #[.int .i64 st] 3)).alloc (.cells #[.int .i64 0] 3)).alloc (.cells #[.bool false] 4)).alloc (.cells #[.bool true] 4)) := ⟨g0, g1, g2, g3, g4, g5⟩
  have hz : ((((((w.alloc (.cells #[.slice ao M c] 41)).alloc (.cells #[.slice bo M d] 42)).alloc (.cells #[.int .i64 st] 3)).alloc (.cells #[.int .i64 0] 3)).alloc (.cells #[.bool false] 4)).alloc (.cells #[.bool true] 4)).heap.size = w.heap.size + 6 := by simp
  have hb0 : Below w.heap.size w ((((((w.alloc (.cells #[.slice ao M c] 41)).alloc (.cells #[.slice bo M d] 42)).alloc (.cells #[.int .i64 st] 3)).alloc (.cells #[.int .i64 0] 3)).alloc (.cells #[.bool false] 4)).alloc (.cells #[.bool true] 4)) := ((((((Below.refl _ _).alloc (Nat.le_refl _) _).alloc (by simp) _).alloc (by simp; omega) _).alloc (by simp; omega) _).alloc (by simp; omega) _).alloc (by simp; omega) _
  generalize (((((w.alloc (.cells #[.slice ao M c] 41)).alloc (.cells #[.slice bo M d] 42)).alloc (.cells #[.int .i64 st] 3)).alloc (.cells #[.int .i64 0] 3)).alloc (.cells #[.bool false] 4)).alloc (.cells #[.bool true] 4) = W1 at *
  clear g0 g1 g2 g3 g4 g5
  have HZ := Lib.hid hz
  have HG0 := Lib.hid hG0
  have HB0 := Lib.hid hb0
  clear hz hG0 hb0
  have hscan := scanG s q ⟨w.heap.size + 5, 0, none⟩ ⟨w.heap.size + 4, 0, none⟩ ⟨w.heap.size + 3, 0, none⟩ ⟨w.heap.size, 0, none⟩ ⟨w.heap.size + 1, 0, none⟩ ⟨w.heap.size + 2, 0, none⟩ W1 (by omega)
    (GI w s st (.slice ao M c) (.slice bo M d)) (fun X => (∃ k, Gs w.heap.size st (.slice ao M c) (.slice bo M d) k true X) ∧ Below w.heap.size w X)
    (fun i a X h => by
      obtain ⟨k, _, _, _, _, h5⟩ := h
      rw [HZ.out]; exact h5)
    (fun i a X h => by
      obtain ⟨k, _, _, _, h4, _⟩ := h
      rw [h4.cell HQL.out]; exact HQ.out)
    (fun i a X X' h hb => by
      obtain ⟨k, h1, h2, h3, h4, h5⟩ := h
      exact ⟨k, h1, h2, h3.on hb, h4.trans (hb.mono h4.size), keeps hb h5⟩)
    (fun i a X hF hn h => by
      obtain ⟨k, h1, h2, h3, h4, h5⟩ := h
      rw [scan_on hF hn] at h2
      have hk : k < (scan (L s) 0 0).length := by
        rcases Nat.lt_or_ge k (scan (L s) 0 0).length with h | h
        · exact h
        · rw [List.drop_eq_nil_of_le h] at h2; cases h2
      rw [List.drop_eq_getElem_cons hk] at h2
      obtain ⟨e1, e2⟩ := List.cons.inj h2
      have hf : (scan (L s) 0 0)[k]? = some (frAt (L s) i) := by rw [List.getElem?_eq_getElem hk, e1]
      obtain ⟨g, h', ha, hbo, hlay⟩ := HL.out (by intro e; rw [e] at hk; simp at hk)
      subst ha hbo
      have hM := HM.out
      rw [hM] at h3
      have hlt5 := heap_lt h5
      refine (goes1 X h3 (hlay.on h4) hf (by omega)).mono ?_
      rintro e X' ⟨rfl, r1, r2, r3⟩
      have r4 : Below w.heap.size w X' := h4.trans (r3.mono (by omega))
      refine ⟨_, rfl, fun hy => ⟨k + 1, by omega, e2, ?_, r4, by rw [r2 _ hlt5 (by omega) (by omega) (by omega)]; exact h5⟩, fun hy => ⟨⟨k + 1, ?_⟩, r4⟩⟩
      · rw [hM]
        rw [show (((k + 1 : Nat) : Int) == st) = false by simpa using hy] at r1
        exact r1
      · rw [hM]
        rw [show (((k + 1 : Nat) : Int) == st) = true by simpa using hy] at r1
        exact r1)
    (fun X hb ht => by
      rw [HZ.out] at ht
      exact ⟨0, Nat.zero_le _, rfl, HG0.out.on hb, HB0.out.trans (hb.mono (by rw [HZ.out]; omega)), ht⟩)
  refine hscan.mono ?_
  clear hscan
  rintro e w4 ⟨rfl, h4⟩
  have hk : ∃ (k : Nat) (ov : Bool), (ov = true ∨ (ov = false ∧ k = M)) ∧ Gs w.heap.size st (.slice ao M c) (.slice bo M d) k ov w4 ∧ Below w.heap.size w w4 := by
    rcases h4 with ⟨i, a, ⟨k, h1, h2, h3, h5, _⟩, hno⟩ | ⟨⟨k, h1⟩, h2⟩
    · rw [scan_off hno] at h2
      have := congrArg List.length h2
      simp at this
      exact ⟨k, false, .inr ⟨rfl, by rw [HM.out]; omega⟩, h3, h5⟩
    · exact ⟨k, true, .inl rfl, h1, h2⟩
  obtain ⟨k, ov, hov, hG, hB⟩ := hk
  have c0 : w4.cell? ⟨w.heap.size, 0, none⟩ = some (.slice ao M c) := cell_of_row _ _ 0 _ _ _ hG.want
  have c3 : w4.cell? ⟨w.heap.size + 3, 0, none⟩ = some (.int .i64 (k : Int)) := cell_of_row _ _ 0 _ _ _ hG.num
  have c4 : w4.cell? ⟨w.heap.size + 4, 0, none⟩ = some (.bool ov) := cell_of_row _ _ 0 _ _ _ hG.over
  have c5 : w4.cell? ⟨w.heap.size + 5, 0, none⟩ = some (.bool true) := cell_of_row _ _ 0 _ _ _ hG.right
  have HB := Lib.hid hB
  clear h4 hG hB HG0 HB0 HZ hmf HL HQ HQL HM hlen
  rcases hov with rfl | ⟨rfl, rfl⟩
  · go_wp2_with fail
    go_ret
    exact ⟨rfl, HB.out⟩
  · go_wp2_with fail
    go_ret
    exact ⟨rfl, HB.out⟩
end Go.Proofs.Ytkdmicpfinjpgaa
