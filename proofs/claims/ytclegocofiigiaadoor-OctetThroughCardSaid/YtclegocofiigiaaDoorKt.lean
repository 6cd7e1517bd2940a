/- The statement OctetThrough: the walk. -/
import Derived.Test.YtclegocofiigiaaDoorLn
import Derived.Test.YtclegocofiigiaaDoorPt
import Derived.Test.YtclegocofiigiaaDoorQb
namespace Go.Proofs.YtclegocofiigiaaDoor
open Go.RowKit Go.Shelf

set_option maxHeartbeats 400000 in
theorem printable_yes (s : ByteArray) (w : World) (h : prB (L s)) :
    Calls Tryd.prog 23 #[.string s] w fun e w' => e = .returned (.bool true) ∧ w' = w := by
  obtain ⟨h1, h2, h3⟩ := h
  rw [L_length] at h2
  go_enter Tryd.func23, Tryd.ntmps23
  go_wp2
  go_loop [3] (fun i => ∃ k : Nat, k ≤ s.size ∧ i = .int .i64 k) (fun i => s.size - (intOf i).toNat)
  case atStart => exact ⟨0, Nat.zero_le _, rfl⟩
  case round =>
    obtain ⟨k, hk, rfl⟩ := hrel
    by_cases hlt : k < s.size
    · have ea := get_bt s k hlt
      have c0 : (bt (L s) k).toNat < 256 := bt_lt _ _
      have hp := h1 (bt (L s) k) (by rw [bt_getElem _ _ (by rw [L_length]; exact hlt)]; exact List.getElem_mem _)
      unfold prC at hp
      simp at hp
      clear h1 h3
      by_cases h9 : (bt (L s) k).toNat = 9
      · have n9 : (((bt (L s) k).toNat : Int) != 9) = false := by simp; omega
        have h4 : (((bt (L s) k).toNat : Int) < 32) := by omega
        clear hp
        go_wp2
        go_round
        case rel => exact ⟨k + 1, by omega, by go_num⟩
        case measure => simp [intOf]; omega
      · have h4 : ¬ (((bt (L s) k).toNat : Int) < 32) := by omega
        have h5 : ¬ (126 < ((bt (L s) k).toNat : Int)) := by omega
        clear hp
        go_wp2
        go_round
        case rel => exact ⟨k + 1, by omega, by go_num⟩
        case measure => simp [intOf]; omega
    · clear h1
      by_cases h0 : s.size = 0
      · have : s = ⟨#[]⟩ := by
          have e1 : L s = [] := List.eq_nil_of_length_eq_zero (by rw [L_length]; exact h0)
          have e2 : S (L s) = ⟨#[]⟩ := by rw [e1]; rfl
          exact e2
        subst this
        clear h3
        have he : (⟨#[]⟩ : ByteArray).toList.isEmpty = true := by rw [toList_L]; rfl
        go_wp2
        go_ret
        exact ⟨rfl, rfl⟩
      · have hne : L s ≠ [] := by intro e; exact h0 (by rw [← L_length, e]; rfl)
        have hl := h3 hne
        have e1 : (L s).getLast hne = bt (L s) (s.size - 1) := by
          rw [bt_getElem _ _ (by rw [L_length]; omega), List.getLast_eq_getElem]; rfl
        rw [e1] at hl
        obtain ⟨j, hj⟩ : ∃ j, s.size = j + 1 := ⟨s.size - 1, by omega⟩
        have ea := get_bt s j (by omega)
        rw [hj, Nat.add_sub_cancel] at hl
        have hz : (s.size : Int) - 1 = (j : Int) := by omega
        have he : s.toList.isEmpty = false := by
          rw [toList_L]
          cases hx : L s with
          | nil => exact absurd hx hne
          | cons a b => rfl
        have c0 : (bt (L s) j).toNat < 256 := bt_lt _ _
        clear h3 e1
        have n32 : (((bt (L s) j).toNat : Int) != 32) = true := by unfold blankI at hl; simp at hl; simp; omega
        have n9 : (((bt (L s) j).toNat : Int) != 9) = true := by unfold blankI at hl; simp at hl; simp; omega
        clear hl
        go_wp2
        go_ret
        exact ⟨rfl, rfl⟩

set_option maxHeartbeats 400000 in
theorem through1 (x : ByteArray) (b : Nat) (w : World) (hx : prB (L x)) (hc : w.heap[b]? = some (.cells #[.bool true] 4 (0, 0))) :
    Calls Tryd.prog 22 #[.string x, .pointer (some ⟨b, 0, none⟩)] w fun e w' => e = .returned (.bool true) ∧ w'.heap[b]? = some (.cells #[.bool true] 4 (0, 0)) ∧ Below b w w' := by
  have c1 := cell_of_one hc
  have f1 := free_of_one hc
  have c2 := one_setCell (u := .bool true) hc
  have c3 := cell_of_one c2
  go_enter Tryd.func22, Tryd.ntmps22
  go_wp2_with (go_at_call 23; refine (printable_yes x _ hx).mono ?_; rintro e w' ⟨rfl, rfl⟩)
  go_ret
  exact ⟨rfl, c2, (Below.refl b _).setCell (p := ⟨b, 0, none⟩) (Nat.le_refl b) _⟩

theorem Below.of_block {B b : Nat} {w w' : World} (h : Below b w w') (hB : B ≤ b) : Below B w w' := h.mono hB

set_option maxHeartbeats 1000000 in
theorem OctetThrough_walk (s : ByteArray) (w : World) (he : Env w) :
    Calls Tryd.prog 7 #[.string s] w fun e w' => e = .returned (.bool true) ∧ Below w.heap.size w w' := by
  by_cases hs : s.size ≤ 20000
  · have hql := quo_len (L s) false 0
    rw [L_length] at hql
    change (quoted (L s)).length ≤ _ at hql
    have hQ := Lib.hid (fun W => Quoted_any s W (by omega))
    have hbk := quoted_back (L s)
    have hok := quoted_ok (L s)
    generalize quoted (L s) = q at *
    have hsq : (S q).size ≤ 120000 := by rw [S_size]; omega
    have hF := Lib.hid (fun W => FromQuoted_any (S q) W (by omega))
    rw [L_S, hbk] at hF
    have hW := Lib.hid (fun W => Whole_any (S q) W (by omega))
    rw [L_S, okS_whole q hok] at hW
    have hq1 : (!((S (L s)).toList == s.toList)) = false := by rw [toList_L, toList_L, L_S]; simp
    have hmf : ∀ (fn : Fn) (first cap : Array Value) (w : World), (Instr.makeFunc fn first cap).run Tryd.prog w = .ok (.func fn first cap) w := fun _ _ _ _ => rfl
    have hnf : ∀ (k : Fn) (a b : Array Value) (w : World), Sem.run Tryd.prog (binOp BinOp.eql 34 (Value.func k a b) Value.nilFunc) w = .ok (.bool false) w := fun _ _ _ _ => by kernel_rfl
    have HQ := Lib.hid hok
    clear hok hbk hql
    go_enter Tryd.func7, Tryd.ntmps7
    go_wp2_with fail
    refine (hQ.out _).mono ?_
    rintro e w1 ⟨rfl, hb1⟩
    go_wp2_with fail
    refine (hF.out _).mono ?_
    rintro e w2 ⟨rfl, hb2⟩
    have hb2 := hb1.trans (hb2.mono hb1.size)
    clear hb1
    go_wp2_with fail
    refine (hW.out _).mono ?_
    rintro e w3 ⟨rfl, rfl⟩
    go_wp2_with fail
    refine (Lines_any (S q) _).mono ?_
    rintro e w4 ⟨rfl, rfl⟩
    go_wp2_with fail
    have hA : Below w3.heap.size w3 ((w3.alloc (.cells #[.bool true] 4)).alloc (.cells #[.string (S q)] 9)) := ((Below.refl _ _).alloc (Nat.le_refl _) _).alloc (by simp) _
    have hcb : ((w3.alloc (.cells #[.bool true] 4)).alloc (.cells #[.string (S q)] 9)).heap[w3.heap.size]? = some (.cells #[.bool true] 4 (0, 0)) := by
      rw [Below.heap_alloc _ _ _ (by simp)]
      exact heap_alloc_new _ _
    refine (linesT (S q) _ ⟨w3.heap.size, 0, none⟩ _ (by omega) (fun r W => okS r false 0 false ∧ W.heap[w3.heap.size]? = some (.cells #[.bool true] 4 (0, 0)) ∧ Below w3.heap.size w3 W) (fun _ => False) ?_ ?_ ?_ ?_ ⟨HQ.out, hcb, hA⟩).mono ?_
    · rintro r W ⟨_, _, h3⟩
      exact (he.on (hb2.trans (h3.mono hb2.size))).most
    · rintro r W n ⟨h1, h2, h3⟩
      exact ⟨h1, h2, below_drewN h3 n⟩
    · rintro r W hr hrl ⟨h1, h2, h3⟩
      obtain ⟨l1, l2⟩ := cut_line r h1
      refine (through1 (S (Lib.cut r [13, 10]).1) w3.heap.size W l1 h2).mono ?_
      rintro e W' ⟨rfl, k2, k3⟩
      exact ⟨true, rfl, fun _ => ⟨l2, k2, h3.trans k3⟩, fun h => by cases h⟩
    · first | rfl | simp
    rintro e w5 ⟨rfl, h5⟩
    rcases h5 with ⟨_, h6, h7⟩ | h5
    · have c6 := cell_of_one h6
      go_wp2_with fail
      refine (known_any _ (he.on (hb2.trans (h7.mono hb2.size)))).mono ?_
      rintro e w6 ⟨rfl, hb6⟩
      have hb7 := hb2.trans (h7.mono hb2.size)
      go_wp2_with fail
      go_ret
      exact ⟨rfl, hb7.trans (hb6.mono hb7.size)⟩
    · exact absurd h5 id
  · go_enter Tryd.func7, Tryd.ntmps7
    go_wp2
    go_ret
    exact ⟨rfl, Below.refl _ _⟩
end Go.Proofs.YtclegocofiigiaaDoor
