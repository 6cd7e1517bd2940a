/- DiskKeeps: begins, at. -/
import Derived.Test.YtbnicjpkfldcdaaDoorK9d
import Derived.Test.YtbnicjpkfldcdaaDoorD9xl
import Derived.Test.YtbnicjpkfldcdaaDoorD9g
namespace Go.Proofs.YtbnicjpkfldcdaaDoor
open Go.RowKit Go.Lib

theorem ts_yes (a : ByteArray) : (a.toList == a.toList) = true := by simp
set_option maxHeartbeats 1000000 in
theorem begins_yes {a b : ByteArray} (h : L a <+: L b) (hs : b.size ≤ 1000000000) (w : World) : Calls Tryd.prog 30 #[.string a, .string b] w fun e w' => e = .returned (.bool true) ∧ w' = w := by
  have hl : a.size ≤ b.size := by have := h.length_le; rwa [L_length, L_length] at this
  have hli : (a.size : Int) ≤ (b.size : Int) := by omega
  have hsi : (b.size : Int) ≤ 1000000000 := by omega
  have e : b.extract 0 a.size = a := by
    obtain ⟨t, ht⟩ := h
    have e1 : b = S (L a ++ t) := by rw [ht]; rfl
    rw [e1, S_cutK, ← L_length, List.take_left]
    rfl
  have et : ((b.extract 0 a.size).toList == a.toList) = true := by rw [e]; exact ts_yes a
  clear h hs e
  go_enter Tryd.func30, Tryd.ntmps30
  go_wp2
  go_ret
  exact ⟨rfl, rfl⟩
/-- Where a name stands. -/
structure AtR (n : Nat) (x : Nat → ByteArray) (t : ByteArray) (r : Int) : Prop where
  hit : ∀ i : Nat, r = (i : Int) → i < n ∧ x i = t ∧ ∀ j, j < i → x j ≠ t
  no : r < 0 → r = -1 ∧ ∀ j, j < n → x j ≠ t
set_option maxHeartbeats 1000000 in
theorem at_cells (bp g n c : Nat) (x : Nat → ByteArray) (t : ByteArray) (r : Int) (hr : AtR n x t r) (w : World) (hn : n ≤ 1000000) (c0 : w.cell? ⟨bp, 0, none⟩ = some (.slice (some ⟨g, 0, none⟩) n c)) (ha : ∀ i, i < n → w.cell? ⟨g, i, none⟩ = some (.string (x i))) :
    Calls Tryd.prog 13 #[.pointer (some ⟨bp, 0, none⟩), .string t] w fun e w' => e = .returned (.int .i64 r) ∧ w' = w := by
  have HA := Lib.hid ha
  have HR := Lib.hid hr
  have hni : (n : Int) ≤ 1000000 := by omega
  clear ha hr
  go_enter Tryd.func13, Tryd.ntmps13
  go_wp2
  go_loopw [5] (fun i wr => ∃ (k : Nat), wr = w ∧ k ≤ n ∧ i = .int .i64 k ∧ ∀ j, j < k → x j ≠ t) (fun i _ => n - (Go.RowKit.intOf i).toNat)
  case atStart => exact ⟨0, rfl, Nat.zero_le _, rfl, fun j hj => absurd hj (Nat.not_lt_zero _)⟩
  case round =>
    obtain ⟨k, hX, hk, rfl, hne⟩ := hrel
    subst hX
    have HN := Lib.hid hne
    have hk2 : (k : Int) ≤ 1000000 := by omega
    clear hne
    by_cases hlt : k < n
    · have c1 := HA.out k hlt
      have hli : (k : Int) < (n : Int) := by omega
      by_cases he : x k = t
      · have eb : ((x k).toList == t.toList) = true := by rw [he]; exact ts_yes t
        have er : Hid ((k : Int) = r) := Lib.hid (by
          by_cases h0 : r < 0
          · exact absurd he ((HR.out.no h0).2 k hlt)
          · obtain ⟨i, hi⟩ : ∃ i : Nat, r = (i : Int) := ⟨r.toNat, by omega⟩
            obtain ⟨_, h2, h3⟩ := HR.out.hit i hi
            have : k = i := by
              rcases Nat.lt_trichotomy k i with h | h | h
              · exact absurd he (h3 k h)
              · exact h
              · exact absurd h2 (HN.out i h)
            omega)
        clear he
        go_wp2_with fail
        go_ret
        exact ⟨by rw [er.out]; rfl, rfl⟩
      · have eb : ((x k).toList == t.toList) = false := ts_no he
        have HE := Lib.hid he
        clear he
        go_wp2_with fail
        go_roundw
        case rel => exact ⟨k + 1, trivial, by omega, by go_num, fun j hj => by
          rcases Nat.lt_or_eq_of_le (Nat.le_of_lt_succ hj) with h | h
          · exact HN.out j h
          · rw [h]; exact HE.out⟩
        case measure => simp [Go.RowKit.intOf]; omega
    · have hli : ¬ (k : Int) < (n : Int) := by omega
      have er : Hid ((-1 : Int) = r) := Lib.hid (by
        by_cases h0 : r < 0
        · exact (HR.out.no h0).1.symm
        · obtain ⟨i, hi⟩ : ∃ i : Nat, r = (i : Int) := ⟨r.toNat, by omega⟩
          obtain ⟨h1, h2, h3⟩ := HR.out.hit i hi
          exact absurd h2 (HN.out i (by omega)))
      go_wp2_with fail
      go_ret
      exact ⟨by rw [er.out]; rfl, rfl⟩
theorem at_empty (bp c : Nat) (a : Option Addr) (t : ByteArray) (w : World) (c0 : w.cell? ⟨bp, 0, none⟩ = some (.slice a 0 c)) :
    Calls Tryd.prog 13 #[.pointer (some ⟨bp, 0, none⟩), .string t] w fun e w' => e = .returned (.int .i64 (-1)) ∧ w' = w := by
  go_enter Tryd.func13, Tryd.ntmps13
  go_wp2
  refine wp_loop_rounds 1 ?_
  rw [rounds_succ]
  go_wp2
  go_ret
  exact ⟨rfl, rfl⟩
theorem atL_R (n : ByteArray) (G : List LE) : AtR G.length (fun i => (G.map LE.name).getD i ⟨#[]⟩) n (atL n G) := by
  unfold atL
  cases e : idxL n G with
  | none =>
    refine ⟨fun i hi => by simp only at hi; omega, fun _ => ⟨rfl, fun j hj => ?_⟩⟩
    have := idxL_none e (G[j]) (List.getElem_mem hj)
    rw [List.getD_eq_getElem?_getD, List.getElem?_map, List.getElem?_eq_getElem hj]
    exact this
  | some i =>
    unfold idxL at e
    rw [List.findIdx?_eq_some_iff_getElem] at e
    obtain ⟨hi, h1, h2⟩ := e
    refine ⟨fun i' hi' => ?_, fun h => by simp only at h; omega⟩
    have : i' = i := by simp only at hi'; omega
    subst this
    refine ⟨hi, ?_, fun j hj => ?_⟩
    · rw [List.getD_eq_getElem?_getD, List.getElem?_map, List.getElem?_eq_getElem hi]
      simpa using h1
    · have := h2 j hj
      rw [List.getD_eq_getElem?_getD, List.getElem?_map, List.getElem?_eq_getElem (Nat.lt_trans hj hi)]
      simpa using this
theorem at_any {B bp : Nat} {vn va vs : Value} {G : List LE} {w : World} (h : LogAt B bp vn va vs G w) (hl : G.length ≤ 1000000) (t : ByteArray) :
    Calls Tryd.prog 13 #[.pointer (some ⟨bp, 0, none⟩), .string t] w fun e w' => e = .returned (.int .i64 (atL t G)) ∧ w' = w := by
  have c0 := cell_of h.self 0
  simp only [List.getElem?_toArray, List.getElem?_cons_zero] at c0
  rcases h.rn.2 with ⟨hv, h0⟩ | ⟨g, c, cur, hv, _⟩
  · rw [hv] at c0
    have hG : G = [] := by simpa using h0
    subst hG
    exact at_empty bp 0 none t w c0
  · rw [hv] at c0
    have hlen : (G.map LE.name).length = G.length := by simp
    rw [hlen] at c0
    refine at_cells bp g G.length c _ t (atL t G) (atL_R t G) w hl c0 (fun i hi => ?_)
    obtain ⟨g', c', hv', hc, _⟩ := row_at h.rn (i := i) (x := (G.map LE.name).getD i ⟨#[]⟩) (by rw [List.getD_eq_getElem?_getD, List.getElem?_eq_getElem (by simpa using hi)]; rfl)
    rw [hv] at hv'
    cases hv'
    exact hc
end Go.Proofs.YtbnicjpkfldcdaaDoor

/- DiskKeeps: set. -/
namespace Go.Proofs.YtbnicjpkfldcdaaDoor
open Go.RowKit Go.Lib

theorem set_self {α : Type} {l : List α} {i : Nat} {x : α} (h : l[i]? = some x) : l.set i x = l := by
  obtain ⟨hi, rfl⟩ := List.getElem?_eq_some_iff.1 h
  exact List.set_getElem_self hi
set_option maxRecDepth 10000 in
set_option maxHeartbeats 400000 in
theorem set_new {B bp : Nat} {vn va vs : Value} {G : List LE} {w : World} (h : LogAt B bp vn va vs G w) (hB : B ≤ w.heap.size) (hl : G.length ≤ 1000000) {n : ByteArray} (hi : idxL n G = none) (a s : ByteArray) :
    Calls Tryd.prog 29 #[.pointer (some ⟨bp, 0, none⟩), .string n, .string a, .string s] w fun e w' => e = .returned (.tuple #[]) ∧ LogOut B bp vn va vs (G ++ [⟨n, a, s⟩]) w w' := by
  have hat := at_any h hl n
  have e0 : atL n G = -1 := by unfold atL; rw [hi]
  rw [e0] at hat
  have HAt := Lib.hid hat
  obtain ⟨a0, k0, W1, r1, s1, h1, f1⟩ := h.app0 hB n (by simpa using hl)
  have z1 := f1.1.size
  obtain ⟨a1, k1, W2, r2, s2, h2, f2⟩ := h1.app1 (Nat.le_trans hB z1) a (by simpa using hl)
  have z2 := f2.1.size
  obtain ⟨a2, k2, W3, r3, s3, h3, f3⟩ := h2.app2 (Nat.le_trans hB (Nat.le_trans z1 z2)) s (by simpa using hl)
  have c0 := cell_of h.self 0
  have d0 := cell_of s1 0
  have g0 := frozen_of s1 0
  have c1 := cell_of h1.self 1
  have d1 := cell_of s2 1
  have g1 := frozen_of s2 1
  have c2 := cell_of h2.self 2
  have d2 := cell_of s3 2
  have g2 := frozen_of s3 2
  simp only [List.getElem?_toArray, List.getElem?_cons_zero, List.getElem?_cons_succ] at c0 d0 c1 d1 c2 d2
  have HO : Hid (LogOut B bp vn va vs (G ++ [⟨n, a, s⟩]) w (W3.setCell ⟨bp, 2, none⟩ (.slice a2 ((G.map LE.sure).length + 1) k2))) := Lib.hid (by
    have f := (f1.trans f2).trans f3
    refine ⟨_, _, _, ?_, f.1, f.2⟩
    unfold LogAt
    rw [List.map_append, List.map_append, List.map_append]
    exact h3)
  rw [show (W1.setCell ⟨bp, 0, none⟩ (.slice a0 ((G.map LE.name).length + 1) k0)).heap.size = W1.heap.size by simp [World.setCell]] at r2
  rw [show (W2.setCell ⟨bp, 1, none⟩ (.slice a1 ((G.map LE.all).length + 1) k1)).heap.size = W2.heap.size by simp [World.setCell]] at r3
  have R1 := Lib.hid r1
  have R2 := Lib.hid r2
  have R3 := Lib.hid r3
  clear h hB hl hi hat e0 r1 r2 r3 s1 s2 s3 h1 h2 h3 f1 f2 f3 z1 z2
  generalize (G.map LE.name).length = n0 at *
  generalize (G.map LE.all).length = n1 at *
  generalize (G.map LE.sure).length = n2 at *
  go_enter Tryd.func29, Tryd.ntmps29
  go_wp2_with (first | (go_at_call 13; refine HAt.out.mono ?_; rintro e w' ⟨rfl, hw⟩; subst w') | (at_builtin; refine append_by_run (u := vn) (v := .slice (some ⟨w.heap.size, 0, none⟩) 1 1) rfl _ _ _ rfl 30 rfl rfl rfl _ _ R1.out ?_) | (at_builtin; refine append_by_run (u := va) (v := .slice (some ⟨W1.heap.size, 0, none⟩) 1 1) rfl _ _ _ rfl 30 rfl rfl rfl _ _ R2.out ?_) | (at_builtin; refine append_by_run (u := vs) (v := .slice (some ⟨W2.heap.size, 0, none⟩) 1 1) rfl _ _ _ rfl 30 rfl rfl rfl _ _ R3.out ?_))
  first | refine bodyPost_end (results_none rfl _ _ _) rfl ?_ | refine bodyPost_ret (results_none rfl _ _ _) rfl ?_
  exact ⟨rfl, HO.out⟩
set_option maxHeartbeats 2000000 in
theorem set_old {B bp : Nat} {vn va vs : Value} {G : List LE} {w : World} (h : LogAt B bp vn va vs G w) (hl : G.length ≤ 1000000) {n : ByteArray} {i : Nat} (hi : idxL n G = some i) (a s : ByteArray) :
    Calls Tryd.prog 29 #[.pointer (some ⟨bp, 0, none⟩), .string n, .string a, .string s] w fun e w' => e = .returned (.tuple #[]) ∧ LogOut B bp vn va vs (G.set i ⟨n, a, s⟩) w w' := by
  have hat := at_any h hl n
  have e0 : atL n G = (i : Int) := by unfold atL; rw [hi]
  rw [e0] at hat
  have HAt := Lib.hid hat
  obtain ⟨x, hx, hxn⟩ := idxL_some hi
  have hil : i < G.length := (List.getElem?_eq_some_iff.1 hx).1
  obtain ⟨g1, k1, hv1, c1, z1, p1⟩ := h.put1 (i := i) (y := x.all) (by rw [List.getElem?_map, hx]; rfl)
  obtain ⟨h1, f1⟩ := p1 a
  obtain ⟨g2, k2, hv2, c2, z2, p2⟩ := h1.put2 (i := i) (y := x.sure) (by rw [List.getElem?_map, hx]; rfl)
  obtain ⟨h2, f2⟩ := p2 s
  subst hv1 hv2
  have b1 := cell_of h.self 1
  have b2 := cell_of h1.self 2
  have m1 : (G.map LE.all).length = G.length := by simp
  have m2 : (G.map LE.sure).length = G.length := by simp
  simp only [List.getElem?_toArray, List.getElem?_cons_zero, List.getElem?_cons_succ, m1, m2] at b1 b2
  have HO : Hid (LogOut B bp vn (.slice (some ⟨g1, 0, none⟩) (G.map LE.all).length k1) (.slice (some ⟨g2, 0, none⟩) (G.map LE.sure).length k2) (G.set i ⟨n, a, s⟩) w ((w.setCell ⟨g1, i, none⟩ (.string a)).setCell ⟨g2, i, none⟩ (.string s))) := Lib.hid (by
    have f := f1.trans f2
    refine ⟨_, _, _, ?_, f.1, f.2⟩
    unfold LogAt
    rw [List.map_set, List.map_set, List.map_set]
    have en : (G.map LE.name).set i n = G.map LE.name := set_self (by rw [List.getElem?_map, hx, ← hxn]; rfl)
    simp only [en]
    exact h2)
  have hili : (i : Int) < (G.length : Int) := by omega
  have hlI : (G.length : Int) ≤ 1000000 := by omega
  clear h hi hat e0 p1 p2 h1 h2 f1 f2 hx hxn hl m1 m2
  generalize (G.map LE.all).length = n1 at *
  generalize (G.map LE.sure).length = n2 at *
  go_enter Tryd.func29, Tryd.ntmps29
  go_wp2_with (go_at_call 13; refine HAt.out.mono ?_; rintro e w' ⟨rfl, hw⟩; subst hw)
  first | refine bodyPost_end (results_none rfl _ _ _) rfl ?_ | refine bodyPost_ret (results_none rfl _ _ _) rfl ?_
  exact ⟨rfl, HO.out⟩
end Go.Proofs.YtbnicjpkfldcdaaDoor
