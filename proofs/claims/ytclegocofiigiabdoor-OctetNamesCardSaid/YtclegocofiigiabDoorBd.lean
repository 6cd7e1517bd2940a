/- The reference's base64: value, plain, Base64. -/
import Derived.Test.YtclegocofiigiabDoorBc
namespace Go.Proofs.YtclegocofiigiabDoor
open Go.RowKit Go.Shelf

theorem valA_lt (l : List Nat) (h : ∀ x ∈ l, x < 2) (a : Nat) : ∀ n, valA l a n < 2 ^ n
  | 0 => by simp [valA]
  | n + 1 => by
    have ih := valA_lt l h a n
    have hb : l[a + n]?.getD 0 < 2 := by
      rcases Nat.lt_or_ge (a + n) l.length with hl | hl
      · rw [List.getElem?_eq_getElem hl]; exact h _ (List.getElem_mem _)
      · rw [List.getElem?_eq_none hl]; simp
    rw [valA, Nat.pow_succ]; omega

set_option maxHeartbeats 400000 in
theorem value_any (g cap : Nat) (l : List Nat) (a n : Nat) (w : World) (hl : ∀ x ∈ l, x < 2) (hlen : l.length ≤ 10000000) (ha : a ≤ 10000000) (hn : n ≤ 8)
    (hc : ∀ j, j < l.length → w.cell? ⟨g, j, none⟩ = some (.int .i64 ((l[j]?.getD 0 : Nat) : Int))) :
    Calls Tryd.prog 49 #[.slice (some ⟨g, 0, none⟩) l.length cap, .int .i64 a, .int .i64 n] w fun e w' => e = .returned (.int .i64 (valA l a n : Nat)) ∧ w' = w := by
  go_enter Tryd.func49, Tryd.ntmps49
  go_wp2
  go_loop [7, 8] (fun v i => ∃ k : Nat, k ≤ n ∧ i = .int .i64 k ∧ v = .int .i64 (valA l a k : Nat)) (fun _ i => n - (intOf i).toNat)
  case atStart => exact ⟨0, Nat.zero_le _, rfl, rfl⟩
  case round =>
    obtain ⟨k, hk, rfl, rfl⟩ := hrel
    by_cases hlt : k < n
    · have hv := valA_lt l hl a k
      have hv2 : valA l a k < 256 := by
        have : 2 ^ k ≤ 2 ^ 8 := Nat.pow_le_pow_right (by omega) (by omega)
        omega
      have HS : Hid ((valA l a (k + 1) : Int) = 2 * (valA l a k : Int) + ((l[a + k]?.getD 0 : Nat) : Int)) := Lib.hid (by rw [valA]; omega)
      clear hv
      generalize valA l a k = V at *
      by_cases hin : a + k < l.length
      · have hck := hc (a + k) hin
        have hb : l[a + k]?.getD 0 < 2 := by rw [List.getElem?_eq_getElem hin]; exact hl _ (List.getElem_mem _)
        have HC := Lib.hid hc
        clear hc hl
        generalize l[a + k]?.getD 0 = b at *
        have hi : (a : Int) + (k : Int) < (l.length : Int) := by omega
        have hck2 : w.cell? ⟨g, 0 + (a + k), none⟩ = some (.int .i64 (b : Int)) := by rw [Nat.zero_add]; exact hck
        go_wp2
        go_round
        case rel => exact ⟨k + 1, by omega, by go_num, by rw [HS.out]⟩
        case measure => simp [intOf]; omega
      · have hb : l[a + k]?.getD 0 = 0 := by rw [List.getElem?_eq_none (by omega)]; rfl
        rw [hb] at HS
        have HC := Lib.hid hc
        have hi : ¬ (a : Int) + (k : Int) < (l.length : Int) := by omega
        clear hc hl hb
        go_wp2
        go_round
        case rel => exact ⟨k + 1, by omega, by go_num, by rw [HS.out]; simp⟩
        case measure => simp [intOf]; omega
    · have : k = n := by omega
      subst this
      clear hc hl
      go_wp2
      go_ret
      exact ⟨rfl, rfl⟩
theorem bN_lt (n x : Nat) : ∀ y ∈ bN n x, y < 2 := by
  induction n with
  | zero => intro y hy; cases hy
  | succ n ih => intro y hy; rcases List.mem_cons.1 hy with rfl | hy; omega; exact ih y hy
theorem bitsF_lt (l : List UInt8) : ∀ y ∈ bitsF l, y < 2 := by
  intro y hy
  obtain ⟨c, _, hc⟩ := List.mem_flatMap.1 hy
  exact bN_lt _ _ y hc
theorem ws6_lt (l : List UInt8) : ∀ y ∈ ws6 l, y < 2 := by
  intro y hy
  obtain ⟨c, _, hc⟩ := List.mem_flatMap.1 hy
  exact bN_lt _ _ y hc

set_option maxHeartbeats 400000 in
theorem plain_any (s : ByteArray) (w : World) (hs : s.size ≤ 1000000) :
    Calls Tryd.prog 46 #[.string s] w fun e w' => e = .returned (.string (S (pack (L s) mailL))) ∧ Below w.heap.size w w' := by
  obtain ⟨h1, h2⟩ := six_at (L s)
  have hbl := bitsF_length (L s)
  have hlt2 := bitsF_lt (L s)
  rw [L_length] at hbl
  have h64 := six_lt64 (L s)
  have hpk : Hid (pack (L s) mailL = (pkSix (L s)).map (bt mailL)) := Lib.hid rfl
  have hB := Lib.hid (fun W => bits_any s W hs)
  generalize bitsF (L s) = B at *
  generalize pkSix (L s) = X at *
  have H1 := Lib.hid h1
  have H2 := Lib.hid h2
  have H64 := Lib.hid h64
  have HL2 := Lib.hid hlt2
  have hBl : B.length ≤ 8000000 := by omega
  clear h1 h2 h64 hlt2 hbl
  go_enter Tryd.func46, Tryd.ntmps46
  go_wp2_with (go_at_call 65; refine (hB.out _).mono ?_; rintro e w1 ⟨vb, rfl, hob⟩)
  obtain ⟨ad, cp, rfl⟩ := hob.shape
  go_loopw [3, 5] (fun v i wr => ∃ j : Nat, j ≤ X.length ∧ i = .int .i64 ((6 * j : Nat) : Int) ∧ Own w1.heap.size v ((X.take j).map (bt mailL)) w1 wr) (fun _ i _ => B.length + 6 - (intOf i).toNat)
  case atStart => exact ⟨0, Nat.zero_le _, rfl, Own.nil (Below.refl _ _) (Nat.le_refl _)⟩
  case round =>
    obtain ⟨j, hj, rfl, hown⟩ := hrel
    by_cases hlt : j < X.length
    · have hin := (H2.out j).2 hlt
      obtain ⟨g, cap, hgv, hg, hcells⟩ := hob.cells (by omega)
      obtain ⟨rfl, rfl⟩ : ad = some ⟨g, 0, none⟩ ∧ cp = cap := by cases hgv; exact ⟨rfl, rfl⟩
      have hval := H1.out j hlt
      have hx := H64.out X[j] (List.getElem_mem _)
      have HE : Hid ((X.take (j + 1)).map (bt mailL) = (X.take j).map (bt mailL) ++ [bt mailL X[j]]) := Lib.hid (by
        rw [List.take_succ_eq_append_getElem hlt, List.map_append]; rfl)
      have hlen : ((X.take j).map (bt mailL)).length + 1 ≤ 140737488355328 := by
        rw [List.length_map, List.length_take]; omega
      have HV := Lib.hid (fun W (hc : ∀ i, i < B.length → W.cell? ⟨g, i, none⟩ = some (.int .i64 ((B[i]?.getD 0 : Nat) : Int))) => value_any g cp B (6 * j) 6 W HL2.out (by omega) (by omega) (by omega) hc)
      rw [hval] at HV
      have hcw : ∀ i, i < B.length → wr.cell? ⟨g, i, none⟩ = some (.int .i64 ((B[i]?.getD 0 : Nat) : Int)) := fun i hi => by
        rw [hown.below.cell (p := ⟨g, i, none⟩) hg]; exact hcells i hi
      have HW := Lib.hid hcw
      clear hcw hcells hval hgv
      generalize X[j] = x at *
      have hidx := get_bt mailB x (by rw [mailB_size]; exact hx)
      rw [mailB_L] at hidx
      generalize (X.take j).map (bt mailL) = o at *
      have HI : Hid (((mailB[x]'(by rw [mailB_size]; exact hx)).toNat : Int) = ((bt mailL x).toNat : Int)) := Lib.hid (by rw [hidx])
      clear hidx
      go_wp2_with (first | (go_at_call 49; refine (HV.out _ HW.out).mono ?_; rintro e w2 ⟨rfl, rfl⟩) | (at_builtin; go_loud (refine app1 rfl _ _ rfl _ (bt mailL x) hown HI.out rfl rfl hlen ?_; intro v3 w3 hown3)))
      go_roundw
      case rel => exact ⟨j + 1, by omega, by go_num, by rw [HE.out]; exact hown3⟩
      case measure => simp [intOf]; omega
    · have hnin : ¬ 6 * j < B.length := fun h => hlt ((H2.out j).1 h)
      have hj2 : (X.take j) = X := List.take_of_length_le (by omega)
      rw [hj2, ← hpk.out] at hown
      have hcv := hown.back
      clear hj2
      go_wp2
      go_ret
      exact ⟨rfl, hob.below.trans (hown.below.mono hob.below.size)⟩
end Go.Proofs.YtclegocofiigiabDoor
