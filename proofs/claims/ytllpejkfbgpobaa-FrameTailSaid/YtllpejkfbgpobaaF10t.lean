/- frame: whole. -/
import Derived.Test.YtllpejkfbgpobaaF10s
import Derived.BigQuiet
namespace Go.Proofs.Ytllpejkfbgpobaa
open Go.RowKit

/-- A row of numbers that lies somewhere. -/
def NumsAt (w : World) (v : Value) (N : List Nat) : Prop := ∃ ao cap, v = .slice ao N.length cap ∧ (N ≠ [] → ∃ h, ao = some ⟨h, 0, none⟩ ∧ h < w.heap.size ∧ ∀ (j n : Nat), N[j]? = some n → w.cell? ⟨h, j, none⟩ = some (.int .i64 (n : Int)))
theorem NumsAt.on {w w' : World} {v : Value} {N : List Nat} (h : NumsAt w v N) (hb : Below w.heap.size w w') : NumsAt w' v N := by
  obtain ⟨ao, cap, h1, h2⟩ := h
  refine ⟨ao, cap, h1, fun hn => ?_⟩
  obtain ⟨h, h3, h4, h5⟩ := h2 hn
  exact ⟨h, h3, Nat.lt_of_lt_of_le h4 hb.size, fun j n hj => by rw [hb.cell (p := ⟨h, j, none⟩) h4]; exact h5 j n hj⟩
theorem Two.nums {B : Nat} {v3 v4 : Value} {F : List Fr} {N : List Nat} {w : World} (h : Two B v3 F v4 N w) : NumsAt w v4 N := by
  rcases h.b.2 with ⟨rfl, h0⟩ | ⟨g2, cap2, cur2, rfl, hg2⟩
  · exact ⟨none, 0, by rw [h0], fun hn => absurd (List.eq_nil_of_length_eq_zero h0) hn⟩
  · refine ⟨_, cap2, rfl, fun _ => ⟨g2, rfl, (h.b.lt g2 rfl).2, fun j n hn => ?_⟩⟩
    have c := h.b.cells (g := g2) rfl
    rw [← add_off]
    exact c _ _ (by simp [inC, hn])
set_option maxHeartbeats 4000000 in
set_option maxRecDepth 100000 in
theorem whole_any {B : Nat} (v3 v4 : Value) (G : List Fr) (n : Nat) (first : Int) (vb : Value) (bs : List ByteArray) (ve : Value) (w : World) (hn : n ≤ G.length) (hG : RowG first bs G) (hf0 : -9223372036854775808 ≤ first) (hn12 : n ≤ 10000000)
    (h2 : Two B v3 (G.take n) v4 ((G.take n).map Fr.ends) w) (hb : Strs w vb bs) (he : NumsAt w ve (G.map Fr.ends)) :
    Calls Try.prog 17 #[v3, v4, .int .i64 first, vb, ve, .int .i64 (n : Int)] w fun e w' => e = .returned (.bool true) ∧ ∃ m, w' = w.drewN m := by
  have hFl : (G.take n).length = n := by simp; omega
  obtain ⟨ao3, c3, rfl⟩ := h2.shape3
  obtain ⟨ao4, c4, rfl⟩ := h2.shape4
  rw [List.length_map] at h2 ⊢
  rw [hFl] at h2 ⊢
  by_cases h0 : n = 0
  · subst h0
    clear h2 hb he hG
    go_enter Try.func17, Try.ntmps17
    go_wp2
    refine wp_loop_rounds 1 ?_
    rw [rounds_succ]
    go_wp2
    go_ret
    exact ⟨rfl, 0, rfl⟩
  · have hF0 : G.take n ≠ [] := by intro e; rw [e] at hFl; simp at hFl; omega
    obtain ⟨g, h, c, d, e3, e4, lay⟩ := h2.lay hF0 (by simpa using hF0)
    have hG0 : G.map Fr.ends ≠ [] := by intro e; have : G = [] := by simpa using e
                                        subst this; simp at hn; omega
    obtain ⟨ae, ce, rfl, hee⟩ := he
    obtain ⟨he', rfl, hel, hec⟩ := hee hG0
    obtain ⟨bb, bo, bc, rfl, hbc⟩ : ∃ b off cap, vb = .slice (some ⟨b, off, none⟩) bs.length cap ∧ ∀ i, i < bs.length → w.cell? ⟨b, off + i, none⟩ = some (.string (bs.getD i ByteArray.empty)) := by
      rcases hb with ⟨hbn, _⟩ | ⟨b, off, cap, rfl, _, _, hc⟩
      · have := hG.le; subst hbn; simp at this; subst this; simp at hn; omega
      · exact ⟨b, off, cap, rfl, hc⟩
    have hGle := hG.le
    rw [hFl] at e3
    rw [List.length_map, hFl] at e4
    cases e3
    cases e4
    rw [List.length_map]
    have HL := Lib.hid lay
    have HEC := Lib.hid hec
    have HBC := Lib.hid hbc
    have HG := Lib.hid hG
    clear h2 hb lay hec hbc hG hee hF0 hG0
    go_enter Try.func17, Try.ntmps17
    go_wp2
    go_loopw [13, 14] (fun v13 v14 wr => ∃ k m : Nat, k ≤ n ∧ v14 = .int .i64 (k : Int) ∧ v13 = .int .i64 (endsAt G k : Nat) ∧ wr = w.drewN m) (fun _ i _ => n - (intOf i).toNat)
    case atStart => exact ⟨0, 0, Nat.zero_le _, rfl, rfl, rfl⟩
    case round =>
      obtain ⟨k, m, hk, rfl, rfl, rfl⟩ := hrel
      by_cases hd : k < n
      · obtain ⟨f, hf⟩ : ∃ f, G[k]? = some f := ⟨_, List.getElem?_eq_getElem (by omega)⟩
        have hft : (G.take n)[k]? = some f := by rw [List.getElem?_take, if_pos hd]; exact hf
        obtain ⟨q1, q2⟩ := HG.out.num k f hf
        obtain ⟨q3, q4, q5⟩ := rw_length G 0 HG.out.rw' k f hf
        have qn1 := q5.2.1
        have qn2 := q5.2.2.1
        have qb := q5.2.2.2
        have hends : f.ends = f.at' + (f.body.length + 18) := by unfold Fr.ends; omega
        have hat : endsAt G k = f.at' := by
          unfold endsAt
          by_cases hk0 : k = 0
          · subst hk0; rw [if_pos rfl, q3]; simp [laid]
          · rw [if_neg hk0]
            obtain ⟨p, hp⟩ : ∃ p, G[k - 1]? = some p := ⟨_, List.getElem?_eq_getElem (by omega)⟩
            have := (rw_length G 0 HG.out.rw' (k - 1) p hp).2.1
            rw [hp, q3]
            simp only [Option.map_some, Option.getD_some]
            rw [this, show k - 1 + 1 = k by omega]
        have hes := endsAt_succ hf
        have hsl : f.ends ≤ 4195304 := by
          have h1 := HG.out.short
          have h2 : (laid G).length = (laid (G.take (k + 1))).length + (laid (G.drop (k + 1))).length := by rw [← List.length_append, ← laid_append, List.take_append_drop]
          omega
        obtain ⟨_, y1, y2, y3⟩ := HL.out.fr k f hft
        have y4 := HL.out.nu k f.ends (by rw [List.getElem?_map, hft]; rfl)
        have y5 := HEC.out k f.ends (by rw [List.getElem?_map, hf]; rfl)
        have y6 := HBC.out k (by omega)
        obtain ⟨s, hs⟩ : ∃ s, s = bs.getD k ByteArray.empty := ⟨_, rfl⟩
        rw [← hs] at q2 y6
        have hfb : S f.body = s := by rw [q2]; rfl
        have hfl : f.body.length = s.size := by rw [q2]; rfl
        rw [hfb] at y3
        rw [hat]
        rw [hfl] at hends qb
        have hnum : (f.num : Int) = first + (k : Int) := q1
        rw [hnum] at y1
        have hs1 : first + (k : Int) ≤ 4294967295 := by omega
        have hs2 : 1 ≤ first + (k : Int) := by omega
        have HES := Lib.hid hes
        generalize f.at' = A at *
        generalize f.ends = E at *
        have hAE : (A : Int) + ((s.size : Int) + 18) = (E : Int) := by omega
        have hq1 : (s.toList == s.toList) = true := by simp
        have hq2 : (s.toList != s.toList) = false := by simp
        have hkG : (k : Int) < (G.length : Int) := by omega
        have hkb : (k : Int) < (bs.length : Int) := by omega
        have HSz : Hid (∀ X, Calls Try.prog 13 #[.int .i64 (s.size : Int)] X fun e X' => e = .returned (.int .i64 ((s.size : Int) + 18)) ∧ X' = X) := Lib.hid (fun X => (Size_nat s.size X qb).mono (by rintro e X' ⟨rfl, rfl⟩; exact ⟨rfl, rfl⟩))
        obtain ⟨X, hX⟩ : ∃ X, X = w.drewN m := ⟨_, rfl⟩
        have x1 : X.cell? ⟨g, k * 4 + 1, none⟩ = some (.int .i64 (first + (k : Int))) := by rw [hX]; exact y1
        have x2 : X.cell? ⟨g, k * 4 + 2, none⟩ = some (.int .i64 (A : Int)) := by rw [hX]; exact y2
        have x3 : X.cell? ⟨g, k * 4 + 3, none⟩ = some (.string s) := by rw [hX]; exact y3
        have x4 : X.cell? ⟨h, k, none⟩ = some (.int .i64 (E : Int)) := by rw [hX]; exact y4
        have x5 : X.cell? ⟨he', k, none⟩ = some (.int .i64 (E : Int)) := by rw [hX]; exact y5
        have x6 : X.cell? ⟨bb, bo + k, none⟩ = some (.string s) := by rw [hX]; exact y6
        rw [← hX]
        have HX := Lib.hid hX
        clear hX y1 y2 y3 y4 y5 y6
        clear q1 q2 q3 q4 q5 qn1 qn2 hends hat hes hf hft hfb hfl hnum hs
        go_wp2
        go_big_quiet (first | (go_at_call 13; with_reducible exact Calls.quiet_of_same (HSz.out _)))
        go_wp2
        go_roundw
        case rel => exact ⟨k + 1, m + (nq), by omega, by go_num, by rw [HES.out], by rw [HX.out]; simp⟩
        case measure => simp [intOf]; omega
      · obtain rfl : k = n := by omega
        go_wp2
        go_ret
        exact ⟨rfl, m, rfl⟩
end Go.Proofs.Ytllpejkfbgpobaa
