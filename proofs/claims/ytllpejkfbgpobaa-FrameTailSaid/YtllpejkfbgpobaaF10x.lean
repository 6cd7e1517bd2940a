/- frame: whole, of rows that lie; a scan behind a row. -/
import Derived.Test.YtllpejkfbgpobaaF10t
import Derived.Test.YtllpejkfbgpobaaF10v
namespace Go.Proofs.Ytllpejkfbgpobaa
open Go.RowKit

set_option maxHeartbeats 4000000 in
set_option maxRecDepth 100000 in
theorem whole_lay (v3 v4 : Value) (G : List Fr) (n : Nat) (first : Int) (vb : Value) (bs : List ByteArray) (ve : Value) (w : World) (hn : n ≤ G.length) (hG : RowG first bs G) (hf0 : -9223372036854775808 ≤ first) (hn12 : n ≤ 10000000)
    (h3 : ∃ ao cap, v3 = .slice ao n cap) (h4 : ∃ ao cap, v4 = .slice ao n cap) (hl : n ≠ 0 → ∃ g h c d, v3 = .slice (some ⟨g, 0, none⟩) n c ∧ v4 = .slice (some ⟨h, 0, none⟩) n d ∧ Lay g (G.take n) h ((G.take n).map Fr.ends) w) (hb : Strs w vb bs) (he : NumsAt w ve (G.map Fr.ends)) :
    Calls Try.prog 17 #[v3, v4, .int .i64 first, vb, ve, .int .i64 (n : Int)] w fun e w' => e = .returned (.bool true) ∧ ∃ m, w' = w.drewN m := by
  have hFl : (G.take n).length = n := by simp; omega
  obtain ⟨ao3, c3, rfl⟩ := h3
  obtain ⟨ao4, c4, rfl⟩ := h4
  by_cases h0 : n = 0
  · subst h0
    clear hl hb he hG
    go_enter Try.func17, Try.ntmps17
    go_wp2
    refine wp_loop_rounds 1 ?_
    rw [rounds_succ]
    go_wp2
    go_ret
    exact ⟨rfl, 0, rfl⟩
  · have hF0 : G.take n ≠ [] := by intro e; rw [e] at hFl; simp at hFl; omega
    obtain ⟨g, h, c, d, e3, e4, lay⟩ := hl h0
    have hG0 : G.map Fr.ends ≠ [] := by intro e; have : G = [] := by simpa using e
                                        subst this; simp at hn; omega
    obtain ⟨ae, ce, rfl, hee⟩ := he
    obtain ⟨he', rfl, hel, hec⟩ := hee hG0
    obtain ⟨bb, bo, bc, rfl, hbc⟩ : ∃ b off cap, vb = .slice (some ⟨b, off, none⟩) bs.length cap ∧ ∀ i, i < bs.length → w.cell? ⟨b, off + i, none⟩ = some (.string (bs.getD i ByteArray.empty)) := by
      rcases hb with ⟨hbn, _⟩ | ⟨b, off, cap, rfl, _, _, hc⟩
      · have := hG.le; subst hbn; simp at this; subst this; simp at hn; omega
      · exact ⟨b, off, cap, rfl, hc⟩
    have hGle := hG.le
    cases e3
    cases e4
    rw [List.length_map]
    have HL := Lib.hid lay
    have HEC := Lib.hid hec
    have HBC := Lib.hid hbc
    have HG := Lib.hid hG
    clear hb lay hec hbc hG hee hF0 hG0
    go_enter Try.func17, Try.ntmps17
    go_wp2
    go_loopw [13, 14] (fun v13 v14 wr => ∃ k m : Nat, k ≤ n ∧ v14 = .int .i64 (k : Int) ∧ v13 = .int .i64 (endsAt G k : Nat) ∧ wr = w.drewN m) (fun _ i _ => n - (intOf i).toNat)
    case atStart => exact ⟨0, 0, Nat.zero_le _, rfl, rfl, rfl⟩
    case round =>
      obtain ⟨k, m, hk, rfl, rfl, rfl⟩ := hrel
      by_cases hd : k < n
      · obtain ⟨f, hf⟩ : ∃ f, G[k]? = some f := ⟨_, List.getElem?_eq_getElem (by omega)⟩
        have hft : (G.take n)[k]? = some f := by rw [List.getElem?_take, if_pos hd]; exact hf
        obtain ⟨q1, q2⟩ := HG.out.num k f hf
        obtain ⟨q3, q4, q5⟩ := rw_length G 0 HG.out.rw' k f hf
        have qn1 := q5.2.1
        have qn2 := q5.2.2.1
        have qb := q5.2.2.2
        have hends : f.ends = f.at' + (f.body.length + 18) := by unfold Fr.ends; omega
        have hat : endsAt G k = f.at' := by
          unfold endsAt
          by_cases hk0 : k = 0
          · subst hk0; rw [if_pos rfl, q3]; simp [laid]
          · rw [if_neg hk0]
            obtain ⟨p, hp⟩ : ∃ p, G[k - 1]? = some p := ⟨_, List.getElem?_eq_getElem (by omega)⟩
            have := (rw_length G 0 HG.out.rw' (k - 1) p hp).2.1
            rw [hp, q3]
            simp only [Option.map_some, Option.getD_some]
            rw [this, show k - 1 + 1 = k by omega]
        have hes := endsAt_succ hf
        have hsl : f.ends ≤ 4195304 := by
          have h1 := HG.out.short
          have h2 : (laid G).length = (laid (G.take (k + 1))).length + (laid (G.drop (k + 1))).length := by rw [← List.length_append, ← laid_append, List.take_append_drop]
          omega
        obtain ⟨_, y1, y2, y3⟩ := HL.out.fr k f hft
        have y4 := HL.out.nu k f.ends (by rw [List.getElem?_map, hft]; rfl)
        have y5 := HEC.out k f.ends (by rw [List.getElem?_map, hf]; rfl)
        have y6 := HBC.out k (by omega)
        obtain ⟨s, hs⟩ : ∃ s, s = bs.getD k ByteArray.empty := ⟨_, rfl⟩
        rw [← hs] at q2 y6
        have hfb : S f.body = s := by rw [q2]; rfl
        have hfl : f.body.length = s.size := by rw [q2]; rfl
        rw [hfb] at y3
        rw [hat]
        rw [hfl] at hends qb
        have hnum : (f.num : Int) = first + (k : Int) := q1
        rw [hnum] at y1
        have hs1 : first + (k : Int) ≤ 4294967295 := by omega
        have hs2 : 1 ≤ first + (k : Int) := by omega
        have HES := Lib.hid hes
        generalize f.at' = A at *
        generalize f.ends = E at *
        have hAE : (A : Int) + ((s.size : Int) + 18) = (E : Int) := by omega
        have hq1 : (s.toList == s.toList) = true := by simp
        have hq2 : (s.toList != s.toList) = false := by simp
        have hkG : (k : Int) < (G.length : Int) := by omega
        have hkb : (k : Int) < (bs.length : Int) := by omega
        have HSz : Hid (∀ X, Calls Try.prog 13 #[.int .i64 (s.size : Int)] X fun e X' => e = .returned (.int .i64 ((s.size : Int) + 18)) ∧ X' = X) := Lib.hid (fun X => (Size_nat s.size X qb).mono (by rintro e X' ⟨rfl, rfl⟩; exact ⟨rfl, rfl⟩))
        obtain ⟨X, hX⟩ : ∃ X, X = w.drewN m := ⟨_, rfl⟩
        have x1 : X.cell? ⟨g, k * 4 + 1, none⟩ = some (.int .i64 (first + (k : Int))) := by rw [hX]; exact y1
        have x2 : X.cell? ⟨g, k * 4 + 2, none⟩ = some (.int .i64 (A : Int)) := by rw [hX]; exact y2
        have x3 : X.cell? ⟨g, k * 4 + 3, none⟩ = some (.string s) := by rw [hX]; exact y3
        have x4 : X.cell? ⟨h, k, none⟩ = some (.int .i64 (E : Int)) := by rw [hX]; exact y4
        have x5 : X.cell? ⟨he', k, none⟩ = some (.int .i64 (E : Int)) := by rw [hX]; exact y5
        have x6 : X.cell? ⟨bb, bo + k, none⟩ = some (.string s) := by rw [hX]; exact y6
        rw [← hX]
        have HX := Lib.hid hX
        clear hX y1 y2 y3 y4 y5 y6
        clear q1 q2 q3 q4 q5 qn1 qn2 hends hat hes hf hft hfb hfl hnum hs
        go_wp2
        go_big_quiet (first | (go_at_call 13; with_reducible exact Calls.quiet_of_same (HSz.out _)))
        go_wp2
        go_roundw
        case rel => exact ⟨k + 1, m + (nq), by omega, by go_num, by rw [HES.out], by rw [HX.out]; simp⟩
        case measure => simp [intOf]; omega
      · obtain rfl : k = n := by omega
        go_wp2
        go_ret
        exact ⟨rfl, m, rfl⟩
/-- A frame at another place. -/
def Fr.by' (m : Nat) (f : Fr) : Fr := ⟨f.kind, f.num, f.at' + m, f.body⟩
theorem drop_shift (p t : List UInt8) (i : Nat) : (p ++ t).drop (p.length + i) = t.drop i := by rw [List.drop_append, List.drop_eq_nil_of_le (by omega)]; simp
theorem frAt_shift (p t : List UInt8) (i : Nat) : frAt (p ++ t) (p.length + i) = (frAt t i).by' p.length := by
  have hd := drop_shift p t i
  unfold frAt Fr.by'
  rw [← bt_drop, ← w4_drop, hd, bt_drop, w4_drop, Nat.add_comm p.length i]
theorem by_ends (m : Nat) (f : Fr) : (f.by' m).ends = m + f.ends := by unfold Fr.ends Fr.by'; dsimp only; omega
theorem scn_shift (p t : List UInt8) (m : Nat) : ∀ (i a : Nat), 0 < i → scn m (p ++ t) (p.length + i) a = (scn m t i a).map (Fr.by' p.length) := by
  induction m with
  | zero => intro i a _; rfl
  | succ m ih =>
    intro i a hi
    have hd := drop_shift p t i
    have hf := frAt_shift p t i
    have hw : w4 (p ++ t) (p.length + i + 2) = w4 t (i + 2) := congrArg Fr.num hf
    simp only [scn]
    rw [hd, hw, hf]
    by_cases hc : isF (t.drop i) ∧ w4 t (i + 2) = a + 1
    · rw [if_pos ⟨hc.1, fun _ => hc.2⟩, if_pos ⟨hc.1, fun _ => hc.2⟩, List.map_cons, by_ends]
      have he := (frAt_ends hc.1).1
      rw [ih _ _ (by omega)]
    · rw [if_neg (fun h => hc ⟨h.1, h.2 (by omega)⟩), if_neg (fun h => hc ⟨h.1, h.2 hi⟩)]
      rfl
/-- What a scan tells behind a row: just what one of that alone tells, if it begins with the next number. -/
theorem scan_behind (p t : List UInt8) (a : Nat) (hp : 0 < p.length) : scan (p ++ t) p.length a = if (∀ f, (scan t 0 0).head? = some f → f.num = a + 1) then (scan t 0 0).map (Fr.by' p.length) else [] := by
  have hd := drop_shift p t 0
  have hf := frAt_shift p t 0
  simp only [Nat.add_zero, List.drop_zero] at hd hf
  have hw : w4 (p ++ t) (p.length + 2) = w4 t 2 := congrArg Fr.num hf
  by_cases hF : isF t
  · have hs0 : scan t 0 0 = frAt t 0 :: scan t (frAt t 0).ends (w4 t 2) := scan_on (i := 0) hF (fun h => absurd h (Nat.lt_irrefl 0))
    have he := frAt_ends (l := t) (i := 0) hF
    by_cases hn : w4 t 2 = a + 1
    · rw [if_pos (fun f h => by rw [hs0] at h; simp at h; subst h; exact hn)]
      rw [scan_on (by rw [hd]; exact hF) (fun _ => by rw [hw]; exact hn), hf, hw, by_ends, hs0, List.map_cons]
      congr 1
      unfold scan
      rw [scn_shift p t _ _ _ (by omega)]
      rw [scn_more ((p ++ t).length + 1) (t.length + 1) t _ _ (by rw [List.length_append]; omega) (by omega)]
    · rw [if_neg (fun h => hn (by have := h (frAt t 0) (by rw [hs0]; rfl); exact this))]
      exact scan_off (fun h => hn (by have := h.2 hp; rw [hw] at this; exact this))
  · have hs0 : scan t 0 0 = [] := scan_off (i := 0) (fun h => hF h.1)
    rw [hs0]
    simp only [List.head?_nil, List.map_nil, ite_self]
    exact scan_off (fun h => hF (by rw [hd] at h; exact h.1))
theorem lastNum_last : ∀ (G : List Fr) (a : Nat), G ≠ [] → ∃ f, G[G.length - 1]? = some f ∧ lastNum a G = f.num := by
  intro G
  induction G with
  | nil => intro a h; exact absurd rfl h
  | cons g G ih =>
    intro a _
    by_cases hG : G = []
    · subst hG; exact ⟨g, rfl, rfl⟩
    · obtain ⟨f, h1, h2⟩ := ih g.num hG
      have hl : 0 < G.length := List.length_pos_iff.2 hG
      refine ⟨f, ?_, h2⟩
      rw [show (g :: G).length - 1 = (G.length - 1) + 1 by simp; omega, List.getElem?_cons_succ]
      exact h1
/-- All of a row with something behind it. -/
theorem scan_tail {first : Int} {bs : List ByteArray} {G : List Fr} (hG : RowG first bs G) (t : List UInt8) :
    ∃ M, scan (laid G ++ t) 0 0 = G ++ M.map (Fr.by' (laid G).length) ∧
      ((M = scan t 0 0 ∧ (G ≠ [] → ∀ f, (scan t 0 0).head? = some f → (f.num : Int) = first + G.length)) ∨ (M = [] ∧ G ≠ [] ∧ ∃ f, (scan t 0 0).head? = some f ∧ ¬ (f.num : Int) = first + G.length)) := by
  have h0 := scan_rw G [] t 0 hG.rw' (fun h => absurd h (Nat.lt_irrefl 0))
  simp only [List.nil_append, List.length_nil] at h0
  by_cases hn : G = []
  · subst hn
    refine ⟨scan t 0 0, ?_, .inl ⟨rfl, fun h => absurd rfl h⟩⟩
    have : (fun f : Fr => Fr.by' 0 f) = id := by funext f; rfl
    show scan t 0 0 = (scan t 0 0).map (Fr.by' 0)
    rw [show Fr.by' 0 = id from this, List.map_id]
  · obtain ⟨f, h1, h2⟩ := lastNum_last G 0 hn
    have hl : 0 < G.length := List.length_pos_iff.2 hn
    have hf := (hG.num _ f h1).1
    have hp : 0 < (laid G).length := by
      obtain ⟨_, q2, q3⟩ := rw_length G 0 hG.rw' _ f h1
      rw [show G.length - 1 + 1 = G.length by omega, List.take_of_length_le (Nat.le_refl _)] at q2
      unfold Fr.ends at q2
      omega
    rw [h0, h2, scan_behind (laid G) t f.num hp]
    by_cases hc : ∀ g, (scan t 0 0).head? = some g → g.num = f.num + 1
    · rw [if_pos hc]
      exact ⟨_, rfl, .inl ⟨rfl, fun _ g hg => by have := hc g hg; omega⟩⟩
    · rw [if_neg hc]
      refine ⟨[], by simp, .inr ⟨rfl, hn, ?_⟩⟩
      cases hs : scan t 0 0 with
      | nil => rw [hs] at hc; exact absurd (fun g hg => by simp at hg) hc
      | cons g M =>
        refine ⟨g, rfl, fun e => hc (fun q hq => ?_)⟩
        rw [hs] at hq
        simp at hq
        subst hq
        omega
end Go.Proofs.Ytllpejkfbgpobaa
