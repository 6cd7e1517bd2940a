/- The statement FrameCut: the walk. -/
import Derived.Test.YtllpejkfbgpobaaF10t
namespace Go.Proofs.Ytllpejkfbgpobaa
open Go.RowKit

set_option maxHeartbeats 4000000 in
theorem FrameCut_walk (first : Int) (vb : Value) (bs : List ByteArray) (vk : Value) (ks : List Int) (cut : Int) (w : World) (hf0 : -9223372036854775808 ≤ first) (hf1 : first ≤ 9223372036854775807)
    (hb : Strs w vb bs) (hz : ∀ i, i < bs.length → (bs.getD i ByteArray.empty).size ≤ 140737488355328) (hk : Ints w vk ks) (hkb : ∀ n ∈ ks, -9223372036854775808 ≤ n ∧ n ≤ 9223372036854775807) (_hc0 : -9223372036854775808 ≤ cut) (_hc1 : cut ≤ 9223372036854775807) :
    Calls Try.prog 6 #[.int .i64 first, vb, vk, .int .i64 cut] w fun e w' => e = .returned (.bool true) ∧ Below w.heap.size w w' := by
  have HR := Lib.hid (row_any first vb bs vk ks w hf0 hf1 hb hz hk hkb)
  have HBs := Lib.hid (fun w' (h : Below w.heap.size w w') => hb.on h)
  clear hb hz hk hkb
  go_enter Try.func6, Try.ntmps6
  go_wp2_with fail
  refine HR.out.mono ?_
  rintro e w1 ⟨s, ve, ok, rfl, hb1, hok⟩
  have HB1 := Lib.hid hb1
  clear hb1 HR
  cases ok with
  | false =>
    clear hok
    go_wp2_with fail
    refine (known_any _).mono ?_
    rintro e w2 ⟨rfl, hb2⟩
    go_wp2_with fail
    go_ret
    exact ⟨rfl, HB1.out.trans (hb2.mono HB1.out.size)⟩
  | true =>
    obtain ⟨G, hG, hLs, h2⟩ := hok rfl
    have hnum := h2.nums
    have HG := Lib.hid hG
    have HLS := Lib.hid hLs
    have hsz : s.size ≤ 4195304 := by have := hG.short; rw [← hLs, L_length] at this; exact this
    have HN := Lib.hid hnum
    obtain ⟨ae, ce, rfl, hne⟩ := hnum
    have hGl : G.length ≤ 4195304 := by
      have := scan_len (laid G)
      have e := scan_cut hG.rw' (c := (laid G).length) (n := G.length) (by rw [List.take_of_length_le (Nat.le_refl _)]; exact Nat.le_refl _) (fun f hf => by rw [List.getElem?_eq_none (Nat.le_refl _)] at hf; cases hf)
      rw [List.take_of_length_le (Nat.le_refl _), List.take_of_length_le (Nat.le_refl _)] at e
      rw [e] at this
      have := hG.short
      omega
    rw [List.length_map] at *
    have HNE := Lib.hid hne
    clear hok hG hLs h2 hne
    -- the cut
    obtain ⟨c, hc, hcut⟩ : ∃ c : Nat, c ≤ s.size ∧ ((cut < 0 ∨ (s.size : Int) < cut) ∧ c = s.size ∨ ¬ cut < 0 ∧ ¬ (s.size : Int) < cut ∧ cut = (c : Int)) := by
      by_cases h1 : cut < 0
      · exact ⟨s.size, Nat.le_refl _, .inl ⟨.inl h1, rfl⟩⟩
      by_cases h2 : (s.size : Int) < cut
      · exact ⟨s.size, Nat.le_refl _, .inl ⟨.inr h2, rfl⟩⟩
      · exact ⟨cut.toNat, by omega, .inr ⟨h1, h2, by omega⟩⟩
    rcases hcut with ⟨h1 | h1, rfl⟩ | ⟨h1, h2, rfl⟩
    · go_wp2_with fail
      go_loopw [12] (fun v12 wr => ∃ k : Nat, k ≤ G.length ∧ v12 = .int .i64 (k : Int) ∧ (laid (G.take k)).length ≤ s.size ∧ w1 = wr) (fun v _ => G.length - (intOf v).toNat)
      case atStart => exact ⟨0, Nat.zero_le _, rfl, by simp [laid], rfl⟩
      case round =>
        obtain ⟨k, hk, rfl, hkc, rfl⟩ := hrel
        by_cases hd : k < G.length
        · obtain ⟨f, hf⟩ : ∃ f, G[k]? = some f := ⟨_, List.getElem?_eq_getElem hd⟩
          obtain ⟨h, hae, hl, hcc⟩ := HNE.out (by intro e; have e2 : G = [] := by simpa using e
                                                  rw [e2] at hd; simp at hd)
          subst hae
          have hcell := hcc k f.ends (by rw [List.getElem?_map, hf]; rfl)
          have hE := (rw_length G 0 HG.out.rw' k f hf).2.1
          rw [Nat.zero_add] at hE
          by_cases hle : f.ends ≤ s.size
          · have HLE : Hid ((laid (G.take (k + 1))).length ≤ s.size) := Lib.hid (by rw [← hE]; exact hle)
            have hle2 : (f.ends : Int) ≤ (s.size : Nat) := by omega
            clear hE hkc hf hcc
            generalize f.ends = E at *
            go_wp2_with fail
            go_roundw
            case rel => exact ⟨k + 1, by omega, by go_num, HLE.out, trivial⟩
            case measure => simp [intOf]; omega
          · have hle2 : ¬ (f.ends : Int) ≤ (s.size : Nat) := by omega
            have HGT : Hid (∀ g, G[k]? = some g → s.size < g.ends) := Lib.hid (fun g hg => by rw [hf] at hg; cases hg; omega)
            have HKC := Lib.hid hkc
            clear hE hkc hf hcc
            generalize f.ends = E at *
            have HSC : Hid (scan (L s) 0 0 = G.take k) := Lib.hid (by
              have q := scan_cut (c := s.size) HG.out.rw' HKC.out HGT.out
              rw [List.take_of_length_le (by rw [← HLS.out, L_length]; exact Nat.le_refl _)] at q
              rw [HLS.out]; exact q)
            have HT := Lib.hid (told_any s w1 (by omega))
            rw [HSC.out] at HT
            go_wp2_with fail
            refine HT.out.mono ?_
            rintro e w5 ⟨v3, v4, B, rfl, ht, hb5, hB⟩
            have HTW := Lib.hid ht
            have HB5 := Lib.hid hb5
            have HBB := Lib.hid (HB1.out.trans (hb5.mono HB1.out.size))
            clear ht hb5 HT
            go_wp2_with fail
            refine (whole_any v3 v4 G k first vb bs _ w5 hk HG.out hf0 (by omega) HTW.out (HBs.out _ HBB.out) (HN.out.on HB5.out)).mono ?_
            rintro e w6 ⟨rfl, m, rfl⟩
            clear HTW
            go_wp2_with fail
            refine (known_any _).mono ?_
            rintro e w7 ⟨rfl, hb7⟩
            go_wp2_with fail
            go_ret
            exact ⟨rfl, HBB.out.trans ((below_drewN (Below.refl _ _) m).trans hb7 |>.mono HBB.out.size)⟩
        · obtain rfl : k = G.length := by omega
          have HKC := Lib.hid hkc
          clear hkc
          have HSC : Hid (scan (L s) 0 0 = G.take G.length) := Lib.hid (by
            have q := scan_cut (c := s.size) HG.out.rw' HKC.out (fun g hg => by rw [List.getElem?_eq_none (Nat.le_refl _)] at hg; cases hg)
            rw [List.take_of_length_le (by rw [← HLS.out, L_length]; exact Nat.le_refl _)] at q
            rw [HLS.out]; exact q)
          have HT := Lib.hid (told_any s w1 (by omega))
          rw [HSC.out] at HT
          go_wp2_with fail
          refine HT.out.mono ?_
          rintro e w5 ⟨v3, v4, B, rfl, ht, hb5, hB⟩
          have HTW := Lib.hid ht
          have HB5 := Lib.hid hb5
          have HBB := Lib.hid (HB1.out.trans (hb5.mono HB1.out.size))
          clear ht hb5 HT
          go_wp2_with fail
          refine (whole_any v3 v4 G G.length first vb bs _ w5 hk HG.out hf0 (by omega) HTW.out (HBs.out _ HBB.out) (HN.out.on HB5.out)).mono ?_
          rintro e w6 ⟨rfl, m, rfl⟩
          clear HTW
          go_wp2_with fail
          refine (known_any _).mono ?_
          rintro e w7 ⟨rfl, hb7⟩
          go_wp2_with fail
          go_ret
          exact ⟨rfl, HBB.out.trans ((below_drewN (Below.refl _ _) m).trans hb7 |>.mono HBB.out.size)⟩
    · go_wp2_with fail
      go_loopw [12] (fun v12 wr => ∃ k : Nat, k ≤ G.length ∧ v12 = .int .i64 (k : Int) ∧ (laid (G.take k)).length ≤ s.size ∧ w1 = wr) (fun v _ => G.length - (intOf v).toNat)
      case atStart => exact ⟨0, Nat.zero_le _, rfl, by simp [laid], rfl⟩
      case round =>
        obtain ⟨k, hk, rfl, hkc, rfl⟩ := hrel
        by_cases hd : k < G.length
        · obtain ⟨f, hf⟩ : ∃ f, G[k]? = some f := ⟨_, List.getElem?_eq_getElem hd⟩
          obtain ⟨h, hae, hl, hcc⟩ := HNE.out (by intro e; have e2 : G = [] := by simpa using e
                                                  rw [e2] at hd; simp at hd)
          subst hae
          have hcell := hcc k f.ends (by rw [List.getElem?_map, hf]; rfl)
          have hE := (rw_length G 0 HG.out.rw' k f hf).2.1
          rw [Nat.zero_add] at hE
          by_cases hle : f.ends ≤ s.size
          · have HLE : Hid ((laid (G.take (k + 1))).length ≤ s.size) := Lib.hid (by rw [← hE]; exact hle)
            have hle2 : (f.ends : Int) ≤ (s.size : Nat) := by omega
            clear hE hkc hf hcc
            generalize f.ends = E at *
            go_wp2_with fail
            go_roundw
            case rel => exact ⟨k + 1, by omega, by go_num, HLE.out, trivial⟩
            case measure => simp [intOf]; omega
          · have hle2 : ¬ (f.ends : Int) ≤ (s.size : Nat) := by omega
            have HGT : Hid (∀ g, G[k]? = some g → s.size < g.ends) := Lib.hid (fun g hg => by rw [hf] at hg; cases hg; omega)
            have HKC := Lib.hid hkc
            clear hE hkc hf hcc
            generalize f.ends = E at *
            have HSC : Hid (scan (L s) 0 0 = G.take k) := Lib.hid (by
              have q := scan_cut (c := s.size) HG.out.rw' HKC.out HGT.out
              rw [List.take_of_length_le (by rw [← HLS.out, L_length]; exact Nat.le_refl _)] at q
              rw [HLS.out]; exact q)
            have HT := Lib.hid (told_any s w1 (by omega))
            rw [HSC.out] at HT
            go_wp2_with fail
            refine HT.out.mono ?_
            rintro e w5 ⟨v3, v4, B, rfl, ht, hb5, hB⟩
            have HTW := Lib.hid ht
            have HB5 := Lib.hid hb5
            have HBB := Lib.hid (HB1.out.trans (hb5.mono HB1.out.size))
            clear ht hb5 HT
            go_wp2_with fail
            refine (whole_any v3 v4 G k first vb bs _ w5 hk HG.out hf0 (by omega) HTW.out (HBs.out _ HBB.out) (HN.out.on HB5.out)).mono ?_
            rintro e w6 ⟨rfl, m, rfl⟩
            clear HTW
            go_wp2_with fail
            refine (known_any _).mono ?_
            rintro e w7 ⟨rfl, hb7⟩
            go_wp2_with fail
            go_ret
            exact ⟨rfl, HBB.out.trans ((below_drewN (Below.refl _ _) m).trans hb7 |>.mono HBB.out.size)⟩
        · obtain rfl : k = G.length := by omega
          have HKC := Lib.hid hkc
          clear hkc
          have HSC : Hid (scan (L s) 0 0 = G.take G.length) := Lib.hid (by
            have q := scan_cut (c := s.size) HG.out.rw' HKC.out (fun g hg => by rw [List.getElem?_eq_none (Nat.le_refl _)] at hg; cases hg)
            rw [List.take_of_length_le (by rw [← HLS.out, L_length]; exact Nat.le_refl _)] at q
            rw [HLS.out]; exact q)
          have HT := Lib.hid (told_any s w1 (by omega))
          rw [HSC.out] at HT
          go_wp2_with fail
          refine HT.out.mono ?_
          rintro e w5 ⟨v3, v4, B, rfl, ht, hb5, hB⟩
          have HTW := Lib.hid ht
          have HB5 := Lib.hid hb5
          have HBB := Lib.hid (HB1.out.trans (hb5.mono HB1.out.size))
          clear ht hb5 HT
          go_wp2_with fail
          refine (whole_any v3 v4 G G.length first vb bs _ w5 hk HG.out hf0 (by omega) HTW.out (HBs.out _ HBB.out) (HN.out.on HB5.out)).mono ?_
          rintro e w6 ⟨rfl, m, rfl⟩
          clear HTW
          go_wp2_with fail
          refine (known_any _).mono ?_
          rintro e w7 ⟨rfl, hb7⟩
          go_wp2_with fail
          go_ret
          exact ⟨rfl, HBB.out.trans ((below_drewN (Below.refl _ _) m).trans hb7 |>.mono HBB.out.size)⟩
    · go_wp2_with fail
      go_loopw [12] (fun v12 wr => ∃ k : Nat, k ≤ G.length ∧ v12 = .int .i64 (k : Int) ∧ (laid (G.take k)).length ≤ c ∧ w1 = wr) (fun v _ => G.length - (intOf v).toNat)
      case atStart => exact ⟨0, Nat.zero_le _, rfl, by simp [laid], rfl⟩
      case round =>
        obtain ⟨k, hk, rfl, hkc, rfl⟩ := hrel
        by_cases hd : k < G.length
        · obtain ⟨f, hf⟩ : ∃ f, G[k]? = some f := ⟨_, List.getElem?_eq_getElem hd⟩
          obtain ⟨h, hae, hl, hcc⟩ := HNE.out (by intro e; have e2 : G = [] := by simpa using e
                                                  rw [e2] at hd; simp at hd)
          subst hae
          have hcell := hcc k f.ends (by rw [List.getElem?_map, hf]; rfl)
          have hE := (rw_length G 0 HG.out.rw' k f hf).2.1
          rw [Nat.zero_add] at hE
          by_cases hle : f.ends ≤ c
          · have HLE : Hid ((laid (G.take (k + 1))).length ≤ c) := Lib.hid (by rw [← hE]; exact hle)
            have hle2 : (f.ends : Int) ≤ (c : Nat) := by omega
            clear hE hkc hf hcc
            generalize f.ends = E at *
            go_wp2_with fail
            go_roundw
            case rel => exact ⟨k + 1, by omega, by go_num, HLE.out, trivial⟩
            case measure => simp [intOf]; omega
          · have hle2 : ¬ (f.ends : Int) ≤ (c : Nat) := by omega
            have HGT : Hid (∀ g, G[k]? = some g → c < g.ends) := Lib.hid (fun g hg => by rw [hf] at hg; cases hg; omega)
            have HKC := Lib.hid hkc
            clear hE hkc hf hcc
            generalize f.ends = E at *
            have HSC : Hid (scan (L (s.extract 0 c)) 0 0 = G.take k) := Lib.hid (by rw [L_upto, HLS.out]; exact scan_cut (c := c) HG.out.rw' HKC.out HGT.out)
            have hez : (s.extract 0 c).size = c := by rw [size_extract' _ _ _ hc]; rfl
            have HT := Lib.hid (told_any (s.extract 0 c) w1 (by omega))
            rw [HSC.out] at HT
            clear hez
            go_wp2_with fail
            refine HT.out.mono ?_
            rintro e w5 ⟨v3, v4, B, rfl, ht, hb5, hB⟩
            have HTW := Lib.hid ht
            have HB5 := Lib.hid hb5
            have HBB := Lib.hid (HB1.out.trans (hb5.mono HB1.out.size))
            clear ht hb5 HT
            go_wp2_with fail
            refine (whole_any v3 v4 G k first vb bs _ w5 hk HG.out hf0 (by omega) HTW.out (HBs.out _ HBB.out) (HN.out.on HB5.out)).mono ?_
            rintro e w6 ⟨rfl, m, rfl⟩
            clear HTW
            go_wp2_with fail
            refine (known_any _).mono ?_
            rintro e w7 ⟨rfl, hb7⟩
            go_wp2_with fail
            go_ret
            exact ⟨rfl, HBB.out.trans ((below_drewN (Below.refl _ _) m).trans hb7 |>.mono HBB.out.size)⟩
        · obtain rfl : k = G.length := by omega
          have HKC := Lib.hid hkc
          clear hkc
          have HSC : Hid (scan (L (s.extract 0 c)) 0 0 = G.take G.length) := Lib.hid (by rw [L_upto, HLS.out]; exact scan_cut (c := c) HG.out.rw' HKC.out (fun g hg => by rw [List.getElem?_eq_none (Nat.le_refl _)] at hg; cases hg))
          have hez : (s.extract 0 c).size = c := by rw [size_extract' _ _ _ hc]; rfl
          have HT := Lib.hid (told_any (s.extract 0 c) w1 (by omega))
          rw [HSC.out] at HT
          clear hez
          go_wp2_with fail
          refine HT.out.mono ?_
          rintro e w5 ⟨v3, v4, B, rfl, ht, hb5, hB⟩
          have HTW := Lib.hid ht
          have HB5 := Lib.hid hb5
          have HBB := Lib.hid (HB1.out.trans (hb5.mono HB1.out.size))
          clear ht hb5 HT
          go_wp2_with fail
          refine (whole_any v3 v4 G G.length first vb bs _ w5 hk HG.out hf0 (by omega) HTW.out (HBs.out _ HBB.out) (HN.out.on HB5.out)).mono ?_
          rintro e w6 ⟨rfl, m, rfl⟩
          clear HTW
          go_wp2_with fail
          refine (known_any _).mono ?_
          rintro e w7 ⟨rfl, hb7⟩
          go_wp2_with fail
          go_ret
          exact ⟨rfl, HBB.out.trans ((below_drewN (Below.refl _ _) m).trans hb7 |>.mono HBB.out.size)⟩
end Go.Proofs.Ytllpejkfbgpobaa
