/- The statement FrameTail: the walk. -/
import Derived.Test.YtllpejkfbgpobaaF10x
namespace Go.Proofs.Ytllpejkfbgpobaa
open Go.RowKit

theorem Two.lay' {B : Nat} {v3 v4 : Value} {F : List Fr} {N : List Nat} {w : World} (h : Two B v3 F v4 N w) (hF : F ≠ []) (hN : N ≠ []) :
    ∃ g h c d, v3 = .slice (some ⟨g, 0, none⟩) F.length c ∧ v4 = .slice (some ⟨h, 0, none⟩) N.length d ∧ Lay g F h N w ∧ F.length ≤ c ∧ N.length ≤ d := by
  obtain ⟨g, h', c, d, e1, e2, l⟩ := h.lay hF hN
  refine ⟨g, h', c, d, e1, e2, l, ?_, ?_⟩
  · rcases h.a.2 with ⟨rfl, _⟩ | ⟨g2, cap, cur, rfl, _, _, q, _⟩
    · cases e1
    · cases e1; exact q
  · rcases h.b.2 with ⟨rfl, _⟩ | ⟨g2, cap, cur, rfl, _, _, q, _⟩
    · cases e2
    · cases e2; exact q
set_option maxHeartbeats 4000000 in
set_option maxRecDepth 100000 in
theorem FrameTail_walk (first : Int) (vb : Value) (bs : List ByteArray) (vk : Value) (ks : List Int) (t : ByteArray) (w : World) (hf0 : -9223372036854775808 ≤ first) (hf1 : first ≤ 9223372036854775807)
    (hb : Strs w vb bs) (hz : ∀ i, i < bs.length → (bs.getD i ByteArray.empty).size ≤ 140737488355328) (hk : Ints w vk ks) (hkb : ∀ n ∈ ks, -9223372036854775808 ≤ n ∧ n ≤ 9223372036854775807) (ht : t.size ≤ 140737488355328) :
    Calls Try.prog 8 #[.int .i64 first, vb, vk, .string t] w fun e w' => e = .returned (.bool true) ∧ Below w.heap.size w w' := by
  have HR := Lib.hid (row_any first vb bs vk ks w hf0 hf1 hb hz hk hkb)
  have HBs := Lib.hid (fun w' (h : Below w.heap.size w w') => hb.on h)
  clear hb hz hk hkb
  go_enter Try.func8, Try.ntmps8
  go_wp2_with fail
  refine HR.out.mono ?_
  rintro e w1 ⟨s, ve, ok, rfl, hb1, hok⟩
  have HB1 := Lib.hid hb1
  clear hb1 HR
  cases ok with
  | false =>
    clear hok
    go_wp2_with fail
    refine (known_any _).mono ?_
    rintro e w2 ⟨rfl, hb2⟩
    go_wp2_with fail
    go_ret
    exact ⟨rfl, HB1.out.trans (hb2.mono HB1.out.size)⟩
  | true =>
    obtain ⟨G, hG, hLs, h2⟩ := hok rfl
    have hnum := h2.nums
    have HG := Lib.hid hG
    have HLS := Lib.hid hLs
    have hsz : s.size ≤ 4195304 := by have := hG.short; rw [← hLs, L_length] at this; exact this
    have HN := Lib.hid hnum
    obtain ⟨ae, ce, rfl, hne⟩ := hnum
    have hGl : G.length ≤ 4195304 := by
      have := scan_len (laid G)
      have e := scan_cut hG.rw' (c := (laid G).length) (n := G.length) (by rw [List.take_of_length_le (Nat.le_refl _)]; exact Nat.le_refl _) (fun f hf => by rw [List.getElem?_eq_none (Nat.le_refl _)] at hf; cases hf)
      rw [List.take_of_length_le (Nat.le_refl _), List.take_of_length_le (Nat.le_refl _)] at e
      rw [e] at this
      have := hG.short
      omega
    rw [List.length_map] at *
    have HNE := Lib.hid hne
    clear hok hG hLs h2 hne
    by_cases g1 : (4195304 : Int) < t.size
    · go_wp2_with fail
      refine (known_any _).mono ?_
      rintro e w2 ⟨rfl, hb2⟩
      go_wp2_with fail
      go_ret
      exact ⟨rfl, HB1.out.trans (hb2.mono HB1.out.size)⟩
    obtain ⟨M, hM, hMc⟩ := scan_tail HG.out (L t)
    have hst : L (s ++ t) = laid G ++ L t := by rw [← HLS.out]; unfold L; simp [ByteArray.data_append]
    have hsz2 : (s ++ t).size = s.size + t.size := ByteArray.size_append
    have HT1 := Lib.hid (told_any (s ++ t) w1 (by omega))
    rw [hst, hM] at HT1
    obtain ⟨F2, hF2⟩ : ∃ F2, F2 = scan (L t) 0 0 := ⟨_, rfl⟩
    have HT2 := Lib.hid (fun W => told_any t W (by omega))
    rw [← hF2] at HT2 hMc
    have hF2l : 18 * F2.length ≤ t.size := by have := scan_len (L t); rw [← hF2, L_length] at this; exact this
    have HF2 := Lib.hid hF2
    clear hst hM hF2
    have hls : (laid G).length = s.size := by rw [← HLS.out, L_length]
    rw [hls] at HT1
    have HMC := Lib.hid hMc
    clear hMc
    go_wp2_with fail
    refine HT1.out.mono ?_
    rintro e w5 ⟨v3, v4, B, rfl, ht1, hb5, hB⟩
    have HTW := Lib.hid ht1
    have HB5 := Lib.hid hb5
    clear ht1 hb5 HT1 hB
    go_wp2_with fail
    refine (HT2.out _).mono ?_
    rintro e w6 ⟨v5, v6, B2, rfl, ht2, hb6, hB⟩
    have HTW1 := Lib.hid (HTW.out.on hb6)
    have HTW2 := Lib.hid ht2
    have HB6 := Lib.hid (HB5.out.trans (hb6.mono HB5.out.size))
    have HBB := Lib.hid (HB1.out.trans (HB6.out.mono HB1.out.size))
    have HS6 := Lib.hid (HBs.out _ HBB.out)
    have HN6 := Lib.hid (HN.out.on HB6.out)
    clear ht2 hb6 hB HT2 HTW HB5
    have hMl : M.length ≤ F2.length := by
      rcases HMC.out with ⟨h, _⟩ | ⟨h, _⟩
      · rw [h]; exact Nat.le_refl _
      · rw [h]; exact Nat.zero_le _
    by_cases hn0 : G = []
    · subst hn0
      have hs0 : s.size = 0 := by rw [← L_length, HLS.out]; rfl
      obtain ⟨e1⟩ : M = F2 ∧ True := by
        rcases HMC.out with ⟨h1, _⟩ | ⟨_, h, _⟩
        · exact ⟨h1, trivial⟩
        · exact absurd rfl h
      subst e1
      simp only [List.nil_append, List.length_nil] at *
      have hW0 : Hid (∀ W, (∃ m, W = w6.drewN m) → ∀ ao c ao2 d, Calls Try.prog 17 #[.slice ao 0 c, .slice ao2 0 d, .int .i64 first, vb, .slice ae 0 ce, .int .i64 0] W fun e w' => e = .returned (.bool true) ∧ ∃ m, w' = W.drewN m) := Lib.hid (fun W hW ao c ao2 d => by
        obtain ⟨m, rfl⟩ := hW
        have hbm : Below w6.heap.size w6 (w6.drewN m) := below_drewN (Below.refl _ _) m
        exact whole_lay _ _ [] 0 first vb bs _ _ (Nat.le_refl _) HG.out hf0 (by omega) ⟨_, _, rfl⟩ ⟨_, _, rfl⟩ (fun h => absurd rfl h) (HS6.out.on hbm) (HN6.out.on hbm))
      by_cases hM0 : M = []
      · subst hM0
        simp only [List.map_nil] at *
        rcases HTW1.out.a.2 with ⟨rfl, _⟩ | ⟨g, c, cur, rfl, _⟩ <;> rcases HTW1.out.b.2 with ⟨rfl, _⟩ | ⟨g', c', cur', rfl, _⟩ <;> rcases HTW2.out.a.2 with ⟨rfl, _⟩ | ⟨g2, c2, cur2, rfl, _⟩ <;> rcases HTW2.out.b.2 with ⟨rfl, _⟩ | ⟨g2', c2', cur2', rfl, _⟩
        all_goals (
          try simp only [List.length_nil]
          clear HTW1
          go_wp2_with fail
          go_big_quiet (first | (go_at_call 17; exact Calls.quiet_of (hW0.out _ ⟨_, rfl⟩ _ _ _ _)))
          have hbq : Below w6.heap.size w6 (w6.drewN nq) := below_drewN (Below.refl _ _) nq
          have HBX := Lib.hid (HBB.out.trans (hbq.mono HBB.out.size))
          generalize w6.drewN nq = X at hbq HBX ⊢
          clear hW0 HTW2 HBB hbq HN6 HS6 HB6 HN HNE
          go_wp2_with fail
          refine wp_loop_rounds 1 ?_
          rw [rounds_succ]
          go_wp2_with fail
          refine (known_any _).mono ?_
          rintro e w7 ⟨rfl, hb7⟩
          go_wp2_with fail
          go_ret
          exact ⟨rfl, HBX.out.trans (hb7.mono HBX.out.size)⟩)
      · obtain ⟨g, h, c, d, rfl, rfl, lay, hc, hd⟩ := HTW1.out.lay' (by simpa using hM0) (by simpa using hM0)
        have HL := Lib.hid lay
        simp only [List.length_map] at hc hd ⊢
        clear lay HTW1
        have hMp : 0 < M.length := List.length_pos_iff.2 hM0
        have hnc : (0 : Int) ≤ (c : Int) := by omega
        have hnd : (0 : Int) ≤ (d : Int) := by omega
        have hgc : (0 : Int) < (c : Int) := by omega
        have hgd : (0 : Int) < (d : Int) := by omega
        have hgc' : 0 < c := by omega
        have hgd' : 0 < d := by omega
        have hlt2 : decide ((M.length : Int) < 0) = false := by simp
        go_wp2_with fail
        go_big_quiet (first | (go_at_call 17; exact Calls.quiet_of (hW0.out _ ⟨_, rfl⟩ _ _ _ _)))
        have hbq : Below w6.heap.size w6 (w6.drewN nq) := below_drewN (Below.refl _ _) nq
        have HLX := Lib.hid (HL.out.on hbq)
        have HTX := Lib.hid (HTW2.out.on hbq)
        have HBX := Lib.hid (HBB.out.trans (hbq.mono HBB.out.size))
        generalize w6.drewN nq = X at hbq HLX HTX HBX ⊢
        clear hW0 HL HTW2 HBB hbq HN6 HS6 HB6 HN HNE
        obtain ⟨g2, h2, c2, d2, rfl, rfl, lay2, hc2, hd2⟩ := HTX.out.lay' hM0 (by simpa using hM0)
        have HL2 := Lib.hid lay2
        rw [List.length_map] at *
        clear lay2 HTX
        have hmz : (0 : Int) < (M.length : Int) := by omega
        go_wp2_with fail
        go_loopw [17] (fun v17 wr => ∃ k : Nat, k ≤ M.length ∧ v17 = .int .i64 (k : Int) ∧ Below X.heap.size X wr) (fun v _ => M.length - (intOf v).toNat)
        case atStart => exact ⟨0, Nat.zero_le _, rfl, Below.refl _ _⟩
        case round =>
          obtain ⟨k, hk, rfl, hb⟩ := hrel
          by_cases hdk : k < M.length
          · obtain ⟨m, hm⟩ : ∃ m, M[k]? = some m := ⟨_, List.getElem?_eq_getElem hdk⟩
            have lX := HLX.out.on hb
            have lY := HL2.out.on hb
            obtain ⟨y0, y1, y2, y3⟩ := lY.fr k m hm
            have y4 := lY.nu k m.ends (by rw [List.getElem?_map, hm]; rfl)
            have hm1 : (M.map (Fr.by' s.size))[k]? = some (m.by' s.size) := by
              rw [List.getElem?_map, hm]; rfl
            obtain ⟨x0, x1, x2, x3⟩ := lX.fr k _ hm1
            have x4 := lX.nu k (m.by' s.size).ends (by rw [List.getElem?_map, hm1]; rfl)
            rw [by_ends] at x4
            have xa : (((m.by' s.size).at' : Nat) : Int) = (m.at' : Int) + (s.size : Int) := by unfold Fr.by'; dsimp only; omega
            rw [xa] at x2
            have xe : ((s.size + m.ends : Nat) : Int) = (m.ends : Int) + (s.size : Int) := by omega
            rw [xe] at x4
            have xk : (m.by' s.size).kind = m.kind := rfl
            have xn : (m.by' s.size).num = m.num := rfl
            have xb : (m.by' s.size).body = m.body := rfl
            rw [xk] at x0
            rw [xn] at x1
            rw [xb] at x3
            have hg2l : g2 < wr.heap.size := lY.lt1
            have hgl : g < wr.heap.size := lX.lt1
            have hhl : h < wr.heap.size := lX.lt2
            have hh2l : h2 < wr.heap.size := lY.lt2
            have hma : (m.at' : Int) ≤ 4195304 ∧ (m.ends : Int) ≤ 4195304 := by
              rw [HF2.out] at hm
              obtain ⟨_, _, z1, z2⟩ := told_frame hm
              rw [L_length] at z2
              omega
            obtain ⟨hma1, hma2⟩ := hma
            have HB := Lib.hid hb
            clear hb lX lY xa xe xk xn xb hm hm1
            go_wp2_with fail
            go_big_quiet (fail)
            go_wp2_with fail
            go_roundw
            case rel => exact ⟨k + 1, by omega, by go_num, below_drewN (HB.out.alloc HB.out.size _) nq⟩
            case measure => simp [intOf]; omega
          · obtain rfl : k = M.length := by omega
            have HB := Lib.hid hb
            clear hb
            go_wp2_with fail
            refine (known_any _).mono ?_
            rintro e w7 ⟨rfl, hb7⟩
            go_wp2_with fail
            go_ret
            exact ⟨rfl, HBX.out.trans ((HB.out.trans (hb7.mono HB.out.size)).mono HBX.out.size)⟩
    · have hnp : 0 < G.length := List.length_pos_iff.2 hn0
      obtain ⟨g, h, c, d, rfl, rfl, lay, hc, hd⟩ := HTW1.out.lay' (by simp [hn0]) (by simp [hn0])
      have HL := Lib.hid lay
      simp only [List.length_append, List.length_map] at hc hd ⊢
      clear lay HTW1
      have hnc : (G.length : Int) ≤ (c : Int) := by omega
      have hnd : (G.length : Int) ≤ (d : Int) := by omega
      have hlt : ¬ (G.length : Int) + (M.length : Int) < (G.length : Int) := by omega
      have hlt2 : decide ((G.length : Int) + (M.length : Int) < (G.length : Int)) = false := by simp; omega
      have hWh : Hid (∀ W, (∃ m, W = w6.drewN m) → Calls Try.prog 17 #[.slice (some ⟨g, 0, none⟩) G.length c, .slice (some ⟨h, 0, none⟩) G.length d, .int .i64 first, vb, .slice ae G.length ce, .int .i64 (G.length : Int)] W fun e w' => e = .returned (.bool true) ∧ ∃ m, w' = W.drewN m) := Lib.hid (fun W hW => by
        obtain ⟨m, rfl⟩ := hW
        have hbm : Below w6.heap.size w6 (w6.drewN m) := below_drewN (Below.refl _ _) m
        have et : (G ++ M.map (Fr.by' s.size)).take G.length = G.take G.length := by rw [List.take_append_of_le_length (Nat.le_refl _)]
        refine whole_lay _ _ G G.length first vb bs _ _ (Nat.le_refl _) HG.out hf0 (by omega) ⟨_, _, rfl⟩ ⟨_, _, rfl⟩ (fun _ => ⟨g, h, c, d, rfl, rfl, ?_⟩) (HS6.out.on hbm) (HN6.out.on hbm)
        have l2 := HL.out.on hbm
        rw [List.take_of_length_le (Nat.le_refl _)]
        refine ⟨fun j f hf => l2.fr j f (by rw [List.getElem?_append_left (List.getElem?_eq_some_iff.1 hf).1]; exact hf), fun j q hq => l2.nu j q ?_, l2.lt1, l2.lt2⟩
        rw [List.map_append, List.getElem?_append_left (List.getElem?_eq_some_iff.1 hq).1]; exact hq)
      go_wp2_with fail
      go_big_quiet (first | (go_at_call 17; exact Calls.quiet_of (hWh.out _ ⟨_, rfl⟩)))
      have hbq : Below w6.heap.size w6 (w6.drewN nq) := below_drewN (Below.refl _ _) nq
      have HLX := Lib.hid (HL.out.on hbq)
      have HTX := Lib.hid (HTW2.out.on hbq)
      have HBX := Lib.hid (HBB.out.trans (hbq.mono HBB.out.size))
      generalize w6.drewN nq = X at hbq HLX HTX HBX ⊢
      clear hWh HL HTW2 HBB hbq HN6 HS6 HB6 HN HNE
      by_cases hM0 : M = []
      · subst hM0
        have hsumb : 1 ≤ first + (G.length : Int) ∧ first + (G.length : Int) ≤ 4294967295 := by
          obtain ⟨q, hq⟩ : ∃ q, G[G.length - 1]? = some q := ⟨_, List.getElem?_eq_getElem (by omega)⟩
          have z1 := (HG.out.num _ q hq).1
          have z2 := (rw_length G 0 HG.out.rw' _ q hq).2.2
          have z3 := z2.2.1
          have z4 := z2.2.2.1
          omega
        obtain ⟨hsb1, hsb2⟩ := hsumb
        have hgz : (0 : Int) < (G.length : Int) := by omega
        simp only [List.length_nil, Nat.add_zero] at *
        rcases HMC.out with ⟨h1, _⟩ | ⟨_, _, f0, hf0h, hne⟩
        · subst h1
          obtain ⟨a5, c5, rfl⟩ := HTX.out.shape3
          obtain ⟨a6, c6, rfl⟩ := HTX.out.shape4
          simp only [List.map_nil, List.length_nil]
          clear HTX HLX
          rcases Nat.lt_or_eq_of_le hc with hc1 | hc1 <;> rcases Nat.lt_or_eq_of_le hd with hd1 | hd1
          all_goals (
            go_wp2_with fail
            refine wp_loop_rounds 1 ?_
            rw [rounds_succ]
            go_wp2_with fail
            refine (known_any _).mono ?_
            rintro e w7 ⟨rfl, hb7⟩
            go_wp2_with fail
            go_ret
            exact ⟨rfl, HBX.out.trans (hb7.mono HBX.out.size)⟩)
        · have hF0 : F2 ≠ [] := by intro e; rw [e] at hf0h; simp at hf0h
          obtain ⟨g2, h2, c2, d2, rfl, rfl, lay2, hc2, hd2⟩ := HTX.out.lay' hF0 (by simpa using hF0)
          have hMp : 0 < F2.length := List.length_pos_iff.2 hF0
          have hmz : (0 : Int) < (F2.length : Int) := by omega
          have hcell0 := (lay2.fr 0 f0 (by rw [← List.head?_eq_getElem?]; exact hf0h)).2.1
          simp only [Nat.zero_mul, Nat.zero_add] at hcell0
          rw [List.length_map] at *
          clear HTX HLX lay2
          have hne2 : ((f0.num : Int) != first + (G.length : Int)) = true := by simpa using hne
          rcases Nat.lt_or_eq_of_le hc with hc1 | hc1 <;> rcases Nat.lt_or_eq_of_le hd with hd1 | hd1
          all_goals (
            go_wp2_with fail
            refine wp_loop_rounds 1 ?_
            rw [rounds_succ]
            go_wp2_with fail
            refine (known_any _).mono ?_
            rintro e w7 ⟨rfl, hb7⟩
            go_wp2_with fail
            go_ret
            exact ⟨rfl, HBX.out.trans (hb7.mono HBX.out.size)⟩)
      · obtain ⟨e1, e2⟩ : M = F2 ∧ ∀ f, F2.head? = some f → (f.num : Int) = first + (G.length : Int) := by
          rcases HMC.out with ⟨h1, h2⟩ | ⟨h1, _⟩
          · exact ⟨h1, h2 hn0⟩
          · exact absurd h1 hM0
        subst e1
        obtain ⟨g2, h2, c2, d2, rfl, rfl, lay2, hc2, hd2⟩ := HTX.out.lay' hM0 (by simpa using hM0)
        have hMp : 0 < M.length := List.length_pos_iff.2 hM0
        have HL2 := Lib.hid lay2
        rw [List.length_map] at *
        clear lay2 HTX
        have hsumb : 1 ≤ first + (G.length : Int) ∧ first + (G.length : Int) ≤ 4294967295 := by
          obtain ⟨q, hq⟩ : ∃ q, G[G.length - 1]? = some q := ⟨_, List.getElem?_eq_getElem (by omega)⟩
          have z1 := (HG.out.num _ q hq).1
          have z2 := (rw_length G 0 HG.out.rw' _ q hq).2.2
          have z3 := z2.2.1
          have z4 := z2.2.2.1
          omega
        obtain ⟨hsb1, hsb2⟩ := hsumb
        have hgc : (G.length : Int) < (c : Int) := by omega
        have hgd : (G.length : Int) < (d : Int) := by omega
        have hgc' : G.length < c := by omega
        have hgd' : G.length < d := by omega
        have hgz : (0 : Int) < (G.length : Int) := by omega
        have hmz : (0 : Int) < (M.length : Int) := by omega
        obtain ⟨f0, hf0'⟩ : ∃ f0, M[0]? = some f0 := ⟨_, List.getElem?_eq_getElem hMp⟩
        have hnum0 := e2 f0 (by rw [List.head?_eq_getElem?]; exact hf0')
        have hcell0 := (HL2.out.fr 0 f0 hf0').2.1
        rw [hnum0] at hcell0
        simp only [Nat.zero_mul, Nat.zero_add] at hcell0
        go_wp2_with fail
        have HF0 := Lib.hid hf0'
        clear hcell0 hnum0 hf0' e2
        go_loopw [17] (fun v17 wr => ∃ k : Nat, k ≤ M.length ∧ v17 = .int .i64 (k : Int) ∧ Below X.heap.size X wr) (fun v _ => M.length - (intOf v).toNat)
        case atStart => exact ⟨0, Nat.zero_le _, rfl, Below.refl _ _⟩
        case round =>
          obtain ⟨k, hk, rfl, hb⟩ := hrel
          by_cases hdk : k < M.length
          · obtain ⟨m, hm⟩ : ∃ m, M[k]? = some m := ⟨_, List.getElem?_eq_getElem hdk⟩
            have lX := HLX.out.on hb
            have lY := HL2.out.on hb
            obtain ⟨y0, y1, y2, y3⟩ := lY.fr k m hm
            have y4 := lY.nu k m.ends (by rw [List.getElem?_map, hm]; rfl)
            have hm1 : (G ++ M.map (Fr.by' s.size))[G.length + k]? = some (m.by' s.size) := by
              rw [List.getElem?_append_right (by omega), Nat.add_sub_cancel_left, List.getElem?_map, hm]; rfl
            obtain ⟨x0, x1, x2, x3⟩ := lX.fr (G.length + k) _ hm1
            have x4 := lX.nu (G.length + k) (m.by' s.size).ends (by rw [List.getElem?_map, hm1]; rfl)
            rw [Nat.add_mul] at x0 x1 x2 x3
            rw [by_ends] at x4
            have xa : (((m.by' s.size).at' : Nat) : Int) = (m.at' : Int) + (s.size : Int) := by unfold Fr.by'; dsimp only; omega
            rw [xa] at x2
            have xe : ((s.size + m.ends : Nat) : Int) = (m.ends : Int) + (s.size : Int) := by omega
            rw [xe] at x4
            have xk : (m.by' s.size).kind = m.kind := rfl
            have xn : (m.by' s.size).num = m.num := rfl
            have xb : (m.by' s.size).body = m.body := rfl
            rw [xk] at x0
            rw [xn] at x1
            rw [xb] at x3
            have hg2l : g2 < wr.heap.size := lY.lt1
            have hgl : g < wr.heap.size := lX.lt1
            have hhl : h < wr.heap.size := lX.lt2
            have hh2l : h2 < wr.heap.size := lY.lt2
            have hma : (m.at' : Int) ≤ 4195304 ∧ (m.ends : Int) ≤ 4195304 := by
              rw [HF2.out] at hm
              obtain ⟨_, _, z1, z2⟩ := told_frame hm
              rw [L_length] at z2
              omega
            obtain ⟨hma1, hma2⟩ := hma
            have HB := Lib.hid hb
            clear hb lX lY xa xe xk xn xb hm hm1
            go_wp2_with fail
            go_big_quiet (fail)
            go_wp2_with fail
            go_roundw
            case rel => exact ⟨k + 1, by omega, by go_num, below_drewN (HB.out.alloc HB.out.size _) nq⟩
            case measure => simp [intOf]; omega
          · obtain rfl : k = M.length := by omega
            have HB := Lib.hid hb
            clear hb
            go_wp2_with fail
            refine (known_any _).mono ?_
            rintro e w7 ⟨rfl, hb7⟩
            go_wp2_with fail
            go_ret
            exact ⟨rfl, HBX.out.trans ((HB.out.trans (hb7.mono HB.out.size)).mono HBX.out.size)⟩
end Go.Proofs.Ytllpejkfbgpobaa
