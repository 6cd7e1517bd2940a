/- frame: Scan, and what a scan does with whatever it hands frames to. -/
import Derived.Test.YtkdmicpfinjpgaaF10h
namespace Go.Proofs.Ytkdmicpfinjpgaa
open Go.RowKit

theorem Scan_any (s : ByteArray) (w : World) :
    Calls Try.prog 13 #[.string s] w fun e w' => e = .returned (.func (.func 25) #[] #[.pointer (some ⟨w.heap.size, 0, none⟩)]) ∧ w' = w.alloc (.cells #[.string s] 9) := by
  have hmf : ∀ (fn : Fn) (first cap : Array Value) (w : World), (Instr.makeFunc fn first cap).run Try.prog w = .ok (.func fn first cap) w := fun _ _ _ _ => rfl
  go_enter Try.func13, Try.ntmps13
  go_wp2
  go_ret
  exact ⟨rfl, rfl⟩
set_option maxHeartbeats 2000000 in
set_option maxRecDepth 100000 in
theorem scanK (s : ByteArray) (q p1 : Addr) (w : World) (hs : s.size ≤ 140737488355328) (I : Nat → Nat → World → Prop) (J : World → Prop)
    (hT : ∀ i a W, I i a W → W.heap[w.heap.size + 2]? = some (.cells (tabC 256) 54)) (hq : ∀ i a W, I i a W → W.cell? q = some (.string s))
    (hmono : ∀ i a W W', I i a W → Below W.heap.size W W' → I i a W')
    (hstep : ∀ i a W, isF ((L s).drop i) → (0 < i → w4 (L s) (i + 2) = a + 1) → I i a W → Calls Try.prog 24 #[.int .i64 ((frAt (L s) i).ends : Nat), frV (frAt (L s) i).kind (frAt (L s) i).num i (S (frAt (L s) i).body), .pointer (some p1)] W fun e W' => ∃ b, e = .returned (.bool b) ∧ (b = true → I (frAt (L s) i).ends (frAt (L s) i).num W') ∧ (b = false → J W'))
    (h0 : ∀ W, Below w.heap.size w W → W.heap[w.heap.size + 2]? = some (.cells (tabC 256) 54) → I 0 0 W) :
    Calls Try.prog 25 #[.func (.func 24) #[] #[.pointer (some p1)], .pointer (some q)] w fun e w' => e = .returned (.tuple #[]) ∧ ((∃ i a, I i a w' ∧ ¬ (isF ((L s).drop i) ∧ (0 < i → w4 (L s) (i + 2) = a + 1))) ∨ J w') := by
  have HT := Lib.hid hT
  have HQ := Lib.hid hq
  have HM := Lib.hid hmono
  have HS := Lib.hid hstep
  have H0 := Lib.hid h0
  clear hT hq hmono hstep h0
  go_enter Try.func25, Try.ntmps25
  go_wp2_with fail
  refine (newTable_any _).mono ?_
  rintro e w1 ⟨rfl, rfl⟩
  rename_i K0 hK0
  have hb : Below w.heap.size w ((w.alloc (.cells (tabC 256) 54)).alloc (.cells (tabC 256) 54)) := ((Below.refl _ _).alloc (Nat.le_refl _) _).alloc (by simp) _
  have hz : ((w.alloc (.cells (tabC 256) 54)).alloc (.cells (tabC 256) 54)).heap.size = w.heap.size + 2 := by simp
  generalize (w.alloc (.cells (tabC 256) 54)).alloc (.cells (tabC 256) 54) = w2 at hb hz ⊢
  refine hK0 _ _ (wpList_newTable (.tmp 3) (.tmp 8) rfl rfl rfl rfl rfl rfl ?_)
  have hl := heap_alloc_last w2 (.cells (tabC 256) 54)
  have hb2 := hb.alloc hb.size (.cells (tabC 256) 54)
  generalize w2.alloc (.cells (tabC 256) 54) = w3 at hl hb2 ⊢
  rw [hz] at hl ⊢
  have hi0 := Lib.hid (H0.out _ hb2 hl)
  clear hl hb2 hb hz H0
  go_wp2
  go_loopw [4, 5] (fun v4 v5 wr => ∃ (i a : Nat), v4 = .int .i64 (i : Int) ∧ v5 = .int .i64 (a : Int) ∧ i ≤ s.size ∧ a < 4294967296 ∧ I i a wr) (fun v4 _ _ => match v4 with | .int _ k => ((s.size : Int) - k).toNat | _ => 0)
  case atStart => exact ⟨0, 0, rfl, rfl, Nat.zero_le _, by omega, hi0.out⟩
  case round =>
    obtain ⟨i, a, rfl, rfl, hi, ha, hI⟩ := hrel
    have hq1 := HQ.out _ _ _ hI
    have hT1 := Lib.hid (HT.out _ _ _ hI)
    have HI := Lib.hid hI
    clear hI hi0
    have hi2 : (i : Int) ≤ (s.size : Int) := by omega
    go_wp2_with fail
    have hd := decode_any (s.extract i s.size) (w.heap.size + 2) wr (by rw [size_extract' _ _ _ (Nat.le_refl _)]; omega) hT1.out
    have e1 : L (s.extract i s.size) = (L s).drop i := by rw [L_extract, show (L s).take s.size = L s from List.take_of_length_le (Nat.le_refl _)]
    rw [e1] at hd
    refine hd.mono ?_
    clear hd e1
    rintro e w1 ⟨rfl, hb⟩
    by_cases hF : isF ((L s).drop i)
    · rw [if_pos hF, decide_eq_true hF]
      have hends := frAt_ends hF
      have hbl := bodyF_length hF
      have hm := hF.2.2.2.2.2.1
      have hnn := hF.2.2.2.2.1
      have hn1 := hF.2.2.2.1
      rw [w4_drop] at hbl hm hnn hn1
      have ek : (bt ((L s).drop i) 1).toNat = (frAt (L s) i).kind := by rw [bt_drop]; rfl
      have en : w4 ((L s).drop i) 2 = (frAt (L s) i).num := by rw [w4_drop]; rfl
      have en2 : w4 (L s) (i + 2) = (frAt (L s) i).num := rfl
      have eb : bodyF ((L s).drop i) = (frAt (L s) i).body := rfl
      rw [ek, en, eb]
      rw [en2] at hnn hn1
      rw [eb] at hbl
      have HS' := Lib.hid (fun W => HS.out i a W hF)
      rw [en2] at HS'
      have hend : (frAt (L s) i).ends = i + (frAt (L s) i).body.length + 18 := rfl
      have HF := Lib.hid hF
      clear HS ek en eb hF
      generalize (frAt (L s) i).ends = E at *
      generalize (frAt (L s) i).kind = k at *
      generalize (frAt (L s) i).body = b at *
      obtain ⟨n, hn⟩ : ∃ n, n = (frAt (L s) i).num := ⟨_, rfl⟩
      have HN := Lib.hid hn
      rw [← hn] at hnn hn1 HS' ⊢
      clear hn en2
      have hsz : (S b).size = b.length := rfl
      have hb2 : b.length ≤ 2097152 := by omega
      have hls : (L s).length = s.size := rfl
      have hEb : E ≤ s.size := by omega
      clear hls
      have HB := Lib.hid hb
      have hgo : ∀ (hc : 0 < i → n = a + 1), Hid (∀ W, I i a W → Calls Try.prog 24 #[.int .i64 (E : Int), frV k n i (S b), .pointer (some p1)] W fun e W' => ∃ b, e = .returned (.bool b) ∧ (b = true → I E n W') ∧ (b = false → J W')) := fun hc => Lib.hid fun W hW => HS'.out W hc hW
      have HG := Lib.hid hgo
      have HL : Hid (∀ o, I i a (w1.alloc o)) := Lib.hid fun o => HM.out _ _ _ _ HI.out (hb.alloc hb.size o)
      clear hb hgo HS' hends hbl hm
      unfold frV at HG ⊢
      by_cases hi0 : i = 0
      · have HC := HG.out (fun h => absurd h (by omega))
        subst hi0
        have hE1 : (E : Int) = (b.length : Int) + 18 := by omega
        rw [hE1] at HC
        go_wp2_with (go_at_call 10; with_reducible refine (Size_nat b.length _ hb2).mono ?_; rintro e w4 ⟨rfl, rfl⟩)
        refine (HC.out _ (HL.out _)).mono ?_
        rintro e w5 ⟨y, rfl, hy1, hy2⟩
        clear HB HL HC HG
        cases y with
        | true =>
          have HY1 := Lib.hid (hy1 rfl)
          clear hy1 hy2
          go_wp2_with fail
          go_roundw
          case rel => exact ⟨E, n, by rw [hE1], rfl, hEb, by omega, HY1.out⟩
          case measure => simp only []; omega
        | false =>
          have HY2 := Lib.hid (hy2 rfl)
          clear hy1 hy2
          go_wp2_with fail
          first | go_end0 | (simp only [Exit.inBlock, Exit.then]; refine bodyPost_ret (results_none rfl _ _ _) rfl ?_) | refine bodyPost_ret (results_none rfl _ _ _) rfl ?_
          exact ⟨rfl, .inr (HY2.out)⟩
      · have hi3 : (0 : Int) < (i : Int) := by omega
        by_cases hc : n = a + 1
        · have HC := HG.out (fun _ => hc)
          have hE1 : (E : Int) = (i : Int) + ((b.length : Int) + 18) := by omega
          rw [hE1] at HC
          have HE1 := Lib.hid hE1
          clear hE1
          subst hc
          clear hend
          go_wp2_with (go_at_call 10; with_reducible refine (Size_nat b.length _ hb2).mono ?_; rintro e w4 ⟨rfl, rfl⟩)
          refine (HC.out _ (HL.out _)).mono ?_
          rintro e w5 ⟨y, rfl, hy1, hy2⟩
          clear HB HL HC HG
          cases y with
          | true =>
            have HY1 := Lib.hid (hy1 rfl)
            clear hy1 hy2
            go_wp2_with fail
            go_roundw
            case rel => exact ⟨E, a + 1, by rw [HE1.out], rfl, hEb, by omega, HY1.out⟩
            case measure => simp only []; have := HE1.out; omega
          | false =>
            have HY2 := Lib.hid (hy2 rfl)
            clear hy1 hy2
            go_wp2_with fail
            first | go_end0 | (simp only [Exit.inBlock, Exit.then]; refine bodyPost_ret (results_none rfl _ _ _) rfl ?_) | refine bodyPost_ret (results_none rfl _ _ _) rfl ?_
            exact ⟨rfl, .inr (HY2.out)⟩

        · have hne : ((n : Int) != (a : Int) + 1) = true := by simp; omega
          have HNC := Lib.hid hc
          clear hc
          go_wp2_with fail
          first | go_end0 | (simp only [Exit.inBlock, Exit.then]; refine bodyPost_ret (results_none rfl _ _ _) rfl ?_) | refine bodyPost_ret (results_none rfl _ _ _) rfl ?_
          exact ⟨rfl, .inl ⟨i, a, HL.out _, fun h => HNC.out (HN.out.trans (h.2 (by omega)))⟩⟩
    · rw [if_neg hF, decide_eq_false hF]
      have HF := Lib.hid hF
      have HB := Lib.hid (fun o => HM.out _ _ _ _ HI.out (hb.alloc hb.size o))
      unfold frV
      clear hF hb
      go_wp2_with fail
      first | go_end0 | (simp only [Exit.inBlock, Exit.then]; refine bodyPost_ret (results_none rfl _ _ _) rfl ?_) | refine bodyPost_ret (results_none rfl _ _ _) rfl ?_
      exact ⟨rfl, .inl ⟨i, a, HB.out _, fun h => HF.out h.1⟩⟩
end Go.Proofs.Ytkdmicpfinjpgaa
