/- postbagref1: wired. -/
import Derived.Test.YtclegocofiigiabDoorRw
namespace Go.Proofs.YtclegocofiigiabDoor
open Go.RowKit Go.Shelf

theorem drop_consN (l : List Nat) (k : Nat) (h : k < l.length) : l.drop k = l[k]?.getD 0 :: l.drop (k + 1) := by
  rw [List.drop_eq_getElem_cons h, List.getElem?_eq_getElem h]; rfl
theorem run_part (rs : List Nat) (k m : Nat) (h1 : k ≤ m) (h2 : m ≤ rs.length) (hno : ∀ q, k ≤ q → q < m → ¬ prN (rs[q]?.getD 0)) (hend : m = rs.length ∨ prN (rs[m]?.getD 0)) :
    wn (rs.drop k) [] = runS ((rs.drop k).take (m - k)) ++ wn (rs.drop m) [] := by
  have e : rs.drop k = (rs.drop k).take (m - k) ++ rs.drop m := by
    have := List.take_append_drop (m - k) (rs.drop k)
    rw [List.drop_drop] at this
    have e2 : k + (m - k) = m := by omega
    rw [e2] at this
    exact this.symm
  have hw := wn_run ((rs.drop k).take (m - k)) (rs.drop m) [] (by
    intro r hr
    obtain ⟨q, hq, hq2⟩ := List.getElem_of_mem hr
    have hl : q < m - k := by rw [List.length_take, List.length_drop] at hq; omega
    rw [List.getElem_take, List.getElem_drop] at hq2
    have := hno (k + q) (by omega) (by omega)
    rw [List.getElem?_eq_getElem (by omega)] at this
    simp only [Option.getD_some] at this
    rw [hq2] at this; exact this) (by
    intro r hr
    rcases hend with h | h
    · rw [h, List.drop_length] at hr; simp at hr
    · by_cases hm : m < rs.length
      · rw [drop_consN rs m hm] at hr; simp at hr; subst hr; exact h
      · rw [List.drop_eq_nil_of_le (by omega)] at hr; simp at hr)
  rw [List.nil_append, ← e] at hw
  exact hw
theorem cells_part (rs : List Nat) (k m j : Nat) (hj : j < ((rs.drop k).take (m - k)).length) : ((rs.drop k).take (m - k))[j]?.getD 0 = rs[k + j]?.getD 0 := by
  rw [List.length_take, List.length_drop] at hj
  rw [List.getElem?_take_of_lt (by omega), List.getElem?_drop]

set_option maxHeartbeats 2000000 in
theorem wired_any (g cap : Nat) (rs : List Nat) (w : World) (hsc : ∀ r ∈ rs, sc r) (hn : rs.length ≤ 1000) (hcap : rs.length ≤ cap) (hg : g < w.heap.size)
    (hc : ∀ j, j < rs.length → w.cell? ⟨g, j, none⟩ = some (.int .i64 ((rs[j]?.getD 0 : Nat) : Int))) :
    Calls Tryd.prog 52 #[.slice (some ⟨g, 0, none⟩) rs.length cap] w fun e w' => e = .returned (.string (S (wn rs []))) ∧ Below w.heap.size w w' := by
  have hwl := wn_len rs []
  have HC := Lib.hid hc
  have HS := Lib.hid hsc
  clear hc hsc
  go_enter Tryd.func52, Tryd.ntmps52
  go_wp2
  go_loopw [3, 4] (fun sv i wr => ∃ (k : Nat) (o : List UInt8), k ≤ rs.length ∧ i = .int .i64 k ∧ sv = .string (S o) ∧ Hid (o ++ wn (rs.drop k) [] = wn rs []) ∧ Below w.heap.size w wr) (fun _ i _ => rs.length - (intOf i).toNat)
  case atStart => exact ⟨0, [], Nat.zero_le _, rfl, rfl, Lib.hid rfl, Below.refl _ _⟩
  case round =>
    obtain ⟨k, o, hk, rfl, rfl, HO, hbw⟩ := hrel
    have hol : o.length ≤ 13000 := by
      have := congrArg List.length HO.out
      rw [List.length_append] at this
      simp at hwl
      omega
    have hos : (S o).size = o.length := S_size o
    by_cases hlt : k < rs.length
    · have hcw := (hbw.cell (p := ⟨g, k, none⟩) hg).trans (HC.out k hlt)
      have hdr := drop_consN rs k hlt
      by_cases hp : prN (rs[k]?.getD 0)
      · rw [hdr] at HO
        have HO1 := Lib.hid (wn_one (rs[k]?.getD 0) (rs.drop (k + 1)) hp)
        rw [HO1.out, ← List.append_assoc] at HO
        clear hdr HO1
        generalize rs[k]?.getD 0 = r at *
        obtain ⟨hp1, hp2⟩ := hp
        by_cases h38 : r = 38
        · have hq : (r : Int) = 38 := by omega
          rw [if_pos h38, h38] at HO
          have hk1 : S o ++ ⟨#[38, 45]⟩ = S (o ++ [38, 45]) := S_append o [38, 45]
          have hc1 : ¬ 9223372036854775807 < (S o).size + 2 := by omega
          clear h38 hwl HC HS
          go_wp2
          go_roundw
          case rel => exact ⟨k + 1, o ++ [38, 45], by omega, by go_num, rfl, HO, hbw⟩
          case measure => simp [intOf]; omega
        · have hq : ((r : Int) == 38) = false := by rw [beq_eq_false_iff_ne]; omega
          rw [if_neg h38] at HO
          have hk1 : S o ++ S [UInt8.ofNat r] = S (o ++ [UInt8.ofNat r]) := S_append o _
          have hs1 : (S [UInt8.ofNat r]).size = 1 := S_size _
          have hc1 : ¬ 9223372036854775807 < (S o).size + (S [UInt8.ofNat r]).size := by omega
          have kl : (convert 44 9 (.slice (some ⟨wr.heap.size, 0, none⟩) 1 1)).run Tryd.prog (wr.alloc (.cells #[.int .u8 (r : Int)] 5)) = .ok (.string (S [UInt8.ofNat r])) (wr.alloc (.cells #[.int .u8 (r : Int)] 5)) :=
            (litOwn wr [UInt8.ofNat r] #[.int .u8 (r : Int)] (by simp only [bc, List.map_cons, List.map_nil]; rw [← u8v (r : Int) r (by omega)]) (by simp)).back
          have hsz : w.heap.size ≤ wr.heap.size := hbw.size
          clear h38 hwl HC HS
          go_wp2
          go_roundw
          case rel => exact ⟨k + 1, o ++ [UInt8.ofNat r], by omega, by go_num, rfl, HO, hbw.alloc hsz _⟩
          case measure => simp [intOf]; omega
      · have hp0 := hp
        have hnp : ((rs[k]?.getD 0 : Nat) : Int) < 32 ∨ (¬ ((rs[k]?.getD 0 : Nat) : Int) < 32 ∧ 126 < ((rs[k]?.getD 0 : Nat) : Int)) := by unfold prN at hp; omega
        clear hp hdr
        have HN0 := Lib.hid hp0
        clear hp0
        have hkr : ((rs[k]?.getD 0 : Nat) : Int) = ((rs[k]?.getD 0 : Nat) : Int) := rfl
        clear hkr
        generalize hr0 : rs[k]?.getD 0 = r0 at hcw hnp
        have HR0 := Lib.hid hr0
        clear hr0
        rcases hnp with hnp | ⟨hnp, hnq⟩
        all_goals (
          go_wp2
          clear hcw hnp
          go_loop [5] (fun j => ∃ m : Nat, k ≤ m ∧ m ≤ rs.length ∧ j = .int .i64 m ∧ Hid (∀ q, k ≤ q → q < m → ¬ prN (rs[q]?.getD 0))) (fun j => rs.length - (intOf j).toNat)
          case atStart => exact ⟨k, Nat.le_refl _, hk, rfl, Lib.hid (fun q h1 h2 => by omega)⟩
          case round =>
            obtain ⟨m, hm1, hm2, rfl, HQ⟩ := hrel
            by_cases hgo : m < rs.length ∧ ¬ prN (rs[m]?.getD 0)
            · obtain ⟨hlm, hnm⟩ := hgo
              have hcm := (hbw.cell (p := ⟨g, m, none⟩) hg).trans (HC.out m hlm)
              have HQ2 : Hid (∀ q, k ≤ q → q < m + 1 → ¬ prN (rs[q]?.getD 0)) := Lib.hid (fun q h1 h2 => by
                by_cases e : q = m
                · subst e; exact hnm
                · exact HQ.out q h1 (by omega))
              have hd : ((rs[m]?.getD 0 : Nat) : Int) < 32 ∨ (¬ ((rs[m]?.getD 0 : Nat) : Int) < 32 ∧ 126 < ((rs[m]?.getD 0 : Nat) : Int)) := by unfold prN at hnm; omega
              clear hnm
              generalize rs[m]?.getD 0 = rm at hcm hd
              rcases hd with hd | ⟨hd, hd2⟩
              all_goals (
                go_wp2
                go_round
                case rel => exact ⟨m + 1, by omega, by omega, by go_num, HQ2⟩
                case measure => simp [intOf]; omega)
            · have hend : m = rs.length ∨ prN (rs[m]?.getD 0) := by
                by_cases e : m < rs.length
                · right
                  by_cases hpm : prN (rs[m]?.getD 0)
                  · exact hpm
                  · exact absurd ⟨e, hpm⟩ hgo
                · left; omega
              have hkm : k < m := by
                rcases Nat.lt_or_ge k m with h | h
                · exact h
                · exfalso
                  have e : m = k := by omega
                  subst e
                  rcases hend with h | h
                  · omega
                  · exact HN0.out h
              have HP := Lib.hid (run_part rs k m hm1 hm2 HQ.out hend)
              have hpl : ((rs.drop k).take (m - k)).length = m - k := by rw [List.length_take, List.length_drop]; omega
              have hrn := Lib.hid (fun W (hgW : g < W.heap.size) (hcW : ∀ j, j < ((rs.drop k).take (m - k)).length → W.cell? ⟨g, k + j, none⟩ = some (.int .i64 ((((rs.drop k).take (m - k))[j]?.getD 0 : Nat) : Int))) =>
                run_any g k (cap - k) ((rs.drop k).take (m - k)) W (fun r hr => HS.out r (List.mem_of_mem_drop (List.mem_of_mem_take hr))) (by omega) (by intro e; rw [e] at hpl; simp at hpl; omega) hgW hcW)
              have HCW : Hid (∀ W, Below w.heap.size w W → ∀ j, j < ((rs.drop k).take (m - k)).length → W.cell? ⟨g, k + j, none⟩ = some (.int .i64 ((((rs.drop k).take (m - k))[j]?.getD 0 : Nat) : Int))) := Lib.hid (fun W hW j hj => by
                rw [cells_part rs k m j hj, hW.cell (p := ⟨g, k + j, none⟩) hg]
                exact HC.out (k + j) (by omega))
              have HO2 : Hid ((o ++ runS ((rs.drop k).take (m - k))) ++ wn (rs.drop m) [] = wn rs []) := Lib.hid (by rw [List.append_assoc, ← HP.out]; exact HO.out)
              rw [hpl] at hrn HCW
              have hrl : (runS ((rs.drop k).take (m - k))).length ≤ 13000 := by
                have := congrArg List.length HO2.out
                rw [List.length_append, List.length_append] at this
                simp at hwl
                omega
              clear HP HO HQ hpl
              generalize (rs.drop k).take (m - k) = part at *
              have hk1 : S o ++ S (runS part) = S (o ++ runS part) := S_append o _
              have hs1 : (S (runS part)).size = (runS part).length := S_size _
              have hc1 : ¬ 9223372036854775807 < (S o).size + (S (runS part)).size := by omega
              have hgw : g < wr.heap.size := by have := hbw.size; omega
              by_cases hme : m < rs.length
              · have hcm := (hbw.cell (p := ⟨g, m, none⟩) hg).trans (HC.out m hme)
                have hpm : prN (rs[m]?.getD 0) := by rcases hend with h | h; omega; exact h
                generalize rs[m]?.getD 0 = rm at hcm hpm
                have hp1 : ¬ ((rm : Int) < 32) := by unfold prN at hpm; omega
                have hp2 : ¬ (126 < (rm : Int)) := by unfold prN at hpm; omega
                clear hpm hend hgo
                go_wp2_with fail
                refine (hrn.out _ hgw (HCW.out _ hbw)).mono ?_
                rintro e w1 ⟨rfl, hb1⟩
                go_wp2
                go_roundw
                case rel => exact ⟨m, o ++ runS part, by omega, by go_num, rfl, HO2, hbw.trans (hb1.mono hbw.size)⟩
                case measure => simp [intOf]; omega
              · clear hend hgo
                go_wp2_with fail
                refine (hrn.out _ hgw (HCW.out _ hbw)).mono ?_
                rintro e w1 ⟨rfl, hb1⟩
                go_wp2
                go_roundw
                case rel => exact ⟨m, o ++ runS part, by omega, by go_num, rfl, HO2, hbw.trans (hb1.mono hbw.size)⟩
                case measure => simp [intOf]; omega)
    · rw [List.drop_eq_nil_of_le (by omega)] at HO
      have HE : Hid (o = wn rs []) := Lib.hid (by have := HO.out; simpa [wn, runS] using this)
      clear HO
      go_wp2
      go_ret
      exact ⟨ret_str (by rw [HE.out]), hbw⟩
end Go.Proofs.YtclegocofiigiabDoor
