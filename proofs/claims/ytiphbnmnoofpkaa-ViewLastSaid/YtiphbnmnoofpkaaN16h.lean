/- long. -/
import Derived.Test.YtiphbnmnoofpkaaN16e
namespace Go.Proofs.Ytiphbnmnoofpkaa
open Go.RowKit

theorem Try.sizeEvB (e : EV) : (Try.prog.info? 38).map (·.size) = some (evA e).size := by kernel_rfl
theorem Try.sizeEvR (e : EV) : (Try.prog.info? 38).map (·.size) = some (evA e).toList.length := by kernel_rfl
theorem box_below {w Y : World} {c d : Array Value} {t : TypeId} (h : (w.alloc (.cells c t)).setRow w.heap.size d = Y) : Below w.heap.size w Y ∧ Y.heap[w.heap.size]? = some (.cells d t (0, 0)) := by
  subst h
  exact ⟨⟨rfl, rfl, rfl, by simp, fun b hb => by rw [setRow_other _ _ _ _ (by omega)]; exact Below.heap_alloc _ _ _ hb⟩, setRow_heap _ _ _ _ _ _ (heap_new w _)⟩
/-- What long answers. -/
def LongOut (ml : List MLE) (S : List ST) (w : World) (e : Ending) (w' : World) : Prop := ∃ b, e = .returned (.bool b) ∧ Below w.heap.size w w' ∧ (b = false → ml.length ≤ 300 ∧ S.length ≤ 120 ∧ ∀ s ∈ S, StShort s)
set_option maxHeartbeats 2000000 in
set_option maxRecDepth 20000 in
theorem long_any (mv sv : Value) (ml : List MLE) (S : List ST) (w : World) (hm : MailsAt w mv ml) (hs : StepsAt w sv S) :
    Calls Try.prog 8 #[mv, sv] w (LongOut ml S w) := by
  obtain ⟨am, cm, rfl, _⟩ := hm
  have HS := Lib.hid hs
  obtain ⟨⟨ax, cx, rfl, _⟩, _⟩ := hs
  by_cases hml : ml.length ≤ 300
  · by_cases hsl : S.length ≤ 120
    · have q1 : ¬ (300 : Int) < (ml.length : Int) := by omega
      have q2 : ¬ (120 : Int) < (S.length : Int) := by omega
      go_enter Try.func8, Try.ntmps8
      go_wp2_with fail
      go_loopw [5, 6] (fun n i wr => ∃ (z : Int) (k : Nat), k ≤ S.length ∧ n = .int .i64 z ∧ i = .int .i64 k ∧ Below w.heap.size w wr ∧ Hid (∀ t, t < k → StShort (S.getD t ST0))) (fun _ i _ => S.length - (intOf i).toNat)
      case atStart => exact ⟨0, 0, Nat.zero_le _, rfl, rfl, Below.refl _ _, Lib.hid (fun t ht => by omega)⟩
      case round =>
        obtain ⟨z, k, hk, rfl, rfl, hb, HK⟩ := hrel
        by_cases hlt : k < S.length
        · have hlti : (k : Int) < (S.length : Int) := by omega
          obtain ⟨⟨a1, c1, e1, hx1⟩, hok⟩ := HS.out.on hb
          obtain ⟨rfl, rfl⟩ : a1 = ax ∧ c1 = cx := by injection e1 with p1 p2 p3; exact ⟨p1.symm, p3.symm⟩
          clear e1
          obtain ⟨g, off, rfl, hg, hc⟩ := hx1 (by omega)
          have hcr := hc k hlt
          have hse := getD_memS hlt
          have hss := hok _ hse
          obtain ⟨sx, hsx⟩ : ∃ sx, S.getD k ST0 = sx := ⟨_, rfl⟩
          rw [hsx] at hcr hss
          have HCr := Lib.hid (stL_evs hcr)
          have m23 : wr.cell? ⟨g, off + k * 26 + 23, none⟩ = some sx.sv := hcr 23 _ rfl
          obtain ⟨Y, hY⟩ : ∃ Y, (wr.alloc (.cells #[.int .i64 0, .int .i64 0, .int .i64 0, .int .i64 0, .int .i64 0, .string ⟨#[]⟩, .slice none 0 0, .slice none 0 0, .slice none 0 0, .slice none 0 0, .int .i64 0, .int .i64 0, .int .i64 0, .int .i64 0, .int .i64 0, .int .i64 0, .int .i64 0, .string ⟨#[]⟩] 38)).setRow wr.heap.size (evA sx.ev) = Y := ⟨_, rfl⟩
          obtain ⟨hbY, hYn⟩ := box_below hY
          have HOne : Hid ((evA sx.ev).all (·.oneCell') = true) := Lib.hid (Array.all_eq_true_iff_forall_mem.2 (fun v hv => hss.one v (stL_ev (by simpa using hv))))
          obtain ⟨ua, uc, euv, _⟩ := hss.ev
          obtain ⟨⟨ma, mc, emv, hmr⟩, hfl⟩ := (hss.mks).on hbY
          obtain ⟨ra, rc, erv⟩ : ∃ a c, sx.sv = .slice a sx.st.length c := by
            rcases hss.st with ⟨e1, a, c, e2, _⟩ | ⟨b, o, c, e2, _⟩
            · exact ⟨a, c, by rw [e2, e1]; rfl⟩
            · exact ⟨_, c, e2⟩
          have e8 : Y.cell? ⟨wr.heap.size, 8, none⟩ = some sx.ev.vu := by unfold evA at hYn; exact cell_of hYn 8
          have e9 : Y.cell? ⟨wr.heap.size, 9, none⟩ = some sx.ev.vm := by unfold evA at hYn; exact cell_of hYn 9
          have m23Y : Y.cell? ⟨g, off + k * 26 + 23, none⟩ = some sx.sv := by rw [hbY.cell (p := ⟨g, off + k * 26 + 23, none⟩) hg]; exact m23
          rw [euv] at e8
          rw [emv] at e9
          rw [erv] at m23Y
          have HBY := Lib.hid (hb.trans (hbY.mono hb.size))
          have HMr := Lib.hid hmr
          have HKs : Hid (StShort sx → ∀ t, t < k + 1 → StShort (S.getD t ST0)) := Lib.hid (fun h t ht => by
            by_cases et : t = k
            · rw [et, hsx]; exact h
            · exact HK.out t (by omega))
          clear hok hse hss hcr hc hx1 m23 hYn hbY hb hmr hfl euv emv erv hsx
          have HY := Lib.hid hY
          clear hY
          go_upto_region 8 with (first | (refine wpList_load_mid rfl 38 _ rfl g (off + k * 26 + 2) rfl _ _ HCr.out Try.underlying38 rfl (Try.sizeEvR sx.ev) ?_) | (refine wpList_store_row rfl 38 _ _ rfl wr.heap.size (evA sx.ev) rfl rfl 38 _ (heap_new _ _) (Try.sizeEvB sx.ev) rfl HOne.out ?_))
          (try rw [HY.out])
          clear HY HCr HOne
          by_cases hu : sx.us.length ≤ 300
          · have qu : ¬ (300 : Int) < (sx.us.length : Int) := by omega
            by_cases hmm : sx.ms.length ≤ 300
            · have qm : ¬ (300 : Int) < (sx.ms.length : Int) := by omega
              by_cases ht : sx.st.length ≤ 300
              · have qt : ¬ (300 : Int) < (sx.st.length : Int) := by omega
                go_wp2_with fail
                go_loopw [5, 8] (fun n i wq => ∃ (z : Int) (j : Nat), j ≤ sx.ms.length ∧ n = .int .i64 z ∧ i = .int .i64 j ∧ wq = Y) (fun _ i _ => sx.ms.length - (intOf i).toNat)
                case atStart => exact ⟨z, 0, Nat.zero_le _, rfl, rfl, rfl⟩
                case round =>
                  obtain ⟨z2, j, hj, rfl, rfl, rfl⟩ := hrel
                  by_cases hjt : j < sx.ms.length
                  · have hjti : (j : Int) < (sx.ms.length : Int) := by omega
                    obtain ⟨g2, o2, rfl, hg2, hc2⟩ := HMr.out (by omega)
                    have f1 := (hc2 j hjt).2
                    unfold ME.fv at f1
                    clear hc2
                    go_wp2_with fail
                    go_roundw
                    case rel => exact ⟨_, j + 1, by omega, rfl, by go_num, (by first | rfl | trivial)⟩
                    case measure => simp [intOf]; omega
                  · obtain rfl : j = sx.ms.length := by omega
                    have HBK := Lib.hid (HKs.out ⟨hu, hmm, ht⟩)
                    by_cases hz : 6000 < z2
                    · go_wp2_with fail
                      go_ret
                      exact ⟨true, rfl, HBY.out, fun h => by cases h⟩
                    · go_wp2_with fail
                      go_roundw
                      case rel => exact ⟨_, k + 1, by omega, rfl, by go_num, HBY.out, HBK⟩
                      case measure => simp [intOf]; omega
              · have qt : (300 : Int) < (sx.st.length : Int) := by omega
                go_wp2_with fail
                go_ret
                exact ⟨true, rfl, HBY.out, fun h => by cases h⟩
            · have qm : (300 : Int) < (sx.ms.length : Int) := by omega
              go_wp2_with fail
              go_ret
              exact ⟨true, rfl, HBY.out, fun h => by cases h⟩
          · have qu : (300 : Int) < (sx.us.length : Int) := by omega
            go_wp2_with fail
            go_ret
            exact ⟨true, rfl, HBY.out, fun h => by cases h⟩
        · obtain rfl : k = S.length := by omega
          have HB := Lib.hid hb
          clear hb
          go_wp2_with fail
          go_ret
          refine ⟨false, rfl, HB.out, fun _ => ⟨hml, hsl, fun s hs => ?_⟩⟩
          obtain ⟨i, hi, rfl⟩ := List.mem_iff_getElem.1 hs
          have := HK.out i hi
          rw [List.getD_eq_getElem?_getD, List.getElem?_eq_getElem hi] at this
          exact this
    · have q1 : ¬ (300 : Int) < (ml.length : Int) := by omega
      have q2 : (120 : Int) < (S.length : Int) := by omega
      go_enter Try.func8, Try.ntmps8
      go_wp2_with fail
      go_ret
      exact ⟨true, rfl, Below.refl _ _, fun h => by cases h⟩
  · have q1 : (300 : Int) < (ml.length : Int) := by omega
    go_enter Try.func8, Try.ntmps8
    go_wp2_with fail
    go_ret
    exact ⟨true, rfl, Below.refl _ _, fun h => by cases h⟩
end Go.Proofs.Ytiphbnmnoofpkaa
