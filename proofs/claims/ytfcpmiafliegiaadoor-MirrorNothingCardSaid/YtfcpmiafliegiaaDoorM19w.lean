/- What came in: a script; long. -/
import Derived.Test.YtfcpmiafliegiaaDoorM19r
namespace Go.Proofs.YtfcpmiafliegiaaDoor
open Go.RowKit

/-- A list of things of size z in memory, of each of which Pr holds. -/
def RowOf (W : World) (z : Nat) (Pr : List Value → Prop) (v : Value) : Prop := ∃ a n c, v = .slice a n c ∧ n ≤ 9223372036854775807 ∧ (0 < n → ∃ g o, a = some ⟨g, o, none⟩ ∧ g < W.heap.size ∧ ∀ i, i < n → ∃ cs : List Value, cs.length = z ∧ Pr cs ∧ W.rangeAt g (o + i * z) cs)
/-- A datum's cells. -/
def DatC (W : World) (cs : List Value) : Prop := ∃ s k m t kv, cs = [.string s, .int .i64 k, .int .i64 m, .string t, kv] ∧ LiesV W kv
def SliC (cs : List Value) : Prop := ∃ a n c, cs = [.slice a n c]
/-- A step's cells. -/
structure StC (W : World) (cs : List Value) : Prop where
  len : cs.length = 74
  one : ∀ v ∈ cs, v.oneCell' = true
  set : ∃ a n c, cs[11]? = some (.slice a n c)
  args : ∃ a n c, cs[55]? = some (.slice a n c)
  data : ∃ v, cs[61]? = some v ∧ RowOf W 5 (DatC W) v
  uids : ∃ a n c, cs[71]? = some (.slice a n c)
  flags : ∃ v, cs[72]? = some v ∧ RowOf W 1 SliC v
  known : ∃ a n c, cs[73]? = some (.slice a n c)
  kind : ∃ k, cs[51]? = some (.int .i64 k)
  num : ∃ k, cs[57]? = some (.int .i64 k)
theorem range_on {W X : World} {g o : Nat} {cs : List Value} (h : W.rangeAt g o cs) (hb : Below W.heap.size W X) (hg : g < W.heap.size) : X.rangeAt g o cs := by
  intro j u hj
  have := h j u hj
  rw [hb.cell (p := ⟨g, o + j, none⟩) hg]
  exact this
def stZ : Array Value := #[.int .i64 0, .int .i64 0, .string ⟨#[]⟩, .int .i64 0, .bool false, .string ⟨#[]⟩, .string ⟨#[]⟩, .string ⟨#[]⟩, .string ⟨#[]⟩, .string ⟨#[]⟩, .string ⟨#[]⟩, .slice none 0 0, .slice none 0 0, .int .i64 0, .bool false, .slice none 0 0, .bool false, .string ⟨#[]⟩, .bool false, .string ⟨#[]⟩, .bool false, .int .i64 0, .string ⟨#[]⟩, .string ⟨#[]⟩, .slice none 0 0, .int .i64 0, .int .i64 0, .int .i64 0, .int .i64 0, .int .i64 0, .int .i64 0, .int .i64 0, .int .i64 0, .slice none 0 0, .bool false, .string ⟨#[]⟩, .slice none 0 0, .int .i64 0, .slice none 0 0, .bool false, .bool false, .int .i64 0, .int .i64 0, .int .i64 0, .int .i64 0, .int .i64 0, .int .i64 0, .int .i64 0, .string ⟨#[]⟩, .slice none 0 0, .slice none 0 0, .int .i64 0, .string ⟨#[]⟩, .int .i64 0, .int .i64 0, .slice none 0 0, .string ⟨#[]⟩, .int .i64 0, .string ⟨#[]⟩, .slice none 0 0, .slice none 0 0, .slice none 0 0, .slice none 0 0, .slice none 0 0, .slice none 0 0, .bool false, .int .i64 0, .bool false, .int .i64 0, .int .i64 0, .int .i64 0, .slice none 0 0, .slice none 0 0, .slice none 0 0]
theorem Tryd.sizeSt : (Tryd.prog.info? 49).map (·.size) = some 74 := by kernel_rfl
theorem Tryd.sizeVa : (Tryd.prog.info? 64).map (·.size) = some 4 := by kernel_rfl
def LongOut (w : World) (e : Ending) (w' : World) : Prop := ∃ b : Bool, e = .returned (.bool b) ∧ Below w.heap.size w w'
set_option maxRecDepth 20000 in
set_option maxHeartbeats 4000000 in
theorem long_any (W w : World) (v : Value) (hv : RowOf W 74 (StC W) v) (hw : Below W.heap.size W w) :
    Calls Tryd.prog 6 #[v] w (LongOut w) := by
  obtain ⟨a, N, c, rfl, hN, hrow⟩ := hv
  by_cases hbig : (150 : Int) < (N : Int)
  · have b0 := Lib.hid (Below.refl w.heap.size w)
    clear hrow hw
    go_enter Tryd.func6, Tryd.ntmps6
    go_wp2_with fail
    go_ret
    exact ⟨true, rfl, b0.out⟩
  · have HN : Hid (N ≤ 150) := Lib.hid (by omega)
    have HR := Lib.hid hrow
    have HW := Lib.hid hw
    clear hrow hw hN
    go_enter Tryd.func6, Tryd.ntmps6
    go_wp2_with fail
    go_loopw [3, 4] (fun n i wr => ∃ (z : Int) (j : Nat) (X : World), X = wr ∧ n = .int .i64 z ∧ i = .int .i64 j ∧ j ≤ N ∧ Below w.heap.size w X) (fun _ i _ => N - (intOf i).toNat)
    case atStart => exact ⟨0, 0, w, rfl, rfl, rfl, Nat.zero_le _, Below.refl _ _⟩
    case round =>
      obtain ⟨z, j, X, rfl, rfl, rfl, hj, hbX⟩ := hrel
      have HB := Lib.hid hbX
      clear hbX
      by_cases hlt : j < N
      · have hlti : (j : Int) < (N : Int) := by omega
        have hjb : (N : Int) ≤ 9223372036854775807 := by have := HN.out; omega
        obtain ⟨g, o, rfl, hg, hall⟩ := HR.out (by omega)
        obtain ⟨cs, hlen, hst, hrg⟩ := hall j hlt
        have bWX : Below W.heap.size W X := HW.out.trans (HB.out.mono HW.out.size)
        have HRG := Lib.hid (range_on hrg bWX hg)
        obtain ⟨Y, hY⟩ : ∃ Y, (X.alloc (.cells stZ 49)).setRow X.heap.size cs.toArray = Y := ⟨_, rfl⟩
        obtain ⟨bY, rY⟩ := box_below hY
        have hc : ∀ i u, cs[i]? = some u → Y.cell? ⟨X.heap.size, i, none⟩ = some u := fun i u h => by rw [cell_of rY]; simpa using h
        obtain ⟨sa, sn, sc, hs⟩ := hst.set
        obtain ⟨aa, an, ac, ha⟩ := hst.args
        obtain ⟨dv, hdv, da, dn, dc, rfl, hdn, hdat⟩ := hst.data
        obtain ⟨ua, un, uc, hu⟩ := hst.uids
        obtain ⟨fv, hfv, fa, fn, fc, rfl, hfn, hfl⟩ := hst.flags
        obtain ⟨ka, kn, kc, hk⟩ := hst.known
        obtain ⟨kd, hkd⟩ := hst.kind
        obtain ⟨nm, hnm⟩ := hst.num
        have HC : Hid (∀ X2, Below Y.heap.size Y X2 → X2.cell? ⟨X.heap.size, 11, none⟩ = some (.slice sa sn sc) ∧ X2.cell? ⟨X.heap.size, 55, none⟩ = some (.slice aa an ac) ∧ X2.cell? ⟨X.heap.size, 61, none⟩ = some (.slice da dn dc) ∧ X2.cell? ⟨X.heap.size, 71, none⟩ = some (.slice ua un uc) ∧ X2.cell? ⟨X.heap.size, 72, none⟩ = some (.slice fa fn fc) ∧ X2.cell? ⟨X.heap.size, 73, none⟩ = some (.slice ka kn kc) ∧ X2.cell? ⟨X.heap.size, 51, none⟩ = some (.int .i64 kd) ∧ X2.cell? ⟨X.heap.size, 57, none⟩ = some (.int .i64 nm)) := Lib.hid (fun X2 h2 => by
          have k : ∀ i u, cs[i]? = some u → X2.cell? ⟨X.heap.size, i, none⟩ = some u := fun i u h => by rw [h2.cell (p := ⟨X.heap.size, i, none⟩) (lt_of_heap rY)]; exact hc i u h
          exact ⟨k _ _ hs, k _ _ ha, k _ _ hdv, k _ _ hu, k _ _ hfv, k _ _ hk, k _ _ hkd, k _ _ hnm⟩)
        have HSz : Hid ((Tryd.prog.info? 49).map (·.size) = some cs.toArray.size) := Lib.hid (by rw [Tryd.sizeSt]; simp [hlen])
        have HSl : Hid ((Tryd.prog.info? 49).map (·.size) = some cs.length) := Lib.hid (by rw [Tryd.sizeSt, hlen])
        have HO : Hid (cs.toArray.all (·.oneCell') = true) := Lib.hid (all_oneCell_toArray hst.one)
        have HZc : Hid (stZ.size = cs.toArray.size) := Lib.hid (by simp [hlen, stZ])
        have HBY : Hid (Below w.heap.size w Y) := Lib.hid (HB.out.trans (bY.mono HB.out.size))
        have HD : Hid (∀ X2, Below Y.heap.size Y X2 → 0 < dn → ∃ g o, da = some ⟨g, o, none⟩ ∧ ∀ i, i < dn → ∃ k m t va vn vc, X2.rangeAt g (o + i * 5 + 1) [.int .i64 k, .int .i64 m, .string t, .slice va vn vc] ∧ LiesV W (.slice va vn vc)) := Lib.hid (fun X2 h2 h0 => by
          obtain ⟨g', o', rfl, hg', hal⟩ := hdat h0
          refine ⟨g', o', rfl, fun i hi => ?_⟩
          obtain ⟨es, _, ⟨s, k, m, t, kv, rfl, hlv⟩, hr⟩ := hal i hi
          have bW2 : Below W.heap.size W X2 := (bWX.trans (bY.mono bWX.size)).trans (h2.mono (Nat.le_trans bWX.size bY.size))
          obtain ⟨va, vn, vc, rfl⟩ := hlv.shape
          refine ⟨k, m, t, va, vn, vc, fun jj u hj => ?_, hlv⟩
          have := range_on hr bW2 hg' (jj + 1) u (by simpa using hj)
          rw [show o' + i * 5 + 1 + jj = o' + i * 5 + (jj + 1) from by omega]
          exact this)
        have HV : Hid (∀ X2, Below Y.heap.size Y X2 → Below W.heap.size W X2) := Lib.hid (fun X2 h2 => (bWX.trans (bY.mono bWX.size)).trans (h2.mono (Nat.le_trans bWX.size bY.size)))
        have HF : Hid (∀ X2, Below Y.heap.size Y X2 → 0 < fn → ∃ g o, fa = some ⟨g, o, none⟩ ∧ ∀ i, i < fn → ∃ va vn vc, X2.cell? ⟨g, o + i, none⟩ = some (.slice va vn vc)) := Lib.hid (fun X2 h2 h0 => by
          obtain ⟨g', o', rfl, hg', hal⟩ := hfl h0
          refine ⟨g', o', rfl, fun i hi => ?_⟩
          obtain ⟨es, _, ⟨va, vn, vc, rfl⟩, hr⟩ := hal i hi
          have bW2 : Below W.heap.size W X2 := (bWX.trans (bY.mono bWX.size)).trans (h2.mono (Nat.le_trans bWX.size bY.size))
          have := range_on hr bW2 hg' 0 _ rfl
          exact ⟨va, vn, vc, by simpa using this⟩)
        have HY := Lib.hid hY
        have HDN := Lib.hid hdn
        have HFN := Lib.hid hfn
        clear hY bY rY hc hs ha hdv hdat hu hfv hfl hk hkd hnm hst hlen hrg hall hg bWX hdn hfn HB
        go_upto_region 8 with (first | (refine wpList_load_mid rfl 49 _ rfl g (o + j * 74) rfl cs _ HRG.out Tryd.underlying49 rfl HSl.out ?_) | (refine wpList_store_row rfl 49 _ _ rfl X.heap.size cs.toArray rfl rfl 49 _ (heap_new _ _) HSz.out HZc.out HO.out ?_))
        refine wp_gen (fun Y' hY' => ?_)
        obtain rfl : Y = Y' := (hY'.trans HY.out).symm
        clear hY' HY HRG HO HSz HSl HZc
        obtain ⟨c11, c55, c61, c71, c72, c73, c51, c57⟩ := HC.out Y (Below.refl _ _)
        go_upto_region 11 with fail
        · go_ret
          exact ⟨true, rfl, HBY.out⟩
        clear c11 c55 c61 c71 c72 c73 c51 c57
        go_wp2_with fail
        go_loopw [3, 6] (fun n k wr => ∃ (z : Int) (k1 : Nat) (X2 : World), X2 = wr ∧ n = .int .i64 z ∧ k = .int .i64 k1 ∧ k1 ≤ dn ∧ Below Y.heap.size Y X2) (fun _ k _ => dn - (intOf k).toNat)
        case atStart => exact ⟨_, 0, Y, rfl, rfl, rfl, Nat.zero_le _, Below.refl _ _⟩
        case round =>
          obtain ⟨z1, k1, X2, rfl, rfl, rfl, hk1, hb2⟩ := hrel
          have HB2 := Lib.hid hb2
          clear hb2
          obtain ⟨_, _, c61, _, _, _, _, _⟩ := HC.out _ HB2.out
          by_cases hk1l : k1 < dn
          · have hk1i : (k1 : Int) < (dn : Int) := by omega
            have hk1b : (dn : Int) ≤ 9223372036854775807 := by have := HDN.out; omega
            obtain ⟨g', o', rfl, hdall⟩ := HD.out _ HB2.out (by omega)
            obtain ⟨vk, vm, vt, va, vn, vc, hvr, hlv⟩ := hdall k1 hk1l
            have HVR := Lib.hid hvr
            have HVC := Lib.hid (values_any hlv vk vm z1 vt X2 (HV.out _ HB2.out))
            clear hdall hvr hlv
            go_wp2_with (first | (refine wpList_load_mid rfl 64 _ rfl g' (o' + k1 * 5 + 1) rfl [.int .i64 vk, .int .i64 vm, .string vt, .slice va vn vc] _ HVR.out Tryd.underlying64 rfl Tryd.sizeVa ?_) | (go_at_call 17; refine HVC.out.mono ?_; rintro e w3 ⟨z3, rfl, hb3⟩; have HB3 := Lib.hid hb3; clear hb3))
            go_roundw
            case rel => exact ⟨_, k1 + 1, _, rfl, rfl, by go_num, by omega, HB2.out.trans (HB3.out.mono HB2.out.size)⟩
            case measure => simp [intOf]; omega
          · have hk1i : ¬ (k1 : Int) < (dn : Int) := by omega
            go_wp2_with fail
            go_loopw [3, 7] (fun n k wr => ∃ (z : Int) (k2 : Nat), n = .int .i64 z ∧ k = .int .i64 k2 ∧ k2 ≤ fn ∧ wr = X2) (fun _ k _ => fn - (intOf k).toNat)
            case atStart => exact ⟨_, 0, rfl, rfl, Nat.zero_le _, rfl⟩
            case round =>
              obtain ⟨z2, k2, rfl, rfl, hk2, rfl⟩ := hrel
              clear c61
              by_cases hk2l : k2 < fn
              · have hk2i : (k2 : Int) < (fn : Int) := by omega
                have hk2b : (fn : Int) ≤ 9223372036854775807 := by have := HFN.out; omega
                obtain ⟨_, _, _, _, c72, _, _, _⟩ := HC.out _ HB2.out
                obtain ⟨g', o', rfl, hfall⟩ := HF.out _ HB2.out (by omega)
                obtain ⟨va, vn, vc, hfc⟩ := hfall k2 hk2l
                clear hfall
                go_wp2_with fail
                go_roundw
                case rel => exact ⟨_, k2 + 1, rfl, by go_num, by omega, trivial⟩
                case measure => simp [intOf]; omega
              · have hk2i : ¬ (k2 : Int) < (fn : Int) := by omega
                obtain ⟨e11, e55, e61, e71, e72, e73, e51, e57⟩ := HC.out _ HB2.out
                by_cases h11 : kd = 11
                · have d1 : (kd == 11) = true := by simp [h11]
                  by_cases h3 : (300 : Int) < nm
                  · have d2 : decide ((300 : Int) < nm) = true := by simpa using h3
                    by_cases h26 : nm ≤ (262144 : Int)
                    · have d3 : decide (nm ≤ (262144 : Int)) = true := by simpa using h26
                      go_wp2_with fail
                      · go_ret
                        exact ⟨_, rfl, HBY.out.trans (HB2.out.mono HBY.out.size)⟩
                      · go_roundw
                        case rel => exact ⟨_, j + 1, _, rfl, rfl, by go_num, by omega, HBY.out.trans (HB2.out.mono HBY.out.size)⟩
                        case measure => simp [intOf]; omega
                    · have d3 : decide (nm ≤ (262144 : Int)) = false := by simpa using h26
                      go_wp2_with fail
                      · go_ret
                        exact ⟨_, rfl, HBY.out.trans (HB2.out.mono HBY.out.size)⟩
                      · go_roundw
                        case rel => exact ⟨_, j + 1, _, rfl, rfl, by go_num, by omega, HBY.out.trans (HB2.out.mono HBY.out.size)⟩
                        case measure => simp [intOf]; omega
                  · have d2 : decide ((300 : Int) < nm) = false := by simpa using h3
                    go_wp2_with fail
                    · go_ret
                      exact ⟨_, rfl, HBY.out.trans (HB2.out.mono HBY.out.size)⟩
                    · go_roundw
                      case rel => exact ⟨_, j + 1, _, rfl, rfl, by go_num, by omega, HBY.out.trans (HB2.out.mono HBY.out.size)⟩
                      case measure => simp [intOf]; omega
                · have d1 : (kd == 11) = false := by simp [h11]
                  go_wp2_with fail
                  · go_ret
                    exact ⟨_, rfl, HBY.out.trans (HB2.out.mono HBY.out.size)⟩
                  · go_roundw
                    case rel => exact ⟨_, j + 1, _, rfl, rfl, by go_num, by omega, HBY.out.trans (HB2.out.mono HBY.out.size)⟩
                    case measure => simp [intOf]; omega
      · have hlti : ¬ (j : Int) < (N : Int) := by omega
        go_wp2_with fail
        go_ret
        exact ⟨_, rfl, HB.out⟩
end Go.Proofs.YtfcpmiafliegiaaDoor
