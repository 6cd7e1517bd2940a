/- The desk's lies. -/
import Derived.Test.YtflkhnmggmfhfaaGreatD16g
import Derived.BigQuiet
namespace Go.Proofs.YtflkhnmggmfhfaaGreat
open Go.RowKit

theorem fl_over {fl : List ByteArray} {r k : Nat} (h1 : fl.length ≤ k) (h2 : k < fl.length + r) : (fl ++ List.replicate r overB).getD k ByteArray.empty = overB := by
  rw [List.getD_eq_getElem?_getD, List.getElem?_append_right h1, List.getElem?_replicate, if_pos (by omega)]
  rfl
theorem txs_take {w : World} {g n cp m : Nat} {fl : List ByteArray} {r : Nat} (h : w.ownsRow 0 9 1 (.slice (some ⟨g, 0, none⟩) (fl.length + r) cp) n (tcs (fl ++ List.replicate r overB))) (hn : n = fl.length + r) (hm : m = fl.length) : Txs w (.slice (some ⟨g, 0, none⟩) m cp) fl := by
  subst hm hn
  refine ⟨_, cp, rfl, fun h0 => ⟨g, 0, rfl, (h.lt g rfl).2, fun i hi => ?_⟩⟩
  rw [Nat.zero_add, h.cellAt i (by omega), tcs_at _ i (by simp; omega), List.getD_eq_getElem?_getD, List.getElem?_append_left hi, List.getD_eq_getElem?_getD]
set_option maxRecDepth 100000 in
set_option maxHeartbeats 16000000 in
theorem lies_any {D : Nat} {v : DV} {c : DC} {w : World} (h : DK D v c w) (hdb : DB c) (e : EV) (us : List Int) (ms : List ME) (hl : EvL us ms c) (he : EvAt w e us ms) (hfl : ∀ m ∈ ms, m.fl.length ≤ 6000) :
    Calls Tryz.prog 14 #[.pointer (some ⟨D, 0, none⟩), .agg (evA e)] w fun r w' => r = .returned (.bool true) ∧ Below w.heap.size w w' := by
  obtain ⟨W1, hW1⟩ : ∃ W1, w.alloc (.cells (evA e) 45) = W1 := ⟨_, rfl⟩
  have h1 : W1.heap[w.heap.size]? = some (.cells (evA e) 45 (0, 0)) := by rw [← hW1]; exact heap_new _ _
  have hb1 : Below w.heap.size w W1 := by rw [← hW1]; exact below_box (Below.refl _ _) (Nat.le_refl _) _
  have hk1 := h.on hb1
  have he1 := he.on hb1
  obtain ⟨au, cu, evu, hus⟩ := he1.uids
  obtain ⟨⟨am, cm, evm, hms⟩, hfls⟩ := he1.marks
  have b8 : W1.cell? ⟨w.heap.size, 8, none⟩ = some (.slice au us.length cu) := by rw [← evu]; exact cell_of h1 8
  have b9 : W1.cell? ⟨w.heap.size, 9, none⟩ = some (.slice am ms.length cm) := by rw [← evm]; exact cell_of h1 9
  obtain ⟨_, d1, d2, d3, _⟩ := hk1.cells
  obtain ⟨n, hn3, hU⟩ := hl.uids
  have hUl : c.U.length = n := by rw [hU]; exact lay_len _ us n (by omega)
  have hrU := hk1.uids
  rw [hUl] at hrU
  obtain ⟨sa, sc, es⟩ := ownsRow_shape hrU
  rw [es] at d1 hrU
  have HU : Hid (∀ k, k < n → ∃ g, sa = some ⟨g, 0, none⟩ ∧ ∀ m, (W1.drewN m).cell? ⟨g, k, none⟩ = some (.int .i64 (if k < us.length then us.getD k 0 else 1))) := Lib.hid (fun k hk => by
    rcases hrU.2 with ⟨q, h0⟩ | ⟨g, cap, cur, q, _⟩
    · omega
    · injection q with q1 q2 q3
      subst q1
      refine ⟨g, rfl, fun m => ?_⟩
      rw [show (W1.drewN m).cell? ⟨g, k, none⟩ = W1.cell? ⟨g, k, none⟩ from rfl, hrU.cellAt k (by omega), ic_at c.U k (by omega), hU, lay_at _ us n k 0 hk])
  have HUs : Hid (0 < us.length → ∃ g o, au = some ⟨g, o, none⟩ ∧ ∀ m k, k < us.length → (W1.drewN m).cell? ⟨g, o + k, none⟩ = some (.int .i64 (us.getD k 0))) := Lib.hid (fun q => by
    obtain ⟨g, o, e1, _, e3⟩ := hus q
    exact ⟨g, o, e1, fun m k hk => e3 k hk⟩)
  obtain ⟨j, hj⟩ : ∃ j, c.K.length = j := ⟨_, rfl⟩
  have hrK := hk1.marks
  rw [hj] at hrK
  have hjm := hl.lenK
  rw [hj] at hjm
  obtain ⟨ka, kc, ek⟩ := ownsRow_shape hrK
  obtain ⟨gK, rfl⟩ : ∃ gK, ka = some ⟨gK, 0, none⟩ := by
    rcases hrK.2 with ⟨_, q⟩ | ⟨g, cap, cur, q, _⟩
    · omega
    · rw [ek] at q
      injection q with q1
      exact ⟨g, q1⟩
  rw [ek] at d2 hrK
  have HK : Hid (∀ (i : Nat) (p : Int × Value), c.K[i]? = some p → ∀ m, (W1.drewN m).cell? ⟨gK, i * 2, none⟩ = some (.int .i64 p.1) ∧ (W1.drewN m).cell? ⟨gK, i * 2 + 1, none⟩ = some p.2) := Lib.hid (fun i p hp m => by
    have hi : i < c.K.length := (List.getElem?_eq_some_iff.1 hp).1
    obtain ⟨q1, q2⟩ := kC_at c.K i p hp
    exact ⟨(hrK.cellAt (i * 2) (by omega)).trans q1, (hrK.cellAt (i * 2 + 1) (by omega)).trans q2⟩)
  obtain ⟨fa, fc, ef⟩ := ownsRow_shape hk1.flags
  have hrF := hk1.flags
  rw [ef] at d3 hrF
  have HF : Hid (∀ (i : Nat) (f : FE), c.F[i]? = some f → ∃ g, fa = some ⟨g, 0, none⟩ ∧ i < c.F.length ∧ ∀ m, (W1.drewN m).cell? ⟨g, i, none⟩ = some f.v) := Lib.hid (fun i f hf => by
    have hi : i < c.F.length := (List.getElem?_eq_some_iff.1 hf).1
    rcases hrF.2 with ⟨q, h0⟩ | ⟨g, cap, cur, q, _⟩
    · omega
    · injection q with q1 q2 q3
      subst q1
      refine ⟨g, rfl, hi, fun m => ?_⟩
      refine (hrF.cellAt i (by omega)).trans ?_
      rw [List.getElem?_map, hf]
      rfl)
  have HT : Hid (∀ (i : Nat) (f : FE), c.F[i]? = some f → W1.ownsRow 0 9 1 f.v f.l.length (tcs f.l)) := Lib.hid (fun i f hf => hk1.fls f (List.mem_of_getElem? hf))
  have HMs : Hid (0 < ms.length → ∃ g o, am = some ⟨g, o, none⟩ ∧ ∀ m k, k < ms.length → (W1.drewN m).cell? ⟨g, o + k * 2, none⟩ = some (.int .i64 (ms.getD k ⟨0, none, 0, []⟩).uid) ∧ (W1.drewN m).cell? ⟨g, o + k * 2 + 1, none⟩ = some (ms.getD k ⟨0, none, 0, []⟩).fv) := Lib.hid (fun q => by
    obtain ⟨g, o, e1, _, e3⟩ := hms q
    exact ⟨g, o, e1, fun m k hk => e3 k hk⟩)
  have HFl : Hid (∀ m ∈ ms, Txs W1 m.fv m.fl) := Lib.hid (fun m hm => (hfls m hm).txs)
  have HFz := Lib.hid hfl
  have HGood := Lib.hid hl.good
  have HRest := Lib.hid hl.rest
  have HB1 := Lib.hid hb1
  have hn1 : n ≤ 1000000 := by have := hdb.u; omega
  have hj1 : j ≤ 1000000 := by have := hdb.k; omega
  have hF1 := hdb.f
  have HL1 : Hid (∀ f ∈ c.F, f.l.length ≤ 1000000) := Lib.hid hdb.l
  have HJ := Lib.hid hj
  have D1 : Hid (∀ m, (W1.drewN m).cell? ⟨D, 1, none⟩ = some (.slice sa n sc)) := Lib.hid (fun _ => d1)
  have D2 : Hid (∀ m, (W1.drewN m).cell? ⟨D, 2, none⟩ = some (.slice (some ⟨gK, 0, none⟩) j kc)) := Lib.hid (fun _ => d2)
  have D3 : Hid (∀ m, (W1.drewN m).cell? ⟨D, 3, none⟩ = some (.slice fa c.F.length fc)) := Lib.hid (fun _ => d3)
  have B8 : Hid (∀ m, (W1.drewN m).cell? ⟨w.heap.size, 8, none⟩ = some (.slice au us.length cu)) := Lib.hid (fun _ => b8)
  have B9 : Hid (∀ m, (W1.drewN m).cell? ⟨w.heap.size, 9, none⟩ = some (.slice am ms.length cm)) := Lib.hid (fun _ => b9)
  clear h hdb hl he hfl h1 hb1 hk1 he1 hus hms hfls b8 b9 d1 d2 d3 hU hUl hrU hrK hrF es ek ef evu evm hj
  go_enter Tryz.func14, Tryz.ntmps14
  go_upto_region 1 with fail
  (try rw [hW1])
  clear hW1
  go_upto_region 2 with fail
  go_loopw [5] (fun i wr => ∃ (k : Nat) (X : World), X = wr ∧ k ≤ n ∧ i = .int .i64 k ∧ (∃ m, X = W1.drewN m)) (fun i _ => n - (intOf i).toNat)
  case atStart => exact ⟨0, _, rfl, Nat.zero_le _, rfl, ⟨0, rfl⟩⟩
  case round =>
  obtain ⟨k, X, hX, hk, rfl, ⟨dm, hdm⟩⟩ := hrel
  subst hX
  have u1 := D1.out dm
  have u8 := B8.out dm
  have u9 := B9.out dm
  have u2 := D2.out dm
  rw [← hdm] at u1 u8 u9 u2
  have HDm := Lib.hid hdm
  by_cases hlt : k < n
  · have hlti : (k : Int) < (n : Int) := by omega
    obtain ⟨g, rfl, hg⟩ := HU.out k hlt
    have a1 := hg dm
    rw [← hdm] at a1
    by_cases hkl : k < us.length
    ·
      as_aux_lemma =>
        rw [if_pos hkl] at a1
        obtain ⟨g2, o2, rfl, hc2⟩ := HUs.out (by omega)
        have b1 := hc2 dm k hkl
        rw [← hdm] at b1
        have hkli : (k : Int) < (us.length : Int) := by omega
        have q1 : decide (k < us.length) = true := by simpa using hkl
        have q2 : decide (us.length ≤ k) = false := by simp; omega
        clear hc2 hdm hg
        generalize us.getD k 0 = x at *
        have q3 : (x != x) = false := by simp
        go_upto_region 4 with fail
        go_quiet (fail)
        go_wp2_with fail
        go_roundw
        case rel => exact ⟨k + 1, _, rfl, by omega, by go_num, ⟨_, by rw [HDm.out, World.drewN_drewN]⟩⟩
        case measure => simp [intOf]; omega
    ·
      as_aux_lemma =>
        rw [if_neg hkl] at a1
        have hkli : ¬ (k : Int) < (us.length : Int) := by omega
        have q1 : decide (k < us.length) = false := by simp; omega
        have q2 : decide (us.length ≤ k) = true := by simp; omega
        clear hdm hg
        go_upto_region 4 with fail
        go_quiet (fail)
        go_wp2_with fail
        go_roundw
        case rel => exact ⟨k + 1, _, rfl, by omega, by go_num, ⟨_, by rw [HDm.out, World.drewN_drewN]⟩⟩
        case measure => simp [intOf]; omega
  · obtain rfl : k = n := by omega
    clear hdm
    go_upto_region 7 with fail
    clear u1 u8 u9 u2
    go_loopw [6] (fun i wr => ∃ (t : Nat) (Y : World), Y = wr ∧ t ≤ j ∧ i = .int .i64 t ∧ (∃ m, Y = W1.drewN m)) (fun i _ => j - (intOf i).toNat)
    case atStart => exact ⟨0, _, rfl, Nat.zero_le _, rfl, ⟨dm, HDm.out⟩⟩
    case round =>
    obtain ⟨t, Y, hY, ht, rfl, ⟨dn, hdn⟩⟩ := hrel
    subst hY
    have u9 := B9.out dn
    have u2 := D2.out dn
    have u3 := D3.out dn
    rw [← hdn] at u9 u2 u3
    have HDn := Lib.hid hdn
    by_cases hlt2 : t < j
    · have hlti2 : (t : Int) < (j : Int) := by omega
      by_cases htm : t < ms.length
      ·
        as_aux_lemma =>
          have htmi : ¬ (ms.length : Int) ≤ (t : Int) := by omega
          obtain ⟨m, g, cp, r, m1, m2, m3, m4⟩ := HGood.out t htm
          have hmm : m ∈ ms := List.mem_of_getElem? m1
          obtain ⟨k1, k2⟩ := HK.out t _ m4 dn
          obtain ⟨gF, rfl, hiF, f1⟩ := HF.out t _ m2
          have f1 := f1 dn
          have hrow := HT.out t _ m2
          have hln := HL1.out _ (List.mem_of_getElem? m2)
          have hfz := HFz.out m hmm
          obtain ⟨gm, om, rfl, hc⟩ := HMs.out (by omega)
          obtain ⟨e1, e2⟩ := hc dn t htm
          rw [show ms.getD t ⟨0, none, 0, []⟩ = m by rw [List.getD_eq_getElem?_getD, m1]; rfl] at e1 e2
          rw [show m.fv = .slice m.fa m.fl.length m.fc from rfl] at e2
          rw [← hdn] at k1 k2 f1 e1 e2
          have hrl : (m.fl ++ List.replicate r overB).length = m.fl.length + r := by simp
          have hln2 : m.fl.length + r ≤ 1000000 := by rw [← hrl]; exact hln
          have hrow2 : W1.ownsRow 0 9 1 (.slice (some ⟨g, 0, none⟩) (m.fl.length + r) cp) (m.fl.length + r) (tcs (m.fl ++ List.replicate r overB)) := by rw [← hrl]; rw [hrl]; have := hrow; rw [hrl] at this; exact this
          have hcp : m.fl.length + r ≤ cp := row_cap hrow2
          have tx1 := txs_take hrow2 rfl rfl
          have tx2 := HFl.out m hmm
          have HWd : Hid (∀ q, Calls Tryz.prog 50 #[.slice (some ⟨g, 0, none⟩) m.fl.length cp, .slice m.fa m.fl.length m.fc] (Y.drewN q) (fun e w' => e = .returned (.bool true) ∧ ∃ s, w' = (Y.drewN q).drewN s)) := Lib.hid (fun q => wordsL_dr _ _ m.fl _ (by rw [hdn]; exact tx1.on (below_drewN (below_drewN (Below.refl _ _) dn) q)) (by rw [hdn]; exact tx2.on (below_drewN (below_drewN (Below.refl _ _) dn) q)) (by omega))
          have HOv : Hid (∀ q i, m.fl.length ≤ i → i < m.fl.length + r → (W1.drewN q).cell? ⟨g, i, none⟩ = some (.string ⟨#[111, 118, 101, 114]⟩)) := Lib.hid (fun q i h1 h2 => by
            refine (hrow2.cellAt i (by omega)).trans ?_
            rw [tcs_at _ i (by omega), fl_over h1 h2]
            rfl)
          have HKf : Hid (∀ q, (W1.drewN q).cell? ⟨gF, t, none⟩ = some (.slice (some ⟨g, 0, none⟩) (m.fl.length + r) cp)) := Lib.hid (fun q => by rw [hdn] at f1; exact f1)
          have q3 : (m.uid != m.uid) = false := by simp
          have hcpi : (m.fl.length : Int) ≤ (cp : Int) := by omega
          have hlri : (m.fl.length : Int) ≤ ((m.fl.length + r : Nat) : Int) := by omega
          have hiFi : (t : Int) < (c.F.length : Int) := by omega
          clear hc hdn hrow hrow2 tx1 tx2 m1 m2 m4 hrl hln hmm
          generalize m.uid = x at *
          generalize m.fa = xa at *
          generalize m.fc = xc at *
          obtain ⟨z, hz⟩ : ∃ z, m.fl.length = z := ⟨_, rfl⟩
          obtain ⟨y, hy⟩ : ∃ y, z + r = y := ⟨_, rfl⟩
          rw [hz] at k2 f1 e2 HWd HOv HKf hcpi hlri hln2 hcp hfz
          rw [hy] at f1 HOv HKf hlri hln2 hcp
          have hzy : z ≤ y := by omega
          clear hz hy
          go_upto_region 13 with fail
          go_quiet ((go_at_call 50; exact Calls.quiet_of (HWd.out _)))
          go_upto_region 16 with fail
          go_loopw [8] (fun i wr => ∃ (s : Nat) (Z : World), Z = wr ∧ z ≤ s ∧ s ≤ y ∧ i = .int .i64 s ∧ (∃ q, Z = W1.drewN q)) (fun i _ => y - (intOf i).toNat)
          case atStart => exact ⟨z, _, rfl, Nat.le_refl _, hzy, rfl, ⟨_, by rw [HDn.out, World.drewN_drewN]⟩⟩
          case round =>
          obtain ⟨s, Z, hZ, hs0, hs, rfl, ⟨dq, hdq⟩⟩ := hrel
          subst hZ
          have v3 := D3.out dq
          have vf := HKf.out dq
          rw [← hdq] at v3 vf
          have HDq := Lib.hid hdq
          by_cases hlt3 : s < y
          · have hlti3 : (s : Int) < (y : Int) := by omega
            have vo := HOv.out dq s hs0 hlt3
            rw [← hdq] at vo
            clear hdq
            go_wp2_with fail
            go_roundw
            case rel => exact ⟨s + 1, _, rfl, by omega, by omega, by go_num, ⟨dq, HDq.out⟩⟩
            case measure => simp [intOf]; omega
          · obtain rfl : s = y := by omega
            clear hdq
            go_wp2_with fail
            go_roundw
            case rel => exact ⟨t + 1, _, rfl, by omega, by go_num, ⟨dq, HDq.out⟩⟩
            case measure => simp [intOf]; omega
      ·
        as_aux_lemma =>
          have htmi : (ms.length : Int) ≤ (t : Int) := by omega
          obtain ⟨k1, k2⟩ := HK.out t _ (HRest.out t (by omega) (by rw [HJ.out]; exact hlt2)) dn
          rw [← hdn] at k1 k2
          clear hdn
          go_wp2_with fail
          go_roundw
          case rel => exact ⟨t + 1, _, rfl, by omega, by go_num, ⟨dn, HDn.out⟩⟩
          case measure => simp [intOf]; omega
    · obtain rfl : t = j := by omega
      have HB2 : Hid (Below w.heap.size w Y) := Lib.hid (by rw [hdn]; exact below_drewN HB1.out dn)
      clear hdn
      go_wp2_with fail
      go_ret
      exact ⟨rfl, HB2.out⟩
end Go.Proofs.YtflkhnmggmfhfaaGreat
