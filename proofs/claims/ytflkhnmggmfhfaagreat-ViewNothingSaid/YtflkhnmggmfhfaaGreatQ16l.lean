/- view: leave. -/
import Derived.Test.YtflkhnmggmfhfaaGreatQ16h
import Derived.Deep.RegionWith
namespace Go.Proofs.YtflkhnmggmfhfaaGreat
open Go.RowKit

def atU (u : Int) (f : RE → RE) (r : RE) : RE := if r.uid = u then f r else r
theorem map_no {u : Int} {f : RE → RE} : ∀ {R : List RE}, (∀ r ∈ R, r.uid ≠ u) → R.map (atU u f) = R
  | [], _ => rfl
  | r :: R, h => by
    rw [List.map_cons, map_no (fun x hx => h x (List.mem_cons_of_mem _ hx))]
    unfold atU
    rw [if_neg (h r List.mem_cons_self)]
theorem map_hit {u : Int} {f : RE → RE} : ∀ {R : List RE} {m : Int}, riseF m (uidR R) → u ∈ uidR R → R.set (ixP (uidR R) u) (f (R.getD (ixP (uidR R) u) RE0)) = R.map (atU u f)
  | [], _, _, h => by simp [uidR] at h
  | r :: R, m, ⟨a, b⟩, h => by
    have e : uidR (r :: R) = r.uid :: uidR R := rfl
    by_cases hr : r.uid = u
    · have hn : ixP (uidR (r :: R)) u = 0 := by
        rw [e]; unfold ixP; rw [if_neg (by omega)]
      rw [hn]
      show f r :: R = atU u f r :: R.map (atU u f)
      rw [map_no (fun x hx => by
        have := riseF_gt b (x := x.uid) (List.mem_map_of_mem hx)
        omega)]
      unfold atU
      rw [if_pos hr]
    · have hm : u ∈ uidR R := by
        rw [e] at h
        rcases List.mem_cons.1 h with h | h
        · exact absurd h.symm hr
        · exact h
      have hlt := riseF_gt b hm
      have hn : ixP (uidR (r :: R)) u = ixP (uidR R) u + 1 := by
        rw [e]
        show (if r.uid < u then ixP (uidR R) u + 1 else 0) = _
        rw [if_pos hlt]
      rw [hn, List.map_cons]
      show r :: R.set (ixP (uidR R) u) (f (R.getD (ixP (uidR R) u) RE0)) = _
      rw [map_hit b hm]
      unfold atU
      rw [if_neg hr]
theorem map_miss {u : Int} {f : RE → RE} {R : List RE} {m : Int} (hr : riseF m (uidR R)) (h : hitP (uidR R) u = false) : R.map (atU u f) = R :=
  map_no (fun r hr' e => by
    have : hitP (uidR R) u = true := (hitP_iff hr).2 (e ▸ List.mem_map_of_mem hr')
    rw [h] at this
    cases this)
theorem filt_hit : ∀ {C : List Int} {m u : Int}, riseF m C → u ∈ C → C.take (ixP C u) ++ C.drop (ixP C u + 1) = C.filter (fun x => x != u)
  | x :: C, m, u, ⟨a, b⟩, h => by
    by_cases hx : x = u
    · subst hx
      have hn : ixP (x :: C) x = 0 := by unfold ixP; rw [if_neg (by omega)]
      rw [hn]
      show C = _
      rw [List.filter_cons_of_neg (by simp)]
      symm
      rw [List.filter_eq_self]
      intro y hy
      have := riseF_gt b hy
      simp; omega
    · have hm : u ∈ C := by
        rcases List.mem_cons.1 h with h | h
        · exact absurd h.symm hx
        · exact h
      have hlt := riseF_gt b hm
      have hn : ixP (x :: C) u = ixP C u + 1 := by
        show (if x < u then ixP C u + 1 else 0) = _
        rw [if_pos hlt]
      rw [hn, List.filter_cons_of_pos (by simpa using hx)]
      show x :: (C.take (ixP C u) ++ C.drop (ixP C u + 1)) = _
      rw [filt_hit b hm]
theorem filt_miss {C : List Int} {m u : Int} (hr : riseF m C) (h : hitP C u = false) : C.filter (fun x => x != u) = C := by
  rw [List.filter_eq_self]
  intro y hy
  have : y ≠ u := fun e => by
    have : hitP C u = true := (hitP_iff hr).2 (e ▸ hy)
    rw [h] at this
    cases this
  simpa using this
def lvR (R : List RE) (us : List Int) : List RE := us.foldl (fun R u => R.map (atU u goE)) R
def lvC (C : List Int) (us : List Int) : List Int := us.foldl (fun C u => C.filter (fun x => x != u)) C
theorem lvR_snoc (R : List RE) (us : List Int) (u : Int) : lvR R (us ++ [u]) = (lvR R us).map (atU u goE) := by simp [lvR]
theorem lvC_snoc (C us : List Int) (u : Int) : lvC C (us ++ [u]) = (lvC C us).filter (fun x => x != u) := by simp [lvC]
theorem atU_uid {u : Int} {f : RE → RE} (hf : ∀ r, (f r).uid = r.uid) (r : RE) : (atU u f r).uid = r.uid := by unfold atU; split <;> simp [hf]
theorem uidR_map {f : RE → RE} (hf : ∀ r, (f r).uid = r.uid) (R : List RE) : uidR (R.map f) = uidR R := by
  unfold uidR; rw [List.map_map]; exact List.map_congr_left fun r _ => hf r
theorem lvR_uid : ∀ (us : List Int) (R : List RE), uidR (lvR R us) = uidR R
  | [], _ => rfl
  | u :: us, R => (lvR_uid us _).trans (uidR_map (f := atU u goE) (atU_uid (f := goE) (fun _ => rfl)) R)
theorem lvR_len : ∀ (us : List Int) (R : List RE), (lvR R us).length = R.length
  | [], _ => rfl
  | u :: us, R => (lvR_len us _).trans (by simp)
theorem lvC_sub : ∀ (us C : List Int), (lvC C us).Sublist C
  | [], _ => List.Sublist.refl _
  | _ :: us, _ => (lvC_sub us _).trans List.filter_sublist
theorem VOK.leave {R : List RE} {C : List Int} {N : Nat} (h : VOK R C N) (us : List Int) : VOK (lvR R us) (lvC C us) N := by
  have hs : (uidR (lvR R us) ++ lvC C us).Sublist (uidR R ++ C) := by
    rw [lvR_uid]; exact List.Sublist.append (List.Sublist.refl _) (lvC_sub us C)
  refine ⟨riseF_sub h.rise hs, fun x hx => h.top x (hs.subset hx), ?_⟩
  have h1 := lvR_len us R
  have h2 := (lvC_sub us C).length_le
  have := h.len
  omega
theorem VOK.com {R : List RE} {C : List Int} {N : Nat} (h : VOK R C N) : riseF (lastD (uidR R) 0) C := ((riseF_append _ _ _).1 h.rise).2
section
variable {P : Nat} {mk : Bool} {val : Int} {rv cv : Value} {R : List RE} {C : List Int} {w : World} {N : Nat}
/-- The second half of leave's round: a number that is coming. -/
theorem dropC (h : VAt mk P val rv cv R C w) (hk : VOK R C N) (hN : N ≤ 1000000) (u : Int) (hh : hitP C u = true) :
    Calls Tryz.prog 79 #[cv, .int .i64 (ixP C u : Nat), .int .i64 ((ixP C u : Nat) + 1 : Int)] w fun e w' => ∃ cv', e = .returned cv' ∧ w'.heap[P]? = some (selfV mk val rv cv) ∧ VAt mk P val rv cv' R (C.filter (fun x => x != u)) (w'.setCell ⟨P, 3, none⟩ cv') ∧ FO (fpV P rv cv R) (fpV P rv cv' R) w (w'.setCell ⟨P, 3, none⟩ cv') := by
  have hm := ixP_mem hk.com (hitP_mem hh)
  have hl := hk.len
  have := delete_any cv C (ixP C u) w h.com hm.1 (by omega)
  rw [show ((ixP C u + 1 : Nat) : Int) = (ixP C u : Int) + 1 by omega] at this
  refine this.mono ?_
  rintro e w' ⟨v', rfl, ho, hg, hb⟩
  rw [filt_hit hk.com (hitP_mem hh)] at ho
  obtain ⟨q1, q2, q3⟩ := h.newC hg ho (fun b e => .inl (hb ▸ e))
  exact ⟨v', rfl, q1, q2, q3⟩
set_option maxRecDepth 100000 in
set_option maxHeartbeats 600000 in
theorem leave_any (h : VAt mk P val rv cv R C w) (hk : VOK R C N) (hN : N ≤ 1000000) (v : Value) (us : List Int) (hv : Nms w v us) (hn : 0 < us.length → ∀ b, v.ownBlock = some b → b ∉ fpV P rv cv R) (hU : us.length ≤ 1000000) :
    Calls Tryz.prog 67 #[.pointer (some ⟨P, 0, none⟩), v] w fun e w' => e = .returned (.tuple #[]) ∧ VO mk P val (lvR R us) (lvC C us) (fpV P rv cv R) w w' := by
  obtain ⟨av, kv, hve, hvs⟩ := hv
  subst hve
  have HV := Lib.hid hvs
  have HN := Lib.hid hn
  have HK := Lib.hid hk
  have H0 := Lib.hid (VO.refl h)
  clear h hvs hn hk
  go_enter Tryz.func67, Tryz.ntmps67
  go_wp2
  go_loopw [12] (fun i wr => ∃ k : Nat, k ≤ us.length ∧ i = .int .i64 k ∧ VO mk P val (lvR R (us.take k)) (lvC C (us.take k)) (fpV P rv cv R) w wr) (fun i _ => us.length - (intOf i).toNat)
  case atStart => exact ⟨0, Nat.zero_le _, rfl, H0.out⟩
  case round =>
    obtain ⟨k, hk, rfl, hO⟩ := hrel
    by_cases hlt : k < us.length
    · have hlti : (k : Int) < (us.length : Int) := by omega
      obtain ⟨g, off, rfl, hg, hcc⟩ := HV.out (by omega)
      obtain ⟨rv1, cv1, h1, f1⟩ := hO
      have ck := hcc k hlt
      rw [← World.cell?_of_block (a := ⟨g, off + k, none⟩) (f1.keep hg (HN.out (by omega) g rfl))] at ck
      have hst : us.take (k + 1) = us.take k ++ [us.getD k 0] := take_snocI us k hlt
      have HSR : Hid (lvR R (us.take (k + 1)) = (lvR R (us.take k)).map (atU (us.getD k 0) goE)) := Lib.hid (by rw [hst, lvR_snoc])
      have HSC : Hid (lvC C (us.take (k + 1)) = (lvC C (us.take k)).filter (fun x => x != us.getD k 0)) := Lib.hid (by rw [hst, lvC_snoc])
      have hk1 := HK.out.leave (us.take k)
      clear hst hcc
      generalize us.getD k 0 = u at *
      generalize lvR R (us.take k) = R1 at *
      generalize lvC C (us.take k) = C1 at *
      have hl1 := hk1.len
      have hjx := ixP_le C1 u
      have hjl : ixP C1 u ≤ 1000000 := by omega
      have HP := Lib.hid (place_any h1 hk1 hN u)
      have HB : Hid (∀ rv2 R2 W, VAt mk P val rv2 cv1 R2 C1 W → uidR R2 = uidR R1 → R2.length = R1.length → FO (fpV P rv cv R) (fpV P rv2 cv1 R2) w W → W.cell? ⟨P, 3, none⟩ = some cv1 ∧ Calls Tryz.prog 78 #[cv1, .int .i64 u] W (fun e w' => e = .returned (.tuple #[.int .i64 (ixP C1 u : Nat), .bool (hitP C1 u)]) ∧ w' = W) ∧ (hitP C1 u = true → Calls Tryz.prog 79 #[cv1, .int .i64 (ixP C1 u : Nat), .int .i64 ((ixP C1 u : Nat) + 1 : Int)] W (fun e w' => ∃ a4 n4 k4, e = .returned (.slice a4 n4 k4) ∧ w'.cell? ⟨P, 3, none⟩ = some cv1 ∧ w'.frozen? ⟨P, 3, none⟩ = false ∧ VO mk P val R2 (C1.filter (fun x => x != u)) (fpV P rv cv R) w (w'.setCell ⟨P, 3, none⟩ (.slice a4 n4 k4)))) ∧ (hitP C1 u = false → VO mk P val R2 (C1.filter (fun x => x != u)) (fpV P rv cv R) w W)) := Lib.hid (fun rv2 R2 W hW hu hrl hF => by
        have hk2 : VOK R2 C1 N := ⟨by rw [hu]; exact hk1.rise, by rw [hu]; exact hk1.top, by omega⟩
        refine ⟨hW.cells.c3, isearch_any cv1 C1 _ u W (nms_of hW.com) (by omega) hk1.com, fun hh => ?_, fun hh => ?_⟩
        · refine (dropC hW hk2 hN u hh).mono ?_
          rintro e w' ⟨cv', rfl, q1, q2, q3⟩
          obtain ⟨a4, k4, rfl⟩ := ownsRow_shape q2.com
          exact ⟨_, _, _, rfl, (selfV_cells q1).c3, (selfV_cells q1).f3, _, _, q2, hF.trans q3⟩
        · rw [filt_miss hk1.com hh]
          exact ⟨_, _, hW, hF⟩)
      generalize hpp : ixP C1 u = jx at *
      clear hpp
      cases hh : hitP (uidR R1) u with
      | false =>
        rw [hh] at HP
        have HM : Hid (R1.map (atU u goE) = R1) := Lib.hid (map_miss hk1.rows hh)
        have H2 : Hid (∀ W, Below wr.heap.size wr W → VAt mk P val rv1 cv1 R1 C1 W ∧ FO (fpV P rv cv R) (fpV P rv1 cv1 R1) w W) := Lib.hid (fun W hb => ⟨h1.on hb, f1.trans (FO.below hb)⟩)
        cases hc : hitP C1 u with
        | false =>
          rw [hc] at HB
          clear hh h1 f1 hk1 hc
          go_wp2_with (first | (go_at_call 60; refine HP.out.mono ?_; rintro e W ⟨rfl, hb⟩; obtain ⟨q1, q2⟩ := H2.out _ hb; obtain ⟨c3, hs, _, hm⟩ := HB.out _ _ _ q1 rfl rfl q2; have HS := Lib.hid hs; have HO := Lib.hid (hm rfl); clear hs hm q1 q2 hb) | (go_at_call 78; refine HS.out.mono ?_; rintro e w' ⟨rfl, hw⟩; subst w'))
          go_roundw
          case rel => exact ⟨k + 1, by omega, by go_num, by rw [HSR.out, HSC.out, HM.out]; exact HO.out⟩
          case measure => simp [intOf]; omega
        | true =>
          rw [hc] at HB
          clear hh h1 f1 hk1 hc
          go_wp2_with (first | (go_at_call 60; refine HP.out.mono ?_; rintro e W ⟨rfl, hb⟩; obtain ⟨q1, q2⟩ := H2.out _ hb; obtain ⟨c3, hs, hd, _⟩ := HB.out _ _ _ q1 rfl rfl q2; have HS := Lib.hid hs; have HD := Lib.hid (hd rfl); clear hs hd q1 q2 hb) | (go_at_call 78; refine HS.out.mono ?_; rintro e w' ⟨rfl, hw⟩; subst w') | (go_at_call 79; refine HD.out.mono ?_; rintro e w4 ⟨a4, n4, k4, rfl, c4, z4, ho4⟩; have HO := Lib.hid ho4; clear ho4))
          go_roundw
          case rel => exact ⟨k + 1, by omega, by go_num, by rw [HSR.out, HSC.out, HM.out]; exact HO.out⟩
          case measure => simp [intOf]; omega
      | true =>
        rw [hh] at HP
        have hix := ixP_mem hk1.rows (hitP_mem hh)
        rw [uidR_length] at hix
        have hixl := hix.1
        have HM : Hid (R1.set (ixP (uidR R1) u) (goE (R1.getD (ixP (uidR R1) u) RE0)) = R1.map (atU u goE)) := Lib.hid (map_hit hk1.rows (hitP_mem hh))
        obtain ⟨g2, cap2, rfl, _⟩ := h1.row_at hix.1
        have hiu := hk1.rows
        have H2 : Hid (∀ W, Below wr.heap.size wr W → W.cell? ⟨P, 2, none⟩ = some (.slice (some ⟨g2, 0, none⟩) R1.length cap2) ∧ (W.cell? ⟨g2, ixP (uidR R1) u * 4 + 1, none⟩).isSome = true ∧ (W.cell? ⟨g2, ixP (uidR R1) u * 4 + 3, none⟩).isSome = true ∧ (∀ j, W.frozen? ⟨g2, j, none⟩ = false) ∧ VAt mk P val (.slice (some ⟨g2, 0, none⟩) R1.length cap2) cv1 (R1.map (atU u goE)) C1 ((W.setCell ⟨g2, ixP (uidR R1) u * 4 + 1, none⟩ (.bool true)).setCell ⟨g2, ixP (uidR R1) u * 4 + 3, none⟩ (.pointer none)).drew ∧ FO (fpV P rv cv R) (fpV P (.slice (some ⟨g2, 0, none⟩) R1.length cap2) cv1 (R1.map (atU u goE))) w ((W.setCell ⟨g2, ixP (uidR R1) u * 4 + 1, none⟩ (.bool true)).setCell ⟨g2, ixP (uidR R1) u * 4 + 3, none⟩ (.pointer none)).drew) := Lib.hid (fun W hb => by
          have hW := h1.on hb
          obtain ⟨g3, cap3, e3, _, x1, _, x3, x4⟩ := hW.row_at hix.1
          cases e3
          obtain ⟨y1, y2⟩ := hW.goR hix.1
          rw [HM.out] at y1 y2
          exact ⟨hW.cells.c2, by rw [x1]; rfl, by rw [x3]; rfl, x4, y1.on (Below.refl _ _).drew, (f1.trans ((FO.below hb).trans y2)).trans (FO.below (Below.refl _ _).drew)⟩)
        have hpg : P ≠ g2 := fun e => h1.pr (e ▸ rfl)
        have hul : uidR (R1.map (atU u goE)) = uidR R1 := uidR_map (f := atU u goE) (atU_uid (f := goE) (fun _ => rfl)) R1
        have hll : (R1.map (atU u goE)).length = R1.length := by simp
        have HUL := Lib.hid hul
        have HLL := Lib.hid hll
        have hR1 : R1.length ≤ 1000000 := by omega
        clear hix hul hll
        cases hc : hitP C1 u with
        | false =>
          rw [hc] at HB
          clear hh h1 f1 hk1 hc hiu
          generalize ixP (uidR R1) u = ix at *
          have hixi : (ix : Int) < (R1.length : Int) := by omega
          go_wp2_with (first | (go_at_call 60; refine HP.out.mono ?_; rintro e W ⟨rfl, hb⟩; obtain ⟨c2, x1, x3, x4, y1, y2⟩ := H2.out _ hb; have f1 := x4 (ix * 4 + 1); have f3 := x4 (ix * 4 + 3); obtain ⟨z1, hz1⟩ := Option.isSome_iff_exists.1 x1; obtain ⟨z3, hz3⟩ := Option.isSome_iff_exists.1 x3; obtain ⟨c3, hs, _, hm⟩ := HB.out _ _ _ y1 HUL.out HLL.out y2; have HS := Lib.hid hs; have HO := Lib.hid (hm rfl); have C3 := Lib.hid c3; clear hs hm y1 y2 hb c3 x1 x3 x4))
          go_region
          generalize ((W.setCell ⟨g2, ix * 4 + 1, none⟩ (.bool true)).setCell ⟨g2, ix * 4 + 3, none⟩ (.pointer none)).drew = Y at *
          have c3 := C3.out
          go_wp2_with (go_at_call 78; refine HS.out.mono ?_; rintro e w' ⟨rfl, hw⟩; subst w')
          go_roundw
          case rel => exact ⟨k + 1, by omega, by go_num, by rw [HSR.out, HSC.out]; exact HO.out⟩
          case measure => simp [intOf]; omega
        | true =>
          rw [hc] at HB
          clear hh h1 f1 hk1 hc hiu
          generalize ixP (uidR R1) u = ix at *
          have hixi : (ix : Int) < (R1.length : Int) := by omega
          go_wp2_with (first | (go_at_call 60; refine HP.out.mono ?_; rintro e W ⟨rfl, hb⟩; obtain ⟨c2, x1, x3, x4, y1, y2⟩ := H2.out _ hb; have f1 := x4 (ix * 4 + 1); have f3 := x4 (ix * 4 + 3); obtain ⟨z1, hz1⟩ := Option.isSome_iff_exists.1 x1; obtain ⟨z3, hz3⟩ := Option.isSome_iff_exists.1 x3; obtain ⟨c3, hs, hd, _⟩ := HB.out _ _ _ y1 HUL.out HLL.out y2; have HS := Lib.hid hs; have HD := Lib.hid (hd rfl); have C3 := Lib.hid c3; clear hs hd y1 y2 hb c3 x1 x3 x4))
          go_region
          generalize ((W.setCell ⟨g2, ix * 4 + 1, none⟩ (.bool true)).setCell ⟨g2, ix * 4 + 3, none⟩ (.pointer none)).drew = Y at *
          have c3 := C3.out
          go_wp2_with (first | (go_at_call 78; refine HS.out.mono ?_; rintro e w' ⟨rfl, hw⟩; subst w') | (go_at_call 79; refine HD.out.mono ?_; rintro e w4 ⟨a4, n4, k4, rfl, c4, z4, ho4⟩; have HO := Lib.hid ho4; clear ho4))
          go_roundw
          case rel => exact ⟨k + 1, by omega, by go_num, by rw [HSR.out, HSC.out]; exact HO.out⟩
          case measure => simp [intOf]; omega
    · obtain rfl : k = us.length := by omega
      rw [List.take_of_length_le (Nat.le_refl _)] at hO
      have HO := Lib.hid hO
      clear hO
      go_wp2
      first | refine bodyPost_end (results_none rfl _ _ _) rfl ?_ | refine bodyPost_ret (results_none rfl _ _ _) rfl ?_
      exact ⟨rfl, HO.out⟩
end
end Go.Proofs.YtflkhnmggmfhfaaGreat
