/- The document's view by what is plain of it; its Hear. -/
import Derived.Test.YtflkhnmggmfhfaaGreatR16f
import Derived.Test.YtflkhnmggmfhfaaGreatR16h
namespace Go.Proofs.YtflkhnmggmfhfaaGreat
open Go.RowKit

/-- The document's view, by what is plain of it; fp: its blocks. -/
def RWm (nn : Bool) (P : Nat) (V : PV) (fp : List Nat) (w : World) : Prop := ∃ rv cv R, RV nn P V.val rv cv R V.com w ∧ R.map RR.pl = V.rows ∧ fp = fpR P rv cv R ∧ ShR R
abbrev RW := RWm false
def RGm (nn : Bool) (P : Nat) (V' : PV) (fp : List Nat) (w w' : World) : Prop := ∃ fp', RWm nn P V' fp' w' ∧ FO fp fp' w w'
abbrev RG := RGm false
section
variable {nn : Bool} {P : Nat} {V : PV} {fp : List Nat} {w w' : World}
theorem RWm.on (h : RWm nn P V fp w) (hb : Below w.heap.size w w') : RWm nn P V fp w' := by
  obtain ⟨rv, cv, R, h1, h2, h3, h4⟩ := h
  exact ⟨rv, cv, R, h1.on hb, h2, h3, h4⟩
theorem RWm.hold (h : RWm nn P V fp w) (hs : ∀ b, b ∈ fp → w'.heap[b]? = w.heap[b]?) : RWm nn P V fp w' := by
  obtain ⟨rv, cv, R, h1, h2, rfl, h4⟩ := h
  exact ⟨rv, cv, R, h1.hold hs, h2, rfl, h4⟩
theorem RWm.lt (h : RWm nn P V fp w) {b : Nat} (hb : b ∈ fp) : b < w.heap.size := by
  obtain ⟨rv, cv, R, h1, h2, rfl, h4⟩ := h
  exact h1.lt hb
theorem RW.on (h : RW P V fp w) (hb : Below w.heap.size w w') : RW P V fp w' := RWm.on h hb
theorem RW.hold (h : RW P V fp w) (hs : ∀ b, b ∈ fp → w'.heap[b]? = w.heap[b]?) : RW P V fp w' := RWm.hold h hs
theorem RW.lt (h : RW P V fp w) {b : Nat} (hb : b ∈ fp) : b < w.heap.size := RWm.lt h hb
end
theorem RG.of {P : Nat} {V' : PV} {fp : List Nat} {w w' : World} {R' : List RR} {C' : List Int} {nn : Bool} {val : Int} (h : RO nn P val R' C' fp w w') (hv : val = V'.val) (hr : R'.map RR.pl = V'.rows) (hc : C' = V'.com) (hs : ShR R') : RGm nn P V' fp w w' := by
  obtain ⟨rv, cv, h1, h2⟩ := h
  subst hv hc
  exact ⟨_, ⟨rv, cv, R', h1, hr, rfl, hs⟩, h2⟩
theorem RG.on {P : Nat} {V : PV} {fp : List Nat} {w w1 w' : World} (h : RG P V fp w w1) (hb : Below w1.heap.size w1 w') : RG P V fp w w' := by
  obtain ⟨fp', h1, h2⟩ := h
  exact ⟨fp', h1.on hb, h2.trans (FO.below hb)⟩
theorem ruid_pl {R : List RR} {V : PV} (h : R.map RR.pl = V.rows) : rrU R = uidsP V := by
  unfold uidsP rrU
  rw [← h, List.map_map]
  rfl
theorem lvRR_pl : ∀ (us : List Int) (V : PV) (R : List RR), R.map RR.pl = V.rows → (lvRR R us).map RR.pl = (leavesP V us).rows ∧ lvC V.com us = (leavesP V us).com
  | [], _, _, h => ⟨h, rfl⟩
  | u :: us, V, R, h => by
    have h1 : (R.map (atUR u rgoE)).map RR.pl = (leave1 V u).rows := by
      show _ = V.rows.map (goR u)
      rw [← h, List.map_map, List.map_map]
      apply List.map_congr_left
      intro r _
      simp only [Function.comp]
      unfold atUR goR
      by_cases e : r.uid = u
      · rw [if_pos e, if_pos (show r.pl.uid = u from e)]; rfl
      · rw [if_neg e, if_neg (show ¬ r.pl.uid = u from e)]
    exact lvRR_pl us (leave1 V u) (R.map (atUR u rgoE)) h1
theorem rlen_pl {R : List RR} {V : PV} (h : R.map RR.pl = V.rows) : R.length = V.rows.length := by rw [← h, List.length_map]
section
variable {P : Nat} {V : PV} {fp : List Nat} {w : World} {N : Nat}
/-- comes, by what is plain. -/
theorem comes_RW (h : RW P V fp w) (hk : PVok V N) (first : Int) (n : Nat) (hN : N + n ≤ 1000000) (lo : -9223372036854775808 ≤ first) (hi : first ≤ 9223372036854775807) :
    Calls Tryz.prog 41 #[.pointer (some ⟨P, 0, none⟩), .int .i64 first, .int .i64 (n : Int)] w fun e w' => e = .returned (.tuple #[]) ∧ RG P (comesP V (fol first n)) fp w w' := by
  obtain ⟨rv, cv, R, h1, h2, rfl, h4⟩ := h
  have hl := hk.len
  have hrl := rlen_pl h2
  refine (rcomes_any h1 first n (by omega) (by rw [ruid_pl h2]; exact hk.rise) lo hi).mono ?_
  rintro e w' ⟨rfl, ho⟩
  refine ⟨rfl, RG.of ho (comesP_val _ _).symm ?_ ?_ h4⟩
  · rw [comesP_rows]; exact h2
  · rw [comesP_C, ruid_pl h2]
theorem goes_RW (h : RW P V fp w) (hk : PVok V N) (hN : N ≤ 1000000) (v : Value) (us : List Int) (hv : Nms w v us) (hn : 0 < us.length → ∀ b, v.ownBlock = some b → b ∉ fp) (hU : us.length ≤ 1000000) :
    Calls Tryz.prog 42 #[.pointer (some ⟨P, 0, none⟩), v] w fun e w' => e = .returned (.tuple #[]) ∧ RG P (leavesP V us) fp w w' := by
  obtain ⟨rv, cv, R, h1, h2, rfl, h4⟩ := h
  have hl := hk.len
  have hrl := rlen_pl h2
  refine (rgoes_any h1 (by rw [ruid_pl h2]; exact ((riseF_append _ _ _).1 hk.rise).1) (by omega) v us hv hn hU).mono ?_
  rintro e w' ⟨rfl, ho⟩
  obtain ⟨q1, q2⟩ := lvRR_pl us V R h2
  exact ⟨rfl, RG.of ho (leavesP_val _ _).symm q1 q2 (lvRR_sh us R h4)⟩
theorem turns_RW (h : RW P V fp w) (hk : PVok V N) (hN : N ≤ 1000000) (m : ME) (hm : FlAt w m) (hmo : m.fl ≠ [] → ∀ b, m.fv.ownBlock = some b → b ∉ fp) (hml : m.fl.length ≤ 1000000) (n : Int) (own : Bool) :
    Calls Tryz.prog 43 #[.pointer (some ⟨P, 0, none⟩), .agg #[.int .i64 m.uid, m.fv], .int .i64 n, .bool own] w fun e w' => e = .returned (.tuple #[]) ∧ RG P (mark1 n own V m.pl) fp w w' := by
  obtain ⟨rv, cv, R, h1, h2, rfl, h4⟩ := h
  have hl := hk.len
  have hrl := rlen_pl h2
  refine (rturns_any h1 h4 (by rw [ruid_pl h2]; exact ((riseF_append _ _ _).1 hk.rise).1) (by omega) m hm hmo hml n own).mono ?_
  rintro e w' ⟨rfl, R', hp, hs, ho⟩
  refine ⟨rfl, RG.of ho rfl ?_ rfl hs⟩
  rw [hp, h2]
  rfl
/-- Coming = nil. -/
theorem RW.noC (h : RW P V fp w) : ∃ cv, w.cell? ⟨P, 3, none⟩ = some cv ∧ w.frozen? ⟨P, 3, none⟩ = false ∧ RG P { V with com := [] } fp w (w.setCell ⟨P, 3, none⟩ (.slice none 0 0)) := by
  obtain ⟨rv, cv, R, h1, h2, rfl, h4⟩ := h
  obtain ⟨q1, q2⟩ := h1.newC (OwnI.nil (Below.refl _ _) (Nat.le_refl _))
  exact ⟨cv, h1.cells.2.2.2, h1.frozen.2, _, ⟨_, _, R, q1, h2, rfl, h4⟩, q2⟩
theorem Uids_RW {nn : Bool} (h : RWm nn P V fp w) (hk : PVok V N) (hN : N ≤ 1000000) :
    Calls Tryz.prog 30 #[.pointer (some ⟨P, 0, none⟩)] w fun e w' => ∃ v', e = .returned v' ∧ OwnI w.heap.size v' (uidsP V) w w' := by
  obtain ⟨rv, cv, R, h1, h2, rfl, h4⟩ := h
  have hl := hk.len
  have hrl := rlen_pl h2
  rw [← ruid_pl h2]
  exact rUids_any h1 (by omega)
theorem RW.cells (h : RW P V fp w) : w.cell? ⟨P, 0, none⟩ = some (.bool false) ∧ w.cell? ⟨P, 1, none⟩ = some (.int .i64 V.val) := by
  obtain ⟨rv, cv, R, h1, h2, rfl, h4⟩ := h
  exact ⟨h1.cells.1, h1.cells.2.1⟩
end
theorem leaves_nil (V : PV) : ∀ us : List Int, { leavesP V us with com := [] } = leavesP { V with com := [] } us := by
  intro us
  induction us generalizing V with
  | nil => rfl
  | cons u us ih =>
    show { leavesP (leave1 V u) us with com := [] } = leavesP (leave1 { V with com := [] } u) us
    rw [ih]
    rfl
end Go.Proofs.YtflkhnmggmfhfaaGreat

/- The document's view: Hear. -/
namespace Go.Proofs.YtflkhnmggmfhfaaGreat
open Go.RowKit

theorem come_one (V : PV) (f : Int) : comesP V (fol f 1) = comeP V f := by
  unfold fol
  by_cases h : f < 4294967295
  · rw [if_pos h]; rfl
  · rw [if_neg h]
    show V = comeP V f
    unfold comeP
    rw [if_neg (fun q => h q.2)]
theorem RG.from {P : Nat} {V : PV} {fp : List Nat} {w W w' : World} (hb : Below w.heap.size w W) (h : RG P V fp W w') : RG P V fp w w' := by
  obtain ⟨fp', h1, h2⟩ := h
  exact ⟨fp', h1, (FO.below hb).trans h2⟩
theorem RG.trans {P : Nat} {V1 V2 : PV} {fp : List Nat} {w w1 w' : World} (h : RG P V1 fp w w1) (k : ∀ fp1, RW P V1 fp1 w1 → FO fp fp1 w w1 → RG P V2 fp1 w1 w') : RG P V2 fp w w' := by
  obtain ⟨fp', h1, h2⟩ := h
  obtain ⟨fp2, k1, k2⟩ := k fp' h1 h2
  exact ⟨fp2, k1, h2.trans k2⟩
theorem marks_take {V : PV} {n : Int} {own : Bool} {ms : List (Int × List ByteArray)} {j : Nat} {m : Int × List ByteArray} (h : ms[j]? = some m) : marksP V n own (ms.take (j + 1)) = mark1 n own (marksP V n own (ms.take j)) m := by
  have hj : j < ms.length := (List.getElem?_eq_some_iff.1 h).1
  rw [List.take_succ_eq_append_getElem hj]
  have e : ms[j] = m := (List.getElem?_eq_some_iff.1 h).2
  rw [e]
  unfold marksP
  rw [List.foldl_append]
  rfl
section
variable {P : Nat} {V : PV} {fp : List Nat} {w : World} {N : Nat}
set_option maxHeartbeats 2000000 in
set_option maxRecDepth 20000 in
theorem rHear_5 (h : RW P V fp w) (hk : PVok V N) (e : EV) (own : Bool) (us : List Int) (ms : List ME) (hN : N + (1 + us.length) ≤ 1000000) (he : EvAt w e us ms) (ho : EvOut w fp e us ms) (hi : e.fi ≤ 9223372036854775807) (hml : ∀ m ∈ ms, m.fl.length ≤ 1000000) (hkd : e.k = 5) :
    Calls Tryz.prog 11 #[.pointer (some ⟨P, 0, none⟩), .agg (evA e), .bool own] w fun r w' => r = .returned (.tuple #[]) ∧ RG P (hearP V (plE e us ms) own) fp w w' := by
  have hall := And.intro hi (And.intro hml (And.intro hN hk))
  clear hall
  obtain ⟨W1, hW1⟩ : ∃ W1, w.alloc (.cells (evA e) 45) = W1 := ⟨_, rfl⟩
  have h1 : W1.heap[w.heap.size]? = some (.cells (evA e) 45 (0, 0)) := by rw [← hW1]; exact heap_new _ _
  have hb1 : Below w.heap.size w W1 := by rw [← hW1]; exact below_box (Below.refl _ _) (Nat.le_refl _) _
  have hbD : Below W1.heap.size W1 W1.drew.drew := (Below.refl _ _).drew.drew
  have hb3 : Below w.heap.size w W1.drew.drew := hb1.trans (hbD.mono hb1.size)
  have h3 : W1.drew.drew.heap[w.heap.size]? = some (.cells (evA e) 45 (0, 0)) := h1
  obtain ⟨_, _, c2, c3, _, _, _⟩ := evA_cells h1
  obtain ⟨d0, d1⟩ := (h.on hb1).cells
  obtain ⟨x0, x1, x2, x3, x4, x8, x9⟩ := evA_cells h3
  have hw3 := h.on hb3
  have he3 := he.on hb3
  have ho3 := ho.on hb3.size
  have hlo := he.low
  have hul := he.ulen
  have hbf : w.heap.size ∉ fp := fun q => by have := h.lt q; omega
  obtain ⟨au, cu, evu, _⟩ := he.uids
  obtain ⟨⟨am, cm, evm, _⟩, _⟩ := he.marks
  rw [hkd] at x1
  by_cases hx : e.bx = V.val
  · have hxb : (e.bx == V.val) = true := by simpa using hx
    have HE : Hid (hearP V (plE e us ms) own = comesP V (fol e.fi 1)) := Lib.hid (by rw [come_one]; unfold hearP; simp [plE, hkd, hx])
    have HCm := Lib.hid (comes_RW hw3 hk e.fi 1 (by omega) hlo hi)
    have HNo : Hid (RG P V fp w W1.drew.drew) := Lib.hid ⟨fp, hw3, FO.below hb3⟩
    have HB3 := Lib.hid hb3
    clear h h1 hb1 hbD h3 hw3 he he3 ho ho3 hml
    clear hx
    go_enter Tryz.func11, Tryz.ntmps11
    go_upto_region 1 with fail
    (try rw [hW1])
    clear hW1
    go_upto_region 2 with fail
    go_region
    go_upto_region 3 with fail
    go_region
    clear c2 c3 d0 d1
    generalize W1.drew.drew = W3 at *
    go_wp2_with (go_at_call 41; refine HCm.out.mono ?_; rintro r w4 ⟨rfl, hg⟩; have HG := Lib.hid hg; clear hg)
    first | refine bodyPost_end (results_none rfl _ _ _) rfl ?_ | refine bodyPost_ret (results_none rfl _ _ _) rfl ?_
    exact ⟨rfl, by rw [HE.out]; exact RG.from HB3.out HG.out⟩
  · have hxb : (e.bx == V.val) = false := by simpa using hx
    have HE : Hid (hearP V (plE e us ms) own = V) := Lib.hid (by unfold hearP; simp [plE, hkd, hx])
    have HNo : Hid (RG P V fp w W1.drew.drew) := Lib.hid ⟨fp, hw3, FO.below hb3⟩
    have HB3 := Lib.hid hb3
    clear h h1 hb1 hbD h3 hw3 he he3 ho ho3 hml
    clear hx
    go_enter Tryz.func11, Tryz.ntmps11
    go_upto_region 1 with fail
    (try rw [hW1])
    clear hW1
    go_upto_region 2 with fail
    go_region
    go_upto_region 3 with fail
    go_region
    clear c2 c3 d0 d1
    generalize W1.drew.drew = W3 at *
    go_wp2_with fail
    first | refine bodyPost_end (results_none rfl _ _ _) rfl ?_ | refine bodyPost_ret (results_none rfl _ _ _) rfl ?_
    exact ⟨rfl, by rw [HE.out]; exact HNo.out⟩
set_option maxHeartbeats 2000000 in
set_option maxRecDepth 20000 in
theorem rHear_8 (h : RW P V fp w) (hk : PVok V N) (e : EV) (own : Bool) (us : List Int) (ms : List ME) (hN : N + (1 + us.length) ≤ 1000000) (he : EvAt w e us ms) (ho : EvOut w fp e us ms) (hi : e.fi ≤ 9223372036854775807) (hml : ∀ m ∈ ms, m.fl.length ≤ 1000000) (hkd : e.k = 8) :
    Calls Tryz.prog 11 #[.pointer (some ⟨P, 0, none⟩), .agg (evA e), .bool own] w fun r w' => r = .returned (.tuple #[]) ∧ RG P (hearP V (plE e us ms) own) fp w w' := by
  have hall := And.intro hi (And.intro hml (And.intro hN hk))
  clear hall
  obtain ⟨W1, hW1⟩ : ∃ W1, w.alloc (.cells (evA e) 45) = W1 := ⟨_, rfl⟩
  have h1 : W1.heap[w.heap.size]? = some (.cells (evA e) 45 (0, 0)) := by rw [← hW1]; exact heap_new _ _
  have hb1 : Below w.heap.size w W1 := by rw [← hW1]; exact below_box (Below.refl _ _) (Nat.le_refl _) _
  have hbD : Below W1.heap.size W1 W1.drew.drew := (Below.refl _ _).drew.drew
  have hb3 : Below w.heap.size w W1.drew.drew := hb1.trans (hbD.mono hb1.size)
  have h3 : W1.drew.drew.heap[w.heap.size]? = some (.cells (evA e) 45 (0, 0)) := h1
  obtain ⟨_, _, c2, c3, _, _, _⟩ := evA_cells h1
  obtain ⟨d0, d1⟩ := (h.on hb1).cells
  obtain ⟨x0, x1, x2, x3, x4, x8, x9⟩ := evA_cells h3
  have hw3 := h.on hb3
  have he3 := he.on hb3
  have ho3 := ho.on hb3.size
  have hlo := he.low
  have hul := he.ulen
  have hbf : w.heap.size ∉ fp := fun q => by have := h.lt q; omega
  obtain ⟨au, cu, evu, _⟩ := he.uids
  obtain ⟨⟨am, cm, evm, _⟩, _⟩ := he.marks
  rw [hkd] at x1
  rw [evu] at x8
  by_cases hx : e.tt = V.val
  · have hxb : (e.tt == V.val) = true := by simpa using hx
    have HE : Hid (hearP V (plE e us ms) own = comesP V (fol e.fi us.length)) := Lib.hid (by unfold hearP; simp [plE, hkd, hx])
    have HCm := Lib.hid (comes_RW hw3 hk e.fi us.length (by omega) hlo hi)
    have HNo : Hid (RG P V fp w W1.drew.drew) := Lib.hid ⟨fp, hw3, FO.below hb3⟩
    have HB3 := Lib.hid hb3
    clear h h1 hb1 hbD h3 hw3 he he3 ho ho3 hml
    clear hx
    go_enter Tryz.func11, Tryz.ntmps11
    go_upto_region 1 with fail
    (try rw [hW1])
    clear hW1
    go_upto_region 2 with fail
    go_region
    go_upto_region 3 with fail
    go_region
    clear c2 c3 d0 d1
    generalize W1.drew.drew = W3 at *
    go_wp2_with (go_at_call 41; refine HCm.out.mono ?_; rintro r w4 ⟨rfl, hg⟩; have HG := Lib.hid hg; clear hg)
    first | refine bodyPost_end (results_none rfl _ _ _) rfl ?_ | refine bodyPost_ret (results_none rfl _ _ _) rfl ?_
    exact ⟨rfl, by rw [HE.out]; exact RG.from HB3.out HG.out⟩
  · have hxb : (e.tt == V.val) = false := by simpa using hx
    have HE : Hid (hearP V (plE e us ms) own = V) := Lib.hid (by unfold hearP; simp [plE, hkd, hx])
    have HNo : Hid (RG P V fp w W1.drew.drew) := Lib.hid ⟨fp, hw3, FO.below hb3⟩
    have HB3 := Lib.hid hb3
    clear h h1 hb1 hbD h3 hw3 he he3 ho ho3 hml
    clear hx
    go_enter Tryz.func11, Tryz.ntmps11
    go_upto_region 1 with fail
    (try rw [hW1])
    clear hW1
    go_upto_region 2 with fail
    go_region
    go_upto_region 3 with fail
    go_region
    clear c2 c3 d0 d1
    generalize W1.drew.drew = W3 at *
    go_wp2_with fail
    first | refine bodyPost_end (results_none rfl _ _ _) rfl ?_ | refine bodyPost_ret (results_none rfl _ _ _) rfl ?_
    exact ⟨rfl, by rw [HE.out]; exact HNo.out⟩
set_option maxHeartbeats 2000000 in
set_option maxRecDepth 20000 in
theorem rHear_7 (h : RW P V fp w) (hk : PVok V N) (e : EV) (own : Bool) (us : List Int) (ms : List ME) (hN : N + (1 + us.length) ≤ 1000000) (he : EvAt w e us ms) (ho : EvOut w fp e us ms) (hi : e.fi ≤ 9223372036854775807) (hml : ∀ m ∈ ms, m.fl.length ≤ 1000000) (hkd : e.k = 7) :
    Calls Tryz.prog 11 #[.pointer (some ⟨P, 0, none⟩), .agg (evA e), .bool own] w fun r w' => r = .returned (.tuple #[]) ∧ RG P (hearP V (plE e us ms) own) fp w w' := by
  have hall := And.intro hi (And.intro hml (And.intro hN hk))
  clear hall
  obtain ⟨W1, hW1⟩ : ∃ W1, w.alloc (.cells (evA e) 45) = W1 := ⟨_, rfl⟩
  have h1 : W1.heap[w.heap.size]? = some (.cells (evA e) 45 (0, 0)) := by rw [← hW1]; exact heap_new _ _
  have hb1 : Below w.heap.size w W1 := by rw [← hW1]; exact below_box (Below.refl _ _) (Nat.le_refl _) _
  have hbD : Below W1.heap.size W1 W1.drew.drew := (Below.refl _ _).drew.drew
  have hb3 : Below w.heap.size w W1.drew.drew := hb1.trans (hbD.mono hb1.size)
  have h3 : W1.drew.drew.heap[w.heap.size]? = some (.cells (evA e) 45 (0, 0)) := h1
  obtain ⟨_, _, c2, c3, _, _, _⟩ := evA_cells h1
  obtain ⟨d0, d1⟩ := (h.on hb1).cells
  obtain ⟨x0, x1, x2, x3, x4, x8, x9⟩ := evA_cells h3
  have hw3 := h.on hb3
  have he3 := he.on hb3
  have ho3 := ho.on hb3.size
  have hlo := he.low
  have hul := he.ulen
  have hbf : w.heap.size ∉ fp := fun q => by have := h.lt q; omega
  obtain ⟨au, cu, evu, _⟩ := he.uids
  obtain ⟨⟨am, cm, evm, _⟩, _⟩ := he.marks
  rw [hkd] at x1
  have hvu := he3.uids
  have hou : 0 < us.length → ∀ b, e.vu.ownBlock = some b → b ∉ fp := fun h0 b q => (ho3.uids h0 b q).2
  rw [evu] at x8 hvu hou
  by_cases hx : e.bx = V.val
  · have hxb : (e.bx == V.val) = true := by simpa using hx
    have HE : Hid (hearP V (plE e us ms) own = leavesP V us) := Lib.hid (by unfold hearP; simp [plE, hkd, hx])
    have HGo := Lib.hid (goes_RW hw3 hk (by omega) _ us hvu hou (by omega))
    have HNo : Hid (RG P V fp w W1.drew.drew) := Lib.hid ⟨fp, hw3, FO.below hb3⟩
    have HB3 := Lib.hid hb3
    clear h h1 hb1 hbD h3 hw3 he he3 ho ho3 hml
    clear hx hvu hou
    go_enter Tryz.func11, Tryz.ntmps11
    go_upto_region 1 with fail
    (try rw [hW1])
    clear hW1
    go_upto_region 2 with fail
    go_region
    go_upto_region 3 with fail
    go_region
    clear c2 c3 d0 d1
    generalize W1.drew.drew = W3 at *
    go_wp2_with (go_at_call 42; refine HGo.out.mono ?_; rintro r w4 ⟨rfl, hg⟩; have HG := Lib.hid hg; clear hg)
    first | refine bodyPost_end (results_none rfl _ _ _) rfl ?_ | refine bodyPost_ret (results_none rfl _ _ _) rfl ?_
    exact ⟨rfl, by rw [HE.out]; exact RG.from HB3.out HG.out⟩
  · have hxb : (e.bx == V.val) = false := by simpa using hx
    have HE : Hid (hearP V (plE e us ms) own = V) := Lib.hid (by unfold hearP; simp [plE, hkd, hx])
    have HNo : Hid (RG P V fp w W1.drew.drew) := Lib.hid ⟨fp, hw3, FO.below hb3⟩
    have HB3 := Lib.hid hb3
    clear h h1 hb1 hbD h3 hw3 he he3 ho ho3 hml
    clear hx hvu hou
    go_enter Tryz.func11, Tryz.ntmps11
    go_upto_region 1 with fail
    (try rw [hW1])
    clear hW1
    go_upto_region 2 with fail
    go_region
    go_upto_region 3 with fail
    go_region
    clear c2 c3 d0 d1
    generalize W1.drew.drew = W3 at *
    go_wp2_with fail
    first | refine bodyPost_end (results_none rfl _ _ _) rfl ?_ | refine bodyPost_ret (results_none rfl _ _ _) rfl ?_
    exact ⟨rfl, by rw [HE.out]; exact HNo.out⟩
set_option maxHeartbeats 2000000 in
set_option maxRecDepth 20000 in
theorem rHear_9 (h : RW P V fp w) (hk : PVok V N) (e : EV) (own : Bool) (us : List Int) (ms : List ME) (hN : N + (1 + us.length) ≤ 1000000) (he : EvAt w e us ms) (ho : EvOut w fp e us ms) (hi : e.fi ≤ 9223372036854775807) (hml : ∀ m ∈ ms, m.fl.length ≤ 1000000) (hkd : e.k = 9) :
    Calls Tryz.prog 11 #[.pointer (some ⟨P, 0, none⟩), .agg (evA e), .bool own] w fun r w' => r = .returned (.tuple #[]) ∧ RG P (hearP V (plE e us ms) own) fp w w' := by
  have hall := And.intro hi (And.intro hml (And.intro hN hk))
  clear hall
  obtain ⟨W1, hW1⟩ : ∃ W1, w.alloc (.cells (evA e) 45) = W1 := ⟨_, rfl⟩
  have h1 : W1.heap[w.heap.size]? = some (.cells (evA e) 45 (0, 0)) := by rw [← hW1]; exact heap_new _ _
  have hb1 : Below w.heap.size w W1 := by rw [← hW1]; exact below_box (Below.refl _ _) (Nat.le_refl _) _
  have hbD : Below W1.heap.size W1 W1.drew.drew := (Below.refl _ _).drew.drew
  have hb3 : Below w.heap.size w W1.drew.drew := hb1.trans (hbD.mono hb1.size)
  have h3 : W1.drew.drew.heap[w.heap.size]? = some (.cells (evA e) 45 (0, 0)) := h1
  obtain ⟨_, _, c2, c3, _, _, _⟩ := evA_cells h1
  obtain ⟨d0, d1⟩ := (h.on hb1).cells
  obtain ⟨x0, x1, x2, x3, x4, x8, x9⟩ := evA_cells h3
  have hw3 := h.on hb3
  have he3 := he.on hb3
  have ho3 := ho.on hb3.size
  have hlo := he.low
  have hul := he.ulen
  have hbf : w.heap.size ∉ fp := fun q => by have := h.lt q; omega
  obtain ⟨au, cu, evu, _⟩ := he.uids
  obtain ⟨⟨am, cm, evm, _⟩, _⟩ := he.marks
  rw [hkd] at x1
  have hvu := he3.uids
  have hou : 0 < us.length → ∀ b, e.vu.ownBlock = some b → b < W1.drew.drew.heap.size ∧ b ∉ fp := fun h0 b q => ho3.uids h0 b q
  rw [evu] at x8 hvu hou
  by_cases hy : e.tt = V.val
  · have hyb : (e.tt == V.val) = true := by simpa using hy
    have HCm := Lib.hid (comes_RW hw3 hk e.fi us.length (by omega) hlo hi)
    by_cases hx : e.bx = V.val
    · have hxb : (e.bx == V.val) = true := by simpa using hx
      have HE : Hid (hearP V (plE e us ms) own = leavesP (comesP V (fol e.fi us.length)) us) := Lib.hid (by unfold hearP; simp [plE, hkd, hx, hy])
      have HGo : Hid (∀ w4, RG P (comesP V (fol e.fi us.length)) fp W1.drew.drew w4 → w4.cell? ⟨w.heap.size, 8, none⟩ = some (.slice au us.length cu) ∧ Calls Tryz.prog 42 #[.pointer (some ⟨P, 0, none⟩), .slice au us.length cu] w4 (fun r w' => r = .returned (.tuple #[]) ∧ RG P (leavesP (comesP V (fol e.fi us.length)) us) fp W1.drew.drew w')) := Lib.hid (fun w4 ⟨fp4, q1, q2⟩ => by
        have hfl := fol_length us.length e.fi
        refine ⟨?_, (goes_RW q1 (comesP_ok hk) (by omega) _ us (hvu.past q2 (fun h0 b qb => (hou h0 b qb).2)) (fun h0 b qb => q2.out (hou h0 b qb).1 (hou h0 b qb).2) (by omega)).mono ?_⟩
        · rw [World.cell?_of_block (a := ⟨w.heap.size, 8, none⟩) (q2.keep (lt_of_heap h3) hbf)]; exact x8
        · rintro r w' ⟨rfl, fp5, q3, q4⟩
          exact ⟨rfl, fp5, q3, q2.trans q4⟩)
      have HNo : Hid (RG P V fp w W1.drew.drew) := Lib.hid ⟨fp, hw3, FO.below hb3⟩
      have HB3 := Lib.hid hb3
      clear h h1 hb1 hbD h3 hw3 he he3 ho ho3 hml
      clear hx hy hvu hou
      go_enter Tryz.func11, Tryz.ntmps11
      go_upto_region 1 with fail
      (try rw [hW1])
      clear hW1
      go_upto_region 2 with fail
      go_region
      go_upto_region 3 with fail
      go_region
      clear c2 c3 d0 d1
      generalize W1.drew.drew = W3 at *
      go_wp2_with (first | (go_at_call 41; refine HCm.out.mono ?_; rintro r w4 ⟨rfl, hg⟩; obtain ⟨y8, hg2⟩ := HGo.out _ hg; have HGo2 := Lib.hid hg2; clear hg hg2) | (go_at_call 42; refine HGo2.out.mono ?_; rintro r w5 ⟨rfl, hg⟩; have HG := Lib.hid hg; clear hg))
      first | refine bodyPost_end (results_none rfl _ _ _) rfl ?_ | refine bodyPost_ret (results_none rfl _ _ _) rfl ?_
      exact ⟨rfl, by rw [HE.out]; exact RG.from HB3.out HG.out⟩
    · have hxb : (e.bx == V.val) = false := by simpa using hx
      have HE : Hid (hearP V (plE e us ms) own = comesP V (fol e.fi us.length)) := Lib.hid (by unfold hearP; simp [plE, hkd, hx, hy])
      have HNo : Hid (RG P V fp w W1.drew.drew) := Lib.hid ⟨fp, hw3, FO.below hb3⟩
      have HB3 := Lib.hid hb3
      clear h h1 hb1 hbD h3 hw3 he he3 ho ho3 hml
      clear hx hy hvu hou
      go_enter Tryz.func11, Tryz.ntmps11
      go_upto_region 1 with fail
      (try rw [hW1])
      clear hW1
      go_upto_region 2 with fail
      go_region
      go_upto_region 3 with fail
      go_region
      clear c2 c3 d0 d1
      generalize W1.drew.drew = W3 at *
      go_wp2_with (go_at_call 41; refine HCm.out.mono ?_; rintro r w4 ⟨rfl, hg⟩; have HG := Lib.hid hg; clear hg)
      first | refine bodyPost_end (results_none rfl _ _ _) rfl ?_ | refine bodyPost_ret (results_none rfl _ _ _) rfl ?_
      exact ⟨rfl, by rw [HE.out]; exact RG.from HB3.out HG.out⟩
  · have hyb : (e.tt == V.val) = false := by simpa using hy
    by_cases hx : e.bx = V.val
    · have hxb : (e.bx == V.val) = true := by simpa using hx
      have HE : Hid (hearP V (plE e us ms) own = leavesP V us) := Lib.hid (by unfold hearP; simp [plE, hkd, hx, hy])
      have HGo := Lib.hid (goes_RW hw3 hk (by omega) _ us hvu (fun h0 b q => (hou h0 b q).2) (by omega))
      have HNo : Hid (RG P V fp w W1.drew.drew) := Lib.hid ⟨fp, hw3, FO.below hb3⟩
      have HB3 := Lib.hid hb3
      clear h h1 hb1 hbD h3 hw3 he he3 ho ho3 hml
      clear hx hy hvu hou
      go_enter Tryz.func11, Tryz.ntmps11
      go_upto_region 1 with fail
      (try rw [hW1])
      clear hW1
      go_upto_region 2 with fail
      go_region
      go_upto_region 3 with fail
      go_region
      clear c2 c3 d0 d1
      generalize W1.drew.drew = W3 at *
      go_wp2_with (go_at_call 42; refine HGo.out.mono ?_; rintro r w4 ⟨rfl, hg⟩; have HG := Lib.hid hg; clear hg)
      first | refine bodyPost_end (results_none rfl _ _ _) rfl ?_ | refine bodyPost_ret (results_none rfl _ _ _) rfl ?_
      exact ⟨rfl, by rw [HE.out]; exact RG.from HB3.out HG.out⟩
    · have hxb : (e.bx == V.val) = false := by simpa using hx
      have HE : Hid (hearP V (plE e us ms) own = V) := Lib.hid (by unfold hearP; simp [plE, hkd, hx, hy])
      have HNo : Hid (RG P V fp w W1.drew.drew) := Lib.hid ⟨fp, hw3, FO.below hb3⟩
      have HB3 := Lib.hid hb3
      clear h h1 hb1 hbD h3 hw3 he he3 ho ho3 hml
      clear hx hy hvu hou
      go_enter Tryz.func11, Tryz.ntmps11
      go_upto_region 1 with fail
      (try rw [hW1])
      clear hW1
      go_upto_region 2 with fail
      go_region
      go_upto_region 3 with fail
      go_region
      clear c2 c3 d0 d1
      generalize W1.drew.drew = W3 at *
      go_wp2_with fail
      first | refine bodyPost_end (results_none rfl _ _ _) rfl ?_ | refine bodyPost_ret (results_none rfl _ _ _) rfl ?_
      exact ⟨rfl, by rw [HE.out]; exact HNo.out⟩
set_option maxHeartbeats 2000000 in
set_option maxRecDepth 20000 in
theorem rHear_4 (h : RW P V fp w) (hk : PVok V N) (e : EV) (own : Bool) (us : List Int) (ms : List ME) (hN : N + (1 + us.length) ≤ 1000000) (he : EvAt w e us ms) (ho : EvOut w fp e us ms) (hi : e.fi ≤ 9223372036854775807) (hml : ∀ m ∈ ms, m.fl.length ≤ 1000000) (hkd : e.k = 4) :
    Calls Tryz.prog 11 #[.pointer (some ⟨P, 0, none⟩), .agg (evA e), .bool own] w fun r w' => r = .returned (.tuple #[]) ∧ RG P (hearP V (plE e us ms) own) fp w w' := by
  have hall := And.intro hi (And.intro hml (And.intro hN hk))
  clear hall
  obtain ⟨W1, hW1⟩ : ∃ W1, w.alloc (.cells (evA e) 45) = W1 := ⟨_, rfl⟩
  have h1 : W1.heap[w.heap.size]? = some (.cells (evA e) 45 (0, 0)) := by rw [← hW1]; exact heap_new _ _
  have hb1 : Below w.heap.size w W1 := by rw [← hW1]; exact below_box (Below.refl _ _) (Nat.le_refl _) _
  have hbD : Below W1.heap.size W1 W1.drew.drew := (Below.refl _ _).drew.drew
  have hb3 : Below w.heap.size w W1.drew.drew := hb1.trans (hbD.mono hb1.size)
  have h3 : W1.drew.drew.heap[w.heap.size]? = some (.cells (evA e) 45 (0, 0)) := h1
  obtain ⟨_, _, c2, c3, _, _, _⟩ := evA_cells h1
  obtain ⟨d0, d1⟩ := (h.on hb1).cells
  obtain ⟨x0, x1, x2, x3, x4, x8, x9⟩ := evA_cells h3
  have hw3 := h.on hb3
  have he3 := he.on hb3
  have ho3 := ho.on hb3.size
  have hlo := he.low
  have hul := he.ulen
  have hbf : w.heap.size ∉ fp := fun q => by have := h.lt q; omega
  obtain ⟨au, cu, evu, _⟩ := he.uids
  obtain ⟨⟨am, cm, evm, _⟩, _⟩ := he.marks
  rw [hkd] at x1
  by_cases hx : e.bx = V.val
  · have hxb : (e.bx == V.val) = true := by simpa using hx
    have HE : Hid (hearP V (plE e us ms) own = leavesP { V with com := [] } (uidsP V)) := Lib.hid (by rw [← leaves_nil]; unfold hearP; simp [plE, hkd, hx])
    obtain ⟨cv0, n3, nf, hg0⟩ := hw3.noC
    have HU : Hid (Calls Tryz.prog 30 #[.pointer (some ⟨P, 0, none⟩)] (W1.drew.drew.setCell ⟨P, 3, none⟩ (.slice none 0 0)) (fun r w4 => ∃ v4, r = .returned v4 ∧ Calls Tryz.prog 42 #[.pointer (some ⟨P, 0, none⟩), v4] w4 (fun r w' => r = .returned (.tuple #[]) ∧ RG P (leavesP { V with com := [] } (uidsP V)) fp W1.drew.drew w'))) := Lib.hid (by
      obtain ⟨fp4, q1, q2⟩ := hg0
      have hk4 := comFree_ok hk
      have hl4 := hk4.len
      refine (Uids_RW q1 hk4 (by omega)).mono ?_
      rintro r w4 ⟨v4, rfl, ho4⟩
      refine ⟨v4, rfl, (goes_RW (q1.on ho4.below) hk4 (by omega) v4 (uidsP V) (nms_of ho4.row) (fun _ b qb qm => ?_) (by rw [uidsP_length]; have := hk.len; omega)).mono ?_⟩
      · have := (ownI_outR ho4 b qb).1
        have := q1.lt qm
        omega
      · rintro r w5 ⟨rfl, fp5, q3, q4⟩
        exact ⟨rfl, fp5, q3, q2.trans ((FO.below ho4.below).trans q4)⟩)
    have HNo : Hid (RG P V fp w W1.drew.drew) := Lib.hid ⟨fp, hw3, FO.below hb3⟩
    have HB3 := Lib.hid hb3
    clear h h1 hb1 hbD h3 hw3 he he3 ho ho3 hml
    clear hx hg0
    go_enter Tryz.func11, Tryz.ntmps11
    go_upto_region 1 with fail
    (try rw [hW1])
    clear hW1
    go_upto_region 2 with fail
    go_region
    go_upto_region 3 with fail
    go_region
    clear c2 c3 d0 d1
    generalize W1.drew.drew = W3 at *
    go_wp2_with (first | (go_at_call 30; refine HU.out.mono ?_; rintro r w4 ⟨v4, rfl, hg⟩; have HGo := Lib.hid hg; clear hg) | (go_at_call 42; refine HGo.out.mono ?_; rintro r w5 ⟨rfl, hg⟩; have HG := Lib.hid hg; clear hg))
    first | refine bodyPost_end (results_none rfl _ _ _) rfl ?_ | refine bodyPost_ret (results_none rfl _ _ _) rfl ?_
    exact ⟨rfl, by rw [HE.out]; exact RG.from HB3.out HG.out⟩
  · have hxb : (e.bx == V.val) = false := by simpa using hx
    have HE : Hid (hearP V (plE e us ms) own = V) := Lib.hid (by unfold hearP; simp [plE, hkd, hx])
    have HNo : Hid (RG P V fp w W1.drew.drew) := Lib.hid ⟨fp, hw3, FO.below hb3⟩
    have HB3 := Lib.hid hb3
    clear h h1 hb1 hbD h3 hw3 he he3 ho ho3 hml
    clear hx
    go_enter Tryz.func11, Tryz.ntmps11
    go_upto_region 1 with fail
    (try rw [hW1])
    clear hW1
    go_upto_region 2 with fail
    go_region
    go_upto_region 3 with fail
    go_region
    clear c2 c3 d0 d1
    generalize W1.drew.drew = W3 at *
    go_wp2_with fail
    first | refine bodyPost_end (results_none rfl _ _ _) rfl ?_ | refine bodyPost_ret (results_none rfl _ _ _) rfl ?_
    exact ⟨rfl, by rw [HE.out]; exact HNo.out⟩
set_option maxHeartbeats 2000000 in
set_option maxRecDepth 20000 in
theorem rHear_no (h : RW P V fp w) (hk : PVok V N) (e : EV) (own : Bool) (us : List Int) (ms : List ME) (hN : N + (1 + us.length) ≤ 1000000) (he : EvAt w e us ms) (ho : EvOut w fp e us ms) (hi : e.fi ≤ 9223372036854775807) (hml : ∀ m ∈ ms, m.fl.length ≤ 1000000) (hkd : e.k ≠ 4 ∧ e.k ≠ 5 ∧ e.k ≠ 6 ∧ e.k ≠ 7 ∧ e.k ≠ 8 ∧ e.k ≠ 9) :
    Calls Tryz.prog 11 #[.pointer (some ⟨P, 0, none⟩), .agg (evA e), .bool own] w fun r w' => r = .returned (.tuple #[]) ∧ RG P (hearP V (plE e us ms) own) fp w w' := by
  have hall := And.intro hi (And.intro hml (And.intro hN hk))
  clear hall
  obtain ⟨W1, hW1⟩ : ∃ W1, w.alloc (.cells (evA e) 45) = W1 := ⟨_, rfl⟩
  have h1 : W1.heap[w.heap.size]? = some (.cells (evA e) 45 (0, 0)) := by rw [← hW1]; exact heap_new _ _
  have hb1 : Below w.heap.size w W1 := by rw [← hW1]; exact below_box (Below.refl _ _) (Nat.le_refl _) _
  have hbD : Below W1.heap.size W1 W1.drew.drew := (Below.refl _ _).drew.drew
  have hb3 : Below w.heap.size w W1.drew.drew := hb1.trans (hbD.mono hb1.size)
  have h3 : W1.drew.drew.heap[w.heap.size]? = some (.cells (evA e) 45 (0, 0)) := h1
  obtain ⟨_, _, c2, c3, _, _, _⟩ := evA_cells h1
  obtain ⟨d0, d1⟩ := (h.on hb1).cells
  obtain ⟨x0, x1, x2, x3, x4, x8, x9⟩ := evA_cells h3
  have hw3 := h.on hb3
  have he3 := he.on hb3
  have ho3 := ho.on hb3.size
  have hlo := he.low
  have hul := he.ulen
  have hbf : w.heap.size ∉ fp := fun q => by have := h.lt q; omega
  obtain ⟨au, cu, evu, _⟩ := he.uids
  obtain ⟨⟨am, cm, evm, _⟩, _⟩ := he.marks
  obtain ⟨k4, k5, k6, k7, k8, k9⟩ := hkd
  have HE : Hid (hearP V (plE e us ms) own = V) := Lib.hid (by unfold hearP; simp [plE, k4, k5, k6, k7, k8, k9])
  have b4 : (e.k == 4) = false := by simpa using k4
  have b5 : (e.k == 5) = false := by simpa using k5
  have b6 : (e.k == 6) = false := by simpa using k6
  have b7 : (e.k == 7) = false := by simpa using k7
  have b8 : (e.k == 8) = false := by simpa using k8
  have b9 : (e.k == 9) = false := by simpa using k9
  have HNo : Hid (RG P V fp w W1.drew.drew) := Lib.hid ⟨fp, hw3, FO.below hb3⟩
  have HB3 := Lib.hid hb3
  clear h h1 hb1 hbD h3 hw3 he he3 ho ho3 hml
  clear k4 k5 k6 k7 k8 k9
  go_enter Tryz.func11, Tryz.ntmps11
  go_upto_region 1 with fail
  (try rw [hW1])
  clear hW1
  go_upto_region 2 with fail
  go_region
  go_upto_region 3 with fail
  go_region
  clear c2 c3 d0 d1
  generalize W1.drew.drew = W3 at *
  go_wp2_with fail
  first | refine bodyPost_end (results_none rfl _ _ _) rfl ?_ | refine bodyPost_ret (results_none rfl _ _ _) rfl ?_
  exact ⟨rfl, by rw [HE.out]; exact HNo.out⟩
end
end Go.Proofs.YtflkhnmggmfhfaaGreat

/- The document's view: Hear of flags; Hear. -/
namespace Go.Proofs.YtflkhnmggmfhfaaGreat
open Go.RowKit

section
variable {P : Nat} {V : PV} {fp : List Nat} {w : World} {N : Nat}
set_option maxHeartbeats 2000000 in
set_option maxRecDepth 20000 in
theorem rHear_6 (h : RW P V fp w) (hk : PVok V N) (e : EV) (own : Bool) (us : List Int) (ms : List ME) (hN : N + (1 + us.length) ≤ 1000000) (he : EvAt w e us ms) (ho : EvOut w fp e us ms) (hi : e.fi ≤ 9223372036854775807) (hml : ∀ m ∈ ms, m.fl.length ≤ 1000000) (hkd : e.k = 6) :
    Calls Tryz.prog 11 #[.pointer (some ⟨P, 0, none⟩), .agg (evA e), .bool own] w fun r w' => r = .returned (.tuple #[]) ∧ RG P (hearP V (plE e us ms) own) fp w w' := by
  have hall := And.intro hi (And.intro hml (And.intro hN hk))
  clear hall
  obtain ⟨W1, hW1⟩ : ∃ W1, w.alloc (.cells (evA e) 45) = W1 := ⟨_, rfl⟩
  have h1 : W1.heap[w.heap.size]? = some (.cells (evA e) 45 (0, 0)) := by rw [← hW1]; exact heap_new _ _
  have hb1 : Below w.heap.size w W1 := by rw [← hW1]; exact below_box (Below.refl _ _) (Nat.le_refl _) _
  have hbD : Below W1.heap.size W1 W1.drew.drew := (Below.refl _ _).drew.drew
  have hb3 : Below w.heap.size w W1.drew.drew := hb1.trans (hbD.mono hb1.size)
  have h3 : W1.drew.drew.heap[w.heap.size]? = some (.cells (evA e) 45 (0, 0)) := h1
  obtain ⟨_, _, c2, c3, _, _, _⟩ := evA_cells h1
  obtain ⟨d0, d1⟩ := (h.on hb1).cells
  obtain ⟨x0, x1, x2, x3, x4, x8, x9⟩ := evA_cells h3
  have hw3 := h.on hb3
  have he3 := he.on hb3
  have ho3 := ho.on hb3.size
  have hlo := he.low
  have hul := he.ulen
  have hbf : w.heap.size ∉ fp := fun q => by have := h.lt q; omega
  obtain ⟨au, cu, evu, _⟩ := he.uids
  obtain ⟨⟨am, cm, evm, _⟩, _⟩ := he.marks
  rw [hkd] at x1
  have hmk := he3.marks
  have hom := ho3.marks
  have hmll := he.mlen
  rw [evm] at x9 hmk hom
  by_cases hx : e.bx = V.val
  · have hxb : (e.bx == V.val) = true := by simpa using hx
    have HE : Hid (hearP V (plE e us ms) own = marksP V e.n own (ms.map ME.pl)) := Lib.hid (by unfold hearP; simp [plE, hkd, hx])
    have HX : Hid (∀ (j : Nat) (wr : World), RG P (marksP V e.n own ((ms.map ME.pl).take j)) fp W1.drew.drew wr → wr.cell? ⟨w.heap.size, 9, none⟩ = some (.slice am ms.length cm) ∧ wr.cell? ⟨w.heap.size, 0, none⟩ = some (.int .i64 e.n) ∧ (j < ms.length → ∃ (g o : Nat) (u : Int) (fa : Option Addr) (fn fc : Nat), am = some ⟨g, o, none⟩ ∧ wr.cell? ⟨g, o + j * 2, none⟩ = some (.int .i64 u) ∧ wr.cell? ⟨g, o + j * 2 + 1, none⟩ = some (.slice fa fn fc) ∧ ∀ Y, Below wr.heap.size wr Y → Calls Tryz.prog 43 #[.pointer (some ⟨P, 0, none⟩), .agg #[.int .i64 u, .slice fa fn fc], .int .i64 e.n, .bool own] Y (fun r w' => r = .returned (.tuple #[]) ∧ RG P (marksP V e.n own ((ms.map ME.pl).take (j + 1))) fp W1.drew.drew w'))) := Lib.hid (fun j wr ⟨fp4, q1, q2⟩ => by
      have kb := q2.keep (lt_of_heap h3) hbf
      refine ⟨by rw [World.cell?_of_block (a := ⟨w.heap.size, 9, none⟩) kb]; exact x9, by rw [World.cell?_of_block (a := ⟨w.heap.size, 0, none⟩) kb]; exact x0, fun hj => ?_⟩
      have hm4 := hmk.past q2 hom
      obtain ⟨⟨a4, c4, e4, hc4⟩, hf4⟩ := hm4
      obtain ⟨g, o, ea, hg, hcc⟩ := hc4 (by omega)
      cases e4
      obtain ⟨m, hm⟩ : ∃ m, ms[j]? = some m := ⟨ms[j], List.getElem?_eq_getElem hj⟩
      have hmm : m ∈ ms := List.mem_of_getElem? hm
      have hgd : ms.getD j ⟨0, none, 0, []⟩ = m := by rw [List.getD_eq_getElem?_getD, hm]; rfl
      obtain ⟨z1, z2⟩ := hcc j hj
      rw [hgd] at z1 z2
      refine ⟨g, o, m.uid, m.fa, m.fl.length, m.fc, ea, z1, z2, fun Y hY => ?_⟩
      refine (turns_RW (q1.on hY) (marksP_ok hk _ _) (by omega) m ((hf4 m hmm).hold hY.size (fun _ b _ hb => hY.block b hb)) (fun hne b qb qm => ?_) (hml m hmm) e.n own).mono ?_
      · obtain ⟨b', o', e', hb', _⟩ := (hmk.fls m hmm).cells hne
        have eb : b = b' := by
          rw [show m.fv = .slice m.fa m.fl.length m.fc from rfl, e'] at qb
          simpa [Value.ownBlock] using qb.symm
        exact q2.out (by rw [eb]; exact hb') (hom.2 m hmm hne b qb) qm
      · rintro r w5 ⟨rfl, fp5, q3, q4⟩
        refine ⟨rfl, fp5, ?_, q2.trans ((FO.below hY).trans q4)⟩
        rw [marks_take (m := m.pl) (by rw [List.getElem?_map, hm]; rfl)]
        exact q3)
    have HS : Hid (RG P (marksP V e.n own ((ms.map ME.pl).take 0)) fp W1.drew.drew W1.drew.drew) := Lib.hid ⟨fp, hw3, FO.refl _ _⟩
    have HNo : Hid (RG P V fp w W1.drew.drew) := Lib.hid ⟨fp, hw3, FO.below hb3⟩
    have HB3 := Lib.hid hb3
    clear h h1 hb1 hbD h3 hw3 he he3 ho ho3 hml
    clear hx hmk hom x9 x0
    go_enter Tryz.func11, Tryz.ntmps11
    go_upto_region 1 with fail
    (try rw [hW1])
    clear hW1
    go_upto_region 2 with fail
    go_region
    go_upto_region 3 with fail
    go_region
    clear c2 c3 d0 d1
    generalize W1.drew.drew = W3 at *
    go_upto_region 25 with fail
    go_loopw [8] (fun i wr => ∃ (j : Nat) (X : World), X = wr ∧ j ≤ ms.length ∧ i = .int .i64 j ∧ RG P (marksP V e.n own ((ms.map ME.pl).take j)) fp W3 X) (fun i _ => ms.length - (intOf i).toNat)
    case atStart => exact ⟨0, _, rfl, Nat.zero_le _, rfl, HS.out⟩
    case round =>
      obtain ⟨j, X, hX, hj, rfl, hg⟩ := hrel
      subst hX
      obtain ⟨y9, y0, hgo⟩ := HX.out _ _ hg
      by_cases hjt : j < ms.length
      · have hjti : (j : Int) < (ms.length : Int) := by omega
        obtain ⟨g, o, u, fa, fn, fc, rfl, z1, z2, hcall⟩ := hgo hjt
        have HC := Lib.hid hcall
        clear hcall hgo hg
        go_upto_region 27 with fail
        go_region_with (go_at_call 43; refine (HC.out _ (by first | exact Below.refl _ _ | exact (Below.refl _ _).drew)).mono ?_; rintro r w5 ⟨rfl, hg5⟩; have HG5 := Lib.hid hg5; clear hg5)
        all_goals
          go_wp2_with fail
          go_roundw
          case rel => exact ⟨j + 1, _, rfl, by omega, by go_num, HG5.out⟩
          case measure => simp [intOf]; omega
      · obtain rfl : j = ms.length := by omega
        have HG5 : Hid (RG P (marksP V e.n own (ms.map ME.pl)) fp W3 X) := Lib.hid (by rw [List.take_of_length_le (by simp)] at hg; exact hg)
        clear hgo hg
        go_wp2_with fail
        first | refine bodyPost_end (results_none rfl _ _ _) rfl ?_ | refine bodyPost_ret (results_none rfl _ _ _) rfl ?_
        exact ⟨rfl, by rw [HE.out]; exact RG.from HB3.out HG5.out⟩
  · have hxb : (e.bx == V.val) = false := by simpa using hx
    have HE : Hid (hearP V (plE e us ms) own = V) := Lib.hid (by unfold hearP; simp [plE, hkd, hx])
    have HNo : Hid (RG P V fp w W1.drew.drew) := Lib.hid ⟨fp, hw3, FO.below hb3⟩
    have HB3 := Lib.hid hb3
    clear h h1 hb1 hbD h3 hw3 he he3 ho ho3 hml
    clear hx hmk hom
    go_enter Tryz.func11, Tryz.ntmps11
    go_upto_region 1 with fail
    (try rw [hW1])
    clear hW1
    go_upto_region 2 with fail
    go_region
    go_upto_region 3 with fail
    go_region
    clear c2 c3 d0 d1
    generalize W1.drew.drew = W3 at *
    go_upto_region 25 with fail
    go_loopw [8] (fun i wr => i = .int .i64 0 ∧ wr = W3) (fun _ _ => 0)
    case atStart => exact ⟨rfl, rfl⟩
    case round =>
      obtain ⟨rfl, rfl⟩ := hrel
      by_cases hm0 : (0 : Int) < (ms.length : Int)
      · go_wp2_with fail
        first | refine bodyPost_end (results_none rfl _ _ _) rfl ?_ | refine bodyPost_ret (results_none rfl _ _ _) rfl ?_
        exact ⟨rfl, by rw [HE.out]; exact HNo.out⟩
      · go_wp2_with fail
        first | refine bodyPost_end (results_none rfl _ _ _) rfl ?_ | refine bodyPost_ret (results_none rfl _ _ _) rfl ?_
        exact ⟨rfl, by rw [HE.out]; exact HNo.out⟩
theorem rHear_any (h : RW P V fp w) (hk : PVok V N) (e : EV) (own : Bool) (us : List Int) (ms : List ME) (hN : N + (1 + us.length) ≤ 1000000) (he : EvAt w e us ms) (ho : EvOut w fp e us ms) (hi : e.fi ≤ 9223372036854775807) (hml : ∀ m ∈ ms, m.fl.length ≤ 1000000) :
    Calls Tryz.prog 11 #[.pointer (some ⟨P, 0, none⟩), .agg (evA e), .bool own] w fun r w' => r = .returned (.tuple #[]) ∧ RG P (hearP V (plE e us ms) own) fp w w' := by
  by_cases k4 : e.k = 4
  · exact rHear_4 h hk e own us ms hN he ho hi hml k4
  by_cases k5 : e.k = 5
  · exact rHear_5 h hk e own us ms hN he ho hi hml k5
  by_cases k6 : e.k = 6
  · exact rHear_6 h hk e own us ms hN he ho hi hml k6
  by_cases k7 : e.k = 7
  · exact rHear_7 h hk e own us ms hN he ho hi hml k7
  by_cases k8 : e.k = 8
  · exact rHear_8 h hk e own us ms hN he ho hi hml k8
  by_cases k9 : e.k = 9
  · exact rHear_9 h hk e own us ms hN he ho hi hml k9
  exact rHear_no h hk e own us ms hN he ho hi hml ⟨k4, k5, k6, k7, k8, k9⟩
end
end Go.Proofs.YtflkhnmggmfhfaaGreat
