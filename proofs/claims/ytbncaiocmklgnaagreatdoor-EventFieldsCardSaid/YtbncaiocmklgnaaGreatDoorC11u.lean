/- event: Check of any event; Encode and Size of one that may not be; the law's small (c11ugen.py). -/
import Derived.Test.YtbncaiocmklgnaaGreatDoorC11s
namespace Go.Proofs.YtbncaiocmklgnaaGreatDoor
open Go.RowKit Go.Lib

set_option maxHeartbeats 4000000 in
set_option maxRecDepth 20000 in
theorem CheckE (e : PE) (vn vb vu vm : Value) (w : World) (he : Env3 w) (hL : Lst w e vn vb vu vm) : Calls Tryz.prog 11 #[.agg (evC e vn vb vu vm)] w fun r w' => r = .returned (.int .i64 (chkE e)) ∧ Below w.heap.size w w' := by
  obtain ⟨W1, hW1⟩ : ∃ W1, w.alloc (.cells (evC e vn vb vu vm) 35) = W1 := ⟨_, rfl⟩
  have h1 : W1.heap[w.heap.size]? = some (.cells (evC e vn vb vu vm) 35 (0, 0)) := by rw [← hW1]; exact heap_new _ _
  have hb1 : Below w.heap.size w W1 := by rw [← hW1]; exact below_box (Below.refl _ _) _
  have HH := Lib.hid (held_any w.heap.size e vn vb vu vm W1 h1 (he.on hb1) (hL.on hb1))
  have HB := Lib.hid hb1
  clear h1 hb1 he hL
  generalize hc : chkE e = c at *
  unfold HeldAt at HH
  rw [hc] at HH
  clear hc
  go_enter Tryz.func11, Tryz.ntmps11
  go_upto_region 1 with fail
  (try rw [hW1])
  clear hW1
  go_wp2_with (first | (go_at_call 27; refine HH.out.mono ?_; rintro r w2 ⟨v0, v1, v2, v3, rfl, hv, _, hb⟩; have HV := Lib.hid hv; have HB2 := Lib.hid (HB.out.trans (hb.mono HB.out.size)); clear hv hb) | (refine wpList_store_row rfl 64 _ _ rfl w2.heap.size #[v0, v1, v2, v3] rfl rfl 64 _ (heap_new _ _) Tryz.sizePart rfl (by simp [HV.out]) ?_))
  go_ret
  exact ⟨rfl, below_boxed HB2.out _ _⟩
set_option maxHeartbeats 4000000 in
set_option maxRecDepth 20000 in
theorem EncodeE_bad (e : PE) (vn vb vu vm : Value) (w : World) (he : Env3 w) (hL : Lst w e vn vb vu vm) (hc : chkE e = 110) : Calls Tryz.prog 12 #[.agg (evC e vn vb vu vm)] w fun r w' => r = .returned (.tuple #[.string ⟨#[]⟩, .int .i64 110]) ∧ Below w.heap.size w w' := by
  obtain ⟨W1, hW1⟩ : ∃ W1, w.alloc (.cells (evC e vn vb vu vm) 35) = W1 := ⟨_, rfl⟩
  have h1 : W1.heap[w.heap.size]? = some (.cells (evC e vn vb vu vm) 35 (0, 0)) := by rw [← hW1]; exact heap_new _ _
  have hb1 : Below w.heap.size w W1 := by rw [← hW1]; exact below_box (Below.refl _ _) _
  have HH := Lib.hid (held_any w.heap.size e vn vb vu vm W1 h1 (he.on hb1) (hL.on hb1))
  have HB := Lib.hid hb1
  unfold HeldAt at HH
  rw [hc] at HH
  clear h1 hb1 he hL hc
  go_enter Tryz.func12, Tryz.ntmps12
  go_upto_region 1 with fail
  (try rw [hW1])
  clear hW1
  go_wp2_with (first | (go_at_call 27; refine HH.out.mono ?_; rintro r w2 ⟨v0, v1, v2, v3, rfl, hv, _, hb⟩; have HV := Lib.hid hv; have HB2 := Lib.hid (HB.out.trans (hb.mono HB.out.size)); clear hv hb) | (refine wpList_store_row rfl 64 _ _ rfl w2.heap.size #[v0, v1, v2, v3] rfl rfl 64 _ (heap_new _ _) Tryz.sizePart rfl (by simp [HV.out]) ?_))
  go_ret2
  exact ⟨rfl, below_boxed HB2.out _ _⟩
set_option maxHeartbeats 4000000 in
set_option maxRecDepth 20000 in
theorem SizeE_bad (e : PE) (vn vb vu vm : Value) (w : World) (he : Env3 w) (hL : Lst w e vn vb vu vm) (hc : chkE e = 110) : Calls Tryz.prog 13 #[.agg (evC e vn vb vu vm)] w fun r w' => r = .returned (.int .i64 0) ∧ Below w.heap.size w w' := by
  obtain ⟨W1, hW1⟩ : ∃ W1, w.alloc (.cells (evC e vn vb vu vm) 35) = W1 := ⟨_, rfl⟩
  have h1 : W1.heap[w.heap.size]? = some (.cells (evC e vn vb vu vm) 35 (0, 0)) := by rw [← hW1]; exact heap_new _ _
  have hb1 : Below w.heap.size w W1 := by rw [← hW1]; exact below_box (Below.refl _ _) _
  have HEn := Lib.hid (EncodeE_bad e vn vb vu vm W1 (he.on hb1) (hL.on hb1) hc)
  have H1 := Lib.hid h1
  have HB := Lib.hid hb1
  clear h1 hb1 he hL hc
  go_enter Tryz.func13, Tryz.ntmps13
  go_upto_region 1 with fail
  (try rw [hW1])
  clear hW1
  go_wp2_with (first | (refine wpList_load_row rfl 35 _ rfl w.heap.size rfl 35 _ (0, 0) _ H1.out Tryz.underlying35 rfl (Tryz.sizeEvC e vn vb vu vm) ?_) | (go_at_call 12; refine HEn.out.mono ?_; rintro r w2 ⟨rfl, hb⟩; have HB2 := Lib.hid (HB.out.trans (hb.mono HB.out.size)); clear hb))
  go_ret
  exact ⟨rfl, HB2.out⟩
def anyOver (l : List (Int × List ByteArray)) : Bool := l.any (fun m => decide (300 < m.2.length))
def smallB (e : PE) : Bool := !anyOver (e.ms.take 300) && decide (e.ns.length ≤ 300) && decide (e.bs.length ≤ 300) && decide (e.us.length ≤ 300) && decide (e.ms.length ≤ 300) && decide (e.bd.size ≤ 60000)
theorem over_at {l : List (Int × List ByteArray)} (k : Nat) (hk : k < l.length) (h3 : k < 300) (h : 300 < (l.getD k (0, [])).2.length) : anyOver (l.take 300) = true := by
  unfold anyOver
  rw [List.any_eq_true]
  refine ⟨l.getD k (0, []), ?_, decide_eq_true h⟩
  rw [List.getD_eq_getElem?_getD, List.getElem?_eq_getElem hk]
  exact List.mem_of_getElem? (i := k) (by rw [List.getElem?_take, if_pos h3, List.getElem?_eq_getElem hk]; rfl)
theorem over_next {l : List (Int × List ByteArray)} (k : Nat) (hk : k < l.length) (h0 : anyOver (l.take k) = false) (h : ¬ 300 < (l.getD k (0, [])).2.length) : anyOver (l.take (k + 1)) = false := by
  have e : l.take (k + 1) = l.take k ++ [l.getD k (0, [])] := by
    rw [List.take_add_one, List.getElem?_eq_getElem hk, List.getD_eq_getElem?_getD, List.getElem?_eq_getElem hk]
    rfl
  unfold anyOver at *
  rw [e, List.any_append, h0, List.any_cons, List.any_nil, decide_eq_false h]
  rfl
theorem over_end {l : List (Int × List ByteArray)} (k : Nat) (hk : k ≤ l.length) (h3 : k ≤ 300) (h : ¬ (k < l.length ∧ k < 300)) (h0 : anyOver (l.take k) = false) : anyOver (l.take 300) = false := by
  by_cases h4 : k = 300
  · rw [← h4]; exact h0
  · have : l.length ≤ k := by omega
    rw [List.take_of_length_le (by omega)]
    rw [List.take_of_length_le this] at h0
    exact h0
set_option maxHeartbeats 4000000 in
set_option maxRecDepth 20000 in
theorem smallE_any (e : PE) (vn vb vu vm : Value) (w : World) (hL : Lst w e vn vb vu vm) : Calls Tryz.prog 10 #[.agg (evC e vn vb vu vm)] w fun r w' => r = .returned (.bool (smallB e)) ∧ Below w.heap.size w w' := by
  obtain ⟨W1, hW1⟩ : ∃ W1, w.alloc (.cells (evC e vn vb vu vm) 35) = W1 := ⟨_, rfl⟩
  have h1 : W1.heap[w.heap.size]? = some (.cells (evC e vn vb vu vm) 35 (0, 0)) := by rw [← hW1]; exact heap_new _ _
  have hb1 : Below w.heap.size w W1 := by rw [← hW1]; exact below_box (Below.refl _ _) _
  have HEv : Hid (∀ X, Below W1.heap.size W1 X → X.heap[w.heap.size]? = some (.cells (evC e vn vb vu vm) 35 (0, 0))) := Lib.hid (fun X hX => by rw [hX.block _ (lt_of_heap h1)]; exact h1)
  obtain ⟨ao, cap, hvm, hbig, hc⟩ := (hL.on hb1).ms.cells
  have HC := Lib.hid hc
  have HB1 := Lib.hid hb1
  have HQ0 : Hid (smallB e = (!anyOver (e.ms.take 300) && decide (e.ns.length ≤ 300) && decide (e.bs.length ≤ 300) && decide (e.us.length ≤ 300) && decide (e.ms.length ≤ 300) && decide (e.bd.size ≤ 60000))) := Lib.hid rfl
  obtain ⟨a1, k1, rfl⟩ := hL.shp.n
  obtain ⟨a2, k2, rfl⟩ := hL.shp.b
  obtain ⟨a3, k3, rfl⟩ := hL.shp.u
  subst hvm
  generalize hn1 : e.ns.length = n1 at *
  generalize hn2 : e.bs.length = n2 at *
  generalize hn3 : e.us.length = n3 at *
  generalize hn4 : e.ms.length = n4 at *
  have hbi : (n4 : Int) ≤ 140737488355328 := by omega
  have HN4 := Lib.hid hn4
  clear h1 hb1 hL hc hbig hn1 hn2 hn3 hn4
  go_enter Tryz.func10, Tryz.ntmps10
  go_upto_region 1 with fail
  (try rw [hW1])
  clear hW1
  go_wp2_with fail
  go_loopw [3] (fun vi wr => ∃ (k : Nat) (X : World), X = wr ∧ k ≤ n4 ∧ vi = .int .i64 k ∧ X = W1 ∧ k ≤ 300 ∧ anyOver (e.ms.take k) = false) (fun i _ => n4 - (intOf i).toNat)
  case atStart => exact ⟨0, _, rfl, Nat.zero_le _, rfl, rfl, Nat.zero_le _, rfl⟩
  case round =>
    obtain ⟨k, X, hX, hkn, rfl, hw, hk3, hov⟩ := hrel
    subst hX
    subst hw
    have HOv := Lib.hid hov
    clear hov
    obtain ⟨_, _, _, _, _, _, c6, c7, c8, c9, _, _, _, _, _, _, _, c17⟩ := evC_cells (HEv.out _ (Below.refl _ _))
    have HX := HB1
    have hk0 : (0 : Int) ≤ (k : Int) := by omega
    have hk9 : (k : Int) ≤ 140737488355328 := by omega
    by_cases hgo : k < n4 ∧ k < 300
    · obtain ⟨hlt, h300⟩ := hgo
      obtain ⟨b, off, fv, hao, _, yc0, yc1, hst⟩ := HC.out k hlt
      subst hao
      obtain ⟨fa, fc, hfv⟩ := hst.shape
      have HAt := Lib.hid (fun h => over_at (l := e.ms) k (by rw [HN4.out]; exact hlt) h300 h)
      have HNx := Lib.hid (fun h => over_next (l := e.ms) k (by rw [HN4.out]; exact hlt) HOv.out h)
      generalize (e.ms.getD k (0, [])).2.length = fl at hfv HAt HNx
      subst hfv
      have hk1 : (k : Int) < (n4 : Int) := by omega
      have hd1 : decide ((k : Int) < (n4 : Int)) = true := decide_eq_true hk1
      have hk2 : (k : Int) < 300 := by omega
      clear hst yc0
      by_cases hf : (300 : Int) < (fl : Int)
      · have HR : Hid (smallB e = false) := Lib.hid (by rw [HQ0.out, HAt.out (by omega)]; rfl)
        go_wp2_with fail
        go_ret
        exact ⟨by rw [HR.out]; rfl, HX.out⟩
      · have HNk := Lib.hid (HNx.out (by omega))
        go_wp2_with fail
        go_roundw
        case rel => exact ⟨k + 1, _, rfl, hlt, by go_num, rfl, h300, HNk.out⟩
        case measure => simp [intOf]; omega
    · have HG := Lib.hid hgo
      have HQ : Hid (smallB e = (decide (n1 ≤ 300) && decide (n2 ≤ 300) && decide (n3 ≤ 300) && decide (n4 ≤ 300) && decide (e.bd.size ≤ 60000))) := Lib.hid (by rw [HQ0.out, over_end k (by rw [HN4.out]; exact hkn) hk3 (by rw [HN4.out]; exact hgo) HOv.out]; rfl)
      clear hgo HQ0
      by_cases hk1 : (k : Int) < (n4 : Int)
      · have hd1 : decide ((k : Int) < (n4 : Int)) = true := decide_eq_true hk1
        have hk2 : ¬ (k : Int) < 300 := fun h => HG.out ⟨by omega, by omega⟩
        by_cases t_n1 : (n1 : Int) ≤ 300
        rotate_left
        · have d_n1 : decide ((n1 : Int) ≤ 300) = false := decide_eq_false t_n1
          have HR : Hid (smallB e = false) := Lib.hid (by rw [HQ.out, show decide (n1 ≤ 300) = false from decide_eq_false (by omega)]; simp)
          go_wp2_with fail
          go_ret
          exact ⟨by rw [HR.out]; rfl, HX.out⟩
        have d_n1 : decide ((n1 : Int) ≤ 300) = true := decide_eq_true t_n1
        by_cases t_n2 : (n2 : Int) ≤ 300
        rotate_left
        · have d_n2 : decide ((n2 : Int) ≤ 300) = false := decide_eq_false t_n2
          have HR : Hid (smallB e = false) := Lib.hid (by rw [HQ.out, show decide (n2 ≤ 300) = false from decide_eq_false (by omega)]; simp)
          go_wp2_with fail
          go_ret
          exact ⟨by rw [HR.out]; rfl, HX.out⟩
        have d_n2 : decide ((n2 : Int) ≤ 300) = true := decide_eq_true t_n2
        by_cases t_n3 : (n3 : Int) ≤ 300
        rotate_left
        · have d_n3 : decide ((n3 : Int) ≤ 300) = false := decide_eq_false t_n3
          have HR : Hid (smallB e = false) := Lib.hid (by rw [HQ.out, show decide (n3 ≤ 300) = false from decide_eq_false (by omega)]; simp)
          go_wp2_with fail
          go_ret
          exact ⟨by rw [HR.out]; rfl, HX.out⟩
        have d_n3 : decide ((n3 : Int) ≤ 300) = true := decide_eq_true t_n3
        have d_n4 : decide ((n4 : Int) ≤ 300) = false := decide_eq_false (by omega)
        have HR : Hid (smallB e = false) := Lib.hid (by rw [HQ.out, show decide (n4 ≤ 300) = false from decide_eq_false (by omega)]; simp)
        go_wp2_with fail
        go_ret
        exact ⟨by rw [HR.out]; rfl, HX.out⟩
      · have hd1 : decide ((k : Int) < (n4 : Int)) = false := decide_eq_false hk1
        by_cases t_n1 : (n1 : Int) ≤ 300
        rotate_left
        · have d_n1 : decide ((n1 : Int) ≤ 300) = false := decide_eq_false t_n1
          have HR : Hid (smallB e = false) := Lib.hid (by rw [HQ.out, show decide (n1 ≤ 300) = false from decide_eq_false (by omega)]; simp)
          go_wp2_with fail
          go_ret
          exact ⟨by rw [HR.out]; rfl, HX.out⟩
        have d_n1 : decide ((n1 : Int) ≤ 300) = true := decide_eq_true t_n1
        by_cases t_n2 : (n2 : Int) ≤ 300
        rotate_left
        · have d_n2 : decide ((n2 : Int) ≤ 300) = false := decide_eq_false t_n2
          have HR : Hid (smallB e = false) := Lib.hid (by rw [HQ.out, show decide (n2 ≤ 300) = false from decide_eq_false (by omega)]; simp)
          go_wp2_with fail
          go_ret
          exact ⟨by rw [HR.out]; rfl, HX.out⟩
        have d_n2 : decide ((n2 : Int) ≤ 300) = true := decide_eq_true t_n2
        by_cases t_n3 : (n3 : Int) ≤ 300
        rotate_left
        · have d_n3 : decide ((n3 : Int) ≤ 300) = false := decide_eq_false t_n3
          have HR : Hid (smallB e = false) := Lib.hid (by rw [HQ.out, show decide (n3 ≤ 300) = false from decide_eq_false (by omega)]; simp)
          go_wp2_with fail
          go_ret
          exact ⟨by rw [HR.out]; rfl, HX.out⟩
        have d_n3 : decide ((n3 : Int) ≤ 300) = true := decide_eq_true t_n3
        have t_n4 : (n4 : Int) ≤ 300 := by omega
        have d_n4 : decide ((n4 : Int) ≤ 300) = true := decide_eq_true t_n4
        generalize e.bd = bd at *
        by_cases t_5 : (bd.size : Int) ≤ 60000
        · have HR : Hid (smallB e = true) := Lib.hid (by rw [HQ.out, decide_eq_true (by omega), decide_eq_true (by omega), decide_eq_true (by omega), decide_eq_true (by omega), decide_eq_true (by omega)]; rfl)
          go_wp2_with fail
          go_ret
          exact ⟨by rw [HR.out]; rfl, HX.out⟩
        · have HR : Hid (smallB e = false) := Lib.hid (by rw [HQ.out, show decide (bd.size ≤ 60000) = false from decide_eq_false (by omega)]; simp)
          go_wp2_with fail
          go_ret
          exact ⟨by rw [HR.out]; rfl, HX.out⟩
end Go.Proofs.YtbncaiocmklgnaaGreatDoor

/- The statement EventFields, plain: one field turned, and an event may be no more. -/
namespace Go.Proofs.YtbncaiocmklgnaaGreatDoor
open Go.RowKit Go.Lib

/-- What an event that may be is. -/
structure Okk (e : PE) (kk : Nat) : Prop where
  l : longE e = false
  k : e.k = (kk : Int)
  k1 : 1 ≤ kk
  k2 : kk ≤ 11
  n : 2 ≤ e.n ∧ numB e.n = true
  a : (kindP kk).all (holdsP e) = true
  b : bareE (dropE e (kindP kk)) = true
theorem chk_ok {e : PE} (h : chkE e = 0) : ∃ kk, Okk e kk := by
  obtain ⟨h1, h2⟩ := chk_zero h
  unfold rightE at h2
  simp only [Bool.and_eq_true, decide_eq_true_iff] at h2
  obtain ⟨⟨⟨⟨⟨a1, a2⟩, a3⟩, a4⟩, a5⟩, a6⟩ := h2
  obtain ⟨kk, hkk⟩ := Int.eq_ofNat_of_zero_le (show 0 ≤ e.k by omega)
  rw [hkk, Int.toNat_natCast] at a5 a6
  exact ⟨kk, h1, hkk, by omega, by omega, ⟨a3, a4⟩, a5, a6⟩
theorem chk_turned {x : PE} {kk : Nat} (h1 : longE x = false) (h2 : x.k = (kk : Int)) (h3 : (kindP kk).all (holdsP x) = false ∨ bareE (dropE x (kindP kk)) = false) : chkE x = 110 := by
  refine chk_bad h1 ?_
  unfold rightE
  rw [h2, Int.toNat_natCast]
  rcases h3 with h3 | h3 <;> rw [h3] <;> simp
theorem num0 : numB 0 = false := by decide
theorem num_ne {n : Int} (h : numB n = true) : n ≠ 0 := by
  rintro rfl
  rw [num0] at h
  cases h
/-- Each kind by itself. -/
theorem kinds_cases {kk : Nat} (h1 : 1 ≤ kk) (h2 : kk ≤ 11) : kk = 1 ∨ kk = 2 ∨ kk = 3 ∨ kk = 4 ∨ kk = 5 ∨ kk = 6 ∨ kk = 7 ∨ kk = 8 ∨ kk = 9 ∨ kk = 10 ∨ kk = 11 := by omega
def turn0 (e : PE) : PE := { e with bx := if e.bx = 0 then 7 else 0 }
def turn1 (e : PE) : PE := { e with tt := if e.tt = 0 then 7 else 0 }
def aB : ByteArray := ⟨#[97]⟩
def turn2 (e : PE) : PE := { e with nm := if e.nm.toList.isEmpty = true then aB else ⟨#[]⟩ }
def turn3 (e : PE) : PE := { e with ns := if e.ns.length = 0 then [aB] else [] }
def turn4 (e : PE) : PE := { e with us := if e.us.length = 0 then [7] else [] }
def turn5 (e : PE) : PE := { e with ms := if e.ms.length = 0 then [(7, [])] else [] }
def turn6 (e : PE) : PE := { e with y := if e.y = 0 then 2026 else 0, mo := if e.y = 0 then 1 else 0, d := if e.y = 0 then 1 else 0, h := 0, mi := 0, s := 0, z := 0 }
def turn9 (e : PE) : PE := { e with bs := if e.bs.length = 0 then [7] else [] }
theorem long_parts {e : PE} (h : longE e = false) : e.ns.length ≤ 16 ∧ e.bs.length ≤ 16 ∧ e.us.length ≤ 64 ∧ e.ms.length ≤ 64 ∧ e.ms.any (fun m => decide (16 < m.2.length)) = false ∧ e.bd.size ≤ 16384 := by
  unfold longE at h
  simp only [Bool.or_eq_false_iff, decide_eq_false_iff_not] at h
  obtain ⟨⟨⟨⟨⟨a1, a2⟩, a3⟩, a4⟩, a5⟩, a6⟩ := h
  exact ⟨by omega, by omega, by omega, by omega, a5, by omega⟩
theorem long_of {x : PE} (a1 : x.ns.length ≤ 16) (a2 : x.bs.length ≤ 16) (a3 : x.us.length ≤ 64) (a4 : x.ms.length ≤ 64) (a5 : x.ms.any (fun m => decide (16 < m.2.length)) = false) (a6 : x.bd.size ≤ 16384) : longE x = false := by
  unfold longE
  rw [decide_eq_false (by omega), decide_eq_false (by omega), decide_eq_false (by omega), decide_eq_false (by omega), a5, decide_eq_false (by omega)]
  rfl
theorem nm_empty : nmB ⟨#[]⟩ = false := by decide +kernel
theorem empty_nm {s : ByteArray} (h : s.toList.isEmpty = true) : s = ⟨#[]⟩ := by
  rw [Lib.toList_data] at h
  cases s with
  | mk d =>
    have : d.toList = [] := by simpa using h
    have : d = #[] := by simpa using this
    rw [this]
theorem chk0 {e : PE} {kk : Nat} (h : Okk e kk) : chkE (turn0 e) = 110 := by
  obtain ⟨l1, l2, l3, l4, l5, l6⟩ := long_parts h.l
  refine chk_turned (kk := kk) (long_of l1 l2 l3 l4 l5 l6) h.k ?_
  have ha := h.a
  have hb := h.b
  rcases kinds_cases h.k1 h.k2 with rfl | rfl | rfl | rfl | rfl | rfl | rfl | rfl | rfl | rfl | rfl <;> simp only [kindP, List.all_cons, List.all_nil, Bool.and_true, Bool.and_eq_true, dropE, List.foldl_cons, List.foldl_nil, dropP, holdsP, bareE, decide_eq_true_iff] at ha hb ⊢ <;> first
    | (left; have := num_ne ha.1; simp [turn0, this, num0]; done)
    | (left; have := num_ne ha; simp [turn0, this, num0]; done)
    | (right; simp [turn0, hb]; done)
    | (right; simp [turn0, hb.1.1.1.1.1.1.1.1.1]; done)
end Go.Proofs.YtbncaiocmklgnaaGreatDoor

/- The statement EventFields, plain: the other fields. -/
namespace Go.Proofs.YtbncaiocmklgnaaGreatDoor
open Go.RowKit Go.Lib

theorem aB_ne : aB.toList.isEmpty = false := by decide +kernel
theorem riseN_nil : riseN [] = false := rfl
theorem areN_nil : areN [] = false := rfl
theorem goOn_nil : goOnB [] = false := rfl
theorem nm_ne {s : ByteArray} (h : nmB s = true) : s.toList.isEmpty = false := by
  cases e : s.toList.isEmpty with
  | false => rfl
  | true => rw [empty_nm e, nm_empty] at h; cases h
theorem areN_ne {l : List ByteArray} (h : areN l = true) : l.length ≠ 0 := by
  intro e
  rw [List.eq_nil_of_length_eq_zero e, areN_nil] at h
  cases h
theorem riseN_ne {l : List Int} (h : riseN l = true) : l.length ≠ 0 := by
  intro e
  rw [List.eq_nil_of_length_eq_zero e, riseN_nil] at h
  cases h
theorem goOn_ne {l : List Int} (h : goOnB l = true) : l.length ≠ 0 := by
  intro e
  rw [List.eq_nil_of_length_eq_zero e, goOn_nil] at h
  cases h
theorem riseM_ne {l : List (Int × List ByteArray)} (h : riseN (l.map (·.1)) = true) : l.length ≠ 0 := by
  have := riseN_ne h
  rw [List.length_map] at this
  exact this
theorem valid_ne {y mo d h mi s z : Int} (hv : validB y mo d h mi s z = true) : y ≠ 0 := by
  unfold validB isDayB at hv
  simp only [Bool.and_eq_true, decide_eq_true_iff] at hv
  omega
theorem valid0 : validB 0 0 0 0 0 0 0 = false := by decide
theorem len0 {α : Type} {l : List α} (h : l.isEmpty = true) : l.length = 0 := by cases l with | nil => rfl | cons _ _ => cases h
theorem chk1 {e : PE} {kk : Nat} (h : Okk e kk) : chkE (turn1 e) = 110 := by
  obtain ⟨l1, l2, l3, l4, l5, l6⟩ := long_parts h.l
  refine chk_turned (kk := kk) (long_of l1 l2 l3 l4 l5 l6) h.k ?_
  have ha := h.a
  have hb := h.b
  rcases kinds_cases h.k1 h.k2 with rfl | rfl | rfl | rfl | rfl | rfl | rfl | rfl | rfl | rfl | rfl <;> simp only [kindP, List.all_cons, List.all_nil, Bool.and_true, Bool.and_eq_true, dropE, List.foldl_cons, List.foldl_nil, dropP, holdsP, bareE, decide_eq_true_iff] at ha hb ⊢ <;> first
    | (left; have := num_ne ha.2.1; simp [turn1, this, num0]; done)
    | (right; simp [turn1, hb]; done)
theorem chk2 {e : PE} {kk : Nat} (h : Okk e kk) : chkE (turn2 e) = 110 := by
  obtain ⟨l1, l2, l3, l4, l5, l6⟩ := long_parts h.l
  refine chk_turned (kk := kk) (long_of l1 l2 l3 l4 l5 l6) h.k ?_
  have ha := h.a
  have hb := h.b
  rcases kinds_cases h.k1 h.k2 with rfl | rfl | rfl | rfl | rfl | rfl | rfl | rfl | rfl | rfl | rfl <;> simp only [kindP, List.all_cons, List.all_nil, Bool.and_true, Bool.and_eq_true, dropE, List.foldl_cons, List.foldl_nil, dropP, holdsP, bareE, decide_eq_true_iff] at ha hb ⊢ <;> first
    | (left; simp only [turn2, nm_ne ha, Bool.false_eq_true, if_false]; exact nm_empty)
    | (right; simp only [turn2, hb.1.1.1.1.1.1.2, if_true, aB_ne]; simp; done)
theorem chk3 {e : PE} {kk : Nat} (h : Okk e kk) : chkE (turn3 e) = 110 := by
  obtain ⟨l1, l2, l3, l4, l5, l6⟩ := long_parts h.l
  refine chk_turned (kk := kk) (long_of (by unfold turn3; split <;> simp) l2 l3 l4 l5 l6) h.k ?_
  have ha := h.a
  have hb := h.b
  rcases kinds_cases h.k1 h.k2 with rfl | rfl | rfl | rfl | rfl | rfl | rfl | rfl | rfl | rfl | rfl <;> simp only [kindP, List.all_cons, List.all_nil, Bool.and_true, Bool.and_eq_true, dropE, List.foldl_cons, List.foldl_nil, dropP, holdsP, bareE, decide_eq_true_iff] at ha hb ⊢ <;> first
    | (left; have := areN_ne ha.1.2; simp [turn3, this, areN_nil]; done)
    | (left; have := areN_ne ha.2.1.2; simp [turn3, this, areN_nil]; done)
    | (right; have := len0 hb.1.1.1.1.1.2; simp [turn3, this]; done)
theorem chk4 {e : PE} {kk : Nat} (h : Okk e kk) : chkE (turn4 e) = 110 := by
  obtain ⟨l1, l2, l3, l4, l5, l6⟩ := long_parts h.l
  refine chk_turned (kk := kk) (long_of l1 l2 (by unfold turn4; split <;> simp) l4 l5 l6) h.k ?_
  have ha := h.a
  have hb := h.b
  rcases kinds_cases h.k1 h.k2 with rfl | rfl | rfl | rfl | rfl | rfl | rfl | rfl | rfl | rfl | rfl <;> simp only [kindP, List.all_cons, List.all_nil, Bool.and_true, Bool.and_eq_true, dropE, List.foldl_cons, List.foldl_nil, dropP, holdsP, bareE, decide_eq_true_iff] at ha hb ⊢ <;> first
    | (left; have := riseN_ne ha.2; simp [turn4, this, riseN_nil]; done)
    | (left; have := riseN_ne ha.2.2.2; simp [turn4, this, riseN_nil]; done)
    | (right; have := len0 hb.1.1.1.2; simp [turn4, this]; done)
theorem chk5 {e : PE} {kk : Nat} (h : Okk e kk) : chkE (turn5 e) = 110 := by
  obtain ⟨l1, l2, l3, l4, l5, l6⟩ := long_parts h.l
  refine chk_turned (kk := kk) (long_of l1 l2 l3 (by unfold turn5; split <;> simp) (by unfold turn5; split <;> simp) l6) h.k ?_
  have ha := h.a
  have hb := h.b
  rcases kinds_cases h.k1 h.k2 with rfl | rfl | rfl | rfl | rfl | rfl | rfl | rfl | rfl | rfl | rfl <;> simp only [kindP, List.all_cons, List.all_nil, Bool.and_true, Bool.and_eq_true, dropE, List.foldl_cons, List.foldl_nil, dropP, holdsP, bareE, decide_eq_true_iff] at ha hb ⊢ <;> first
    | (left; have hm := ha.2.2.1.1.1; have : e.ms.length ≠ 0 := by omega
       simp [turn5, this]; done)
    | (left; have := riseM_ne ha.2.1; simp [turn5, this, riseN_nil]; done)
    | (right; have := len0 hb.1.1.2; simp [turn5, this]; done)
theorem chk6 {e : PE} {kk : Nat} (h : Okk e kk) : chkE (turn6 e) = 110 := by
  obtain ⟨l1, l2, l3, l4, l5, l6⟩ := long_parts h.l
  refine chk_turned (kk := kk) (long_of l1 l2 l3 l4 l5 l6) h.k ?_
  have ha := h.a
  have hb := h.b
  rcases kinds_cases h.k1 h.k2 with rfl | rfl | rfl | rfl | rfl | rfl | rfl | rfl | rfl | rfl | rfl <;> simp only [kindP, List.all_cons, List.all_nil, Bool.and_true, Bool.and_eq_true, dropE, List.foldl_cons, List.foldl_nil, dropP, holdsP, bareE, decide_eq_true_iff] at ha hb ⊢ <;> first
    | (left; have := valid_ne ha.2.2.2; simp [turn6, this, valid0]; done)
    | (right; have := hb.1.2.1; simp [turn6, this]; done)
theorem chk9 {e : PE} {kk : Nat} (h : Okk e kk) : chkE (turn9 e) = 110 := by
  obtain ⟨l1, l2, l3, l4, l5, l6⟩ := long_parts h.l
  refine chk_turned (kk := kk) (long_of l1 (by unfold turn9; split <;> simp) l3 l4 l5 l6) h.k ?_
  have ha := h.a
  have hb := h.b
  rcases kinds_cases h.k1 h.k2 with rfl | rfl | rfl | rfl | rfl | rfl | rfl | rfl | rfl | rfl | rfl <;> simp only [kindP, List.all_cons, List.all_nil, Bool.and_true, Bool.and_eq_true, dropE, List.foldl_cons, List.foldl_nil, dropP, holdsP, bareE, decide_eq_true_iff] at ha hb ⊢ <;> first
    | (left; have := goOn_ne ha.2; simp [turn9, this, goOn_nil]; done)
    | (left; have := goOn_ne ha.2.2; simp [turn9, this, goOn_nil]; done)
    | (right; have := len0 hb.1.1.1.1.2; simp [turn9, this]; done)
theorem chk_n {e : PE} {kk : Nat} (h : Okk e kk) (n : Int) (hn : ¬ (2 ≤ n ∧ numB n = true)) : chkE { e with n := n } = 110 := by
  refine chk_bad h.l ?_
  unfold rightE
  rw [Bool.eq_false_iff]
  intro hh
  simp only [Bool.and_eq_true, decide_eq_true_iff] at hh
  exact hn ⟨hh.1.1.1.2, hh.1.1.2⟩
theorem chk7 {e : PE} {kk : Nat} (h : Okk e kk) : chkE { e with n := 1 } = 110 := chk_n h 1 (by omega)
theorem chk10 {e : PE} {kk : Nat} (h : Okk e kk) : chkE { e with n := 4294967295 } = 110 := chk_n h _ (fun hh => absurd hh.2 (by decide))
theorem chk8 {e : PE} {kk : Nat} (h : Okk e kk) : chkE { e with k := 12 } = 110 := by
  refine chk_bad h.l ?_
  unfold rightE
  rw [Bool.eq_false_iff]
  intro hh
  simp only [Bool.and_eq_true, decide_eq_true_iff] at hh
  exact absurd hh.1.1.1.1.2 (by decide)
def xB : ByteArray := ⟨#[120]⟩
theorem xB_ne : xB.toList.isEmpty = false := by decide +kernel
theorem chk11 {e : PE} {kk : Nat} (h : Okk e kk) (h5 : e.k ≠ 5) : chkE { e with bd := xB } = 110 := by
  obtain ⟨l1, l2, l3, l4, l5, l6⟩ := long_parts h.l
  refine chk_turned (kk := kk) (long_of l1 l2 l3 l4 l5 (by show xB.size ≤ 16384; decide)) h.k ?_
  have hk := h.k
  rcases kinds_cases h.k1 h.k2 with rfl | rfl | rfl | rfl | rfl | rfl | rfl | rfl | rfl | rfl | rfl <;> first
    | exact absurd hk h5
    | (right; simp only [kindP, dropE, List.foldl_cons, List.foldl_nil, dropP, bareE, xB_ne, Bool.and_false]; done)
end Go.Proofs.YtbncaiocmklgnaaGreatDoor

/- The statement EventFields: its end (c11ygen.py). -/
namespace Go.Proofs.YtbncaiocmklgnaaGreatDoor
open Go.RowKit Go.Lib

noncomputable def fieldsFrom (n : Nat) : Code := ((Tryz.f4.body.bind (fromReg n)).getD .skip)
noncomputable def fields52 : Code := fstC (fieldsFrom 52)
noncomputable def fieldsEnd : Code := rstC (fieldsFrom 52)
set_option maxHeartbeats 4000000 in
set_option maxRecDepth 20000 in
theorem fields_tail (b : Nat) (x : PE) (vn vb vu vm : Value) (w X : World) (HB : Hid (Below w.heap.size w X)) (HE : Hid (Env3 X)) (HX : Hid (X.heap[b]? = some (.cells (evC x vn vb vu vm) 35 (0, 0)))) (HL : Hid (Lst X x vn vb vu vm)) (HC : Hid (chkE x = 110)) (s0 s1 s2 s3 s4 s6 s7 s8 s9 s10 s11 s12 s13 s14 s15 s16 s17 s18 s19 s20 s21 s22 s23 s24 s25 s26 s27 s28 s29 s30 s31 s32 s33 s34 s35 s36 s37 s38 s39 s40 s41 s42 s43 s44 s45 s46 s47 s48 s49 s50 s51 s52 s53 s54 s55 s56 s57 s58 s59 s60 s61 s62 s63 s64 s65 s66 s67 s68 s69 s70 s71 s72 s73 s74 s75 s76 s77 s78 s79 s80 s81 s82 s83 s84 s85 s86 s87 s88 s89 s90 s91 s92 s93 s94 s95 s96 s97 s98 s99 s100 s101 s102 s103 s104 s105 s106 s107 s108 s109 s110 s111 s112 s113 s114 s115 s116 s117 s118 s119 s120 s121 s122 : Value) (K : Act → World → Prop) (hK : ∀ a w1, Code.wp Tryz.prog fieldsEnd (bodyPost Tryz.prog Tryz.f4 (fun r w' => r = .returned (.bool true) ∧ Below w.heap.size w w')) a w1 → K a w1) :
    Code.wp Tryz.prog fields52 (Exit.then K (bodyPost Tryz.prog Tryz.f4 (fun r w' => r = .returned (.bool true) ∧ Below w.heap.size w w'))) ⟨#[s0, s1, s2, s3, s4, ptr b, s6, s7, s8, s9, s10, s11, s12, s13, s14, s15, s16, s17, s18, s19, s20, s21, s22, s23, s24, s25, s26, s27, s28, s29, s30, s31, s32, s33, s34, s35, s36, s37, s38, s39, s40, s41, s42, s43, s44, s45, s46, s47, s48, s49, s50, s51, s52, s53, s54, s55, s56, s57, s58, s59, s60, s61, s62, s63, s64, s65, s66, s67, s68, s69, s70, s71, s72, s73, s74, s75, s76, s77, s78, s79, s80, s81, s82, s83, s84, s85, s86, s87, s88, s89, s90, s91, s92, s93, s94, s95, s96, s97, s98, s99, s100, s101, s102, s103, s104, s105, s106, s107, s108, s109, s110, s111, s112, s113, s114, s115, s116, s117, s118, s119, s120, s121, s122], []⟩ X := by
  conv => arg 2; whnf
  have HK := Lib.hid hK
  have HEv : Hid (∀ Y, Below X.heap.size X Y → Y.heap[b]? = some (.cells (evC x vn vb vu vm) 35 (0, 0))) := Lib.hid (fun Y hY => by rw [hY.block _ (lt_of_heap HX.out)]; exact HX.out)
  have HEn : Hid (∀ Y, Below X.heap.size X Y → Calls Tryz.prog 12 #[.agg (evC x vn vb vu vm)] Y fun r w' => r = .returned (.tuple #[.string ⟨#[]⟩, .int .i64 110]) ∧ Below Y.heap.size Y w') := Lib.hid (fun Y hY => EncodeE_bad x vn vb vu vm Y (HE.out.on hY) (HL.out.on hY) HC.out)
  have HCh : Hid (∀ Y, Below X.heap.size X Y → Calls Tryz.prog 11 #[.agg (evC x vn vb vu vm)] Y fun r w' => r = .returned (.int .i64 110) ∧ Below Y.heap.size Y w') := Lib.hid (fun Y hY => by have h := CheckE x vn vb vu vm Y (HE.out.on hY) (HL.out.on hY); rw [HC.out] at h; exact h)
  have HSz : Hid (∀ Y, Below X.heap.size X Y → Calls Tryz.prog 13 #[.agg (evC x vn vb vu vm)] Y fun r w' => r = .returned (.int .i64 0) ∧ Below Y.heap.size Y w') := Lib.hid (fun Y hY => SizeE_bad x vn vb vu vm Y (HE.out.on hY) (HL.out.on hY) HC.out)
  have H0 : Hid (Below X.heap.size X X) := Lib.hid (Below.refl _ _)
  clear hK
  go_wp2_with (first | (go_at_call 12; refine (HEn.out _ H0.out).mono ?_; rintro r w1 ⟨rfl, hb⟩; have H1 := Lib.hid hb; clear hb) | (have hq := H0; clear hq; refine wpList_load_row rfl 35 _ rfl b rfl 35 _ (0, 0) _ (HEv.out _ H0.out) Tryz.underlying35 rfl (Tryz.sizeEvC x vn vb vu vm) ?_))
  refine HK.out _ _ ?_
  clear HK K
  conv => arg 2; whnf
  go_wp2_with (first | (go_at_call 11; refine (HCh.out _ H1.out).mono ?_; rintro r w2 ⟨rfl, hb⟩; have H2 := Lib.hid (H1.out.trans (hb.mono H1.out.size)); clear hb) | (go_at_call 13; refine (HSz.out _ H2.out).mono ?_; rintro r w3 ⟨rfl, hb⟩; have H3 := Lib.hid (H2.out.trans (hb.mono H2.out.size)); clear hb) | (have hq := H2; clear hq; refine wpList_load_rowG 35 _ rfl b rfl 35 _ (0, 0) _ (HEv.out _ H2.out) Tryz.underlying35 rfl (Tryz.sizeEvC x vn vb vu vm) (by kernel_rfl) ?_) | (have hq := H2; clear hq; refine wpList_load_row rfl 35 _ rfl b rfl 35 _ (0, 0) _ (HEv.out _ H2.out) Tryz.underlying35 rfl (Tryz.sizeEvC x vn vb vu vm) ?_) | (have hq := H1; clear hq; refine wpList_load_row rfl 35 _ rfl b rfl 35 _ (0, 0) _ (HEv.out _ H1.out) Tryz.underlying35 rfl (Tryz.sizeEvC x vn vb vu vm) ?_))
  go_ret
  exact ⟨rfl, HB.out.trans (H3.out.mono HB.out.size)⟩
end Go.Proofs.YtbncaiocmklgnaaGreatDoor

/- The statement EventFields: its walk (c11ygen.py). -/
namespace Go.Proofs.YtbncaiocmklgnaaGreatDoor
open Go.RowKit Go.Lib

theorem one_str {X : World} {g : Nat} {t : ByteArray} (h : X.heap[g]? = some (.cells #[.string t] 9 (0, 0))) : Strs X (.slice (some ⟨g, 0, none⟩) 1 1) [t] := by
  refine .inr ⟨g, 0, 1, rfl, by simp, lt_of_heap h, fun i hi => ?_⟩
  have hi : i = 0 := by simpa using hi
  subst hi
  exact cell_of h 0
theorem one_int {X : World} {g : Nat} {t : Int} (h : X.heap[g]? = some (.cells #[.int .i64 t] 3 (0, 0))) : Ints X (.slice (some ⟨g, 0, none⟩) 1 1) [t] := by
  refine .inr ⟨g, 0, 1, rfl, by simp, lt_of_heap h, fun i hi => ?_⟩
  have hi : i = 0 := by simpa using hi
  subst hi
  exact cell_of h 0
theorem one_mark {X : World} {g : Nat} {t : Int} (h : X.heap[g]? = some (.cells #[.int .i64 t, .slice none 0 0] 39 (0, 0))) : Mks X (.slice (some ⟨g, 0, none⟩) 1 1) [(t, [])] := by
  refine .inr ⟨g, 0, 1, rfl, by simp, lt_of_heap h, fun i hi => ?_⟩
  have hi : i = 0 := by simpa using hi
  subst hi
  exact ⟨.slice none 0 0, cell_of h 0, cell_of h 1, .inl ⟨rfl, none, 0, rfl⟩⟩
/-- An event and its copy. -/
structure Cpy (w : World) (b : Nat) (e x : PE) (vn vb vu vm vn' vb' vu' vm' : Value) (X : World) : Prop where
  k : KB w [(b, .cells (evC x vn' vb' vu' vm') 35 (0, 0)), (w.heap.size, .cells (evC e vn vb vu vm) 35 (0, 0))] X
  lo : w.heap.size ≤ b
  ne : w.heap.size ≠ b
theorem Cpy.set {w : World} {b : Nat} {e x : PE} {vn vb vu vm vn' vb' vu' vm' : Value} {X : World} (h : Cpy w b e x vn vb vu vm vn' vb' vu' vm' X) (o : Nat) (v : Value) {y : PE} {un ub uu um : Value} (hy : (evC x vn' vb' vu' vm').setIfInBounds o v = evC y un ub uu um) : Cpy w b e y vn vb vu vm un ub uu um (X.setCell ⟨b, o, none⟩ v) := by
  have hk := h.k.cell h.lo (fun z hz => by
    rcases List.mem_cons.1 hz with rfl | hz
    · exact h.ne
    · cases hz) o v
  rw [hy] at hk
  exact ⟨hk, h.lo, h.ne⟩
theorem Cpy.alloc {w : World} {b : Nat} {e x : PE} {vn vb vu vm vn' vb' vu' vm' : Value} {X : World} (h : Cpy w b e x vn vb vu vm vn' vb' vu' vm' X) (o : Obj) : Cpy w b e x vn vb vu vm vn' vb' vu' vm' (X.alloc o) := ⟨h.k.go ((Below.refl _ _).alloc (Nat.le_refl _) o), h.lo, h.ne⟩
set_option maxHeartbeats 4000000 in
set_option maxRecDepth 20000 in
theorem fields_early (e : PE) (vn vb vu vm : Value) (sw : Int) (w : World) (he : Env3 w) (hL : Lst w e vn vb vu vm) (h : smallB e = false ∨ ¬ chkE e = 0) : Calls Tryz.prog 4 #[.agg (evC e vn vb vu vm), .int .i64 sw] w fun r w' => r = .returned (.bool true) ∧ Below w.heap.size w w' := by
  obtain ⟨W1, hW1⟩ : ∃ W1, w.alloc (.cells (evC e vn vb vu vm) 35) = W1 := ⟨_, rfl⟩
  have h1 : W1.heap[w.heap.size]? = some (.cells (evC e vn vb vu vm) 35 (0, 0)) := by rw [← hW1]; exact heap_new _ _
  have hb1 : Below w.heap.size w W1 := by rw [← hW1]; exact below_box (Below.refl _ _) _
  have HEv : Hid (∀ Y, Below W1.heap.size W1 Y → Y.heap[w.heap.size]? = some (.cells (evC e vn vb vu vm) 35 (0, 0))) := Lib.hid (fun Y hY => by rw [hY.block _ (lt_of_heap h1)]; exact h1)
  have HW : Hid (∀ Y, Below W1.heap.size W1 Y → Below w.heap.size w Y) := Lib.hid (fun Y hY => hb1.trans (hY.mono hb1.size))
  have HSm : Hid (∀ Y, Below W1.heap.size W1 Y → Calls Tryz.prog 10 #[.agg (evC e vn vb vu vm)] Y fun r w' => r = .returned (.bool (smallB e)) ∧ Below Y.heap.size Y w') := Lib.hid (fun Y hY => smallE_any e vn vb vu vm Y (hL.on (HW.out Y hY)))
  have HKn : Hid (∀ Y, Below W1.heap.size W1 Y → Calls Tryz.prog 6 #[] Y fun r w' => r = .returned (.bool true) ∧ Below Y.heap.size Y w') := Lib.hid (fun Y hY => known_any Y ⟨(he.on (HW.out Y hY)).e, (he.on (HW.out Y hY)).f⟩)
  have HCh : Hid (∀ Y, Below W1.heap.size W1 Y → Calls Tryz.prog 11 #[.agg (evC e vn vb vu vm)] Y fun r w' => r = .returned (.int .i64 (chkE e)) ∧ Below Y.heap.size Y w') := Lib.hid (fun Y hY => CheckE e vn vb vu vm Y (he.on (HW.out Y hY)) (hL.on (HW.out Y hY)))
  have HB1 : Hid (Below W1.heap.size W1 W1) := Lib.hid (Below.refl _ _)
  have HEn := Lib.hid he
  have HLs := Lib.hid hL
  clear h1 hb1 he hL
  cases hs : smallB e with
  | false =>
    rw [hs] at HSm
    clear h hs
    go_enter Tryz.func4, Tryz.ntmps4
    go_upto_region 1 with fail
    (try rw [hW1])
    clear hW1
    go_wp2_with (first | (go_at_call 10; refine (HSm.out _ HB1.out).mono ?_; rintro r w2 ⟨rfl, hb⟩; have HB2 := Lib.hid (HB1.out.trans (hb.mono HB1.out.size)); clear hb) | (have hq := HB1; clear hq; refine wpList_load_row rfl 35 _ rfl w.heap.size rfl 35 _ (0, 0) _ (HEv.out _ HB1.out) Tryz.underlying35 rfl (Tryz.sizeEvC e vn vb vu vm) ?_))
    go_ret
    exact ⟨rfl, HW.out _ HB2.out⟩
  | true =>
    rw [hs] at HSm h
    have h0 : ¬ chkE e = 0 := by
      rcases h with h | h
      · cases h
      · exact h
    clear h hs
    generalize chkE e = c at *
    have h2 : (c == 0) = false := beq_eq_false_iff_ne.2 h0
    have h3 : (c != 0) = true := by rw [bne, h2]; rfl
    go_enter Tryz.func4, Tryz.ntmps4
    go_upto_region 1 with fail
    (try rw [hW1])
    clear hW1
    go_wp2_with (first | (go_at_call 10; refine (HSm.out _ HB1.out).mono ?_; rintro r w2 ⟨rfl, hb⟩; have HB2 := Lib.hid (HB1.out.trans (hb.mono HB1.out.size)); clear hb) | (go_at_call 6; refine (HKn.out _ HB2.out).mono ?_; rintro r w3 ⟨rfl, hb⟩; have HB3 := Lib.hid (HB2.out.trans (hb.mono HB2.out.size)); clear hb) | (go_at_call 11; refine (HCh.out _ HB3.out).mono ?_; rintro r w4 ⟨rfl, hb⟩; have HB4 := Lib.hid (HB3.out.trans (hb.mono HB3.out.size)); clear hb) | (have hq := HB3; clear hq; refine wpList_load_row rfl 35 _ rfl w.heap.size rfl 35 _ (0, 0) _ (HEv.out _ HB3.out) Tryz.underlying35 rfl (Tryz.sizeEvC e vn vb vu vm) ?_) | (have hq := HB1; clear hq; refine wpList_load_row rfl 35 _ rfl w.heap.size rfl 35 _ (0, 0) _ (HEv.out _ HB1.out) Tryz.underlying35 rfl (Tryz.sizeEvC e vn vb vu vm) ?_))
    go_ret
    exact ⟨rfl, HW.out _ HB4.out⟩
end Go.Proofs.YtbncaiocmklgnaaGreatDoor
