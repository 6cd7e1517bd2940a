/- view: takes, numbered. -/
import Derived.Test.YtflkhnmggmfhfaaGreatQ16t
import Derived.Test.YtflkhnmggmfhfaaGreatVg
namespace Go.Proofs.YtflkhnmggmfhfaaGreat
open Go.RowKit

def takesB (n : Nat) (p : Rg) : Bool := if min p.1 p.2 < 0 then false else if min p.1 p.2 = 0 then (decide (max p.1 p.2 ≤ 4294967295) && decide (0 < n)) else decide (max p.1 p.2 ≤ (n : Int))
section
variable {P : Nat} {mk : Bool} {val : Int} {rv cv : Value} {R : List RE} {C : List Int} {w : World} {N : Nat}
set_option maxHeartbeats 1000000 in
set_option maxRecDepth 20000 in
theorem takes_any (h : VAt mk P val rv cv R C w) (a b : Int) :
    Calls Tryz.prog 57 #[.pointer (some ⟨P, 0, none⟩), rgV a b] w fun e w' => e = .returned (.bool (takesB R.length (a, b))) ∧ Below w.heap.size w w' := by
  obtain ⟨W1, hW1⟩ : ∃ W1, w.alloc (.cells #[.int .i64 a, .int .i64 b] 90) = W1 := ⟨_, rfl⟩
  have h1 : W1.heap[w.heap.size]? = some (.cells #[.int .i64 a, .int .i64 b] 90 (0, 0)) := by rw [← hW1]; exact heap_new _ _
  have hb1 : Below w.heap.size w W1 := by rw [← hW1]; exact (Below.refl _ _).alloc (Nat.le_refl _) _
  have c0 : W1.cell? ⟨w.heap.size, 0, none⟩ = some (.int .i64 a) := cell_of h1 0
  have c1 : W1.cell? ⟨w.heap.size, 1, none⟩ = some (.int .i64 b) := cell_of h1 1
  have hV1 := h.on hb1
  obtain ⟨ar, cr, hrv⟩ := ownsRow_shape h.rows
  have d2 := hV1.cells.c2
  rw [hrv] at d2
  have HB := Lib.hid hb1.drew
  have HT : Hid (takesB R.length (a, b) = if min a b < 0 then false else if min a b = 0 then (decide (max a b ≤ 4294967295) && decide (0 < R.length)) else decide (max a b ≤ (R.length : Int))) := Lib.hid rfl
  generalize takesB R.length (a, b) = tb at *
  generalize hn : R.length = n at *
  clear h h1 hb1 hV1 hrv hn
  by_cases l0 : min a b < 0
  · have HE : Hid (tb = false) := Lib.hid (by rw [HT.out, if_pos l0])
    clear HT
    go_enter Tryz.func57, Tryz.ntmps57
    go_upto_region 1 with fail
    (try rw [hW1])
    clear hW1
    go_region
    generalize min a b = lo at *
    generalize max a b = hi at *
    go_wp2_with fail
    go_ret
    exact ⟨ret_bool HE.out.symm, HB.out⟩
  · by_cases l1 : min a b = 0
    · have l1b : (min a b == 0) = true := by simpa using l1
      by_cases h2 : max a b ≤ 4294967295
      · have HE : Hid (tb = decide (0 < n)) := Lib.hid (by rw [HT.out, if_neg l0, if_pos l1]; simp [h2])
        clear HT l1
        go_enter Tryz.func57, Tryz.ntmps57
        go_upto_region 1 with fail
        (try rw [hW1])
        clear hW1
        go_region
        generalize min a b = lo at *
        generalize max a b = hi at *
        go_wp2_with fail
        go_ret
        exact ⟨ret_bool (by rw [HE.out]), HB.out⟩
      · have HE : Hid (tb = false) := Lib.hid (by rw [HT.out, if_neg l0, if_pos l1]; simp [h2])
        clear HT l1
        go_enter Tryz.func57, Tryz.ntmps57
        go_upto_region 1 with fail
        (try rw [hW1])
        clear hW1
        go_region
        generalize min a b = lo at *
        generalize max a b = hi at *
        go_wp2_with fail
        go_ret
        exact ⟨ret_bool HE.out.symm, HB.out⟩
    · have l1b : (min a b == 0) = false := by simpa using l1
      have HE : Hid (tb = decide (max a b ≤ (n : Int))) := Lib.hid (by rw [HT.out, if_neg l0, if_neg l1])
      clear HT l1
      go_enter Tryz.func57, Tryz.ntmps57
      go_upto_region 1 with fail
      (try rw [hW1])
      clear hW1
      go_region
      generalize min a b = lo at *
      generalize max a b = hi at *
      go_wp2_with fail
      go_ret
      exact ⟨ret_bool HE.out.symm, HB.out⟩
end
end Go.Proofs.YtflkhnmggmfhfaaGreat

/- view: numbered, Find. -/
namespace Go.Proofs.YtflkhnmggmfhfaaGreat
open Go.RowKit

/-- The row with a number. -/
def rowN (R : List RE) (k : Int) : RE := R.getD (k - 1).toNat RE0
def numL (n : Nat) (l : List Rg) : List Int := ofL l (fol 1 n)
theorem fol_one (n : Nat) (h : n ≤ 1000000) : fol 1 n = folN 1 n := fol_eq n n 1 (Nat.le_refl _) (fun i hi => by omega) (.inl rfl)
theorem numL_mem {n : Nat} {l : List Rg} {k : Int} (hn : n ≤ 1000000) (h : k ∈ numL n l) : 1 ≤ k ∧ k ≤ n := by
  unfold numL ofL at h
  have := (List.mem_filter.1 h).1
  rw [fol_one n hn] at this
  unfold folN at this
  obtain ⟨i, hi, rfl⟩ := List.mem_map.1 this
  have := List.mem_range.1 hi
  omega
theorem numL_len (n : Nat) (l : List Rg) : (numL n l).length ≤ n := Nat.le_trans (List.length_filter_le _ _) (fol_length n 1)
def goneN (R : List RE) (ks : List Int) : Bool := ks.any fun k => (rowN R k).gone
def uidN (R : List RE) (ks : List Int) : List Int := ks.map fun k => (rowN R k).uid
theorem goneN_snoc (R : List RE) (ks : List Int) (k : Int) : goneN R (ks ++ [k]) = (goneN R ks || (rowN R k).gone) := by simp [goneN]
theorem uidN_snoc (R : List RE) (ks : List Int) (k : Int) : uidN R (ks ++ [k]) = uidN R ks ++ [(rowN R k).uid] := by simp [uidN]
/-- out = append(out, n): all but out's block is as it was. -/
theorem appIg {ops : Array Oper} {rest : List Oper} {o : Oper} {a : Act} {Q : Exit → Act → World → Prop} (hgd : o.guard = none) (s x : Operand)
    (ho : o.op = .call { callee := .builtin .append, args := #[s, x], argTypes := #[26, 26] })
    {B : Nat} {v2 : Value} {l2 : List Int} {W0 w : World} (c : Int) (ho2 : OwnI B v2 l2 W0 w) (hs : a.eval s = v2) (hx : a.eval x = .slice (some ⟨w.heap.size, 0, none⟩) 1 1)
    (hlen : l2.length + 1 ≤ 17592186044416)
    (h : ∀ v' w', OwnI B v' (l2 ++ [c]) W0 w' → w.grownBy w' v2.ownBlock → wpList Tryz.prog ops Q rest (a.put o.dst v') w') : wpList Tryz.prog ops Q (o :: rest) a (w.alloc (.cells #[.int .i64 c] 3)) := by
  obtain ⟨i0, hi, hz0, hz1, hz2⟩ := info_parts Tryz.infoInt
  have ha := ho2.alloc (.cells #[.int .i64 c] 3)
  refine wpList_append_own _ hgd s x 26 ho B 3 i0 (.int .i64 0) 1 8 Tryz.underlying26 hi hz0 hz1 hz2 rfl (by decide) v2 l2.length (ic l2) hs ha.row ⟨w.heap.size, 0, none⟩ 1 1 [.int .i64 c] hx rfl ?_ ?_ (by unfold maxLen; omega) (by omega) ha.base ?_
  · intro j u hj
    match j, hj with
    | 0, hj => simp at hj; subst hj; simp [Addr.add]
    | (j + 1), hj => simp at hj
  · intro u hu; simp at hu; subst hu; rfl
  · intro v' w' ho' hg _
    refine h v' w' ⟨?_, ha.below.grown hg ha.base (fun k hk => (ha.row.lt k hk).1), Nat.le_trans ha.base hg.size⟩ ⟨hg.os, hg.tape, hg.output, by have := hg.size; simp at this; omega, fun k hk hne => by rw [hg.block k (by simp; omega) hne, Below.heap_alloc _ _ _ hk]⟩
    rw [List.length_append, ic_append]
    exact ho'
section
variable {P : Nat} {mk : Bool} {val : Int} {rv cv : Value} {R : List RE} {C : List Int} {w : World} {N : Nat}
set_option maxRecDepth 100000 in
set_option maxHeartbeats 1000000 in
theorem numbered_any (h : VAt mk P val rv cv R C w) (hR : R.length ≤ 1000000) (v : Value) (l : List Rg) (hr : Rgs w v l) (hl : l.length ≤ 1000000) :
    Calls Tryz.prog 58 #[.pointer (some ⟨P, 0, none⟩), v] w fun e w' => ∃ v', e = .returned (.tuple #[v', .bool (goneN R (numL R.length l))]) ∧ OwnI w.heap.size v' (uidN R (numL R.length l)) w w' := by
  obtain ⟨a2, k2, hrv⟩ := ownsRow_shape h.rows
  subst hrv
  have c2 := h.cells.c2
  have HFo := Lib.hid (following_any 1 R.length w (by omega) (by omega))
  have HOf : Hid (∀ v1 w1, OwnI w.heap.size v1 (fol 1 R.length) w w1 → Calls Tryz.prog 54 #[v, v1] w1 fun e w2 => ∃ a3 c3, e = .returned (.slice a3 (numL R.length l).length c3) ∧ Nms w2 (.slice a3 (numL R.length l).length c3) (numL R.length l) ∧ Below w.heap.size w w2) := Lib.hid (fun v1 w1 ho => by
    have hfl := fol_length R.length 1
    refine (of_any v v1 l (fol 1 R.length) w1 (hr.on ho.below) (ho.ints (by omega)) hl (by omega) (fun n hn => ?_)).mono ?_
    · rw [fol_one _ hR] at hn
      unfold folN at hn
      obtain ⟨i, hi, rfl⟩ := List.mem_map.1 hn
      have := List.mem_range.1 hi
      omega
    · rintro e w2 ⟨v2, rfl, ho2⟩
      obtain ⟨a3, c3, rfl⟩ := ownsRow_shape ho2.row
      exact ⟨a3, c3, rfl, nms_of ho2.row, ho.below.trans (ho2.below.mono ho.base)⟩)
  have HV := Lib.hid h
  have HMm := Lib.hid (fun k (hk : k ∈ numL R.length l) => numL_mem hR hk)
  have hnl := numL_len R.length l
  clear h hr
  generalize numL R.length l = ks at *
  go_enter Tryz.func58, Tryz.ntmps58
  go_wp2_with (first | (go_at_call 68; refine HFo.out.mono ?_; rintro e w1 ⟨v1, rfl, ho1⟩; have HO1 := Lib.hid ho1; clear ho1) | (go_at_call 54; refine (HOf.out _ _ HO1.out).mono ?_; rintro e w2 ⟨a3, c3, rfl, hn2, hb2⟩; have HN2 := Lib.hid hn2; have HB2 := Lib.hid hb2; clear hn2 hb2))
  go_loopw [6, 7, 20] (fun u6 gb i wr => ∃ (k : Nat) (v6 : Value), k ≤ ks.length ∧ i = .int .i64 k ∧ gb = .bool (goneN R (ks.take k)) ∧ v6 = u6 ∧ OwnI w2.heap.size v6 (uidN R (ks.take k)) w2 wr) (fun _ _ i _ => ks.length - (intOf i).toNat)
  case atStart => exact ⟨0, _, Nat.zero_le _, rfl, rfl, rfl, OwnI.nil (Below.refl _ _) (Nat.le_refl _)⟩
  case round =>
    clear c2
    obtain ⟨k, v6, hk, rfl, rfl, hv6, hO⟩ := hrel
    subst hv6
    by_cases hlt : k < ks.length
    · have hlti : (k : Int) < (ks.length : Int) := by omega
      obtain ⟨a9, c9, he9, hcs9⟩ := HN2.out
      obtain ⟨b, off, hab, hb, hcc⟩ := hcs9 (by omega)
      cases he9
      subst hab
      have ck := hcc k hlt
      rw [← hO.below.cell (p := ⟨b, off + k, none⟩) hb] at ck
      have hm := HMm.out (ks.getD k 0) (by rw [List.getD_eq_getElem?_getD, List.getElem?_eq_getElem hlt]; exact List.getElem_mem hlt)
      obtain ⟨j, hj⟩ : ∃ j : Nat, ks.getD k 0 = (j : Int) + 1 := ⟨(ks.getD k 0 - 1).toNat, by omega⟩
      have hjl : j < R.length := by omega
      have hji : (j : Int) < (R.length : Int) := by omega
      have hVr : VAt mk P val (.slice a2 R.length k2) cv R C wr := HV.out.on (⟨hO.below.os.trans HB2.out.os, hO.below.tape.trans HB2.out.tape, hO.below.output.trans HB2.out.output, Nat.le_trans HB2.out.size hO.below.size, fun b hb => by rw [hO.below.block b (Nat.lt_of_lt_of_le hb HB2.out.size), HB2.out.block b hb]⟩)
      obtain ⟨g3, cap3, e3, c4, c5, c6, c7, _⟩ := hVr.row_at hjl
      cases e3
      have d2 := hVr.cells.c2
      obtain ⟨yo, hyo⟩ : ∃ yo, (R.getD j RE0).ptr = .pointer yo := ⟨_, rfl⟩
      rw [hyo] at c7
      have hrow : rowN R (ks.getD k 0) = R.getD j RE0 := by unfold rowN; rw [hj]; congr 1; omega
      have HS : Hid (uidN R (ks.take (k + 1)) = uidN R (ks.take k) ++ [(R.getD j RE0).uid]) := Lib.hid (by rw [take_snocI ks k hlt, uidN_snoc, hrow])
      have HG : Hid (goneN R (ks.take (k + 1)) = (goneN R (ks.take k) || (R.getD j RE0).gone)) := Lib.hid (by rw [take_snocI ks k hlt, goneN_snoc, hrow])
      have hul : (uidN R (ks.take k)).length ≤ 1000000 := by simp only [uidN, List.length_map, List.length_take]; omega
      have HO := Lib.hid hO
      rw [hj] at ck
      have hj1 : ((j : Int) + 1) - 1 = j := by omega
      clear hcc hcs9 hVr hyo hrow hO hm hj
      generalize (R.getD j RE0).uid = x at *
      generalize (R.getD j RE0).gone = yg at *
      generalize (R.getD j RE0).rct = yr at *
      generalize uidN R (ks.take k) = D at *
      generalize goneN R (ks.take k) = gg at *
      obtain ⟨Y, hY⟩ : ∃ Y, wr.alloc (.cells #[.int .i64 x, .bool yg, .bool yr, .pointer yo] 82) = Y := ⟨_, rfl⟩
      have hYn : Y.heap[wr.heap.size]? = some (.cells #[.int .i64 x, .bool yg, .bool yr, .pointer yo] 82 (0, 0)) := by rw [← hY]; exact heap_new _ _
      have HA : Hid (OwnI w2.heap.size v6 D w2 Y) := Lib.hid (by rw [← hY]; exact HO.out.alloc _)
      have x0 : Y.cell? ⟨wr.heap.size, 0, none⟩ = some (.int .i64 x) := cell_of hYn 0
      have x1 : Y.cell? ⟨wr.heap.size, 1, none⟩ = some (.bool yg) := cell_of hYn 1
      have hwY : wr.heap.size < Y.heap.size := lt_of_heap hYn
      have HX1 : Hid (∀ v3 w3, OwnI w2.heap.size v3 (D ++ [x]) w2 w3 → True) := Lib.hid (fun _ _ _ => trivial)
      clear HX1 hYn
      have HY := Lib.hid hY
      clear hY
      go_upto_region 7 with fail
      (try rw [HY.out])
      clear HY
      cases gg with
      | true =>
        go_wp2_with (at_builtin; refine appI rfl _ _ rfl x HA.out rfl rfl (by omega) ?_; intro v3 w3 ho3; have HO3 := Lib.hid ho3; clear ho3)
        go_roundw
        case rel => exact ⟨k + 1, _, by omega, by go_num, by rw [HG.out]; rfl, rfl, by rw [HS.out]; exact HO3.out⟩
        case measure => simp [intOf]; omega
      | false =>
        have HYk : Hid (∀ w3 : World, Y.grownBy w3 v6.ownBlock → w3.cell? ⟨wr.heap.size, 1, none⟩ = some (.bool yg)) := Lib.hid (fun w3 hg => by
          rw [World.cell?_of_block (a := ⟨wr.heap.size, 1, none⟩) (hg.block _ hwY (fun e => absurd (HO.out.row.lt _ e.symm).2 (Nat.lt_irrefl _)))]
          exact x1)
        go_wp2_with (at_builtin; refine appIg rfl _ _ rfl x HA.out rfl rfl (by omega) ?_; intro v3 w3 ho3 hg3; have y1 := HYk.out w3 hg3; have HO3 := Lib.hid ho3; clear ho3 hg3)
        go_roundw
        case rel => exact ⟨k + 1, _, by omega, by go_num, by rw [HG.out]; rfl, rfl, by rw [HS.out]; exact HO3.out⟩
        case measure => simp [intOf]; omega
    · obtain rfl : k = ks.length := by omega
      rw [List.take_of_length_le (Nat.le_refl _)] at hO
      rw [List.take_of_length_le (Nat.le_refl _)]
      have HO := Lib.hid (((hO.mono HB2.out.size).shift HB2.out))
      clear hO
      go_wp2
      go_ret2
      exact ⟨_, rfl, HO.out⟩
theorem notTakes (h : VAt mk P val rv cv R C w) (bx : Nat) (hbx : w.cell? ⟨bx, 0, none⟩ = some (.pointer (some ⟨P, 0, none⟩))) (a b : Int) :
    Calls Tryz.prog 56 #[rgV a b, .pointer (some ⟨bx, 0, none⟩)] w fun e w' => e = .returned (.bool (!takesB R.length (a, b))) ∧ Below w.heap.size w w' := by
  have hb1 : Below w.heap.size w (w.alloc (.cells #[.int .i64 a, .int .i64 b] 90)) := (Below.refl _ _).alloc (Nat.le_refl _) _
  have HT := Lib.hid (takes_any (h.on hb1) a b)
  have c0 : (w.alloc (.cells #[.int .i64 a, .int .i64 b] 90)).cell? ⟨bx, 0, none⟩ = some (.pointer (some ⟨P, 0, none⟩)) := by rw [hb1.cell (p := ⟨bx, 0, none⟩) (World.block_lt_of_cell? w _ hbx)]; exact hbx
  have HB := Lib.hid hb1
  clear h hb1 hbx
  generalize takesB R.length (a, b) = tb at *
  go_enter Tryz.func56, Tryz.ntmps56
  go_wp2_with (go_at_call 57; refine HT.out.mono ?_; rintro e w1 ⟨rfl, hb⟩; have HB2 := Lib.hid (HB.out.trans (hb.mono HB.out.size)); clear hb)
  go_ret
  exact ⟨rfl, HB2.out⟩
end
/-- What Find answers. -/
def leftU (V : PV) : List Int := uidsP { V with rows := stayR V.rows }
def badF (V : PV) (l : List Rg) : Bool := l.any fun p => !takesB V.rows.length p
def rowP (V : PV) (k : Int) : PR := V.rows.getD (k - 1).toNat ⟨0, false, false, none⟩
def findL (V : PV) (l : List Rg) (uid : Bool) : List Int := if uid = true then ofL l (leftU V) else if badF V l = true then [] else (numL V.rows.length l).map fun k => (rowP V k).uid
def findG (V : PV) (l : List Rg) (uid : Bool) : Bool := if uid = true then false else if badF V l = true then false else (numL V.rows.length l).any fun k => (rowP V k).gone
def findE (V : PV) (l : List Rg) (uid : Bool) : Int := if uid = true then 0 else if badF V l = true then 160 else 0
theorem rowP_pl {R : List RE} {V : PV} (h : R.map RE.pl = V.rows) (k : Int) : (rowN R k).uid = (rowP V k).uid ∧ (rowN R k).gone = (rowP V k).gone := by
  have e : rowP V k = (rowN R k).pl := by
    unfold rowP rowN
    rw [← h, List.getD_eq_getElem?_getD, List.getElem?_map, List.getD_eq_getElem?_getD]
    cases R[(k - 1).toNat]? <;> rfl
  rw [e]
  exact ⟨rfl, rfl⟩
theorem pick_left {R : List RE} {V : PV} (h : R.map RE.pl = V.rows) : pickU (fun r => !r.gone) R = leftU V := by
  unfold pickU leftU uidsP
  show (List.filter _ R).map RE.uid = (stayR V.rows).map PR.uid
  rw [← h, ← stayE_pl, List.map_map]
  rfl
set_option maxHeartbeats 1000000 in
set_option maxRecDepth 20000 in
theorem Find_any {mk : Bool} {P : Nat} {V : PV} {fp : List Nat} {w : World} {N : Nat} (h : VWm mk P V fp w) (hk : PVok V N) (hN : N ≤ 1000000) (v : Value) (l : List Rg) (hr : Rgs w v l) (hl : l.length ≤ 1000000) (uid : Bool) :
    Calls Tryz.prog 19 #[.pointer (some ⟨P, 0, none⟩), v, .bool uid] w fun e w' => ∃ v', e = .returned (.tuple #[v', .bool (findG V l uid), .int .i64 (findE V l uid)]) ∧ OwnI w.heap.size v' (findL V l uid) w w' := by
  obtain ⟨rv, cv, R, hV, hpl, rfl⟩ := h
  have hko := VOK.of hpl hk
  have hlen := hko.len
  have hrl : R.length = V.rows.length := by rw [← hpl, List.length_map]
  obtain ⟨W1, hW1⟩ : ∃ W1, w.alloc (.cells #[.pointer (some ⟨P, 0, none⟩)] 24) = W1 := ⟨_, rfl⟩
  have h1 : W1.heap[w.heap.size]? = some (.cells #[.pointer (some ⟨P, 0, none⟩)] 24 (0, 0)) := by rw [← hW1]; exact heap_new _ _
  have hb1 : Below w.heap.size w W1 := by rw [← hW1]; exact (Below.refl _ _).alloc (Nat.le_refl _) _
  obtain ⟨W2, hW2⟩ : ∃ W2, W1.setCell ⟨w.heap.size, 0, none⟩ (.pointer (some ⟨P, 0, none⟩)) = W2 := ⟨_, rfl⟩
  have h2 : W2.heap[w.heap.size]? = some (.cells #[.pointer (some ⟨P, 0, none⟩)] 24 (0, 0)) := by rw [← hW2, heap_setCell_at _ h1]; rfl
  have hb2 : Below w.heap.size w W2 := by rw [← hW2]; exact hb1.setCell (Nat.le_refl _) _
  have c1 : W1.cell? ⟨w.heap.size, 0, none⟩ = some (.pointer (some ⟨P, 0, none⟩)) := cell_of h1 0
  have f1 : W1.frozen? ⟨w.heap.size, 0, none⟩ = false := frozen_of h1 0
  have c2 : W2.cell? ⟨w.heap.size, 0, none⟩ = some (.pointer (some ⟨P, 0, none⟩)) := cell_of h2 0
  have hV2 := hV.on hb2
  have hr2 := hr.on hb2
  have HB2 := Lib.hid hb2
  cases uid with
  | true =>
    have HU := Lib.hid (notGone_any hV2 (by omega))
    have HO : Hid (∀ v1 w1, OwnI W2.heap.size v1 (pickU (fun r => !r.gone) R) W2 w1 → Calls Tryz.prog 54 #[v, v1] w1 fun e w' => ∃ v', e = .returned v' ∧ OwnI w.heap.size v' (findL V l true) w w') := Lib.hid (fun v1 w1 ho => by
      have hpu := pickU_length (fun r => !r.gone) R
      refine (of_any v v1 l _ w1 (hr2.on ho.below) (ho.ints (by omega)) hl (by omega) (fun n hn => ?_)).mono ?_
      · have : n < 4294967295 := hko.top n (List.mem_append_left _ (by
          unfold pickU uidR at hn
          obtain ⟨r, hr', rfl⟩ := List.mem_map.1 hn
          exact List.mem_map_of_mem (List.mem_filter.1 hr').1))
        omega
      · rintro e w' ⟨v', rfl, ho'⟩
        refine ⟨v', rfl, ?_⟩
        have e1 : findL V l true = ofL l (pickU (fun r => !r.gone) R) := by unfold findL; rw [if_pos rfl, pick_left hpl]
        rw [e1]
        exact (ho'.mono (Nat.le_trans hb2.size ho.base)).shift (hb2.trans (ho.below.mono hb2.size)))
    clear hV hV2 hr hr2 hb1 hb2 h1 h2 hk hko
    have hg : findG V l true = false := rfl
    have he : findE V l true = 0 := rfl
    rw [hg, he]
    go_enter Tryz.func19, Tryz.ntmps19
    go_upto_region 1 with fail
    (try rw [hW1])
    clear hW1
    go_upto_region 2 with (go_at_call 31; refine (some_any _ _).mono ?_; rintro e w' ⟨rfl, hw⟩; subst w')
    (try rw [hW2])
    clear hW2
    go_wp2_with (first | (go_at_call 32; refine HU.out.mono ?_; rintro e w1 ⟨v1, rfl, ho1⟩; have HC := Lib.hid (HO.out _ _ ho1); clear ho1) | (go_at_call 54; refine HC.out.mono ?_; rintro e w3 ⟨v3, rfl, ho3⟩; have HF := Lib.hid ho3; clear ho3))
    refine bodyPost_ret (v := .tuple #[v3, .bool false, .int .i64 0]) (by simp [results, Tryz.results19, go_sem]) rfl ⟨_, rfl, HF.out⟩
  | false =>
    have HCF := Lib.hid (containsFunc_any 56 #[.pointer (some ⟨w.heap.size, 0, none⟩)] (enters_of Tryz.func56 (by kernel_rfl) rfl) (fun p => !takesB R.length p) v l W2 hr2 (fun a b X hX => notTakes (hV2.on hX) w.heap.size (by rw [hX.cell (p := ⟨w.heap.size, 0, none⟩) (lt_of_heap h2)]; exact c2) a b))
    cases hbad : badF V l with
    | true =>
      have hg : findG V l false = false := by unfold findG; simp [hbad]
      have he : findE V l false = 160 := by unfold findE; simp [hbad]
      have hL : findL V l false = [] := by unfold findL; simp [hbad]
      rw [hg, he, hL]
      have hb : (l.any fun p => !takesB R.length p) = true := by rw [hrl]; exact hbad
      rw [hb] at HCF
      clear hV hV2 hr hr2 hb1 hb2 h1 h2 hk hko hbad hb hg he hL
      go_enter Tryz.func19, Tryz.ntmps19
      go_upto_region 1 with fail
      (try rw [hW1])
      clear hW1
      go_upto_region 2 with (go_at_call 31; refine (some_any _ _).mono ?_; rintro e w' ⟨rfl, hw⟩; subst w')
      (try rw [hW2])
      clear hW2
      go_wp2_with (go_at_call 55; refine HCF.out.mono ?_; rintro e w1 ⟨rfl, hb⟩; have HB3 := Lib.hid (HB2.out.trans (hb.mono HB2.out.size)); clear hb)
      refine bodyPost_ret (v := .tuple #[.slice none 0 0, .bool false, .int .i64 160]) (by simp [results, Tryz.results19, go_sem]) rfl ⟨_, rfl, OwnI.nil HB3.out HB3.out.size⟩
    | false =>
      have he : findE V l false = 0 := by unfold findE; simp [hbad]
      rw [he]
      have hb : (l.any fun p => !takesB R.length p) = false := by rw [hrl]; exact hbad
      rw [hb] at HCF
      have HNu : Hid (∀ w1, Below W2.heap.size W2 w1 → w1.cell? ⟨w.heap.size, 0, none⟩ = some (.pointer (some ⟨P, 0, none⟩)) ∧ Calls Tryz.prog 58 #[.pointer (some ⟨P, 0, none⟩), v] w1 fun e w' => ∃ v', e = .returned (.tuple #[v', .bool (findG V l false)]) ∧ OwnI w.heap.size v' (findL V l false) w w') := Lib.hid (fun w1 hX => by
        refine ⟨by rw [hX.cell (p := ⟨w.heap.size, 0, none⟩) (lt_of_heap h2)]; exact c2, ?_⟩
        refine (numbered_any (hV2.on hX) (by omega) v l (hr2.on hX) hl).mono ?_
        rintro e w' ⟨v', rfl, ho⟩
        have e1 : goneN R (numL R.length l) = findG V l false := by
          unfold findG goneN
          simp only [Bool.false_eq_true, if_false, hbad, hrl]
          congr 1
          funext k
          exact (rowP_pl hpl k).2
        have e2 : uidN R (numL R.length l) = findL V l false := by
          unfold findL uidN
          simp only [Bool.false_eq_true, if_false, hbad, hrl]
          exact List.map_congr_left fun k _ => (rowP_pl hpl k).1
        rw [e1, ]
        rw [e2] at ho
        exact ⟨v', rfl, (ho.mono (Nat.le_trans hb2.size hX.size)).shift (hb2.trans (hX.mono hb2.size))⟩)
      clear hV hV2 hr hr2 hb1 hb2 h1 h2 hk hko hbad hb he
      generalize findG V l false = gg at *
      generalize findL V l false = LL at *
      go_enter Tryz.func19, Tryz.ntmps19
      go_upto_region 1 with fail
      (try rw [hW1])
      clear hW1
      go_upto_region 2 with (go_at_call 31; refine (some_any _ _).mono ?_; rintro e w' ⟨rfl, hw⟩; subst w')
      (try rw [hW2])
      clear hW2
      go_wp2_with (first | (go_at_call 55; refine HCF.out.mono ?_; rintro e w1 ⟨rfl, hb⟩; obtain ⟨y1, y2⟩ := HNu.out _ hb; have HC := Lib.hid y2; clear hb y2) | (go_at_call 58; refine HC.out.mono ?_; rintro e w3 ⟨v3, rfl, ho3⟩; have HF := Lib.hid ho3; clear ho3))
      refine bodyPost_ret (v := .tuple #[v3, .bool gg, .int .i64 0]) (by simp [results, Tryz.results19, go_sem]) rfl ⟨_, rfl, HF.out⟩
end Go.Proofs.YtflkhnmggmfhfaaGreat

/- view: New. -/
namespace Go.Proofs.YtflkhnmggmfhfaaGreat
open Go.RowKit

/-- A mailbox as it is handed in. -/
structure BX where
  nm : ByteArray
  val : Int
  nx : Int
  hi : Int
  co : Int
  un : Int
  vk : Value
  sb : Bool
def bxA (b : BX) : Array Value := #[.string b.nm, .int .i64 b.val, .int .i64 b.nx, .int .i64 b.hi, .int .i64 b.co, .int .i64 b.un, b.vk, .bool b.sb]
/-- A mail, as it lies in memory. -/
structure MLE where
  s : Int
  u : Int
  m : Int
  fa : Option Addr
  fn : Nat
  fc : Nat
  rc : Bool
  y : Int
  mo : Int
  d : Int
  h : Int
  mi : Int
  se : Int
  z : Int
  raw : ByteArray
def mlA (m : MLE) : Array Value := #[.int .i64 m.s, .int .i64 m.u, .int .i64 m.m, .slice m.fa m.fn m.fc, .bool m.rc, .int .i64 m.y, .int .i64 m.mo, .int .i64 m.d, .int .i64 m.h, .int .i64 m.mi, .int .i64 m.se, .int .i64 m.z, .string m.raw]
def ML0 : MLE := ⟨0, 0, 0, none, 0, 0, false, 0, 0, 0, 0, 0, 0, 0, ⟨#[]⟩⟩
def MailsAt (w : World) (v : Value) (ms : List MLE) : Prop :=
  ∃ a c, v = .slice a ms.length c ∧ (0 < ms.length → ∃ g off, a = some ⟨g, off, none⟩ ∧ g < w.heap.size ∧ ∀ i, i < ms.length → ∀ j u, (mlA (ms.getD i ML0))[j]? = some u → w.cell? ⟨g, off + i * 13 + j, none⟩ = some u)
theorem MailsAt.on {w w' : World} {v : Value} {ms : List MLE} (h : MailsAt w v ms) (hb : Below w.heap.size w w') : MailsAt w' v ms := by
  obtain ⟨a, c, rfl, h⟩ := h
  refine ⟨a, c, rfl, fun hl => ?_⟩
  obtain ⟨g, off, rfl, hg, hc⟩ := h hl
  refine ⟨g, off, rfl, Nat.lt_of_lt_of_le hg hb.size, fun i hi j u hj => ?_⟩
  rw [hb.cell (p := ⟨g, off + i * 13 + j, none⟩) hg]
  exact hc i hi j u hj
theorem comesC_nil_len (us : List Int) : (comesC [] [] us).length ≤ us.length := by
  have := comesC_len [] us []
  simpa using this
theorem newV_at (w : World) (val : Int) : VAt true w.heap.size val (.slice none 0 0) (.slice none 0 0) [] [] (w.alloc (.cells #[.bool true, .int .i64 val, .slice none 0 0, .slice none 0 0] 28)) :=
  ⟨heap_new _ _, World.ownsRow_nil _ _ _ _, World.ownsRow_nil _ _ _ _, fun r hr => by cases hr⟩
set_option maxHeartbeats 1000000 in
set_option maxRecDepth 20000 in
theorem New_any (b : BX) (v : Value) (ms : List MLE) (recent : Int) (w : World) (hm : MailsAt w v ms) (hl : ms.length ≤ 1000000) :
    Calls Tryz.prog 37 #[.agg (bxA b), v, .int .i64 recent] w fun e w' => ∃ P fp, e = .returned (.pointer (some ⟨P, 0, none⟩)) ∧ VW P (newP b.val (ms.map MLE.u) recent) fp w' ∧ Below w.heap.size w w' ∧ ∀ c ∈ fp, w.heap.size ≤ c := by
  obtain ⟨W1, hW1⟩ : ∃ W1, w.alloc (.cells (bxA b) 54) = W1 := ⟨_, rfl⟩
  have h1 : W1.heap[w.heap.size]? = some (.cells (bxA b) 54 (0, 0)) := by rw [← hW1]; exact heap_new _ _
  have hb1 : Below w.heap.size w W1 := by rw [← hW1]; exact (Below.refl _ _).alloc (Nat.le_refl _) _
  have c1 : W1.cell? ⟨w.heap.size, 1, none⟩ = some (.int .i64 b.val) := by unfold bxA at h1; exact cell_of h1 1
  obtain ⟨W3, hW3⟩ : ∃ W3, W1.alloc (.cells #[.bool true, .int .i64 b.val, .slice none 0 0, .slice none 0 0] 28) = W3 := ⟨_, rfl⟩
  have hV3 : VAt true W1.heap.size b.val (.slice none 0 0) (.slice none 0 0) [] [] W3 := by rw [← hW3]; exact newV_at _ _
  have hb3 : Below W1.heap.size W1 W3 := by rw [← hW3]; exact (Below.refl _ _).alloc (Nat.le_refl _) _
  have hbw : Below w.heap.size w W3 := hb1.trans (hb3.mono hb1.size)
  obtain ⟨av, kv, hv, hcs⟩ := hm
  subst hv
  have HM := Lib.hid hcs
  have H0 : Hid (VO true W1.heap.size b.val [] [] [W1.heap.size] W3 W3) := Lib.hid ⟨_, _, hV3, FO.refl _ _⟩
  have HBW := Lib.hid hbw
  have hwW1 : w.heap.size ≤ W1.heap.size := hb1.size
  have hWW : W1.heap.size < W3.heap.size := lt_of_heap hV3.self
  have HEnd : Hid (∀ w', VO true W1.heap.size b.val ((comesC [] [] (ms.map MLE.u)).map (nrE recent)) [] [W1.heap.size] W3 w' → ∃ fp, VW W1.heap.size (newP b.val (ms.map MLE.u) recent) fp w' ∧ Below w.heap.size w w' ∧ ∀ c ∈ fp, w.heap.size ≤ c) := Lib.hid (fun w' ⟨rv, cv, q1, q2⟩ => by
    have e0 : comesP ⟨b.val, [], []⟩ (ms.map MLE.u) = ⟨b.val, [], comesC [] [] (ms.map MLE.u)⟩ := comesP_C _ _
    have hbel : Below w.heap.size W3 w' := Stays.below q2.1 (fun c (hc : c ∈ [W1.heap.size]) => by rw [List.mem_singleton.1 hc]; exact hwW1) hbw.size
    refine ⟨fpV W1.heap.size rv cv ((comesC [] [] (ms.map MLE.u)).map (nrE recent)), ⟨rv, cv, (comesC [] [] (ms.map MLE.u)).map (nrE recent), ?_, ?_, rfl⟩, hbw.trans hbel, fun c hc => ?_⟩
    · unfold newP
      rw [e0]
      exact q1
    · unfold newP
      rw [e0]
      show _ = [] ++ (comesC [] [] (ms.map MLE.u)).map (newR recent)
      rw [List.map_map, List.nil_append]
      rfl
    · rcases q2.2 c hc with e | e
      · rw [List.mem_singleton.1 e]; exact hwW1
      · have := hbw.size; omega)
  clear h1 hb1 hb3 hbw hcs hV3
  generalize hPd : W1.heap.size = P at *
  have HPd := Lib.hid hPd
  clear hPd
  go_enter Tryz.func37, Tryz.ntmps37
  go_upto_region 1 with fail
  (try rw [hW1])
  clear hW1
  go_upto_region 2 with fail
  (try rw [hW3])
  (try rw [HPd.out])
  clear hW3 HPd c1
  go_upto_region 3 with fail
  go_loopw [16] (fun i wr => ∃ k : Nat, k ≤ ms.length ∧ i = .int .i64 k ∧ VO true P b.val [] (comesC [] [] ((ms.map MLE.u).take k)) [P] W3 wr) (fun i _ => ms.length - (intOf i).toNat)
  case atStart => exact ⟨0, Nat.zero_le _, rfl, H0.out⟩
  case round =>
    obtain ⟨k, hk, rfl, rv1, cv1, q1, f1⟩ := hrel
    by_cases hlt : k < ms.length
    · have hlti : (k : Int) < (ms.length : Int) := by omega
      obtain ⟨g, off, rfl, hg, hcc⟩ := HM.out (by omega)
      have hgw : wr.heap[g]? = w.heap[g]? := by
        rw [f1.keep (Nat.lt_of_lt_of_le hg HBW.out.size) (fun hm => by have := List.mem_singleton.1 hm; omega), HBW.out.block g hg]
      have hcw : ∀ j u, (mlA (ms.getD k ML0))[j]? = some u → wr.cell? ⟨g, off + k * 13 + j, none⟩ = some u := fun j u hj => by
        rw [World.cell?_of_block (a := ⟨g, off + k * 13 + j, none⟩) hgw]
        exact hcc k hlt j u hj
      have hst : (ms.map MLE.u).take (k + 1) = (ms.map MLE.u).take k ++ [(ms.getD k ML0).u] := by
        rw [take_snocI _ k (by simpa using hlt)]
        congr 2
        rw [List.getD_eq_getElem?_getD, List.getElem?_map, List.getD_eq_getElem?_getD, List.getElem?_eq_getElem hlt]
        rfl
      have hcl := comesC_nil_len ((ms.map MLE.u).take k)
      rw [List.length_take, List.length_map] at hcl
      obtain ⟨Y, hY⟩ : ∃ Y, wr.alloc (.cells (mlA (ms.getD k ML0)) 88) = Y := ⟨_, rfl⟩
      have hYn : Y.heap[wr.heap.size]? = some (.cells (mlA (ms.getD k ML0)) 88 (0, 0)) := by rw [← hY]; exact heap_new _ _
      have hbY : Below wr.heap.size wr Y := by rw [← hY]; exact (Below.refl _ _).alloc (Nat.le_refl _) _
      have hqY := q1.on hbY
      have hbZ : Below Y.heap.size Y (Y.alloc (.cells #[.int .i64 (ms.getD k ML0).u] 3)) := (Below.refl _ _).alloc (Nat.le_refl _) _
      have HCm := Lib.hid ((come_any (hqY.on hbZ) (.slice (some ⟨Y.heap.size, 0, none⟩) 1 1) [(ms.getD k ML0).u] (nms_one Y (ms.getD k ML0).u) (fun _ => new_out hqY (fun b hb => by simp [Value.ownBlock] at hb; omega)) (by simp) (by simp; omega)).mono (fun r w' ⟨e1, e2⟩ => (⟨e1, by
        obtain ⟨rv2, cv2, y1, y2⟩ := e2
        rw [hst]
        unfold comesC at y1 ⊢
        rw [List.foldl_append]
        exact ⟨rv2, cv2, y1, ((f1.trans (FO.below hbY)).trans (FO.below hbZ)).trans y2⟩⟩ : _ ∧ VO true P b.val [] (comesC [] [] ((ms.map MLE.u).take (k + 1))) [P] W3 w')))
      have x1 : Y.cell? ⟨wr.heap.size, 1, none⟩ = some (.int .i64 (ms.getD k ML0).u) := by unfold mlA at hYn; exact cell_of hYn 1
      have m0 : wr.cell? ⟨g, off + k * 13, none⟩ = some (.int .i64 (ms.getD k ML0).s) := hcw 0 _ rfl
      have m1 : wr.cell? ⟨g, off + k * 13 + 1, none⟩ = some (.int .i64 (ms.getD k ML0).u) := hcw 1 _ rfl
      have m2 : wr.cell? ⟨g, off + k * 13 + 2, none⟩ = some (.int .i64 (ms.getD k ML0).m) := hcw 2 _ rfl
      have m3 : wr.cell? ⟨g, off + k * 13 + 3, none⟩ = some (.slice (ms.getD k ML0).fa (ms.getD k ML0).fn (ms.getD k ML0).fc) := hcw 3 _ rfl
      have m4 : wr.cell? ⟨g, off + k * 13 + 4, none⟩ = some (.bool (ms.getD k ML0).rc) := hcw 4 _ rfl
      have m5 : wr.cell? ⟨g, off + k * 13 + 5, none⟩ = some (.int .i64 (ms.getD k ML0).y) := hcw 5 _ rfl
      have m6 : wr.cell? ⟨g, off + k * 13 + 6, none⟩ = some (.int .i64 (ms.getD k ML0).mo) := hcw 6 _ rfl
      have m7 : wr.cell? ⟨g, off + k * 13 + 7, none⟩ = some (.int .i64 (ms.getD k ML0).d) := hcw 7 _ rfl
      have m8 : wr.cell? ⟨g, off + k * 13 + 8, none⟩ = some (.int .i64 (ms.getD k ML0).h) := hcw 8 _ rfl
      have m9 : wr.cell? ⟨g, off + k * 13 + 9, none⟩ = some (.int .i64 (ms.getD k ML0).mi) := hcw 9 _ rfl
      have m10 : wr.cell? ⟨g, off + k * 13 + 10, none⟩ = some (.int .i64 (ms.getD k ML0).se) := hcw 10 _ rfl
      have m11 : wr.cell? ⟨g, off + k * 13 + 11, none⟩ = some (.int .i64 (ms.getD k ML0).z) := hcw 11 _ rfl
      have m12 : wr.cell? ⟨g, off + k * 13 + 12, none⟩ = some (.string (ms.getD k ML0).raw) := hcw 12 _ rfl
      unfold mlA at hY
      clear q1 f1 hcc hgw hcw hst hYn hbY hqY hbZ hcl
      generalize ms.getD k ML0 = mm at *
      obtain ⟨a1, a2, a3, a4, a5, a6, a7, a8, a9, a10, a11, a12, a13, a14, a15⟩ := mm
      dsimp only [mlA, Nat.add_zero] at m0 m1 m2 m3 m4 m5 m6 m7 m8 m9 m10 m11 m12 hY x1 HCm
      have HY := Lib.hid hY
      clear hY
      go_upto_region 5 with fail
      (try rw [HY.out])
      clear HY
      go_wp2_with (go_at_call 64; refine HCm.out.mono ?_; rintro r w2 ⟨rfl, ho⟩; have HO := Lib.hid ho; clear ho)
      go_roundw
      case rel => exact ⟨k + 1, by omega, by go_num, HO.out⟩
      case measure => simp [intOf]; omega
    · obtain rfl : k = ms.length := by omega
      rw [List.take_of_length_le (by simp)] at q1
      have hcl := comesC_nil_len (ms.map MLE.u)
      rw [List.length_map] at hcl
      have HSe := Lib.hid ((settle_any q1 recent (by simp only [List.length_nil]; omega)).mono (fun r w' ⟨e1, e2⟩ => (⟨e1, by
        obtain ⟨rv2, cv2, y1, y2⟩ := e2
        exact HEnd.out w' ⟨rv2, cv2, y1, f1.trans y2⟩⟩ : _ ∧ ∃ fp, VW P (newP b.val (ms.map MLE.u) recent) fp w' ∧ Below w.heap.size w w' ∧ ∀ c ∈ fp, w.heap.size ≤ c)))
      clear q1 f1 hcl
      go_wp2_with (go_at_call 62; refine HSe.out.mono ?_; rintro r w2 ⟨rfl, ho⟩; have HO := Lib.hid ho; clear ho)
      go_ret
      obtain ⟨fp, hf⟩ := HO.out
      exact ⟨_, fp, rfl, hf⟩
end Go.Proofs.YtflkhnmggmfhfaaGreat

/- view by what is plain of it: Uids, Seq, Gone, Recent; alike, num. -/
namespace Go.Proofs.YtflkhnmggmfhfaaGreat
open Go.RowKit

def PR0 : PR := ⟨0, false, false, none⟩
def atP (V : PV) (u : Int) : PR := if hitP (uidsP V) u = true then V.rows.getD (ixP (uidsP V) u) PR0 else PR0
theorem atP_pl {R : List RE} {V : PV} (h : R.map RE.pl = V.rows) (u : Int) : (atR R u).gone = (atP V u).gone ∧ (atR R u).rct = (atP V u).rct := by
  have e : atP V u = (atR R u).pl := by
    unfold atP atR
    rw [← uid_pl h]
    split
    · rw [← h, List.getD_eq_getElem?_getD, List.getElem?_map, List.getD_eq_getElem?_getD]
      cases R[ixP (uidR R) u]? <;> rfl
    · rfl
  rw [e]
  exact ⟨rfl, rfl⟩
section
variable {P : Nat} {V : PV} {fp : List Nat} {w : World} {N : Nat}
theorem Uids_W {mk : Bool} (h : VWm mk P V fp w) (hk : PVok V N) (hN : N ≤ 1000000) :
    Calls Tryz.prog 7 #[.pointer (some ⟨P, 0, none⟩)] w fun e w' => ∃ v', e = .returned v' ∧ OwnI w.heap.size v' (uidsP V) w w' := by
  obtain ⟨rv, cv, R, hV, hpl, rfl⟩ := h
  have hlen := (VOK.of hpl hk).len
  rw [← uid_pl hpl]
  exact Uids_any hV (by omega)
theorem Seq_W {mk : Bool} (h : VWm mk P V fp w) (hk : PVok V N) (hN : N ≤ 1000000) (u : Int) :
    Calls Tryz.prog 25 #[.pointer (some ⟨P, 0, none⟩), .int .i64 u] w fun e w' => e = .returned (.tuple #[.int .i64 (seqI (uidsP V) u), .int .i64 (seqE (uidsP V) u)]) ∧ Below w.heap.size w w' := by
  obtain ⟨rv, cv, R, hV, hpl, rfl⟩ := h
  rw [← uid_pl hpl]
  exact Seq_any hV (VOK.of hpl hk) hN u
theorem Gone_W {mk : Bool} (h : VWm mk P V fp w) (hk : PVok V N) (hN : N ≤ 1000000) (u : Int) :
    Calls Tryz.prog 26 #[.pointer (some ⟨P, 0, none⟩), .int .i64 u] w fun e w' => e = .returned (.bool (atP V u).gone) ∧ Below w.heap.size w w' := by
  obtain ⟨rv, cv, R, hV, hpl, rfl⟩ := h
  rw [← (atP_pl hpl u).1]
  exact Gone_any hV (VOK.of hpl hk) hN u
theorem Recent_W {mk : Bool} (h : VWm mk P V fp w) (hk : PVok V N) (hN : N ≤ 1000000) (u : Int) :
    Calls Tryz.prog 28 #[.pointer (some ⟨P, 0, none⟩), .int .i64 u] w fun e w' => e = .returned (.bool (atP V u).rct) ∧ Below w.heap.size w w' := by
  obtain ⟨rv, cv, R, hV, hpl, rfl⟩ := h
  rw [← (atP_pl hpl u).2]
  exact Recent_any hV (VOK.of hpl hk) hN u
end
theorem num_any (n : Int) (w : World) : Calls Tryz.prog 23 #[.int .i64 n] w fun e w' => e = .returned (.int .i64 n) ∧ w' = w := by
  go_enter Tryz.func23, Tryz.ntmps23
  go_wp2
  go_ret
  exact ⟨rfl, rfl⟩
theorem take_eq {a b : List Int} (hl : a.length = b.length) (h : ∀ t, t < a.length → a.getD t 0 = b.getD t 0) : a = b := by
  apply List.ext_getElem hl
  intro i h1 h2
  have := h i h1
  rw [List.getD_eq_getElem?_getD, List.getElem?_eq_getElem h1, List.getD_eq_getElem?_getD, List.getElem?_eq_getElem h2] at this
  simpa using this
set_option maxRecDepth 100000 in
set_option maxHeartbeats 1000000 in
theorem alike_any (a b : Value) (l1 l2 : List Int) (w : World) (h1 : Nms w a l1) (h2 : Nms w b l2) (hl : l1.length ≤ 1000000) :
    Calls Tryz.prog 22 #[a, b] w fun e w' => e = .returned (.bool (decide (l1 = l2))) ∧ Below w.heap.size w w' := by
  obtain ⟨a1, c1, rfl, q1⟩ := h1
  obtain ⟨a2, c2, rfl, q2⟩ := h2
  by_cases hle : l1.length = l2.length
  · have H1 := Lib.hid q1
    have H2 := Lib.hid q2
    have hne : ((l1.length : Int) != (l2.length : Int)) = false := by rw [hle]; simp
    have HD : Hid ((∀ t, t < l1.length → l1.getD t 0 = l2.getD t 0) → decide (l1 = l2) = true) := Lib.hid (fun h => decide_eq_true (take_eq hle h))
    have HN : Hid (∀ t, l1.getD t 0 ≠ l2.getD t 0 → decide (l1 = l2) = false) := Lib.hid (fun t ht => decide_eq_false (fun e => ht (by rw [e])))
    have hle2 := hle
    clear q1 q2 hle
    generalize decide (l1 = l2) = dd at *
    go_enter Tryz.func22, Tryz.ntmps22
    go_wp2_with fail
    go_loopw [5] (fun i wr => ∃ k : Nat, k ≤ l1.length ∧ i = .int .i64 k ∧ Below w.heap.size w wr ∧ Hid (∀ t, t < k → l1.getD t 0 = l2.getD t 0)) (fun i _ => l1.length - (intOf i).toNat)
    case atStart => exact ⟨0, Nat.zero_le _, rfl, Below.refl _ _, Lib.hid (fun t ht => by omega)⟩
    case round =>
      obtain ⟨k, hk, rfl, hb, HK⟩ := hrel
      by_cases hlt : k < l1.length
      · have hlti : (k : Int) < (l1.length : Int) := by omega
        have hlti2 : (k : Int) < (l2.length : Int) := by omega
        obtain ⟨g1, o1, rfl, hg1, hc1⟩ := H1.out (by omega)
        obtain ⟨g2, o2, rfl, hg2, hc2⟩ := H2.out (by omega)
        have k1 := hc1 k hlt
        have k2 := hc2 k (by omega)
        rw [← hb.cell (p := ⟨g1, o1 + k, none⟩) hg1] at k1
        rw [← hb.cell (p := ⟨g2, o2 + k, none⟩) hg2] at k2
        have HBd := Lib.hid hb.drew
        have HNk := Lib.hid (HN.out k)
        have HKk : Hid (l1.getD k 0 = l2.getD k 0 → ∀ t, t < k + 1 → l1.getD t 0 = l2.getD t 0) := Lib.hid (fun e t ht => by
          by_cases et : t = k
          · rw [et]; exact e
          · exact HK.out t (by omega))
        clear hc1 hc2 hb
        generalize l1.getD k 0 = x at *
        generalize l2.getD k 0 = y at *
        by_cases hxy : x = y
        · have hq : (x != y) = false := by simpa using hxy
          have HKy := Lib.hid (HKk.out hxy)
          clear hxy HNk HKk
          go_upto_region 6 with fail
          go_region
          go_wp2_with fail
          go_roundw
          case rel => exact ⟨k + 1, by omega, by go_num, HBd.out, HKy⟩
          case measure => simp [intOf]; omega
        · have hq : (x != y) = true := by simpa using hxy
          have HF : Hid (dd = false) := Lib.hid (HNk.out hxy)
          clear hxy HNk HKk
          go_upto_region 6 with fail
          go_region
          go_wp2_with fail
          go_ret
          exact ⟨ret_bool HF.out.symm, HBd.out⟩
      · obtain rfl : k = l1.length := by omega
        have HF : Hid (dd = true) := Lib.hid (HD.out HK.out)
        have HB := Lib.hid hb
        clear hb
        go_wp2_with fail
        go_ret
        exact ⟨ret_bool HF.out.symm, HB.out⟩
  · have hne : ((l1.length : Int) != (l2.length : Int)) = true := by simp; omega
    have HF : Hid (decide (l1 = l2) = false) := Lib.hid (decide_eq_false (fun e => hle (by rw [e])))
    clear q1 q2 hle
    generalize decide (l1 = l2) = dd at *
    go_enter Tryz.func22, Tryz.ntmps22
    go_wp2_with fail
    go_ret
    exact ⟨ret_bool HF.out.symm, Below.refl _ _⟩
end Go.Proofs.YtflkhnmggmfhfaaGreat

/- What the document fixes of all the calls: known. -/
namespace Go.Proofs.YtflkhnmggmfhfaaGreat
open Go.RowKit

def mlC (ms : List MLE) : List Value := ms.flatMap fun m => (mlA m).toList
theorem mlC_at : ∀ (ms : List MLE) (i j : Nat), i < ms.length → j < 13 → (mlC ms)[i * 13 + j]? = (mlA (ms.getD i ML0))[j]?
  | m :: ms, 0, j, _, hj => by
    show ((mlA m).toList ++ mlC ms)[0 * 13 + j]? = (mlA m)[j]?
    rw [Nat.zero_mul, Nat.zero_add, List.getElem?_append_left (by simpa [mlA] using hj)]
    simp
  | m :: ms, i + 1, j, hi, hj => by
    show ((mlA m).toList ++ mlC ms)[(i + 1) * 13 + j]? = (mlA (ms.getD i ML0))[j]?
    rw [List.getElem?_append_right (by simp [mlA]; omega)]
    rw [show (i + 1) * 13 + j - (mlA m).toList.length = i * 13 + j by simp [mlA]; omega]
    exact mlC_at ms i j (by simpa using hi) hj
theorem mails_lit (w : World) (ms : List MLE) (cs : Array Value) (hc : cs.toList = mlC ms) : MailsAt (w.alloc (.cells cs 88)) (.slice (some ⟨w.heap.size, 0, none⟩) ms.length ms.length) ms := by
  refine ⟨_, _, rfl, fun _ => ⟨w.heap.size, 0, rfl, by simp, fun i hi j u hj => ?_⟩⟩
  have hn : (w.alloc (.cells cs 88)).heap[w.heap.size]? = some (.cells cs 88 (0, 0)) := heap_new _ _
  have hj13 : j < 13 := (Array.getElem?_eq_some_iff.1 hj).1
  rw [Nat.zero_add, cell_of hn, ← hj, ← mlC_at ms i j hi hj13, ← hc]
  simp
def mU (u : Int) : MLE := { ML0 with u := u }
def V0 : PV := newP 7 [2, 5, 9] 9
def e0 (b : Nat) : EV := ⟨0, 7, 7, 0, 0, ⟨#[]⟩, .slice none 0 0, .slice none 0 0, .slice (some ⟨b, 0, none⟩) 1 1, .slice none 0 0, 0, 0, 0, 0, 0, 0, 0, ⟨#[]⟩⟩
def V1 : PV := hearP V0 ⟨0, 7, 7, 0, 0, [5], []⟩ false
def V2 : PV := takeV V1 2 0
theorem known_find : findL V1 [(1, 3)] false = [2, 5, 9] ∧ findG V1 [(1, 3)] false = true ∧ findE V1 [(1, 3)] false = 0 := by decide +kernel
theorem known_seq : seqI (uidsP V1) 9 = 3 ∧ seqE (uidsP V1) 9 = 0 := by decide +kernel
theorem known_take : takeT V1 2 0 = [⟨1, 2, 5, 0, []⟩] := by kernel_rfl
theorem known_uids : uidsP V2 = [2, 9] := by decide +kernel
theorem known_flags : (atP V2 9).rct = true ∧ (atP V2 9).gone = false := by decide +kernel
theorem V0_ok : PVok V0 3 := newP_ok 7 [2, 5, 9] 9
theorem V1_ok : PVok V1 5 := hearP_ok V0_ok _ _
theorem V2_ok : PVok V2 5 := takeV_ok V1_ok 2 0
end Go.Proofs.YtflkhnmggmfhfaaGreat

/- known, its walk. -/
namespace Go.Proofs.YtflkhnmggmfhfaaGreat
open Go.RowKit

/-- A view that was made since w. -/
def WK (w : World) (P : Nat) (V : PV) (X : World) : Prop := ∃ fp, VW P V fp X ∧ Below w.heap.size w X ∧ ∀ b ∈ fp, w.heap.size ≤ b
/-- And a list of numbers beside it. -/
def WKL (w : World) (P : Nat) (V : PV) (lv : Value) (L : List Int) (X : World) : Prop := ∃ fp, VW P V fp X ∧ Below w.heap.size w X ∧ (∀ b ∈ fp, w.heap.size ≤ b) ∧ Nms X lv L ∧ ∀ b, lv.ownBlock = some b → b ∉ fp
theorem WK.on {w X Y : World} {P : Nat} {V : PV} (h : WK w P V X) (hb : Below X.heap.size X Y) : WK w P V Y := by
  obtain ⟨fp, h1, h2, h3⟩ := h
  exact ⟨fp, h1.on hb, h2.trans (hb.mono h2.size), h3⟩
theorem WKL.on {w X Y : World} {P : Nat} {V : PV} {lv : Value} {L : List Int} (h : WKL w P V lv L X) (hb : Below X.heap.size X Y) : WKL w P V lv L Y := by
  obtain ⟨fp, h1, h2, h3, h4, h5⟩ := h
  exact ⟨fp, h1.on hb, h2.trans (hb.mono h2.size), h3, h4.on hb, h5⟩
theorem WKL.wk {w X : World} {P : Nat} {V : PV} {lv : Value} {L : List Int} (h : WKL w P V lv L X) : WK w P V X := by
  obtain ⟨fp, h1, h2, h3, h4, h5⟩ := h
  exact ⟨fp, h1, h2, h3⟩
theorem fo_below {w X Y : World} {fp fp' : List Nat} (hb : Below w.heap.size w X) (hf : ∀ b ∈ fp, w.heap.size ≤ b) (h : FO fp fp' X Y) : Below w.heap.size w Y ∧ ∀ b ∈ fp', w.heap.size ≤ b :=
  ⟨hb.trans (Stays.below h.1 hf hb.size), fun b hb' => by
    rcases h.2 b hb' with e | e
    · exact hf b e
    · have := hb.size; omega⟩
theorem rgs_one (W : World) (a b : Int) : Rgs (W.alloc (.cells #[.int .i64 a, .int .i64 b] 90)) (.slice (some ⟨W.heap.size, 0, none⟩) 1 1) [(a, b)] := by
  have hn : (W.alloc (.cells #[.int .i64 a, .int .i64 b] 90)).heap[W.heap.size]? = some (.cells #[.int .i64 a, .int .i64 b] 90 (0, 0)) := heap_new _ _
  refine .inr ⟨W.heap.size, 0, 1, rfl, by simp, by simp, fun i hi => ?_⟩
  have : i = 0 := by simpa using hi
  subst this
  exact ⟨cell_of hn 0, cell_of hn 1⟩
theorem nms_lit (W : World) (l : List Int) (cs : Array Value) (hc : cs.toList = ic l) : Nms (W.alloc (.cells cs 3)) (.slice (some ⟨W.heap.size, 0, none⟩) l.length l.length) l := by
  have hn : (W.alloc (.cells cs 3)).heap[W.heap.size]? = some (.cells cs 3 (0, 0)) := heap_new _ _
  refine ⟨_, _, rfl, fun _ => ⟨W.heap.size, 0, rfl, by simp, fun i hi => ?_⟩⟩
  rw [Nat.zero_add, cell_of hn, ← Array.getElem?_toList, hc, ic_at l i hi]
set_option maxHeartbeats 2000000 in
set_option maxRecDepth 20000 in
theorem known_any (w : World) : Calls Tryz.prog 9 #[] w fun e w' => e = .returned (.bool true) ∧ Below w.heap.size w w' := by
  have HNew : Hid (Calls Tryz.prog 37 #[.agg #[.string ⟨#[]⟩, .int .i64 7, .int .i64 0, .int .i64 0, .int .i64 0, .int .i64 0, .slice none 0 0, .bool false], .slice (some ⟨w.heap.size, 0, none⟩) 3 3, .int .i64 9] (w.alloc (.cells (mlC [mU 2, mU 5, mU 9]).toArray 88)) fun e w' => ∃ P, e = .returned (.pointer (some ⟨P, 0, none⟩)) ∧ WK w P V0 w') := Lib.hid (by
    have hb : Below w.heap.size w (w.alloc (.cells (mlC [mU 2, mU 5, mU 9]).toArray 88)) := (Below.refl _ _).alloc (Nat.le_refl _) _
    refine (New_any ⟨⟨#[]⟩, 7, 0, 0, 0, 0, .slice none 0 0, false⟩ _ [mU 2, mU 5, mU 9] 9 _ (mails_lit w [mU 2, mU 5, mU 9] _ (by simp)) (by simp)).mono ?_
    rintro e w' ⟨P, fp, rfl, h1, h2, h3⟩
    exact ⟨P, rfl, fp, h1, hb.trans (h2.mono hb.size), fun b hb' => Nat.le_trans hb.size (h3 b hb')⟩)
  have HHear : Hid (∀ P X, WK w P V0 X → Calls Tryz.prog 12 #[.pointer (some ⟨P, 0, none⟩), .agg #[.int .i64 0, .int .i64 7, .int .i64 7, .int .i64 0, .int .i64 0, .string ⟨#[]⟩, .slice none 0 0, .slice none 0 0, .slice (some ⟨X.heap.size, 0, none⟩) 1 1, .slice none 0 0, .int .i64 0, .int .i64 0, .int .i64 0, .int .i64 0, .int .i64 0, .int .i64 0, .int .i64 0, .string ⟨#[]⟩], .bool false] (X.alloc (.cells #[.int .i64 5] 3)) fun e w' => e = .returned (.tuple #[]) ∧ WK w P V1 w') := Lib.hid (fun P X ⟨fp, h1, h2, h3⟩ => by
    have hb : Below X.heap.size X (X.alloc (.cells #[.int .i64 5] 3)) := (Below.refl _ _).alloc (Nat.le_refl _) _
    refine (Hear_any (h1.on hb) V0_ok (e0 X.heap.size) false [5] [] (by simp) ⟨nms_one X 5, ⟨⟨none, 0, rfl, fun h => by simp at h⟩, fun m hm => by cases hm⟩, by show (-9223372036854775808 : Int) ≤ 0; omega, by simp, by simp⟩ ⟨fun _ b hb' => ?_, fun _ b hb' => ?_, fun m hm => by cases hm⟩).mono ?_
    · have e : X.heap.size = b := by simpa [e0, Value.ownBlock] using hb'
      subst e
      exact ⟨by simp, fun hm => by have := h1.lt hm; omega⟩
    · simp [e0, Value.ownBlock] at hb'
    · rintro e w' ⟨rfl, fp', q1, q2⟩
      obtain ⟨y1, y2⟩ := fo_below (h2.trans (hb.mono h2.size)) h3 q2
      exact ⟨rfl, fp', q1, y1, y2⟩)
  have HFind : Hid (∀ P X, WK w P V1 X → Calls Tryz.prog 19 #[.pointer (some ⟨P, 0, none⟩), .slice (some ⟨X.heap.size, 0, none⟩) 1 1, .bool false] (X.alloc (.cells #[.int .i64 1, .int .i64 3] 90)) fun e w' => ∃ a n c, e = .returned (.tuple #[.slice a n c, .bool true, .int .i64 0]) ∧ WKL w P V1 (.slice a n c) [2, 5, 9] w') := Lib.hid (fun P X ⟨fp, h1, h2, h3⟩ => by
    have hb : Below X.heap.size X (X.alloc (.cells #[.int .i64 1, .int .i64 3] 90)) := (Below.refl _ _).alloc (Nat.le_refl _) _
    refine (Find_any (h1.on hb) V1_ok (by omega) _ [(1, 3)] (rgs_one X 1 3) (by simp) false).mono ?_
    obtain ⟨k1, k2, k3⟩ := known_find
    rw [k1, k2, k3]
    rintro e w' ⟨v', rfl, ho⟩
    obtain ⟨a, c, rfl⟩ := ownsRow_shape ho.row
    refine ⟨a, _, c, rfl, fp, (h1.on hb).on ho.below, (h2.trans (hb.mono h2.size)).trans (ho.below.mono (Nat.le_trans h2.size hb.size)), h3, nms_of ho.row, fun b hb' hm => ?_⟩
    have := (ho.row.lt b hb').1
    have := (h1.on hb).lt hm
    omega)
  have HSeq : Hid (∀ P X lv, WKL w P V1 lv [2, 5, 9] X → Calls Tryz.prog 25 #[.pointer (some ⟨P, 0, none⟩), .int .i64 9] X fun e w' => e = .returned (.tuple #[.int .i64 3, .int .i64 0]) ∧ WKL w P V1 lv [2, 5, 9] w') := Lib.hid (fun P X lv h => by
    obtain ⟨fp, h1, h2, h3⟩ := h.wk
    have := Seq_W h1 V1_ok (by omega) 9
    rw [known_seq.1, known_seq.2] at this
    exact this.mono (fun e w' ⟨q1, q2⟩ => ⟨q1, h.on q2⟩))
  have HTake : Hid (∀ P X lv, WKL w P V1 lv [2, 5, 9] X → Calls Tryz.prog 8 #[.pointer (some ⟨P, 0, none⟩), .int .i64 2, .int .i64 0] X fun e w' => ∃ g c, e = .returned (.slice (some ⟨g, 0, none⟩) 1 c) ∧ w'.cell? ⟨g, 0, none⟩ = some (.int .i64 1) ∧ w'.cell? ⟨g, 1, none⟩ = some (.int .i64 2) ∧ g < w'.heap.size ∧ WKL w P V2 lv [2, 5, 9] w') := Lib.hid (fun P X lv ⟨fp, h1, h2, h3, h4, h5⟩ => by
    refine (Take_any h1 V1_ok (by omega) 2 0).mono ?_
    rintro e w' ⟨tv, T, rfl, ht, fp', q1, q2⟩
    have hT := ht.pl
    rw [known_take] at hT
    obtain ⟨t, rfl⟩ : ∃ t, T = [t] := List.length_eq_one_iff.1 (by have := congrArg List.length hT; simpa using this)
    have hk : t.kind = 1 := congrArg (fun l => (l.map Td.kind).getD 0 0) hT
    have hn : t.num = 2 := congrArg (fun l => (l.map Td.num).getD 0 0) hT
    have hrow := ht.row
    rcases hrow.2 with ⟨_, h0⟩ | ⟨g, cap, cur, rfl, _, hg, _⟩
    · simp at h0
    · have z0 : w'.cell? ⟨g, 0, none⟩ = some (.int .i64 t.kind) := hrow.cellAt 0 (by simp)
      have z1 : w'.cell? ⟨g, 1, none⟩ = some (.int .i64 t.num) := hrow.cellAt 1 (by simp)
      rw [hk] at z0
      rw [hn] at z1
      obtain ⟨y1, y2⟩ := fo_below h2 h3 q2
      refine ⟨g, cap, rfl, z0, z1, lt_of_heap hg, fp', q1, y1, y2, h4.past q2 (fun _ => h5), fun b hb' hm => ?_⟩
      rcases q2.2 b hm with e | e
      · exact h5 b hb' e
      · obtain ⟨a9, c9, he9, hx9⟩ := h4
        obtain ⟨g9, o9, e9, hl9, _⟩ := hx9 (by simp)
        subst he9 e9
        simp [Value.ownBlock] at hb'
        omega)
  have HAl1 : Hid (∀ P X lv, WKL w P V2 lv [2, 5, 9] X → Calls Tryz.prog 22 #[lv, .slice (some ⟨X.heap.size, 0, none⟩) 3 3] (X.alloc (.cells #[.int .i64 2, .int .i64 5, .int .i64 9] 3)) fun e w' => e = .returned (.bool true) ∧ Below X.heap.size X w' ∧ WK w P V2 w') := Lib.hid (fun P X lv h => by
    have hb : Below X.heap.size X (X.alloc (.cells #[.int .i64 2, .int .i64 5, .int .i64 9] 3)) := (Below.refl _ _).alloc (Nat.le_refl _) _
    obtain ⟨fp, h1, h2, h3, h4, h5⟩ := h.on hb
    exact (alike_any lv _ [2, 5, 9] [2, 5, 9] _ h4 (nms_lit X [2, 5, 9] _ rfl) (by simp)).mono (fun e w' ⟨q1, q2⟩ => ⟨q1, hb.trans (q2.mono hb.size), (h.wk.on hb).on q2⟩))
  have HUi : Hid (∀ P X, WK w P V2 X → Calls Tryz.prog 7 #[.pointer (some ⟨P, 0, none⟩)] X fun e w' => ∃ v', e = .returned v' ∧ WK w P V2 w' ∧ Nms w' v' [2, 9]) := Lib.hid (fun P X ⟨fp, h1, h2, h3⟩ => by
    refine (Uids_W h1 V2_ok (by omega)).mono ?_
    rw [known_uids]
    rintro e w' ⟨v', rfl, ho⟩
    exact ⟨v', rfl, ⟨fp, h1.on ho.below, h2.trans (ho.below.mono h2.size), h3⟩, nms_of ho.row⟩)
  have HAl2 : Hid (∀ P X v', WK w P V2 X → Nms X v' [2, 9] → Calls Tryz.prog 22 #[v', .slice (some ⟨X.heap.size, 0, none⟩) 2 2] (X.alloc (.cells #[.int .i64 2, .int .i64 9] 3)) fun e w' => e = .returned (.bool true) ∧ WK w P V2 w') := Lib.hid (fun P X v' h hn => by
    have hb : Below X.heap.size X (X.alloc (.cells #[.int .i64 2, .int .i64 9] 3)) := (Below.refl _ _).alloc (Nat.le_refl _) _
    exact (alike_any v' _ [2, 9] [2, 9] _ (hn.on hb) (nms_lit X [2, 9] _ rfl) (by simp)).mono (fun e w' ⟨q1, q2⟩ => ⟨q1, (h.on hb).on q2⟩))
  have HRe : Hid (∀ P X, WK w P V2 X → Calls Tryz.prog 28 #[.pointer (some ⟨P, 0, none⟩), .int .i64 9] X fun e w' => e = .returned (.bool true) ∧ WK w P V2 w') := Lib.hid (fun P X h => by
    obtain ⟨fp, h1, h2, h3⟩ := h
    have := Recent_W h1 V2_ok (by omega) 9
    rw [known_flags.1] at this
    exact this.mono (fun e w' ⟨q1, q2⟩ => ⟨q1, WK.on ⟨fp, h1, h2, h3⟩ q2⟩))
  have HGo : Hid (∀ P X, WK w P V2 X → Calls Tryz.prog 26 #[.pointer (some ⟨P, 0, none⟩), .int .i64 9] X fun e w' => e = .returned (.bool false) ∧ Below w.heap.size w w') := Lib.hid (fun P X h => by
    obtain ⟨fp, h1, h2, h3⟩ := h
    have := Gone_W h1 V2_ok (by omega) 9
    rw [known_flags.2] at this
    exact this.mono (fun e w' ⟨q1, q2⟩ => ⟨q1, h2.trans (q2.mono h2.size)⟩))
  go_enter Tryz.func9, Tryz.ntmps9
  go_wp2_with (first | (go_at_call 37; refine HNew.out.mono ?_; rintro e w1 ⟨P, rfl, h⟩; have K1 := Lib.hid h; clear h) | (go_at_call 12; refine (HHear.out _ _ K1.out).mono ?_; rintro e w2 ⟨rfl, h⟩; have K2 := Lib.hid h; clear h) | (go_at_call 19; refine (HFind.out _ _ K2.out).mono ?_; rintro e w3 ⟨la, ln, lc, rfl, h⟩; have K3 := Lib.hid h; clear h) | (go_at_call 25; refine (HSeq.out _ _ _ K3.out).mono ?_; rintro e w4 ⟨rfl, h⟩; have K4 := Lib.hid h; clear h) | (go_at_call 8; refine (HTake.out _ _ _ K4.out).mono ?_; rintro e w5 ⟨tg, tc, rfl, x0, x1, xg, h⟩; have K5 := Lib.hid h; clear h) | (go_at_call 23; refine (num_any _ _).mono ?_; rintro e w' ⟨rfl, hw⟩; subst w') | (go_at_call 22; have hq := K7; clear hq; refine (HAl2.out _ _ _ K7.out N7.out).mono ?_; rintro e w8 ⟨rfl, h⟩; have K8 := Lib.hid h; clear h) | (go_at_call 22; refine (HAl1.out _ _ _ K5.out).mono ?_; rintro e w6 ⟨rfl, hb, h⟩; rw [← hb.cell (p := ⟨tg, 0, none⟩) xg] at x0; rw [← hb.cell (p := ⟨tg, 1, none⟩) xg] at x1; have K6 := Lib.hid h; clear h hb) | (go_at_call 7; refine (HUi.out _ _ K6.out).mono ?_; rintro e w7 ⟨v7, rfl, h, hn⟩; have K7 := Lib.hid h; have N7 := Lib.hid hn; clear h hn) | (go_at_call 28; refine (HRe.out _ _ K8.out).mono ?_; rintro e w9 ⟨rfl, h⟩; have K9 := Lib.hid h; clear h) | (go_at_call 26; refine (HGo.out _ _ K9.out).mono ?_; rintro e w10 ⟨rfl, h⟩; have K10 := Lib.hid h; clear h))
  go_ret
  exact ⟨rfl, K10.out⟩
end Go.Proofs.YtflkhnmggmfhfaaGreat
