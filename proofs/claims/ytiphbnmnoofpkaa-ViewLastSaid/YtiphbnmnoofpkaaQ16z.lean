/- view: numbered, Find. -/
import Derived.Test.YtiphbnmnoofpkaaQ16y
namespace Go.Proofs.Ytiphbnmnoofpkaa
open Go.RowKit

/-- The row with a number. -/
def rowN (R : List RE) (k : Int) : RE := R.getD (k - 1).toNat RE0
def numL (n : Nat) (l : List Rg) : List Int := ofL l (fol 1 n)
theorem fol_one (n : Nat) (h : n ≤ 1000000) : fol 1 n = folN 1 n := fol_eq n n 1 (Nat.le_refl _) (fun i hi => by omega) (.inl rfl)
theorem numL_mem {n : Nat} {l : List Rg} {k : Int} (hn : n ≤ 1000000) (h : k ∈ numL n l) : 1 ≤ k ∧ k ≤ n := by
  unfold numL ofL at h
  have := (List.mem_filter.1 h).1
  rw [fol_one n hn] at this
  unfold folN at this
  obtain ⟨i, hi, rfl⟩ := List.mem_map.1 this
  have := List.mem_range.1 hi
  omega
theorem numL_len (n : Nat) (l : List Rg) : (numL n l).length ≤ n := Nat.le_trans (List.length_filter_le _ _) (fol_length n 1)
def goneN (R : List RE) (ks : List Int) : Bool := ks.any fun k => (rowN R k).gone
def uidN (R : List RE) (ks : List Int) : List Int := ks.map fun k => (rowN R k).uid
theorem goneN_snoc (R : List RE) (ks : List Int) (k : Int) : goneN R (ks ++ [k]) = (goneN R ks || (rowN R k).gone) := by simp [goneN]
theorem uidN_snoc (R : List RE) (ks : List Int) (k : Int) : uidN R (ks ++ [k]) = uidN R ks ++ [(rowN R k).uid] := by simp [uidN]
/-- out = append(out, n): all but out's block is as it was. -/
theorem appIg {ops : Array Oper} {rest : List Oper} {o : Oper} {a : Act} {Q : Exit → Act → World → Prop} (hgd : o.guard = none) (s x : Operand)
    (ho : o.op = .call { callee := .builtin .append, args := #[s, x], argTypes := #[30, 30] })
    {B : Nat} {v2 : Value} {l2 : List Int} {W0 w : World} (c : Int) (ho2 : OwnI B v2 l2 W0 w) (hs : a.eval s = v2) (hx : a.eval x = .slice (some ⟨w.heap.size, 0, none⟩) 1 1)
    (hlen : l2.length + 1 ≤ 17592186044416)
    (h : ∀ v' w', OwnI B v' (l2 ++ [c]) W0 w' → w.grownBy w' v2.ownBlock → wpList Try.prog ops Q rest (a.put o.dst v') w') : wpList Try.prog ops Q (o :: rest) a (w.alloc (.cells #[.int .i64 c] 3)) := by
  obtain ⟨i0, hi, hz0, hz1, hz2⟩ := info_parts Try.infoInt
  have ha := ho2.alloc (.cells #[.int .i64 c] 3)
  refine wpList_append_own _ hgd s x 30 ho B 3 i0 (.int .i64 0) 1 8 Try.underlying30 hi hz0 hz1 hz2 rfl (by decide) v2 l2.length (ic l2) hs ha.row ⟨w.heap.size, 0, none⟩ 1 1 [.int .i64 c] hx rfl ?_ ?_ (by unfold maxLen; omega) (by omega) ha.base ?_
  · intro j u hj
    match j, hj with
    | 0, hj => simp at hj; subst hj; simp [Addr.add]
    | (j + 1), hj => simp at hj
  · intro u hu; simp at hu; subst hu; rfl
  · intro v' w' ho' hg _
    refine h v' w' ⟨?_, ha.below.grown hg ha.base (fun k hk => (ha.row.lt k hk).1), Nat.le_trans ha.base hg.size⟩ ⟨hg.os, hg.tape, hg.output, by have := hg.size; simp at this; omega, fun k hk hne => by rw [hg.block k (by simp; omega) hne, Below.heap_alloc _ _ _ hk]⟩
    rw [List.length_append, ic_append]
    exact ho'
section
variable {P : Nat} {val : Int} {rv cv : Value} {R : List RE} {C : List Int} {w : World} {N : Nat}
set_option maxRecDepth 100000 in
set_option maxHeartbeats 1000000 in
theorem numbered_any (h : VAt P val rv cv R C w) (hR : R.length ≤ 1000000) (v : Value) (l : List Rg) (hr : Rgs w v l) (hl : l.length ≤ 1000000) :
    Calls Try.prog 35 #[.pointer (some ⟨P, 0, none⟩), v] w fun e w' => ∃ v', e = .returned (.tuple #[v', .bool (goneN R (numL R.length l))]) ∧ OwnI w.heap.size v' (uidN R (numL R.length l)) w w' := by
  obtain ⟨a2, k2, hrv⟩ := ownsRow_shape h.rows
  subst hrv
  have c2 := h.cells.c2
  have HFo := Lib.hid (following_any 1 R.length w (by omega) (by omega))
  have HOf : Hid (∀ v1 w1, OwnI w.heap.size v1 (fol 1 R.length) w w1 → Calls Try.prog 31 #[v, v1] w1 fun e w2 => ∃ a3 c3, e = .returned (.slice a3 (numL R.length l).length c3) ∧ Nms w2 (.slice a3 (numL R.length l).length c3) (numL R.length l) ∧ Below w.heap.size w w2) := Lib.hid (fun v1 w1 ho => by
    have hfl := fol_length R.length 1
    refine (of_any v v1 l (fol 1 R.length) w1 (hr.on ho.below) (ho.ints (by omega)) hl (by omega) (fun n hn => ?_)).mono ?_
    · rw [fol_one _ hR] at hn
      unfold folN at hn
      obtain ⟨i, hi, rfl⟩ := List.mem_map.1 hn
      have := List.mem_range.1 hi
      omega
    · rintro e w2 ⟨v2, rfl, ho2⟩
      obtain ⟨a3, c3, rfl⟩ := ownsRow_shape ho2.row
      exact ⟨a3, c3, rfl, nms_of ho2.row, ho.below.trans (ho2.below.mono ho.base)⟩)
  have HV := Lib.hid h
  have HMm := Lib.hid (fun k (hk : k ∈ numL R.length l) => numL_mem hR hk)
  have hnl := numL_len R.length l
  clear h hr
  generalize numL R.length l = ks at *
  go_enter Try.func35, Try.ntmps35
  go_wp2_with (first | (go_at_call 54; refine HFo.out.mono ?_; rintro e w1 ⟨v1, rfl, ho1⟩; have HO1 := Lib.hid ho1; clear ho1) | (go_at_call 31; refine (HOf.out _ _ HO1.out).mono ?_; rintro e w2 ⟨a3, c3, rfl, hn2, hb2⟩; have HN2 := Lib.hid hn2; have HB2 := Lib.hid hb2; clear hn2 hb2))
  go_loopw [6, 7, 20] (fun u6 gb i wr => ∃ (k : Nat) (v6 : Value), k ≤ ks.length ∧ i = .int .i64 k ∧ gb = .bool (goneN R (ks.take k)) ∧ v6 = u6 ∧ OwnI w2.heap.size v6 (uidN R (ks.take k)) w2 wr) (fun _ _ i _ => ks.length - (intOf i).toNat)
  case atStart => exact ⟨0, _, Nat.zero_le _, rfl, rfl, rfl, OwnI.nil (Below.refl _ _) (Nat.le_refl _)⟩
  case round =>
    clear c2
    obtain ⟨k, v6, hk, rfl, rfl, hv6, hO⟩ := hrel
    subst hv6
    by_cases hlt : k < ks.length
    · have hlti : (k : Int) < (ks.length : Int) := by omega
      obtain ⟨a9, c9, he9, hcs9⟩ := HN2.out
      obtain ⟨b, off, hab, hb, hcc⟩ := hcs9 (by omega)
      cases he9
      subst hab
      have ck := hcc k hlt
      rw [← hO.below.cell (p := ⟨b, off + k, none⟩) hb] at ck
      have hm := HMm.out (ks.getD k 0) (by rw [List.getD_eq_getElem?_getD, List.getElem?_eq_getElem hlt]; exact List.getElem_mem hlt)
      obtain ⟨j, hj⟩ : ∃ j : Nat, ks.getD k 0 = (j : Int) + 1 := ⟨(ks.getD k 0 - 1).toNat, by omega⟩
      have hjl : j < R.length := by omega
      have hji : (j : Int) < (R.length : Int) := by omega
      have hVr : VAt P val (.slice a2 R.length k2) cv R C wr := HV.out.on (⟨hO.below.os.trans HB2.out.os, hO.below.tape.trans HB2.out.tape, hO.below.output.trans HB2.out.output, Nat.le_trans HB2.out.size hO.below.size, fun b hb => by rw [hO.below.block b (Nat.lt_of_lt_of_le hb HB2.out.size), HB2.out.block b hb]⟩)
      obtain ⟨g3, cap3, e3, c4, c5, c6, c7, _⟩ := hVr.row_at hjl
      cases e3
      have d2 := hVr.cells.c2
      obtain ⟨yo, hyo⟩ : ∃ yo, (R.getD j RE0).ptr = .pointer yo := ⟨_, rfl⟩
      rw [hyo] at c7
      have hrow : rowN R (ks.getD k 0) = R.getD j RE0 := by unfold rowN; rw [hj]; congr 1; omega
      have HS : Hid (uidN R (ks.take (k + 1)) = uidN R (ks.take k) ++ [(R.getD j RE0).uid]) := Lib.hid (by rw [take_snocI ks k hlt, uidN_snoc, hrow])
      have HG : Hid (goneN R (ks.take (k + 1)) = (goneN R (ks.take k) || (R.getD j RE0).gone)) := Lib.hid (by rw [take_snocI ks k hlt, goneN_snoc, hrow])
      have hul : (uidN R (ks.take k)).length ≤ 1000000 := by simp only [uidN, List.length_map, List.length_take]; omega
      have HO := Lib.hid hO
      rw [hj] at ck
      have hj1 : ((j : Int) + 1) - 1 = j := by omega
      clear hcc hcs9 hVr hyo hrow hO hm hj
      generalize (R.getD j RE0).uid = x at *
      generalize (R.getD j RE0).gone = yg at *
      generalize (R.getD j RE0).rct = yr at *
      generalize uidN R (ks.take k) = D at *
      generalize goneN R (ks.take k) = gg at *
      obtain ⟨Y, hY⟩ : ∃ Y, wr.alloc (.cells #[.int .i64 x, .bool yg, .bool yr, .pointer yo] 75) = Y := ⟨_, rfl⟩
      have hYn : Y.heap[wr.heap.size]? = some (.cells #[.int .i64 x, .bool yg, .bool yr, .pointer yo] 75 (0, 0)) := by rw [← hY]; exact heap_new _ _
      have HA : Hid (OwnI w2.heap.size v6 D w2 Y) := Lib.hid (by rw [← hY]; exact HO.out.alloc _)
      have x0 : Y.cell? ⟨wr.heap.size, 0, none⟩ = some (.int .i64 x) := cell_of hYn 0
      have x1 : Y.cell? ⟨wr.heap.size, 1, none⟩ = some (.bool yg) := cell_of hYn 1
      have hwY : wr.heap.size < Y.heap.size := lt_of_heap hYn
      have HX1 : Hid (∀ v3 w3, OwnI w2.heap.size v3 (D ++ [x]) w2 w3 → True) := Lib.hid (fun _ _ _ => trivial)
      clear HX1 hYn
      have HY := Lib.hid hY
      clear hY
      go_upto_region 7 with fail
      (try rw [HY.out])
      clear HY
      cases gg with
      | true =>
        go_wp2_with (at_builtin; refine appI rfl _ _ rfl x HA.out rfl rfl (by omega) ?_; intro v3 w3 ho3; have HO3 := Lib.hid ho3; clear ho3)
        go_roundw
        case rel => exact ⟨k + 1, _, by omega, by go_num, by rw [HG.out]; rfl, rfl, by rw [HS.out]; exact HO3.out⟩
        case measure => simp [intOf]; omega
      | false =>
        have HYk : Hid (∀ w3 : World, Y.grownBy w3 v6.ownBlock → w3.cell? ⟨wr.heap.size, 1, none⟩ = some (.bool yg)) := Lib.hid (fun w3 hg => by
          rw [World.cell?_of_block (a := ⟨wr.heap.size, 1, none⟩) (hg.block _ hwY (fun e => absurd (HO.out.row.lt _ e.symm).2 (Nat.lt_irrefl _)))]
          exact x1)
        go_wp2_with (at_builtin; refine appIg rfl _ _ rfl x HA.out rfl rfl (by omega) ?_; intro v3 w3 ho3 hg3; have y1 := HYk.out w3 hg3; have HO3 := Lib.hid ho3; clear ho3 hg3)
        go_roundw
        case rel => exact ⟨k + 1, _, by omega, by go_num, by rw [HG.out]; rfl, rfl, by rw [HS.out]; exact HO3.out⟩
        case measure => simp [intOf]; omega
    · obtain rfl : k = ks.length := by omega
      rw [List.take_of_length_le (Nat.le_refl _)] at hO
      rw [List.take_of_length_le (Nat.le_refl _)]
      have HO := Lib.hid (((hO.mono HB2.out.size).shift HB2.out))
      clear hO
      go_wp2
      go_ret2
      exact ⟨_, rfl, HO.out⟩
theorem notTakes (h : VAt P val rv cv R C w) (bx : Nat) (hbx : w.cell? ⟨bx, 0, none⟩ = some (.pointer (some ⟨P, 0, none⟩))) (a b : Int) :
    Calls Try.prog 33 #[rgV a b, .pointer (some ⟨bx, 0, none⟩)] w fun e w' => e = .returned (.bool (!takesB R.length (a, b))) ∧ Below w.heap.size w w' := by
  have hb1 : Below w.heap.size w (w.alloc (.cells #[.int .i64 a, .int .i64 b] 53)) := (Below.refl _ _).alloc (Nat.le_refl _) _
  have HT := Lib.hid (takes_any (h.on hb1) a b)
  have c0 : (w.alloc (.cells #[.int .i64 a, .int .i64 b] 53)).cell? ⟨bx, 0, none⟩ = some (.pointer (some ⟨P, 0, none⟩)) := by rw [hb1.cell (p := ⟨bx, 0, none⟩) (World.block_lt_of_cell? w _ hbx)]; exact hbx
  have HB := Lib.hid hb1
  clear h hb1 hbx
  generalize takesB R.length (a, b) = tb at *
  go_enter Try.func33, Try.ntmps33
  go_wp2_with (go_at_call 34; refine HT.out.mono ?_; rintro e w1 ⟨rfl, hb⟩; have HB2 := Lib.hid (HB.out.trans (hb.mono HB.out.size)); clear hb)
  go_ret
  exact ⟨rfl, HB2.out⟩
end
/-- What Find answers. -/
def leftU (V : PV) : List Int := uidsP { V with rows := stayR V.rows }
def badF (V : PV) (l : List Rg) : Bool := l.any fun p => !takesB V.rows.length p
def rowP (V : PV) (k : Int) : PR := V.rows.getD (k - 1).toNat ⟨0, false, false, none⟩
def findL (V : PV) (l : List Rg) (uid : Bool) : List Int := if uid = true then ofL l (leftU V) else if badF V l = true then [] else (numL V.rows.length l).map fun k => (rowP V k).uid
def findG (V : PV) (l : List Rg) (uid : Bool) : Bool := if uid = true then false else if badF V l = true then false else (numL V.rows.length l).any fun k => (rowP V k).gone
def findE (V : PV) (l : List Rg) (uid : Bool) : Int := if uid = true then 0 else if badF V l = true then 160 else 0
theorem rowP_pl {R : List RE} {V : PV} (h : R.map RE.pl = V.rows) (k : Int) : (rowN R k).uid = (rowP V k).uid ∧ (rowN R k).gone = (rowP V k).gone := by
  have e : rowP V k = (rowN R k).pl := by
    unfold rowP rowN
    rw [← h, List.getD_eq_getElem?_getD, List.getElem?_map, List.getD_eq_getElem?_getD]
    cases R[(k - 1).toNat]? <;> rfl
  rw [e]
  exact ⟨rfl, rfl⟩
theorem pick_left {R : List RE} {V : PV} (h : R.map RE.pl = V.rows) : pickU (fun r => !r.gone) R = leftU V := by
  unfold pickU leftU uidsP
  show (List.filter _ R).map RE.uid = (stayR V.rows).map PR.uid
  rw [← h, ← stayE_pl, List.map_map]
  rfl
set_option maxHeartbeats 1000000 in
set_option maxRecDepth 20000 in
theorem Find_any {P : Nat} {V : PV} {fp : List Nat} {w : World} {N : Nat} (h : VW P V fp w) (hk : PVok V N) (hN : N ≤ 1000000) (v : Value) (l : List Rg) (hr : Rgs w v l) (hl : l.length ≤ 1000000) (uid : Bool) :
    Calls Try.prog 15 #[.pointer (some ⟨P, 0, none⟩), v, .bool uid] w fun e w' => ∃ v', e = .returned (.tuple #[v', .bool (findG V l uid), .int .i64 (findE V l uid)]) ∧ OwnI w.heap.size v' (findL V l uid) w w' := by
  obtain ⟨rv, cv, R, hV, hpl, rfl⟩ := h
  have hko := VOK.of hpl hk
  have hlen := hko.len
  have hrl : R.length = V.rows.length := by rw [← hpl, List.length_map]
  obtain ⟨W1, hW1⟩ : ∃ W1, w.alloc (.cells #[.pointer (some ⟨P, 0, none⟩)] 28) = W1 := ⟨_, rfl⟩
  have h1 : W1.heap[w.heap.size]? = some (.cells #[.pointer (some ⟨P, 0, none⟩)] 28 (0, 0)) := by rw [← hW1]; exact heap_new _ _
  have hb1 : Below w.heap.size w W1 := by rw [← hW1]; exact (Below.refl _ _).alloc (Nat.le_refl _) _
  obtain ⟨W2, hW2⟩ : ∃ W2, W1.setCell ⟨w.heap.size, 0, none⟩ (.pointer (some ⟨P, 0, none⟩)) = W2 := ⟨_, rfl⟩
  have h2 : W2.heap[w.heap.size]? = some (.cells #[.pointer (some ⟨P, 0, none⟩)] 28 (0, 0)) := by rw [← hW2, heap_setCell_at _ h1]; rfl
  have hb2 : Below w.heap.size w W2 := by rw [← hW2]; exact hb1.setCell (Nat.le_refl _) _
  have c1 : W1.cell? ⟨w.heap.size, 0, none⟩ = some (.pointer (some ⟨P, 0, none⟩)) := cell_of h1 0
  have f1 : W1.frozen? ⟨w.heap.size, 0, none⟩ = false := frozen_of h1 0
  have c2 : W2.cell? ⟨w.heap.size, 0, none⟩ = some (.pointer (some ⟨P, 0, none⟩)) := cell_of h2 0
  have hV2 := hV.on hb2
  have hr2 := hr.on hb2
  have HB2 := Lib.hid hb2
  cases uid with
  | true =>
    have HU := Lib.hid (notGone_any hV2 (by omega))
    have HO : Hid (∀ v1 w1, OwnI W2.heap.size v1 (pickU (fun r => !r.gone) R) W2 w1 → Calls Try.prog 31 #[v, v1] w1 fun e w' => ∃ v', e = .returned v' ∧ OwnI w.heap.size v' (findL V l true) w w') := Lib.hid (fun v1 w1 ho => by
      have hpu := pickU_length (fun r => !r.gone) R
      refine (of_any v v1 l _ w1 (hr2.on ho.below) (ho.ints (by omega)) hl (by omega) (fun n hn => ?_)).mono ?_
      · have : n < 4294967295 := hko.top n (List.mem_append_left _ (by
          unfold pickU uidR at hn
          obtain ⟨r, hr', rfl⟩ := List.mem_map.1 hn
          exact List.mem_map_of_mem (List.mem_filter.1 hr').1))
        omega
      · rintro e w' ⟨v', rfl, ho'⟩
        refine ⟨v', rfl, ?_⟩
        have e1 : findL V l true = ofL l (pickU (fun r => !r.gone) R) := by unfold findL; rw [if_pos rfl, pick_left hpl]
        rw [e1]
        exact (ho'.mono (Nat.le_trans hb2.size ho.base)).shift (hb2.trans (ho.below.mono hb2.size)))
    clear hV hV2 hr hr2 hb1 hb2 h1 h2 hk hko
    have hg : findG V l true = false := rfl
    have he : findE V l true = 0 := rfl
    rw [hg, he]
    go_enter Try.func15, Try.ntmps15
    go_upto_region 1 with fail
    (try rw [hW1])
    clear hW1
    go_upto_region 2 with (go_at_call 24; refine (some_any _ _).mono ?_; rintro e w' ⟨rfl, hw⟩; subst w')
    (try rw [hW2])
    clear hW2
    go_wp2_with (first | (go_at_call 25; refine HU.out.mono ?_; rintro e w1 ⟨v1, rfl, ho1⟩; have HC := Lib.hid (HO.out _ _ ho1); clear ho1) | (go_at_call 31; refine HC.out.mono ?_; rintro e w3 ⟨v3, rfl, ho3⟩; have HF := Lib.hid ho3; clear ho3))
    refine bodyPost_ret (v := .tuple #[v3, .bool false, .int .i64 0]) (by simp [results, Try.results15, go_sem]) rfl ⟨_, rfl, HF.out⟩
  | false =>
    have HCF := Lib.hid (containsFunc_any 33 #[.pointer (some ⟨w.heap.size, 0, none⟩)] (enters_of Try.func33 (by kernel_rfl) rfl) (fun p => !takesB R.length p) v l W2 hr2 (fun a b X hX => notTakes (hV2.on hX) w.heap.size (by rw [hX.cell (p := ⟨w.heap.size, 0, none⟩) (lt_of_heap h2)]; exact c2) a b))
    cases hbad : badF V l with
    | true =>
      have hg : findG V l false = false := by unfold findG; simp [hbad]
      have he : findE V l false = 160 := by unfold findE; simp [hbad]
      have hL : findL V l false = [] := by unfold findL; simp [hbad]
      rw [hg, he, hL]
      have hb : (l.any fun p => !takesB R.length p) = true := by rw [hrl]; exact hbad
      rw [hb] at HCF
      clear hV hV2 hr hr2 hb1 hb2 h1 h2 hk hko hbad hb hg he hL
      go_enter Try.func15, Try.ntmps15
      go_upto_region 1 with fail
      (try rw [hW1])
      clear hW1
      go_upto_region 2 with (go_at_call 24; refine (some_any _ _).mono ?_; rintro e w' ⟨rfl, hw⟩; subst w')
      (try rw [hW2])
      clear hW2
      go_wp2_with (go_at_call 32; refine HCF.out.mono ?_; rintro e w1 ⟨rfl, hb⟩; have HB3 := Lib.hid (HB2.out.trans (hb.mono HB2.out.size)); clear hb)
      refine bodyPost_ret (v := .tuple #[.slice none 0 0, .bool false, .int .i64 160]) (by simp [results, Try.results15, go_sem]) rfl ⟨_, rfl, OwnI.nil HB3.out HB3.out.size⟩
    | false =>
      have he : findE V l false = 0 := by unfold findE; simp [hbad]
      rw [he]
      have hb : (l.any fun p => !takesB R.length p) = false := by rw [hrl]; exact hbad
      rw [hb] at HCF
      have HNu : Hid (∀ w1, Below W2.heap.size W2 w1 → w1.cell? ⟨w.heap.size, 0, none⟩ = some (.pointer (some ⟨P, 0, none⟩)) ∧ Calls Try.prog 35 #[.pointer (some ⟨P, 0, none⟩), v] w1 fun e w' => ∃ v', e = .returned (.tuple #[v', .bool (findG V l false)]) ∧ OwnI w.heap.size v' (findL V l false) w w') := Lib.hid (fun w1 hX => by
        refine ⟨by rw [hX.cell (p := ⟨w.heap.size, 0, none⟩) (lt_of_heap h2)]; exact c2, ?_⟩
        refine (numbered_any (hV2.on hX) (by omega) v l (hr2.on hX) hl).mono ?_
        rintro e w' ⟨v', rfl, ho⟩
        have e1 : goneN R (numL R.length l) = findG V l false := by
          unfold findG goneN
          simp only [Bool.false_eq_true, if_false, hbad, hrl]
          congr 1
          funext k
          exact (rowP_pl hpl k).2
        have e2 : uidN R (numL R.length l) = findL V l false := by
          unfold findL uidN
          simp only [Bool.false_eq_true, if_false, hbad, hrl]
          exact List.map_congr_left fun k _ => (rowP_pl hpl k).1
        rw [e1, ]
        rw [e2] at ho
        exact ⟨v', rfl, (ho.mono (Nat.le_trans hb2.size hX.size)).shift (hb2.trans (hX.mono hb2.size))⟩)
      clear hV hV2 hr hr2 hb1 hb2 h1 h2 hk hko hbad hb he
      generalize findG V l false = gg at *
      generalize findL V l false = LL at *
      go_enter Try.func15, Try.ntmps15
      go_upto_region 1 with fail
      (try rw [hW1])
      clear hW1
      go_upto_region 2 with (go_at_call 24; refine (some_any _ _).mono ?_; rintro e w' ⟨rfl, hw⟩; subst w')
      (try rw [hW2])
      clear hW2
      go_wp2_with (first | (go_at_call 32; refine HCF.out.mono ?_; rintro e w1 ⟨rfl, hb⟩; obtain ⟨y1, y2⟩ := HNu.out _ hb; have HC := Lib.hid y2; clear hb y2) | (go_at_call 35; refine HC.out.mono ?_; rintro e w3 ⟨v3, rfl, ho3⟩; have HF := Lib.hid ho3; clear ho3))
      refine bodyPost_ret (v := .tuple #[v3, .bool gg, .int .i64 0]) (by simp [results, Try.results15, go_sem]) rfl ⟨_, rfl, HF.out⟩
end Go.Proofs.Ytiphbnmnoofpkaa
