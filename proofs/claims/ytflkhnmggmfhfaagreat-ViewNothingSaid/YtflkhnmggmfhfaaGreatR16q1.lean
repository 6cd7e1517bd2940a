/- The document's view: Take (1n). -/
import Derived.Test.YtflkhnmggmfhfaaGreatR16q
namespace Go.Proofs.YtflkhnmggmfhfaaGreat
open Go.RowKit

section
variable {P : Nat} {nn : Bool} {val : Int} {rv cv : Value} {R : List RR} {C : List Int} {w : World}
set_option maxRecDepth 100000 in
set_option maxHeartbeats 8000000 in
theorem rTake_1n (h : RV nn P val rv cv R ([] : List Int) w) (hsh : ShR R) (hl : R.length + ([] : List Int).length ≤ 1000000) (recent : Int) :
    Calls Tryz.prog 16 #[.pointer (some ⟨P, 0, none⟩), .int .i64 1, .int .i64 recent] w (TkOut nn P val false R ([] : List Int) recent (fpR P rv cv R) w) := by
  obtain ⟨ar, cr, er⟩ := ownsRow_shape h.rows
  obtain ⟨ac, cc, ec, hcx⟩ := nms_of h.com
  obtain ⟨_, _, c2, c3⟩ := h.cells
  obtain ⟨z2, z3⟩ := h.frozen
  have HV := Lib.hid h
  have HSh := Lib.hid hsh
  have hPw : P < w.heap.size := lt_of_heap h.self
  have HL : Hid (∀ k, k < R.length → ∃ (g : Nat) (x : RR) (fa : Option Addr) (fn fc : Nat), ar = some ⟨g, 0, none⟩ ∧ R[k]? = some x ∧ x.fv = .slice fa fn fc ∧ RRAt w g k x ∧ g < w.heap.size) := Lib.hid (fun k hk => by
    obtain ⟨x, hx⟩ := rget hk
    obtain ⟨g, cap, e2, hg, ra⟩ := h.row_at hx
    obtain ⟨fa, fn, fc, hf⟩ := hsh x (List.mem_of_getElem? hx)
    rw [er] at e2
    injection e2 with p1 p2 p3
    exact ⟨g, x, fa, fn, fc, p1, hx, hf, ra, hg⟩)
  have HCx := Lib.hid hcx
  rw [er] at c2
  rw [ec] at c3
  have hRl : R.length ≤ 1000000 := by omega
  clear h hsh hcx
  go_enter Tryz.func16, Tryz.ntmps16
  go_upto_region 6 with fail
  go_loopw [7, 8, 9] (fun tv qv i wr => ∃ (k : Nat) (tv' qv' : Value) (X : World), X = wr ∧ tv' = tv ∧ qv' = qv ∧ k ≤ R.length ∧ i = .int .i64 k ∧ TK w ((gTd false ((R.take k).map RR.pl)).map nilT) (sRR false (R.take k)) tv' qv' X) (fun _ _ i _ => R.length - (intOf i).toNat)
  case atStart => exact ⟨0, _, _, _, rfl, rfl, rfl, Nat.zero_le _, rfl, TK.nil w⟩
  case round =>
    obtain ⟨k, tv', qv', X, hX, htv, hqv, hk, rfl, ho⟩ := hrel
    subst hX htv hqv
    have c2x : X.cell? ⟨P, 2, none⟩ = some (.slice ar R.length cr) := by rw [ho.td.below.cell (p := ⟨P, 2, none⟩) hPw]; exact c2
    have c3x : X.cell? ⟨P, 3, none⟩ = some (.slice ac 0 cc) := by rw [ho.td.below.cell (p := ⟨P, 3, none⟩) hPw]; exact c3
    by_cases hlt : k < R.length
    ·
      have hlti : (k : Int) < (R.length : Int) := by omega
      obtain ⟨g, x, fa, fn, fc, rfl, hx, hf, ra, hg⟩ := HL.out k hlt
      have rx := ra.on ho.td.below hg
      have r0 := rx.c0
      have r1 := rx.c1
      have r2 := rx.c2
      have r3 := rx.c3
      have r4 := rx.c4
      have r5 := rx.c5
      rw [hf] at r5
      have HS1 := Lib.hid (sRR_snoc false (R.take k) x)
      have HG1 := Lib.hid (gTd_snoc false (R.take k) x)
      rw [← takeQ_snoc hx] at HS1 HG1
      have hnQ : (sRR false (R.take k)).length ≤ 1000000 := by have q1 := sRR_len false (R.take k); rw [List.length_take] at q1; omega
      have hnT : ((gTd false ((R.take k).map RR.pl)).map nilT).length ≤ 1000000 := by have q1 := gTd_len false ((R.take k).map RR.pl); rw [List.length_map, List.length_take] at q1; rw [List.length_map]; omega
      obtain ⟨aq, cq, eq⟩ := ownsRow_shape ho.rw.row
      obtain ⟨a4, c4, W4, r, o4⟩ := ho.keep x fa fn fc hf (by omega)
      have R4 := Lib.hid r
      have HO4 : Hid (TK w ((gTd false ((R.take (k + 1)).map RR.pl)).map nilT) (sRR false (R.take (k + 1))) tv' (.slice a4 ((sRR false (R.take k)).length + 1) c4) W4) := Lib.hid (by
        rw [HG1.out, HS1.out]
        simp only [Bool.false_and, Bool.false_eq_true, if_false, List.append_nil]
        exact o4)
      have hz := hnT
      clear hz
      clear hx ra rx ho r o4 HS1 HG1 hf 
      subst eq
      generalize (sRR false (R.take k)).length = nQ at *
      generalize x.uid = xu at *
      generalize x.mod = xm at *
      generalize x.gone = xg at *
      generalize x.rct = xr at *
      generalize x.waits = xw at *
      go_wp2_with (at_builtin; refine append_by_run (u := .slice aq nQ cq) (v := .slice (some ⟨X.heap.size, 0, none⟩) 1 1) rfl _ _ _ rfl 37 rfl rfl rfl _ _ R4.out ?_)
      go_roundw
      case rel => exact ⟨k + 1, _, _, _, rfl, rfl, rfl, by omega, by go_num, HO4.out⟩
      case measure => simp [intOf]; omega
    · obtain rfl : k = R.length := by omega
      rw [List.take_length] at ho
      have hnQ : (sRR false R).length ≤ R.length := sRR_len false R
      have hnT : ((gTd false (R.map RR.pl)).map nilT).length ≤ 1000000 := by have q1 := gTd_len false (R.map RR.pl); rw [List.length_map] at q1; rw [List.length_map]; omega
      have HO := Lib.hid ho
      clear ho
      go_upto_region 23 with fail
      have hQ5 : ∀ r ∈ (sRR false R), r.waits = true → r ∈ R := fun r hr _ => sRR_mem hr
      have hSh5 : ShR (sRR false R) := fun r hr => HSh.out r (sRR_mem hr)
      obtain ⟨v5, fo5⟩ := HV.out.turned HO.out.td.below HO.out.rw hQ5
      obtain ⟨aq, cq, eq⟩ := ownsRow_shape HO.out.rw.row
      have hP5 : P < X.heap.size := Nat.lt_of_lt_of_le hPw HO.out.td.below.size
      have z3x : X.frozen? ⟨P, 3, none⟩ = false := ((HV.out.on HO.out.td.below).frozen).2
      have z2x : X.frozen? ⟨P, 2, none⟩ = false := ((HV.out.on HO.out.td.below).frozen).1
      have T5 : TdRow ((X.setCell ⟨P, 3, none⟩ (.slice none 0 0)).setCell ⟨P, 2, none⟩ qv') tv' ((gTd false (R.map RR.pl)).map nilT) := ownsRow_same HO.out.td.row (fun b e => by
        have hn := HO.out.td.new b e
        have hne : b ≠ P := by omega
        rw [Below.heap_setCell _ _ _ _ hne, Below.heap_setCell _ _ _ _ hne])
      have tvn : ∀ b, tv'.ownBlock = some b → w.heap.size ≤ b := HO.out.td.new
      have hflT : ∀ t ∈ ((gTd false (R.map RR.pl)).map nilT), t.fv = .slice none 0 0 ∧ t.fl = [] := fun t ht => by
        obtain ⟨x, _, rfl⟩ := List.mem_map.1 ht
        exact ⟨rfl, rfl⟩
      have hTl : (((gTd false (R.map RR.pl)).map nilT)).length ≤ 3000000 := by omega
      have hQl : ((sRR false R)).length ≤ 1000000 := by omega
      have HPl : Hid ((((gTd false (R.map RR.pl)).map nilT)).map TDE.pl = gTd false (R.map RR.pl) ++ newQ false R [] recent) := Lib.hid (by rw [nilT_pl (gTd_fl false _)]; exact (List.append_nil _).symm)
      have HS5 : Hid (TF4 nn P val qv' (sRR false R) ((gTd false (R.map RR.pl)).map nilT) tv' ((X.setCell ⟨P, 3, none⟩ (.slice none 0 0)).setCell ⟨P, 2, none⟩ qv') 0 tv' ((X.setCell ⟨P, 3, none⟩ (.slice none 0 0)).setCell ⟨P, 2, none⟩ qv')) := Lib.hid ⟨v5, by show TdRow _ tv' (_ ++ []); rw [List.append_nil]; exact T5, by
        show FlT _ (_ ++ [])
        rw [List.append_nil]
        intro t ht
        obtain ⟨e1, e2⟩ := hflT t ht
        rw [e1, e2]
        exact World.ownsRow_nil _ _ _ _, FO.refl _ _⟩
      have HFo := Lib.hid fo5
      have HQ5 := Lib.hid hQ5
      have HSh5 := Lib.hid hSh5
      have HTvn := Lib.hid tvn
      have HflT := Lib.hid hflT
      have HTl := Lib.hid hTl
      clear v5 fo5 hQ5 hSh5 T5 tvn hflT hTl
      generalize ((gTd false (R.map RR.pl)).map nilT) = TT at *
      generalize hQQ : (sRR false R) = QQ at *
      have HQQ := Lib.hid hQQ
      clear hQQ
      have HSt : Hid (QQ.length ≤ 1000000) := Lib.hid hQl
      subst eq
      go_upto_region 26 with fail
      generalize ((X.setCell ⟨P, 3, none⟩ (.slice none 0 0)).setCell ⟨P, 2, none⟩ (.slice aq QQ.length cq)) = W5 at *
      go_loopw [7, 13] (fun tv i wr => ∃ (k : Nat) (tv2 : Value) (Z : World), Z = wr ∧ tv2 = tv ∧ k ≤ QQ.length ∧ i = .int .i64 k ∧ TF4 nn P val (.slice aq QQ.length cq) QQ TT tv' W5 k tv2 Z) (fun _ i _ => QQ.length - (intOf i).toNat)
      case atStart => exact ⟨0, _, _, rfl, rfl, Nat.zero_le _, rfl, HS5.out⟩
      case round =>
        obtain ⟨k, tv2, Z, hZ, htv, hk, rfl, hT⟩ := hrel
        subst hZ htv
        obtain ⟨_, _, c2z, _⟩ := hT.view.cells
        by_cases hlt : k < QQ.length
        · have hlti : (k : Int) < (QQ.length : Int) := by omega
          obtain ⟨x, hx⟩ := rget hlt
          obtain ⟨fa, fn, fc, hf⟩ := HSh5.out x (List.mem_of_getElem? hx)
          have hrw := hT.view.rows
          obtain ⟨g, cap, eg, hg, ra⟩ := rowsAt hrw (atKR_get hx)
          rw [atKR_length] at eg
          injection eg with p1 p2 p3
          subst p1
          obtain ⟨Y, hY⟩ : ∃ Y, Z.alloc (.cells #[.int .i64 x.uid, .int .i64 x.mod, .bool x.gone, .bool x.rct, .bool x.waits, .slice fa fn fc] 102) = Y := ⟨_, rfl⟩
          have hbY : Below Z.heap.size Z Y := by rw [← hY]; exact (Below.refl _ _).alloc (Nat.le_refl _) _
          have hYn : Y.heap[Z.heap.size]? = some (.cells #[.int .i64 x.uid, .int .i64 x.mod, .bool x.gone, .bool x.rct, .bool x.waits, .slice fa fn fc] 102 (0, 0)) := by rw [← hY]; exact heap_new _ _
          have r0 := ra.c0
          have r1 := ra.c1
          have r2 := ra.c2
          have r3 := ra.c3
          have r4 := ra.c4
          have r5 := ra.c5
          rw [hf] at r5
          have y0 := cell_of hYn 0
          have y1 := cell_of hYn 1
          have y2 := cell_of hYn 2
          have y4 := cell_of hYn 4
          have y5 := cell_of hYn 5
          simp only [List.getElem?_toArray, List.getElem?_cons_zero, List.getElem?_cons_succ] at y0 y1 y2 y4 y5
          have hkw : IntKind.i64.wrap ((k : Int) + 1) = (k : Int) + 1 := by simp only [IntKind.wrap, IntKind.signed, IntKind.bits]; simp; omega
          cases ht : rtellB x with
          | true =>
            have hwx : x.waits = true := by unfold rtellB at ht; simp at ht; exact ht.1
            have hgx : x.gone = false := by unfold rtellB at ht; simp at ht; exact ht.2
            obtain ⟨a6, c6, W6, r6, q2, qa, hpg, o6⟩ := hT.tell hx hbY ht fa fn fc hf (by have q1 := rflagE_len (QQ.take k) 0; have q2 := HTl.out; rw [List.length_take] at q1; rw [List.length_append]; omega)
            have R6 := Lib.hid r6
            have HO6 := Lib.hid o6
            have b1 := qa.c1
            have b4 := qa.c4
            have b5 := qa.c5
            rw [hf] at b5
            have f1 := qa.fz (k * 6 + 1)
            have f4 := qa.fz (k * 6 + 4)
            have f5 := qa.fz (k * 6 + 5)
            rw [hwx] at r4 y4 hY
            rw [hgx] at r2 y2 hY
            clear hx hf hrw ra hT r6 o6 qa hYn hbY ht hwx hgx p2 p3
            generalize (TT ++ rflagE 0 (QQ.take k)).length = nT at *
            generalize x.uid = xu at *
            generalize x.mod = xm at *
            generalize x.rct = xr at *
            go_upto_region 29 with fail
            (try rw [hY])
            clear hY r0 r1 r2 r3 r4 r5
            go_wp2_with (at_builtin; refine append_by_run (u := tv2) (v := .slice (some ⟨Y.heap.size, 0, none⟩) 1 1) rfl _ _ _ rfl 49 rfl rfl rfl _ _ R6.out ?_)
            go_roundw
            case rel => exact ⟨k + 1, _, _, rfl, rfl, by omega, by go_num, HO6.out⟩
            case measure => simp [intOf]; omega
          | false =>
            have HO6 := Lib.hid (hT.skip hx hbY ht)
            have hcs : x.waits = false ∨ (x.waits = true ∧ x.gone = true) := by
              unfold rtellB at ht
              cases hw : x.waits with
              | false => exact .inl rfl
              | true => rw [hw] at ht; simp at ht; exact .inr ⟨rfl, ht⟩
            clear hx hf hrw ra hT hYn hbY ht p2 p3
            rcases hcs with hwx | ⟨hwx, hgx⟩
            · rw [hwx] at r4 y4 hY
              clear hwx
              generalize x.uid = xu at *
              generalize x.mod = xm at *
              generalize x.gone = xg at *
              generalize x.rct = xr at *
              go_upto_region 29 with fail
              (try rw [hY])
              clear hY r0 r1 r2 r3 r4 r5
              go_wp2_with fail
              go_roundw
              case rel => exact ⟨k + 1, _, _, rfl, rfl, by omega, by go_num, HO6.out⟩
              case measure => simp [intOf]; omega
            · rw [hwx] at r4 y4 hY
              rw [hgx] at r2 y2 hY
              clear hwx hgx
              generalize x.uid = xu at *
              generalize x.mod = xm at *
              generalize x.rct = xr at *
              go_upto_region 29 with fail
              (try rw [hY])
              clear hY r0 r1 r2 r3 r4 r5
              go_wp2_with fail
              go_roundw
              case rel => exact ⟨k + 1, _, _, rfl, rfl, by omega, by go_num, HO6.out⟩
              case measure => simp [intOf]; omega
        · obtain rfl : k = QQ.length := by omega
          have HFin : Hid (TkOut nn P val false R ([] : List Int) recent (fpR P rv cv R) w (.returned tv2) Z) := Lib.hid (by
            have ho4 := hT.view
            rw [atKR_end] at ho4
            have hto := hT.told
            have hfl := hT.fls
            rw [List.take_length] at hto hfl
            have hfo := hT.fo
            rw [atKR_end] at hfo
            exact take_done HFo.out HTvn.out HflT.out HSh5.out HQ5.out HPl.out ho4 hto hfl hfo (by rw [← HQQ.out]; simp))
          clear hT
          go_wp2_with fail
          go_ret
          exact HFin.out
end
end Go.Proofs.YtflkhnmggmfhfaaGreat
