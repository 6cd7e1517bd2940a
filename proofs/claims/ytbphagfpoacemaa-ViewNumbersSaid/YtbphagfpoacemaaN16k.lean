/- ViewNumbers, its walk. -/
import Derived.Test.YtbphagfpoacemaaN16i
import Derived.Deep.DeepCutAuto
import Derived.BigQuiet
namespace Go.Proofs.Ytbphagfpoacemaa
open Go.RowKit

/-- Behind act and Uids. -/
structure NC (W : World) (P : Nat) (V : PV) (was l : Value) (U : List Int) (xb : Nat) (s : ST) (X : World) : Prop where
  ac : AC W P V was U xb s X
  now : Nms X l (uidsP V)
theorem NC.on {W X Y : World} {P : Nat} {V : PV} {was l : Value} {U : List Int} {xb : Nat} {s : ST} (h : NC W P V was l U xb s X) (hb : Below X.heap.size X Y) : NC W P V was l U xb s Y := ⟨h.ac.on hb, h.now.on hb⟩
theorem NC.drew {W X : World} {P : Nat} {V : PV} {was l : Value} {U : List Int} {xb : Nat} {s : ST} (h : NC W P V was l U xb s X) : NC W P V was l U xb s X.drew := h.on (Below.refl _ _).drew
theorem NC.drewN {W X : World} {P : Nat} {V : PV} {was l : Value} {U : List Int} {xb : Nat} {s : ST} (h : NC W P V was l U xb s X) (n : Nat) : NC W P V was l U xb s (X.drewN n) := h.on (below_drewN (Below.refl _ _) n)
theorem AC.kind {W X : World} {P : Nat} {V : PV} {was : Value} {U : List Int} {xb : Nat} {s : ST} (h : AC W P V was U xb s X) : X.cell? ⟨xb, 0, none⟩ = some (.int .i64 s.kind) ∧ X.cell? ⟨xb, 21, none⟩ = some (.int .i64 s.wh) := ⟨(stL_at h.step).1, (stL_at h.step).2.2.1⟩
theorem nms_take {X : World} {a : Option Addr} {c : Nat} {U T : List Int} (h : Nms X (.slice a (U ++ T).length c) (U ++ T)) : Nms X (.slice a U.length c) U := by
  obtain ⟨a1, c1, e, hc⟩ := h
  injection e with e1 e2 e3
  subst e1 e3
  refine ⟨a, c, rfl, fun h0 => ?_⟩
  obtain ⟨g, off, rfl, hg, hx⟩ := hc (by simp; omega)
  refine ⟨g, off, rfl, hg, fun i hi => ?_⟩
  have := hx i (by simp; omega)
  rw [List.getD_eq_getElem?_getD, List.getElem?_append_left hi] at this
  rw [List.getD_eq_getElem?_getD]
  exact this
theorem Try.cutNil (m : Nat) (w : World) : (Instr.slice 30 (.slice none m 0) none (some (.int .i64 0)) none).run Try.prog w = .ok (.slice none 0 0) w := by kernel_rfl
set_option maxHeartbeats 16000000 in
set_option maxRecDepth 20000 in
theorem ViewNumbers_walk (b : BX) (mv sv : Value) (ml : List MLE) (S : List ST) (recent : Int) (W : World) (hm : MailsAt W mv ml) (hs : StepsAt W sv S) :
    Calls Try.prog 4 #[.agg (bxA b), mv, .int .i64 recent, sv] W fun e W' => e = .returned (.bool true) ∧ Below W.heap.size W W' := by
  obtain ⟨W1, hW1⟩ : ∃ W1, W.alloc (.cells (bxA b) 24) = W1 := ⟨_, rfl⟩
  have h1 : W1.heap[W.heap.size]? = some (.cells (bxA b) 24 (0, 0)) := by rw [← hW1]; exact heap_new _ _
  have hb1 : Below W.heap.size W W1 := by rw [← hW1]; exact (Below.refl _ _).alloc (Nat.le_refl _) _
  have HL := Lib.hid (long_any mv sv ml S W1 (hm.on hb1) (hs.on hb1))
  have HM := Lib.hid hm
  have HS := Lib.hid hs
  have HKn : Hid (∀ X, Below W.heap.size W X → Calls Try.prog 13 #[] X fun e w' => e = .returned (.bool true) ∧ Below W.heap.size W w') := Lib.hid (fun X hX => (known_any X).mono (fun e w' ⟨q1, q2⟩ => ⟨q1, hX.trans (q2.mono hX.size)⟩))
  have HB1 := Lib.hid hb1
  have H1 := Lib.hid h1
  obtain ⟨am, cm, rfl, _⟩ := hm
  obtain ⟨⟨ax, cx, rfl, _⟩, _⟩ := hs
  clear hb1 h1
  have qE := Try.emptyI
  go_enter Try.func4, Try.ntmps4
  go_upto_region 1 with fail
  (try rw [hW1])
  clear hW1
  go_upto_region 3 with (go_at_call 8; refine HL.out.mono ?_; rintro e w2 ⟨lb, rfl, hb2, hc2⟩; have HB2 := Lib.hid (HB1.out.trans (hb2.mono HB1.out.size)); have HC2 := Lib.hid hc2; have H2 : Hid (w2.heap[W.heap.size]? = some (.cells (bxA b) 24 (0, 0))) := Lib.hid (by rw [hb2.block _ (lt_of_heap H1.out)]; exact H1.out); clear hb2 hc2)
  · go_ret
    exact ⟨rfl, HB2.out⟩
  have hlf : lb = false := by first | assumption | (cases lb <;> simp_all)
  obtain ⟨hml, hsl, hss⟩ := HC2.out hlf
  subst hlf
  have HSS := Lib.hid hss
  have HNew : Hid (Calls Try.prog 9 #[.agg (bxA b), .slice am ml.length cm, .int .i64 recent] w2 fun e w' => ∃ P, e = .returned (.pointer (some ⟨P, 0, none⟩)) ∧ WK W P (newP b.val (ml.map MLE.u) recent) w') := Lib.hid ((New_any b _ ml recent w2 (HM.out.on HB2.out) (by omega)).mono (fun e w' ⟨P, fp, q1, q2, q3, q4⟩ => ⟨P, q1, WK.ofNew HB2.out q2 q3 q4⟩))
  have HP0 : Hid (PVok (newP b.val (ml.map MLE.u) recent) 300) := Lib.hid ((newP_ok b.val (ml.map MLE.u) recent).mono (by simpa using hml))
  clear hss HC2 HL HB1 H1
  generalize newP b.val (ml.map MLE.u) recent = V0 at *
  go_upto_region 4 with (first | (refine wpList_load_row rfl 24 _ rfl W.heap.size rfl 24 _ (0, 0) _ H2.out Try.underlying24 rfl (Try.sizeBx b) ?_) | (go_at_call 9; refine HNew.out.mono ?_; rintro e w3 ⟨P, rfl, hwk⟩; have HW0 := Lib.hid hwk; clear hwk))
  clear HNew H2 HB2
  go_upto_region 7 with fail
  go_loopw [10] (fun i wr => ∃ (k : Nat) (V : PV), k ≤ S.length ∧ i = .int .i64 k ∧ WK W P V wr ∧ PVok V (300 + 301 * k)) (fun i _ => S.length - (intOf i).toNat)
  case atStart => exact ⟨0, V0, Nat.zero_le _, rfl, HW0.out, HP0.out⟩
  case round =>
    obtain ⟨k, V, hk, rfl, hwk, hpk⟩ := hrel
    by_cases hlt : k < S.length
    · have hlti : (k : Int) < (S.length : Int) := by omega
      obtain ⟨⟨a1, c1, e1, hx1⟩, hok⟩ := HS.out
      obtain ⟨rfl, rfl⟩ : a1 = ax ∧ c1 = cx := by injection e1 with p1 p2 p3; exact ⟨p1.symm, p3.symm⟩
      clear e1
      obtain ⟨g, off, rfl, hg, hc⟩ := hx1 (by omega)
      have hcr := hc k hlt
      have hse := getD_memS hlt
      have hss := hok _ hse
      have hsh := HSS.out _ hse
      obtain ⟨sx, hsx⟩ : ∃ sx, S.getD k ST0 = sx := ⟨_, rfl⟩
      rw [hsx] at hcr hss hsh
      have HRg : Hid (∀ X, Below W.heap.size W X → X.rangeAt g (off + k * 26) (stL sx)) := Lib.hid (fun X hX j u hj => by
        rw [hX.cell (p := ⟨g, off + k * 26 + j, none⟩) hg]
        exact hcr j u hj)
      have HOne : Hid ((stL sx).toArray.all (·.oneCell') = true) := Lib.hid (all_oneCell_toArray hss.one)
      have HU := Lib.hid (uids_copy hwk hpk (by omega))
      have HAct : Hid (∀ X Y was, WKL W P V was (uidsP V) X → (X.alloc (.cells stZ 41)).setRow X.heap.size (stL sx).toArray = Y → Calls Try.prog 11 #[.pointer (some ⟨P, 0, none⟩), .agg (stL sx).toArray] Y fun e w' => ∃ tv, e = .returned tv ∧ AC W P (actV V sx) was (uidsP V) X.heap.size sx w') := Lib.hid (fun X Y was q1 q2 => (act_step q1 q2 hpk (by omega) hss hsh).mono (fun e w' ⟨tv, T, r1, r2, r3⟩ => ⟨tv, r1, r3⟩))
      have hpk2 : PVok (actV V sx) (300 + 301 * (k + 1)) := (actV_ok hpk sx hsh).mono (by omega)
      have HP2 := Lib.hid hpk2
      have HU2 : Hid (∀ X was xb, AC W P (actV V sx) was (uidsP V) xb sx X → Calls Try.prog 10 #[.pointer (some ⟨P, 0, none⟩)] X fun e w' => ∃ a c, e = .returned (.slice a (uidsP (actV V sx)).length c) ∧ (uidsP (actV V sx)).length ≤ c ∧ ((a = none ∧ (uidsP (actV V sx)).length = 0 ∧ c = 0) ∨ ∃ g, a = some ⟨g, 0, none⟩) ∧ NC W P (actV V sx) was (.slice a (uidsP (actV V sx)).length c) (uidsP V) xb sx w') := Lib.hid (fun X was xb q => by
        obtain ⟨fp, v1, v2, v3⟩ := q.view
        refine (Uids_W v1 hpk2 (by omega)).mono ?_
        rintro e w' ⟨v', rfl, ho⟩
        rcases ho.row.2 with ⟨rfl, h0⟩ | ⟨g, cap, cur, rfl, _, _, hcap, _⟩
        · refine ⟨none, 0, by rw [h0], by omega, .inl ⟨rfl, h0, rfl⟩, q.on ho.below, ?_⟩
          rw [h0]
          exact nms_of ho.row
        · exact ⟨some ⟨g, 0, none⟩, cap, rfl, hcap, .inr ⟨g, rfl⟩, q.on ho.below, nms_of ho.row⟩)
      have HMo : Hid (sx.kind ≠ 2 ∨ sx.wh ≠ 2 → ∃ T, uidsP (actV V sx) = uidsP V ++ T) := Lib.hid (actV_more V sx)
      have HKe : Hid (sx.kind ≠ 2 → uidsP (actV V sx) = uidsP V) := Lib.hid (actV_keep V sx)
      have HUl : Hid ((uidsP V).length ≤ 1000000) := Lib.hid (by
        have := hpk.len
        rw [uidsP_length]
        omega)
      clear hok hse hss hsh hcr hc hx1 hsx hpk hpk2 hwk
      generalize actV V sx = V2 at *
      generalize uidsP V = U at *
      go_upto_region 10 with (first | (go_at_call 10; refine HU.out.mono ?_; rintro e w4 ⟨a4, c4, a3, c3, W3, rfl, hr3, hwl⟩; have HR3 := Lib.hid hr3; have HWL := Lib.hid hwl; clear hr3 hwl) | (at_builtin; refine append_by_run (u := .slice (some ⟨wr.heap.size, 0, none⟩) 0 0) (v := .slice a4 U.length c4) rfl _ _ _ rfl 30 rfl rfl rfl _ _ HR3.out ?_))
      clear HU HR3
      have HRn : Hid (W3.rangeAt g (off + k * 26) (stL sx)) := Lib.hid (HRg.out W3 (by obtain ⟨_, _, q, _⟩ := HWL.out; exact q))
      obtain ⟨Y, hY⟩ : ∃ Y, (W3.alloc (.cells #[.int .i64 0, .int .i64 0, .int .i64 0, .int .i64 0, .int .i64 0, .int .i64 0, .int .i64 0, .string ⟨#[]⟩, .slice none 0 0, .slice none 0 0, .slice none 0 0, .slice none 0 0, .int .i64 0, .int .i64 0, .int .i64 0, .int .i64 0, .int .i64 0, .int .i64 0, .int .i64 0, .string ⟨#[]⟩, .bool false, .int .i64 0, .int .i64 0, .slice none 0 0, .bool false, .int .i64 0] 41)).setRow W3.heap.size (stL sx).toArray = Y := ⟨_, rfl⟩
      have HAc := Lib.hid (HAct.out W3 Y _ HWL.out hY)
      have HYn := Lib.hid (box_below hY).2
      have HY := Lib.hid hY
      clear hY HAct HRg HWL
      go_upto_region 11 with (first | (refine wpList_load_mid rfl 41 _ rfl g (off + k * 26) rfl _ _ HRn.out Try.underlying41 rfl (Try.sizeSt sx) ?_) | (refine wpList_store_row rfl 41 _ _ rfl W3.heap.size (stL sx).toArray rfl rfl 41 _ (heap_new _ _) (Try.sizeStA sx) rfl HOne.out ?_))
      (try rw [HY.out])
      clear HY HRn HOne
      generalize W3.heap.size = xb at *
      go_upto_region 12 with (first | (refine wpList_load_row rfl 41 _ rfl xb rfl 41 _ (0, 0) _ HYn.out Try.underlying41 rfl (Try.sizeStA sx) ?_) | (go_at_call 11; refine HAc.out.mono ?_; rintro e w5 ⟨tv, rfl, hac⟩; have HU3 := Lib.hid (HU2.out _ _ _ hac); clear hac))
      clear HAc HYn HU2
      go_upto_region 13 with (go_at_call 10; refine HU3.out.mono ?_; rintro e w6 ⟨a6, c6, rfl, hc6, ha6, hnc⟩; have HN := Lib.hid hnc; have HA6 := Lib.hid ha6; clear hnc ha6)
      clear HU3
      obtain ⟨ck, cw⟩ := HN.out.ac.kind
      have HAl : Hid (∀ X lv, NC W P V2 (.slice a3 U.length c3) (.slice a6 (uidsP V2).length c6) U xb sx X → Nms X lv U → Calls Try.prog 12 #[lv, .slice a3 U.length c3] X fun e w' => e = .returned (.bool true) ∧ NC W P V2 (.slice a3 U.length c3) (.slice a6 (uidsP V2).length c6) U xb sx w') := Lib.hid (fun X lv q1 q2 => (alike_any _ _ U U X q2 q1.ac.list HUl.out).mono (fun e w' ⟨r1, r2⟩ => ⟨by rw [r1, decide_eq_true rfl], q1.on r2⟩))
      have HSq : Hid (∀ X j, j < (uidsP V2).length → NC W P V2 (.slice a3 U.length c3) (.slice a6 (uidsP V2).length c6) U xb sx X → Calls Try.prog 14 #[.pointer (some ⟨P, 0, none⟩), .int .i64 ((uidsP V2).getD j 0)] X fun e w' => e = .returned (.tuple #[.int .i64 ((j : Int) + 1), .int .i64 0]) ∧ NC W P V2 (.slice a3 U.length c3) (.slice a6 (uidsP V2).length c6) U xb sx w') := Lib.hid (fun X j hj q => by
        obtain ⟨fp, v1, v2, v3⟩ := q.ac.view
        have := Seq_W v1 HP2.out (by omega) ((uidsP V2).getD j 0)
        rw [(seq_at (riseP HP2.out) hj).1, (seq_at (riseP HP2.out) hj).2] at this
        exact this.mono (fun e w' ⟨r1, r2⟩ => ⟨r1, q.on r2⟩))
      have HFd : Hid (∀ X j, j < (uidsP V2).length → NC W P V2 (.slice a3 U.length c3) (.slice a6 (uidsP V2).length c6) U xb sx X → Calls Try.prog 15 #[.pointer (some ⟨P, 0, none⟩), .slice (some ⟨X.heap.size, 0, none⟩) 1 1, .bool false] (X.alloc (.cells #[.int .i64 ((j : Int) + 1), .int .i64 ((j : Int) + 1)] 53)) fun e w' => ∃ g c gg, e = .returned (.tuple #[.slice (some ⟨g, 0, none⟩) 1 c, .bool gg, .int .i64 0]) ∧ w'.cell? ⟨g, 0, none⟩ = some (.int .i64 ((uidsP V2).getD j 0)) ∧ NC W P V2 (.slice a3 U.length c3) (.slice a6 (uidsP V2).length c6) U xb sx w') := Lib.hid (fun X j hj q => by
        have hb : Below X.heap.size X (X.alloc (.cells #[.int .i64 ((j : Int) + 1), .int .i64 ((j : Int) + 1)] 53)) := (Below.refl _ _).alloc (Nat.le_refl _) _
        obtain ⟨fp, v1, v2, v3⟩ := (q.on hb).ac.view
        have hl := HP2.out.len
        have hj' : j < V2.rows.length := by rw [← uidsP_length]; exact hj
        obtain ⟨f1, f2⟩ := find_one hj' (by omega)
        have := Find_any v1 HP2.out (by omega) _ [((j : Int) + 1, (j : Int) + 1)] (rgs_one X _ _) (by simp) false
        rw [f2] at this
        refine this.mono ?_
        rintro e w' ⟨v', rfl, ho⟩
        rw [f1] at ho
        rcases ho.row.2 with ⟨rfl, h0⟩ | ⟨g, cap, cur, rfl, _, hg, _⟩
        · simp at h0
        · refine ⟨g, cap, _, rfl, ?_, (q.on hb).on ho.below⟩
          have := ho.row.cellAt 0 (by simp)
          simpa [ic] using this)
      have HPos : Hid (∀ j, j < (uidsP V2).length → ¬ (uidsP V2).getD j 0 < 1) := Lib.hid (fun j hj => by have := uid_pos HP2.out hj; omega)
      have HRi : Hid (∀ i, i + 1 < (uidsP V2).length → ¬ (uidsP V2).getD (i + 1) 0 ≤ (uidsP V2).getD i 0) := Lib.hid (fun i hi => by have := riseF_getD (riseP HP2.out) i (i + 1) (by omega) hi; omega)
      have HLn : Hid ((uidsP V2).length ≤ 1000000) := Lib.hid (by
        have := HP2.out.len
        rw [uidsP_length]
        omega)
      have hkind : sx.kind = 1 ∨ sx.kind = 3 ∨ (sx.kind = 2 ∧ sx.wh = 2) ∨ (sx.kind = 2 ∧ sx.wh ≠ 2) ∨ (sx.kind ≠ 1 ∧ sx.kind ≠ 2 ∧ sx.kind ≠ 3) := by omega
      go_cut [63] (fun c wx => c = .bool false ∧ wx = w6)
      case first =>
        by_cases hnl : ((uidsP V2).length : Int) < (U.length : Int)
        · have hk22 : sx.kind = 2 ∧ sx.wh = 2 := by
            apply Classical.byContradiction
            intro hn
            obtain ⟨T, he⟩ := HMo.out (by omega)
            rw [he] at hnl
            simp at hnl
            omega
          rw [hk22.1] at ck
          rw [hk22.2] at cw
          clear hk22 hkind
          go_wp2_with fail
          go_meet
          case rel => exact ⟨rfl, rfl⟩
        · clear hkind
          go_wp2_with fail
          go_meet
          case rel => exact ⟨rfl, rfl⟩
      case rest =>
      obtain ⟨rfl, rfl⟩ := hcut
      go_upto_region 15 with fail
      go_cut [96] (fun c wx => ∃ X, X = wx ∧ c = .bool false ∧ NC W P V2 (.slice a3 U.length c3) (.slice a6 (uidsP V2).length c6) U xb sx X)
      case first =>
        rcases hkind with hk1 | hk1 | ⟨hk1, hk2⟩ | ⟨hk1, hk2⟩ | ⟨hk1, hk2, hk3⟩
        · have he : uidsP V2 = U := HKe.out (by omega)
          have HNm : Hid (Nms wc (.slice a6 (uidsP V2).length c6) U) := Lib.hid (by have := HN.out.now; rw [he] at this ⊢; exact this)
          have HK1 := Lib.hid hk1
          rw [hk1] at ck
          clear he hk1
          go_wp2_with (go_at_call 12; refine (HAl.out _ _ HN.out HNm.out).mono ?_; rintro e w7 ⟨rfl, hnc⟩; have HZ := Lib.hid hnc; have ck7 := hnc.ac.kind.1; rw [HK1.out] at ck7; clear hnc)
          go_meet
          case rel => exact ⟨_, rfl, rfl, HZ.out⟩
        · have he : uidsP V2 = U := HKe.out (by omega)
          have HNm : Hid (Nms wc (.slice a6 (uidsP V2).length c6) U) := Lib.hid (by have := HN.out.now; rw [he] at this ⊢; exact this)
          have HK1 := Lib.hid hk1
          rw [hk1] at ck
          clear he hk1
          go_wp2_with (go_at_call 12; refine (HAl.out _ _ HN.out HNm.out).mono ?_; rintro e w7 ⟨rfl, hnc⟩; have HZ := Lib.hid hnc; have ck7 := hnc.ac.kind.1; rw [HK1.out] at ck7; clear hnc)
          go_meet
          case rel => exact ⟨_, rfl, rfl, HZ.out⟩
        · rw [hk1] at ck
          rw [hk2] at cw
          clear hk1 hk2
          go_wp2_with fail
          go_meet
          case rel => exact ⟨_, rfl, rfl, HN.out⟩
        · obtain ⟨T, he⟩ := HMo.out (.inr hk2)
          have hnl2 : U.length ≤ (uidsP V2).length := by rw [he]; simp
          have hnl3 : (U.length : Int) ≤ (c6 : Int) := by omega
          have HNm : Hid (Nms wc (.slice a6 U.length c6) U) := Lib.hid (by have := HN.out.now; rw [he] at this; exact nms_take this)
          have b2 : (sx.wh == 2) = false := by simpa using hk2
          have b3 : (sx.wh != 2) = true := by simpa using hk2
          have HK1 := Lib.hid hk1
          rw [hk1] at ck
          clear he hk1 hk2
          rcases HA6.out with ⟨rfl, h60, rfl⟩ | ⟨g6, rfl⟩
          · have hU0 : U.length = 0 := by omega
            obtain rfl : U = [] := List.eq_nil_of_length_eq_zero hU0
            have qS := Try.cutNil (uidsP V2).length
            clear hU0 h60 hnl2 hnl3
            go_wp2_with (go_at_call 12; refine (HAl.out _ _ HN.out HNm.out).mono ?_; rintro e w7 ⟨rfl, hnc⟩; have HZ := Lib.hid hnc; have ck7 := hnc.ac.kind.1; rw [HK1.out] at ck7; clear hnc)
            go_meet
            case rel => exact ⟨_, rfl, rfl, HZ.out⟩
          · go_wp2_with (go_at_call 12; refine (HAl.out _ _ HN.out HNm.out).mono ?_; rintro e w7 ⟨rfl, hnc⟩; have HZ := Lib.hid hnc; have ck7 := hnc.ac.kind.1; rw [HK1.out] at ck7; clear hnc)
            go_meet
            case rel => exact ⟨_, rfl, rfl, HZ.out⟩
        · have b1 : (sx.kind == 1) = false := by simpa using hk1
          have b2 : (sx.kind == 2) = false := by simpa using hk2
          have b3 : (sx.kind == 3) = false := by simpa using hk3
          clear hk1 hk2 hk3
          go_wp2_with fail
          go_meet
          case rel => exact ⟨_, rfl, rfl, HN.out⟩
      case rest =>
      obtain ⟨X7, hX7, rfl, hnc7⟩ := hcut
      have HZ := Lib.hid hnc7
      subst hX7
      clear hnc7 HN ck cw hkind HAl
      go_upto_region 18 with fail
      have hloop : True := trivial
      clear hloop
      go_loopw [14] (fun i wq => ∃ (j : Nat) (X : World), X = wq ∧ j ≤ (uidsP V2).length ∧ i = .int .i64 j ∧ NC W P V2 (.slice a3 U.length c3) (.slice a6 (uidsP V2).length c6) U xb sx X) (fun i _ => (uidsP V2).length - (intOf i).toNat)
      case atStart => exact ⟨0, _, rfl, Nat.zero_le _, rfl, HZ.out⟩
      case round =>
        obtain ⟨j, X8, hX8, hj, rfl, hn8⟩ := hrel
        subst hX8
        by_cases hjl : j < (uidsP V2).length
        · have hjli : (j : Int) < ((uidsP V2).length : Int) := by omega
          have hjw : IntKind.i64.wrap ((j : Int) + 1) = (j : Int) + 1 := by
            have := HLn.out
            simp only [IntKind.wrap, IntKind.signed, IntKind.bits]; simp; omega
          obtain ⟨a8, c8, e8, hx8⟩ := hn8.now
          obtain ⟨rfl, rfl⟩ : a8 = a6 ∧ c8 = c6 := by injection e8 with p1 p2 p3; exact ⟨p1.symm, p3.symm⟩
          clear e8
          obtain ⟨g8, o8, rfl, hg8, hc8⟩ := hx8 (by omega)
          have x0 := hc8 j hjl
          have HSj := Lib.hid (HSq.out _ j hjl hn8)
          have HFj : Hid (∀ X, _) := Lib.hid (fun X => HFd.out X j hjl)
          have HCl : Hid (∀ X, NC W P V2 (.slice a3 U.length c3) (.slice (some ⟨g8, o8, none⟩) (uidsP V2).length c8) U xb sx X → ∀ t, t < (uidsP V2).length → X.cell? ⟨g8, o8 + t, none⟩ = some (.int .i64 ((uidsP V2).getD t 0))) := Lib.hid (fun X q t ht => by
            obtain ⟨a9, c9, e9, hx9⟩ := q.now
            injection e9 with p1 p2 p3
            subst p1
            obtain ⟨g, o, e, _, hc⟩ := hx9 (by omega)
            cases e
            exact hc t ht)
          have hpos := HPos.out j hjl
          have HC0 : Hid (∀ X, NC W P V2 (.slice a3 U.length c3) (.slice (some ⟨g8, o8, none⟩) (uidsP V2).length c8) U xb sx X → X.cell? ⟨g8, o8 + j, none⟩ = some (.int .i64 ((uidsP V2).getD j 0))) := Lib.hid (fun X q => HCl.out X q j hjl)
          have HC1 : Hid (∀ X, NC W P V2 (.slice a3 U.length c3) (.slice (some ⟨g8, o8, none⟩) (uidsP V2).length c8) U xb sx X → ∀ i, j = i + 1 → X.cell? ⟨g8, o8 + i, none⟩ = some (.int .i64 ((uidsP V2).getD i 0))) := Lib.hid (fun X q i hi => HCl.out X q i (by omega))
          have HRj : Hid (∀ i, j = i + 1 → ¬ (uidsP V2).getD j 0 ≤ (uidsP V2).getD i 0) := Lib.hid (fun i hi => by subst hi; have := HRi.out i hjl; omega)
          clear hx8 hc8 hn8 HCl
          generalize (uidsP V2).getD j 0 = x at *
          go_upto_region 21 with (go_at_call 14; refine HSj.out.mono ?_; rintro e w8 ⟨rfl, hn9⟩; have HN9 := Lib.hid hn9; clear hn9)
          clear HSj x0
          have y0 := HC0.out _ HN9.out
          have hd1 : decide (x < 1) = false := by simpa using hpos
          have hd3 : ((j : Int) + 1 != (j : Int) + 1) = false := by simp
          go_cut [142] (fun c wx => ∃ X, X = wx ∧ c = .bool false ∧ NC W P V2 (.slice a3 U.length c3) (.slice (some ⟨g8, o8, none⟩) (uidsP V2).length c8) U xb sx X)
          case first =>
            rcases Nat.eq_zero_or_pos j with h0 | h0
            · subst h0
              rw [Nat.add_zero] at y0
              go_quiet (fail)
              go_wp2_with fail
              go_meet
              case rel => exact ⟨_, rfl, rfl, HN9.out.drewN _⟩
            · obtain ⟨i, hi⟩ : ∃ i, j = i + 1 := ⟨j - 1, by omega⟩
              have hz0 : (0 : Int) < (j : Int) := by omega
              have hip : (j : Int) - 1 = (i : Int) := by omega
              have hpm : (i : Int) < ((uidsP V2).length : Int) := by omega
              have hp0 : (0 : Int) ≤ (i : Int) := by omega
              have hpw : IntKind.i64.wrap (i : Int) = (i : Int) := by
                have := HLn.out
                simp only [IntKind.wrap, IntKind.signed, IntKind.bits]; simp; omega
              have y1 := HC1.out _ HN9.out i hi
              have hri := HRj.out i hi
              have hd0 : decide ((0 : Int) < (j : Int)) = true := by simpa using hz0
              have hd0n : decide (0 < j) = true := by simpa using h0
              clear hi
              generalize (uidsP V2).getD i 0 = y at *
              have hd2 : decide (x ≤ y) = false := by simpa using hri
              go_quiet (fail)
              go_wp2_with fail
              go_meet
              case rel => exact ⟨_, rfl, rfl, HN9.out.drewN _⟩
          case rest =>
          obtain ⟨X9, hX9, rfl, hn9⟩ := hcut
          subst hX9
          have HN10 := Lib.hid hn9
          have HFx := Lib.hid (HFj.out _ hn9)
          clear hn9 y0 HN9 HFj
          go_upto_region 24 with (go_at_call 15; refine HFx.out.mono ?_; rintro e w11 ⟨g11, c11, gg, rfl, hf1, hn11⟩; have HN11 := Lib.hid hn11; clear hn11)
          clear HFx HN10
          have z0 := HC0.out _ HN11.out
          go_cut [171] (fun c wx => ∃ X, X = wx ∧ c = .bool false ∧ NC W P V2 (.slice a3 U.length c3) (.slice (some ⟨g8, o8, none⟩) (uidsP V2).length c8) U xb sx X)
          case first =>
            go_quiet (fail)
            go_wp2_with fail
            go_meet
            case rel => exact ⟨_, rfl, rfl, HN11.out.drewN _⟩
          case rest =>
          obtain ⟨X12, hX12, rfl, hn12⟩ := hcut
          subst hX12
          have HN12 := Lib.hid hn12
          clear hn12 z0 hf1 HN11
          go_wp2_with fail
          go_roundw
          case rel => exact ⟨j + 1, _, rfl, by omega, by go_num, HN12.out⟩
          case measure => simp [intOf]; omega
        · obtain rfl : j = (uidsP V2).length := by omega
          have HW9 := Lib.hid hn8.ac.view
          clear hn8
          go_wp2_with fail
          go_roundw
          case rel => exact ⟨k + 1, V2, by omega, by go_num, HW9.out, HP2.out⟩
          case measure => simp [intOf]; omega
    · obtain rfl : k = S.length := by omega
      have HKw := Lib.hid (HKn.out wr (by obtain ⟨_, _, q, _⟩ := hwk; exact q))
      clear hwk hpk
      go_wp2_with (go_at_call 13; refine HKw.out.mono ?_; rintro e w9 ⟨rfl, hb9⟩; have HB9 := Lib.hid hb9; clear hb9)
      go_ret
      exact ⟨rfl, HB9.out⟩
end Go.Proofs.Ytbphagfpoacemaa
