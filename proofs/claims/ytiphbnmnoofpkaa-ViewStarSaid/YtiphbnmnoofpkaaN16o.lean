/- ViewStar, its walk. -/
import Derived.Test.YtiphbnmnoofpkaaN16n
import Derived.Deep.DeepCutAuto
import Derived.BigQuiet
namespace Go.Proofs.Ytiphbnmnoofpkaa
open Go.RowKit

/-- A view and two lists beside it. -/
structure SC (W : World) (P : Nat) (V : PV) (rows left : Value) (X : World) : Prop where
  view : WK W P V X
  rows : Nms X rows (uidsP V)
  left : Nms X left (leftU V)
theorem SC.on {W X Y : World} {P : Nat} {V : PV} {rows left : Value} (h : SC W P V rows left X) (hb : Below X.heap.size X Y) : SC W P V rows left Y := ⟨h.view.on hb, h.rows.on hb, h.left.on hb⟩
theorem SC.drewN {W X : World} {P : Nat} {V : PV} {rows left : Value} (h : SC W P V rows left X) (n : Nat) : SC W P V rows left (X.drewN n) := h.on (below_drewN (Below.refl _ _) n)
theorem act_WK {W X : World} {P : Nat} {V : PV} {N : Nat} {s : ST} (h : WK W P V X) (hk : PVok V N) (hN : N + 301 ≤ 1000000) (ho : StOK W s) (hs : StShort s) :
    Calls Try.prog 11 #[.pointer (some ⟨P, 0, none⟩), .agg (stL s).toArray] X fun e w' => ∃ tv T, e = .returned tv ∧ Told w' tv T (actT V s) ∧ WK W P (actV V s) w' := by
  obtain ⟨fp, v1, v2, v3⟩ := h
  refine (act_any v1 hk hN s (ho.on v2) hs (fun h0 b e hm => ?_) ⟨fun h0 b e hm => ?_, fun m hm hne b e hmm => ?_⟩).mono ?_
  · have := ho.ub h0 b e
    have := v3 b hm
    omega
  · have := ho.mb.1 h0 b e
    have := v3 b hm
    omega
  · have := ho.mb.2 m hm hne b e
    have := v3 b hmm
    omega
  · rintro e w' ⟨tv, T, rfl, ht, fp', q1, q2⟩
    obtain ⟨y1, y2⟩ := fo_below v2 v3 q2
    exact ⟨tv, T, rfl, ht, fp', q1, y1, y2⟩
set_option maxHeartbeats 16000000 in
set_option maxRecDepth 20000 in
theorem ViewStar_walk (b : BX) (mv sv qv : Value) (ml : List MLE) (S : List ST) (Q : List Rg) (recent : Int) (W : World) (hm : MailsAt W mv ml) (hs : StepsAt W sv S) (hq : Rgs W qv Q) :
    Calls Try.prog 7 #[.agg (bxA b), mv, .int .i64 recent, sv, qv] W fun e W' => e = .returned (.bool true) ∧ Below W.heap.size W W' := by
  obtain ⟨W1, hW1⟩ : ∃ W1, W.alloc (.cells (bxA b) 24) = W1 := ⟨_, rfl⟩
  have h1 : W1.heap[W.heap.size]? = some (.cells (bxA b) 24 (0, 0)) := by rw [← hW1]; exact heap_new _ _
  have hb1 : Below W.heap.size W W1 := by rw [← hW1]; exact (Below.refl _ _).alloc (Nat.le_refl _) _
  have HL := Lib.hid (long_any mv sv ml S W1 (hm.on hb1) (hs.on hb1))
  have HM := Lib.hid hm
  have HS := Lib.hid hs
  have HQ := Lib.hid hq
  have HKn : Hid (∀ X, Below W.heap.size W X → Calls Try.prog 13 #[] X fun e w' => e = .returned (.bool true) ∧ Below W.heap.size W w') := Lib.hid (fun X hX => (known_any X).mono (fun e w' ⟨q1, q2⟩ => ⟨q1, hX.trans (q2.mono hX.size)⟩))
  have HB1 := Lib.hid hb1
  have H1 := Lib.hid h1
  obtain ⟨aq, cq, eq⟩ : ∃ a c, qv = .slice a Q.length c := by
    rcases hq with ⟨e1, a, c, e2, _⟩ | ⟨b, o, c, e2, _⟩
    · exact ⟨a, c, by rw [e2, e1]; rfl⟩
    · exact ⟨_, c, e2⟩
  subst eq
  obtain ⟨am, cm, rfl, _⟩ := hm
  obtain ⟨⟨ax, cx, rfl, _⟩, _⟩ := hs
  clear hb1 h1 hq
  go_enter Try.func7, Try.ntmps7
  go_upto_region 1 with fail
  (try rw [hW1])
  clear hW1
  go_cut [37] (fun c wx => ∃ (lb : Bool) (X : World), X = wx ∧ c = .bool lb ∧ Below W.heap.size W X ∧ X.heap[W.heap.size]? = some (.cells (bxA b) 24 (0, 0)) ∧ (lb = false → ml.length ≤ 300 ∧ S.length ≤ 120 ∧ (∀ s ∈ S, StShort s) ∧ Q.length ≤ 300))
  case first =>
    as_aux_lemma =>
      by_cases hql : Q.length ≤ 300
      · have hqi : ¬ (300 : Int) < (Q.length : Int) := by omega
        go_wp2_with (go_at_call 8; refine HL.out.mono ?_; rintro e w2 ⟨lb, rfl, hb2, hc2⟩; have HB2 := Lib.hid (HB1.out.trans (hb2.mono HB1.out.size)); have HC2 := Lib.hid hc2; have H2 : Hid (w2.heap[W.heap.size]? = some (.cells (bxA b) 24 (0, 0))) := Lib.hid (by rw [hb2.block _ (lt_of_heap H1.out)]; exact H1.out); clear hb2 hc2; cases lb)
        · go_meet
          case rel => exact ⟨_, _, rfl, rfl, HB2.out, H2.out, fun _ => (by have hc := HC2.out (by first | rfl | trivial); exact ⟨hc.1, hc.2.1, hc.2.2, hql⟩)⟩
        · go_meet
          case rel => exact ⟨_, _, rfl, rfl, HB2.out, H2.out, fun h => by cases h⟩
      · have hqi : (300 : Int) < (Q.length : Int) := by omega
        go_wp2_with (go_at_call 8; refine HL.out.mono ?_; rintro e w2 ⟨lb, rfl, hb2, hc2⟩; have HB2 := Lib.hid (HB1.out.trans (hb2.mono HB1.out.size)); have HC2 := Lib.hid hc2; have H2 : Hid (w2.heap[W.heap.size]? = some (.cells (bxA b) 24 (0, 0))) := Lib.hid (by rw [hb2.block _ (lt_of_heap H1.out)]; exact H1.out); clear hb2 hc2; cases lb)
        all_goals
          go_meet
          case rel => exact ⟨_, _, rfl, rfl, HB2.out, H2.out, fun h => by cases h⟩
  case rest =>
  obtain ⟨lb, w2, hX2, rfl, hb2, h2, hc2⟩ := hcut
  subst hX2
  have HB2 := Lib.hid hb2
  have H2 := Lib.hid h2
  have HC2 := Lib.hid hc2
  clear hb2 h2 hc2
  cases lb with
  | true =>
    go_wp2_with fail
    go_ret
    exact ⟨rfl, HB2.out⟩
  | false =>
  obtain ⟨hml, hsl, hss, hql⟩ := HC2.out rfl
  have HSS := Lib.hid hss
  have HNew : Hid (Calls Try.prog 9 #[.agg (bxA b), .slice am ml.length cm, .int .i64 recent] w2 fun e w' => ∃ P, e = .returned (.pointer (some ⟨P, 0, none⟩)) ∧ WK W P (newP b.val (ml.map MLE.u) recent) w') := Lib.hid ((New_any b _ ml recent w2 (HM.out.on HB2.out) (by omega)).mono (fun e w' ⟨P, fp, q1, q2, q3, q4⟩ => ⟨P, q1, WK.ofNew HB2.out q2 q3 q4⟩))
  have HP0 : Hid (PVok (newP b.val (ml.map MLE.u) recent) 300) := Lib.hid ((newP_ok b.val (ml.map MLE.u) recent).mono (by simpa using hml))
  clear hss HC2 HL HB1 H1
  generalize newP b.val (ml.map MLE.u) recent = V0 at *
  go_upto_region 4 with (first | (refine wpList_load_row rfl 24 _ rfl W.heap.size rfl 24 _ (0, 0) _ H2.out Try.underlying24 rfl (Try.sizeBx b) ?_) | (go_at_call 9; refine HNew.out.mono ?_; rintro e w3 ⟨P, rfl, hwk⟩; have HW0 := Lib.hid hwk; clear hwk))
  clear HNew H2 HB2
  go_upto_region 7 with fail
  go_loopw [12] (fun i wr => ∃ (k : Nat) (V : PV), k ≤ S.length + 1 ∧ i = .int .i64 k ∧ WK W P V wr ∧ PVok V (300 + 301 * k)) (fun i _ => S.length + 1 - (intOf i).toNat)
  case atStart => exact ⟨0, V0, Nat.zero_le _, rfl, HW0.out, HP0.out⟩
  case round =>
    obtain ⟨k, V, hk, rfl, hwk, hpk⟩ := hrel
    by_cases hle : k ≤ S.length
    · have hlei : (k : Int) ≤ (S.length : Int) := by omega
      have hlen : V.rows.length ≤ 300 + 301 * k := by have := hpk.len; omega
      have HU : Hid (Calls Try.prog 10 #[.pointer (some ⟨P, 0, none⟩)] wr fun e w' => ∃ a c, e = .returned (.slice a V.rows.length c) ∧ WK W P V w' ∧ Nms w' (.slice a V.rows.length c) (uidsP V)) := Lib.hid (by
        obtain ⟨fp, v1, v2, v3⟩ := id hwk
        refine (Uids_W v1 hpk (by omega)).mono ?_
        rintro e w' ⟨v', rfl, ho⟩
        obtain ⟨a, c, rfl⟩ := ownsRow_shape ho.row
        rw [← uidsP_length V]
        exact ⟨a, c, rfl, hwk.on ho.below, nms_of ho.row⟩)
      have HP := Lib.hid hpk
      have HLn : Hid (V.rows.length ≤ 1000000) := Lib.hid (by omega)
      clear hwk hpk hlen
      go_upto_region 10 with (go_at_call 10; refine HU.out.mono ?_; rintro e w4 ⟨a4, c4, rfl, hw4, hn4⟩; have HW4 := Lib.hid hw4; have HN4 := Lib.hid hn4; clear hw4 hn4)
      clear HU
      go_upto_region 13 with fail
      have HS0 : Hid (someT V 0 = false ∧ lefT V 0 = []) := Lib.hid ⟨rfl, rfl⟩
      go_loopw [14, 15, 16] (fun vl sb i wq => ∃ (j : Nat) (s14 : Value) (X : World), X = wq ∧ s14 = vl ∧ j ≤ V.rows.length ∧ i = .int .i64 j ∧ sb = .bool (someT V j) ∧ OwnI w4.heap.size s14 (lefT V j) w4 X) (fun _ _ i _ => V.rows.length - (intOf i).toNat)
      case atStart => exact ⟨0, _, _, rfl, rfl, Nat.zero_le _, rfl, by rw [HS0.out.1], by rw [HS0.out.2]; exact OwnI.nil (Below.refl _ _) (Nat.le_refl _)⟩
      case round =>
        obtain ⟨j, s14, X5, hX5, hs14, hj, rfl, rfl, ho5⟩ := hrel
        subst hX5 hs14
        by_cases hjl : j < V.rows.length
        · have hjli : (j : Int) < (V.rows.length : Int) := by omega
          as_aux_lemma =>
            obtain ⟨a8, c8, e8, hx8⟩ := HN4.out
            obtain ⟨rfl, rfl⟩ : a8 = a4 ∧ c8 = c4 := by injection e8 with p1 p2 p3; exact ⟨p1.symm, p3.symm⟩
            clear e8
            obtain ⟨g8, o8, rfl, hg8, hc8⟩ := hx8 (by rw [uidsP_length]; omega)
            have hjU : j < (uidsP V).length := by rw [uidsP_length]; exact hjl
            have HCx : Hid (∀ X, Below w4.heap.size w4 X → X.cell? ⟨g8, o8 + j, none⟩ = some (.int .i64 ((uidsP V).getD j 0))) := Lib.hid (fun X hX => by rw [hX.cell (p := ⟨g8, o8 + j, none⟩) hg8]; exact hc8 j hjU)
            have HGo : Hid (Calls Try.prog 18 #[.pointer (some ⟨P, 0, none⟩), .int .i64 ((uidsP V).getD j 0)] X5 fun e w' => e = .returned (.bool (V.rows.getD j PR0).gone) ∧ OwnI w4.heap.size s14 (lefT V j) w4 w') := Lib.hid (by
              obtain ⟨fp, v1, v2, v3⟩ := HW4.out.on ho5.below
              have := Gone_W v1 HP.out (by omega) ((uidsP V).getD j 0)
              rw [gone_at HP.out hjU] at this
              exact this.mono (fun e w' ⟨q1, q2⟩ => ⟨q1, ho5.on q2⟩))
            have x0 := HCx.out _ ho5.below
            have HJl := Lib.hid hjl
            have hjm : V.rows.length ≤ 1000000 := HLn.out
            have HLl : Hid ((lefT V j).length + 1 ≤ 17592186044416) := Lib.hid (by have := lefT_len V j; have := HLn.out; omega)
            have HLg := Lib.hid (fun h => lefT_gone (V := V) (k := j) hjl h)
            have HLs := Lib.hid (fun h => lefT_stay (V := V) (k := j) hjl h)
            clear hx8 hc8 ho5
            generalize (uidsP V).getD j 0 = x at *
            cases hgb : (V.rows.getD j PR0).gone with
            | true =>
              rw [hgb] at HGo
              obtain ⟨y1, y2⟩ := HLg.out hgb
              have Y1 := Lib.hid y1
              have Y2 := Lib.hid y2
              clear hgb y1 y2 HLg HLs
              go_wp2_with (go_at_call 18; refine HGo.out.mono ?_; rintro e w6 ⟨rfl, ho6⟩; have HO6 := Lib.hid ho6; clear ho6)
              go_roundw
              case rel => exact ⟨j + 1, _, _, rfl, rfl, by have := HJl.out; omega, by go_num, by rw [Y2.out], by rw [Y1.out]; exact HO6.out⟩
              case measure => (have := HJl.out; simp [intOf]; omega)
            | false =>
              rw [hgb] at HGo
              obtain ⟨y1, y2⟩ := HLs.out hgb
              have Y1 := Lib.hid y1
              have Y2 := Lib.hid y2
              clear hgb y1 y2 HLg HLs
              go_wp2_with (first | (go_at_call 18; refine HGo.out.mono ?_; rintro e w6 ⟨rfl, ho6⟩; have HO6 := Lib.hid ho6; have cz := HCx.out _ ho6.below; clear ho6) | (at_builtin; refine appI rfl _ _ rfl x HO6.out rfl rfl HLl.out ?_; intro v7 w7 ho7; have HO7 := Lib.hid ho7; clear ho7))
              go_roundw
              case rel => exact ⟨j + 1, _, _, rfl, rfl, by have := HJl.out; omega, by go_num, by rw [Y2.out], by rw [Y1.out]; exact HO7.out⟩
              case measure => (have := HJl.out; simp [intOf]; omega)
        · obtain rfl : j = V.rows.length := by omega
          have HSC : Hid (SC W P V (.slice a4 V.rows.length c4) s14 X5) := Lib.hid ⟨HW4.out.on ho5.below, HN4.out.on ho5.below, by have := nms_of ho5.row; rw [(lefT_end V).1] at this; exact this⟩
          have HLL : Hid ((leftU V).length ≤ 1000000) := Lib.hid (by have := lefT_len V V.rows.length; rw [(lefT_end V).1] at this; have := HLn.out; omega)
          have HF1 : Hid (∀ X, SC W P V (.slice a4 V.rows.length c4) s14 X → Calls Try.prog 15 #[.pointer (some ⟨P, 0, none⟩), .slice (some ⟨X.heap.size, 0, none⟩) 1 1, .bool true] (X.alloc (.cells #[.int .i64 1, .int .i64 0] 53)) fun e w' => ∃ a c, e = .returned (.tuple #[.slice a (leftU V).length c, .bool false, .int .i64 0]) ∧ SC W P V (.slice a4 V.rows.length c4) s14 w' ∧ Nms w' (.slice a (leftU V).length c) (leftU V)) := Lib.hid (fun X q => by
            have hb : Below X.heap.size X (X.alloc (.cells #[.int .i64 1, .int .i64 0] 53)) := (Below.refl _ _).alloc (Nat.le_refl _) _
            obtain ⟨fp, v1, v2, v3⟩ := (q.on hb).view
            refine (Find_any v1 HP.out (by omega) _ [(1, 0)] (rgs_one X 1 0) (by simp) true).mono ?_
            rintro e w' ⟨v', rfl, ho⟩
            rw [find_all HP.out] at ho
            obtain ⟨a, c, rfl⟩ := ownsRow_shape ho.row
            exact ⟨a, c, rfl, (q.on hb).on ho.below, nms_of ho.row⟩)
          have HF2 : Hid (∀ X va, SC W P V (.slice a4 V.rows.length c4) s14 X → Nms X va (leftU V) → Calls Try.prog 15 #[.pointer (some ⟨P, 0, none⟩), .slice (some ⟨X.heap.size, 0, none⟩) 1 1, .bool true] (X.alloc (.cells #[.int .i64 0, .int .i64 0] 53)) fun e w' => ∃ a c L, L = findL V [(0, 0)] true ∧ e = .returned (.tuple #[.slice a L.length c, .bool false, .int .i64 0]) ∧ SC W P V (.slice a4 V.rows.length c4) s14 w' ∧ Nms w' va (leftU V) ∧ Nms w' (.slice a L.length c) L) := Lib.hid (fun X va q qa => by
            have hb : Below X.heap.size X (X.alloc (.cells #[.int .i64 0, .int .i64 0] 53)) := (Below.refl _ _).alloc (Nat.le_refl _) _
            obtain ⟨fp, v1, v2, v3⟩ := (q.on hb).view
            refine (Find_any v1 HP.out (by omega) _ [(0, 0)] (rgs_one X 0 0) (by simp) true).mono ?_
            rintro e w' ⟨v', rfl, ho⟩
            obtain ⟨a, c, rfl⟩ := ownsRow_shape ho.row
            exact ⟨a, c, _, rfl, rfl, (q.on hb).on ho.below, (qa.on hb).on ho.below, nms_of ho.row⟩)
          have HF3 : Hid (∀ X va vl L, SC W P V (.slice a4 V.rows.length c4) s14 X → Nms X va (leftU V) → Nms X vl L → Calls Try.prog 15 #[.pointer (some ⟨P, 0, none⟩), .slice aq Q.length cq, .bool true] X fun e w' => ∃ a c A, A = findL V Q true ∧ e = .returned (.tuple #[.slice a A.length c, .bool false, .int .i64 0]) ∧ SC W P V (.slice a4 V.rows.length c4) s14 w' ∧ Nms w' va (leftU V) ∧ Nms w' vl L ∧ Nms w' (.slice a A.length c) A) := Lib.hid (fun X va vl L q qa ql => by
            obtain ⟨fp, v1, v2, v3⟩ := q.view
            refine (Find_any v1 HP.out (by omega) _ Q (HQ.out.on v2) (by omega) true).mono ?_
            rintro e w' ⟨v', rfl, ho⟩
            obtain ⟨a, c, rfl⟩ := ownsRow_shape ho.row
            exact ⟨a, c, _, rfl, rfl, q.on ho.below, qa.on ho.below, ql.on ho.below, nms_of ho.row⟩)
          obtain ⟨al, cl, rfl⟩ : ∃ a c, s14 = .slice a (leftU V).length c := by
            obtain ⟨a, c, e, _⟩ := HSC.out.left
            exact ⟨a, c, e⟩
          clear ho5
          go_upto_region 19 with (go_at_call 15; refine (HF1.out _ HSC.out).mono ?_; rintro e w6 ⟨a6, c6, rfl, hs6, hn6⟩; have HS6 := Lib.hid hs6; have HN6 := Lib.hid hn6; clear hs6 hn6)
          clear HF1 HSC
          go_upto_region 20 with (go_at_call 15; refine (HF2.out _ _ HS6.out HN6.out).mono ?_; rintro e w7 ⟨a7, c7, L7, hL7, rfl, hs7, hn7, hl7⟩; have HS7 := Lib.hid hs7; have HN7 := Lib.hid hn7; have HL7 := Lib.hid hl7; have HE7 := Lib.hid hL7; clear hs7 hn7 hl7 hL7)
          clear HF2 HS6 HN6
          go_upto_region 21 with (go_at_call 15; refine (HF3.out _ _ _ _ HS7.out HN7.out HL7.out).mono ?_; rintro e w8 ⟨a8, c8, A8, hA8, rfl, hs8, hn8, hl8, ha8⟩; have HS8 := Lib.hid hs8; have HN8 := Lib.hid hn8; have HL8 := Lib.hid hl8; have HA8 := Lib.hid ha8; have HE8 := Lib.hid hA8; clear hs8 hn8 hl8 ha8 hA8)
          clear HF3 HS7 HN7 HL7
          have HAl : Hid (∀ n, Calls Try.prog 12 #[.slice a6 (leftU V).length c6, .slice al (leftU V).length cl] (w8.drewN n) fun e w' => e = .returned (.bool true) ∧ ∃ m, w' = (w8.drewN n).drewN m) := Lib.hid (fun n => (alike_dr _ _ (leftU V) (leftU V) (w8.drewN n) (HN8.out.on (below_drewN (Below.refl _ _) n)) (HS8.out.drewN n).left HLL.out).mono (fun e w' ⟨r1, r2⟩ => ⟨by rw [r1, decide_eq_true rfl], r2⟩))
          go_cut [143] (fun c wx => ∃ X, X = wx ∧ c = .bool false ∧ SC W P V (.slice a4 V.rows.length c4) (.slice al (leftU V).length cl) X ∧ Nms X (.slice a8 A8.length c8) A8)
          case first =>
            have HA8d : Hid (∀ n, Nms (w8.drewN n) (.slice a8 A8.length c8) A8) := Lib.hid (fun n => HA8.out.on (below_drewN (Below.refl _ _) n))
            by_cases hl0 : leftU V = []
            ·
              as_aux_lemma =>
                have hL : L7 = [] := by rw [HE7.out, find_star HP.out, if_pos hl0]
                subst hL
                have hlz : (leftU V).length = 0 := by rw [hl0]; rfl
                have hd1 : decide (0 < (leftU V).length) = false := by simpa using hlz
                clear hl0 HL8 hlz
                go_quiet ((go_at_call 12; exact Calls.quiet_of (HAl.out _)))
                go_wp2_with fail
                go_meet
                case rel => exact ⟨_, rfl, rfl, HS8.out.drewN _, HA8d.out _⟩
            ·
              as_aux_lemma =>
                have hL : L7 = [lastI (leftU V)] := by rw [HE7.out, find_star HP.out, if_neg hl0]
                subst hL
                obtain ⟨p, hp⟩ : ∃ p, (leftU V).length = p + 1 := ⟨(leftU V).length - 1, by have := List.length_pos_iff.2 hl0; omega⟩
                have hz : (leftU V).getD p 0 = lastI (leftU V) := by unfold lastI; rw [hp]; rfl
                obtain ⟨aL, cL, eL, hL⟩ := HL8.out
                obtain ⟨rfl, rfl⟩ : aL = a7 ∧ cL = c7 := by injection eL with p1 p2 p3; exact ⟨p1.symm, p3.symm⟩
                clear eL
                obtain ⟨g7, o7, rfl, _, hc7⟩ := hL (by simp)
                have z7 := hc7 0 (by simp)
                rw [Nat.add_zero] at z7
                obtain ⟨aE, cE, eE, hE⟩ := HS8.out.left
                obtain ⟨rfl, rfl⟩ : aE = al ∧ cE = cl := by injection eE with p1 p2 p3; exact ⟨p1.symm, p3.symm⟩
                clear eE
                obtain ⟨ge, oe, rfl, _, hce⟩ := hE (by omega)
                have ze := hce p (by omega)
                rw [hz] at ze
                have z7' : w8.cell? ⟨g7, o7, none⟩ = some (.int .i64 (lastI (leftU V))) := z7
                have hip : ((leftU V).length : Int) - 1 = (p : Int) := by omega
                have hpm : (p : Int) < ((leftU V).length : Int) := by omega
                have hp0 : (0 : Int) ≤ (p : Int) := by omega
                have hpw : IntKind.i64.wrap (p : Int) = (p : Int) := by
                  have := HLL.out
                  simp only [IntKind.wrap, IntKind.signed, IntKind.bits]; simp; omega
                have hd1 : decide (0 < (leftU V).length) = true := by simp; omega
                clear hl0 HL8 hz z7 hce hc7 hL hE hp
                generalize lastI (leftU V) = z at *
                have hzz : (z != z) = false := by simp
                go_quiet ((go_at_call 12; exact Calls.quiet_of (HAl.out _)))
                go_wp2_with fail
                go_meet
                case rel => exact ⟨_, rfl, rfl, HS8.out.drewN _, HA8d.out _⟩
          case rest =>
          obtain ⟨X9, hX9, rfl, hs9, ha9⟩ := hcut
          subst hX9
          have HS9 := Lib.hid hs9
          have HA9 := Lib.hid ha9
          clear hs9 ha9 HS8 HN8 HL8 HA8 HAl
          have HF8 : Hid (riseF 0 A8 ∧ (∀ x ∈ A8, x ∈ leftU V) ∧ A8.length ≤ 1000000) := Lib.hid (by
            obtain ⟨q1, q2, q3⟩ := find_any HP.out Q
            rw [HE8.out]
            have := HLL.out
            exact ⟨q1, q2, by omega⟩)
          have HAm : Hid (∀ X n x, SC W P V (.slice a4 V.rows.length c4) (.slice al (leftU V).length cl) X → x ∈ A8 → Calls Try.prog 20 #[.slice al (leftU V).length cl, .int .i64 x] (X.drewN n) fun e w' => e = .returned (.bool true) ∧ w' = X.drewN n) := Lib.hid (fun X n x q hx => (among_any _ (leftU V) x (X.drewN n) (q.drewN n).left HLL.out).mono (fun e w' ⟨r1, r2⟩ => ⟨by rw [r1, decide_eq_true (HF8.out.2.1 x hx)], r2⟩))
          clear HE7 HE8
          go_upto_region 24 with fail
          go_loopw [26] (fun i wq => ∃ (j : Nat) (X : World), X = wq ∧ j ≤ A8.length ∧ i = .int .i64 j ∧ SC W P V (.slice a4 V.rows.length c4) (.slice al (leftU V).length cl) X ∧ Nms X (.slice a8 A8.length c8) A8) (fun i _ => A8.length - (intOf i).toNat)
          case atStart => exact ⟨0, _, rfl, Nat.zero_le _, rfl, HS9.out, HA9.out⟩
          case round =>
            obtain ⟨j, X10, hX10, hj, rfl, hs10, ha10⟩ := hrel
            subst hX10
            have HS10 := Lib.hid hs10
            have HA10 := Lib.hid ha10
            clear hs10 ha10 HS9 HA9
            by_cases hjl : j < A8.length
            ·
              as_aux_lemma =>
                have hjli : (j : Int) < (A8.length : Int) := by omega
                have hjm : A8.length ≤ 1000000 := HF8.out.2.2
                obtain ⟨aA, cA, eA, hxA⟩ := HA10.out
                obtain ⟨rfl, rfl⟩ : aA = a8 ∧ cA = c8 := by injection eA with p1 p2 p3; exact ⟨p1.symm, p3.symm⟩
                clear eA
                obtain ⟨gA, oA, rfl, hgA, hcA⟩ := hxA (by omega)
                have x0 := hcA j hjl
                have HC1 : Hid (∀ i, j = i + 1 → X10.cell? ⟨gA, oA + i, none⟩ = some (.int .i64 (A8.getD i 0))) := Lib.hid (fun i hi => hcA i (by omega))
                have HRj : Hid (∀ i, j = i + 1 → ¬ A8.getD j 0 ≤ A8.getD i 0) := Lib.hid (fun i hi => by subst hi; have := riseF_getD HF8.out.1 i (i + 1) (by omega) hjl; omega)
                have HAj : Hid (∀ n, Calls Try.prog 20 #[.slice al (leftU V).length cl, .int .i64 (A8.getD j 0)] (X10.drewN n) fun e w' => e = .returned (.bool true) ∧ w' = X10.drewN n) := Lib.hid (fun n => HAm.out _ n _ HS10.out (getD_mem0 hjl))
                have HJl := Lib.hid hjl
                have HAd : Hid (∀ n, Nms (X10.drewN n) (.slice (some ⟨gA, oA, none⟩) A8.length cA) A8) := Lib.hid (fun n => HA10.out.on (below_drewN (Below.refl _ _) n))
                clear hxA hcA HAm hgA
                generalize A8.getD j 0 = x at *
                go_upto_region 26 with fail
                go_cut [172] (fun c wx => ∃ X, X = wx ∧ c = .bool false ∧ SC W P V (.slice a4 V.rows.length c4) (.slice al (leftU V).length cl) X ∧ Nms X (.slice (some ⟨gA, oA, none⟩) A8.length cA) A8)
                case first =>
                  rcases Nat.eq_zero_or_pos j with h0 | h0
                  · subst h0
                    rw [Nat.add_zero] at x0
                    clear HC1 HRj
                    go_quiet ((go_at_call 20; exact Calls.quiet_of_same (HAj.out _)))
                    go_wp2_with fail
                    go_meet
                    case rel => exact ⟨_, rfl, rfl, HS10.out.drewN _, HAd.out _⟩
                  · obtain ⟨i, hi⟩ : ∃ i, j = i + 1 := ⟨j - 1, by omega⟩
                    have hz0 : (0 : Int) < (j : Int) := by omega
                    have hip : (j : Int) - 1 = (i : Int) := by omega
                    have hpm : (i : Int) < (A8.length : Int) := by omega
                    have hp0 : (0 : Int) ≤ (i : Int) := by omega
                    have hpw : IntKind.i64.wrap (i : Int) = (i : Int) := by
                      have := HF8.out.2.2
                      simp only [IntKind.wrap, IntKind.signed, IntKind.bits]; simp; omega
                    have y1 := HC1.out i hi
                    have hri := HRj.out i hi
                    have hd0 : decide ((0 : Int) < (j : Int)) = true := by simpa using hz0
                    have hd0n : decide (0 < j) = true := by simpa using h0
                    clear hi HC1 HRj
                    generalize A8.getD i 0 = y at *
                    have hd2 : decide (x ≤ y) = false := by simpa using hri
                    go_quiet ((go_at_call 20; exact Calls.quiet_of_same (HAj.out _)))
                    go_wp2_with fail
                    go_meet
                    case rel => exact ⟨_, rfl, rfl, HS10.out.drewN _, HAd.out _⟩
                case rest =>
                obtain ⟨X11, hX11, rfl, hs11, ha11⟩ := hcut
                subst hX11
                have HS11 := Lib.hid hs11
                have HA11 := Lib.hid ha11
                clear hs11 ha11 x0 HC1 HRj HAj HAd HS10 HA10
                go_wp2_with fail
                go_roundw
                case rel => exact ⟨j + 1, _, rfl, by have := HJl.out; omega, by go_num, HS11.out, HA11.out⟩
                case measure => (have := HJl.out; simp [intOf]; omega)
            · obtain rfl : j = A8.length := by omega
              as_aux_lemma =>
                have HF4 : Hid (Calls Try.prog 15 #[.pointer (some ⟨P, 0, none⟩), .slice (some ⟨X10.heap.size, 0, none⟩) 1 1, .bool false] (X10.alloc (.cells #[.int .i64 1, .int .i64 0] 53)) fun e w' => ∃ a c L gg ee, L = findL V [(1, 0)] false ∧ gg = findG V [(1, 0)] false ∧ ee = findE V [(1, 0)] false ∧ e = .returned (.tuple #[.slice a L.length c, .bool gg, .int .i64 ee]) ∧ SC W P V (.slice a4 V.rows.length c4) (.slice al (leftU V).length cl) w' ∧ Nms w' (.slice a L.length c) L) := Lib.hid (by
                  have hb : Below X10.heap.size X10 (X10.alloc (.cells #[.int .i64 1, .int .i64 0] 53)) := (Below.refl _ _).alloc (Nat.le_refl _) _
                  obtain ⟨fp, v1, v2, v3⟩ := (HS10.out.on hb).view
                  refine (Find_any v1 HP.out (by omega) _ [(1, 0)] (rgs_one X10 1 0) (by simp) false).mono ?_
                  rintro e w' ⟨v', rfl, ho⟩
                  obtain ⟨a, c, rfl⟩ := ownsRow_shape ho.row
                  exact ⟨a, c, _, _, _, rfl, rfl, rfl, rfl, (HS10.out.on hb).on ho.below, nms_of ho.row⟩)
                clear HA10 HAm
                go_upto_region 29 with (go_at_call 15; refine HF4.out.mono ?_; rintro e w12 ⟨a12, c12, L12, g12, e12, hL12, hg12, he12, rfl, hs12, hn12⟩; have HS12 := Lib.hid hs12; have HN12 := Lib.hid hn12; have HE12 := Lib.hid (And.intro hL12 (And.intro hg12 he12)); clear hs12 hn12 hL12 hg12 he12)
                clear HF4 HS10
                obtain ⟨sg, hsg⟩ : ∃ sg, someT V V.rows.length = sg := ⟨_, rfl⟩
                rw [hsg]
                have HSg := Lib.hid hsg
                clear hsg
                go_cut [207] (fun c wx => ∃ X, X = wx ∧ c = .bool false ∧ SC W P V (.slice a4 V.rows.length c4) (.slice al (leftU V).length cl) X)
                case first =>
                  by_cases hr0 : V.rows = []
                  ·
                    as_aux_lemma =>
                      obtain rfl : e12 = 160 := HE12.out.2.2.trans (find_none hr0)
                      have hlz : ((V.rows.length : Int) == 0) = true := by rw [hr0]; rfl
                      have hlp : decide (0 < V.rows.length) = false := by rw [hr0]; rfl
                      clear hr0
                      go_wp2_with fail
                      go_meet
                      case rel => exact ⟨_, rfl, rfl, HS12.out⟩
                  ·
                    as_aux_lemma =>
                      obtain ⟨q1, q2, q3⟩ := find_every hr0 HLn.out
                      obtain rfl : e12 = 0 := HE12.out.2.2.trans q2
                      obtain rfl : L12 = uidsP V := HE12.out.1.trans q1
                      have hsom : sg = g12 := HSg.out.symm.trans ((lefT_end V).2.trans (HE12.out.2.1.trans q3).symm)
                      subst hsom
                      have HAl2 : Hid (Calls Try.prog 12 #[.slice a12 (uidsP V).length c12, .slice a4 V.rows.length c4] w12 fun e w' => e = .returned (.bool true) ∧ SC W P V (.slice a4 V.rows.length c4) (.slice al (leftU V).length cl) w') := Lib.hid ((alike_any _ _ (uidsP V) (uidsP V) w12 HN12.out HS12.out.rows (by rw [uidsP_length]; exact HLn.out)).mono (fun e w' ⟨r1, r2⟩ => ⟨by rw [r1, decide_eq_true rfl], HS12.out.on r2⟩))
                      have hlp : 0 < V.rows.length := List.length_pos_iff.2 hr0
                      have hl0 : ((V.rows.length : Int) == 0) = false := by simp; omega
                      have hl1 : decide (0 < V.rows.length) = true := by simp; omega
                      have hgg : (sg != sg) = false := by simp
                      clear q1 q2 q3 hlp HN12 HE12 hr0
                      go_wp2_with (go_at_call 12; refine HAl2.out.mono ?_; rintro e w13 ⟨rfl, hs13⟩; have HS13 := Lib.hid hs13; clear hs13)
                      go_meet
                      case rel => exact ⟨_, rfl, rfl, HS13.out⟩
                case rest =>
                as_aux_lemma =>
                  obtain ⟨X14, hX14, rfl, hs14⟩ := hcut
                  subst hX14
                  have HW14 := Lib.hid hs14.view
                  clear hs14 HS12 HN12 HE12 HSg
                  go_upto_region 31 with fail
                  by_cases hlt : k < S.length
                  · have hlti : (k : Int) < (S.length : Int) := by omega
                    obtain ⟨⟨a1, c1, e1, hx1⟩, hok⟩ := HS.out
                    obtain ⟨rfl, rfl⟩ : a1 = ax ∧ c1 = cx := by injection e1 with p1 p2 p3; exact ⟨p1.symm, p3.symm⟩
                    clear e1
                    obtain ⟨g, off, rfl, hg, hc⟩ := hx1 (by omega)
                    have hcr := hc k hlt
                    have hse := getD_memS hlt
                    have hss := hok _ hse
                    have hsh := HSS.out _ hse
                    obtain ⟨sx, hsx⟩ : ∃ sx, S.getD k ST0 = sx := ⟨_, rfl⟩
                    rw [hsx] at hcr hss hsh
                    have HRg : Hid (X14.rangeAt g (off + k * 26) (stL sx)) := Lib.hid (fun j u hj => by
                      obtain ⟨_, _, hX, _⟩ := HW14.out
                      rw [hX.cell (p := ⟨g, off + k * 26 + j, none⟩) hg]
                      exact hcr j u hj)
                    have HAct := Lib.hid (act_WK HW14.out HP.out (by omega) hss hsh)
                    have HP2 : Hid (PVok (actV V sx) (300 + 301 * (k + 1))) := Lib.hid ((actV_ok HP.out sx hsh).mono (by omega))
                    have HK := Lib.hid hlt
                    clear hok hse hss hsh hcr hc hx1 hsx
                    go_wp2_with (first | (refine wpList_load_mid rfl 41 _ rfl g (off + k * 26) rfl _ _ HRg.out Try.underlying41 rfl (Try.sizeSt sx) ?_) | (go_at_call 11; refine HAct.out.mono ?_; rintro e w15 ⟨tv, T15, rfl, _, hwk15⟩; have HW15 := Lib.hid hwk15; clear hwk15))
                    go_roundw
                    case rel => exact ⟨k + 1, actV V sx, by have := HK.out; omega, by go_num, HW15.out, HP2.out⟩
                    case measure => (have := HK.out; simp [intOf]; omega)
                  · obtain rfl : k = S.length := by omega
                    have HP2 : Hid (PVok V (300 + 301 * (S.length + 1))) := Lib.hid (HP.out.mono (by omega))
                    go_wp2_with fail
                    go_roundw
                    case rel => exact ⟨S.length + 1, V, by omega, by go_num, HW14.out, HP2.out⟩
                    case measure => first | (simp [intOf]; done) | (simp [intOf]; omega)
    · obtain rfl : k = S.length + 1 := by omega
      have HKw := Lib.hid (HKn.out wr (by obtain ⟨_, _, q, _⟩ := hwk; exact q))
      clear hwk hpk
      have hgt : ¬ ((S.length + 1 : Nat) : Int) ≤ (S.length : Int) := by omega
      go_wp2_with (go_at_call 13; refine HKw.out.mono ?_; rintro e w9 ⟨rfl, hb9⟩; have HB9 := Lib.hid hb9; clear hb9)
      go_ret
      exact ⟨rfl, HB9.out⟩
end Go.Proofs.Ytiphbnmnoofpkaa
