/- after: the mailbox's own uids behind an event. -/
import Derived.Test.YtiphbnmnoofpkaaN16s
import Derived.Deep.DeepCutAuto
import Derived.BigQuiet
import Derived.Deep.CutBlock
namespace Go.Proofs.Ytiphbnmnoofpkaa
open Go.RowKit

theorem copy_fresh {w : World} {src : Value} {l : List Int} (hs : Nms w src l) (hl : l.length ≤ 1000000) (hn : ∀ a c, src = .slice a l.length c → a = none → c = 0) :
    ∃ a c w', (Builtin.append_ #[30, 30] 30 #[.slice (some ⟨w.heap.size, 0, none⟩) 0 0, src]).run Try.prog (w.alloc (.cells #[] 3)) = .ok (.slice a l.length c) w' ∧ OwnI w.heap.size (.slice a l.length c) l w w' := by
  have hb1 : Below w.heap.size w (w.alloc (.cells #[] 3)) := (Below.refl _ _).alloc (Nat.le_refl _) _
  have hn1 : (w.alloc (.cells #[] 3)).heap[w.heap.size]? = some (.cells #[] 3 (0, 0)) := heap_new _ _
  have hrow : (w.alloc (.cells #[] 3)).ownsRow w.heap.size 3 1 (.slice (some ⟨w.heap.size, 0, none⟩) 0 0) 0 [] :=
    ⟨rfl, .inr ⟨w.heap.size, 0, #[], rfl, Nat.le_refl _, hn1, Nat.le_refl _, by unfold maxLen; omega, rfl, rfl⟩⟩
  obtain ⟨a3, c3, W3, hr, hw3, hg⟩ := copyI_run hrow (hs.on hb1) hl (Nat.le_of_lt (lt_of_heap hn1)) hn
  have hb3 : Below w.heap.size (w.alloc (.cells #[] 3)) W3 := ⟨hg.os, hg.tape, hg.output, hg.size, fun b hb => hg.block b (by have := lt_of_heap hn1; omega) (by simp [Value.ownBlock]; omega)⟩
  exact ⟨a3, c3, W3, hr, hw3, hb1.trans hb3, Nat.le_trans (Nat.le_of_lt (lt_of_heap hn1)) hg.size⟩
theorem ownI_nil {B : Nat} {v : Value} {l : List Int} {W w : World} (h : OwnI B v l W w) : ∀ a c, v = .slice a l.length c → a = none → c = 0 := by
  intro a c e ha
  rcases h.row.2 with ⟨e3, _⟩ | ⟨g, cap, cur, e3, _⟩
  · rw [e3] at e
    injection e with q1 q2 q3
    exact q3.symm
  · rw [e3] at e
    injection e with q1 q2 q3
    rw [ha] at q1
    cases q1
theorem ownI_cell {B : Nat} {v : Value} {l : List Int} {W w : World} (h : OwnI B v l W w) (h0 : 0 < l.length) : ∃ g o c, v = .slice (some ⟨g, o, none⟩) l.length c ∧ g < w.heap.size ∧ ∀ i, i < l.length → w.cell? ⟨g, o + i, none⟩ = some (.int .i64 (l.getD i 0)) := by
  obtain ⟨a, c, e, hx⟩ := nms_of h.row
  obtain ⟨g, o, rfl, hg, hc⟩ := hx h0
  exact ⟨g, o, c, e, hg, hc⟩
theorem ownI_shape {B : Nat} {v : Value} {l : List Int} {W w : World} (h : OwnI B v l W w) : ∃ a c, v = .slice a l.length c := by
  obtain ⟨a, c, e, _⟩ := nms_of h.row
  exact ⟨a, c, e⟩
theorem fol_wrap {f : Int} {n j : Nat} (lo : -9223372036854775808 ≤ f) (hi : f ≤ 9223372036854775807) (hj : j ≤ (fol f n).length) (hn : n ≤ 300) : IntKind.i64.wrap (f + j) = f + j := by
  have h1 : j = 0 ∨ f + j ≤ 4294967295 := by
    cases j with
    | zero => exact .inl rfl
    | succ i =>
      have := ((fol_at n f i).1.1 (by omega)).2
      right; push_cast; omega
  have h2 := fol_length n f
  simp only [IntKind.wrap, IntKind.signed, IntKind.bits]
  simp
  omega
set_option maxHeartbeats 16000000 in
set_option maxRecDepth 20000 in
theorem after_any {P : Nat} {V : PV} {fp : List Nat} {X : World} {N : Nat} (h : VW P V fp X) (hk : PVok V N) (hN : N ≤ 1000000) (ov : Value) (L : List Int) (hL : Nms X ov L) (hnil : ∀ a c, ov = .slice a L.length c → a = none → c = 0) (hLl : L.length ≤ 500000) (e : EV) (us : List Int) (ms : List ME) (hu : Nms X e.vu us) (hul : us.length ≤ 300) (lo : -9223372036854775808 ≤ e.fi) (hi : e.fi ≤ 9223372036854775807) (val : Int) :
    Calls Try.prog 16 #[ov, .int .i64 val, .agg (evA e), .pointer (some ⟨P, 0, none⟩)] X fun r w' => ∃ rv, r = .returned rv ∧ OwnI X.heap.size rv (aftL (plE e us ms) val (lastD (uidsP V) 0) L) X w' := by
  obtain ⟨W1, hW1⟩ : ∃ W1, X.alloc (.cells (evA e) 38) = W1 := ⟨_, rfl⟩
  have h1 : W1.heap[X.heap.size]? = some (.cells (evA e) 38 (0, 0)) := by rw [← hW1]; exact heap_new _ _
  have hb1 : Below X.heap.size X W1 := by rw [← hW1]; exact (Below.refl _ _).alloc (Nat.le_refl _) _
  have hsz : X.heap.size < W1.heap.size := lt_of_heap h1
  have HCe : Hid (∀ Y, Below W1.heap.size W1 Y → Y.cell? ⟨X.heap.size, 1, none⟩ = some (.int .i64 e.k) ∧ Y.cell? ⟨X.heap.size, 2, none⟩ = some (.int .i64 e.bx) ∧ Y.cell? ⟨X.heap.size, 3, none⟩ = some (.int .i64 e.tt) ∧ Y.cell? ⟨X.heap.size, 4, none⟩ = some (.int .i64 e.fi) ∧ Y.cell? ⟨X.heap.size, 8, none⟩ = some e.vu) := Lib.hid (fun Y hY => by
    have hy : Y.heap[X.heap.size]? = some (.cells (evA e) 38 (0, 0)) := by rw [hY.block _ hsz]; exact h1
    obtain ⟨_, c1, c2, c3, c4, c8, _⟩ := evA_cells hy
    exact ⟨c1, c2, c3, c4, c8⟩)
  obtain ⟨br, hbr⟩ : ∃ br, brN (plE e us ms) val = br := ⟨_, rfl⟩
  have HBr := Lib.hid hbr
  have hbr3 : br ≤ 300 := by
    rw [← hbr]
    unfold brN
    split
    · omega
    · split
      · exact hul
      · omega
  have hV1 := h.on hb1
  have hL1 := hL.on hb1
  obtain ⟨ao, co, hao, _⟩ := id hL
  obtain ⟨a2, c2, W2, hr2, ho2⟩ := copy_fresh hL1 (by omega) hnil
  have HR2 := Lib.hid hr2
  have HO2 := Lib.hid ho2
  have HU : Hid (Calls Try.prog 10 #[.pointer (some ⟨P, 0, none⟩)] W2 fun r w' => ∃ a c, r = .returned (.slice a (uidsP V).length c) ∧ OwnI W1.heap.size (.slice a2 L.length c2) L W1 w' ∧ Nms w' (.slice a (uidsP V).length c) (uidsP V)) := Lib.hid (by
    refine (Uids_W (hV1.on (ho2.below)) hk hN).mono ?_
    rintro r w' ⟨v', rfl, ho⟩
    obtain ⟨a, c, rfl⟩ := ownI_shape ho
    exact ⟨a, c, rfl, ho2.on ho.below, nms_of ho.row⟩)
  have HB1 := Lib.hid hb1
  have HUs : Hid (Nms W1 e.vu us) := Lib.hid (hu.on hb1)
  obtain ⟨au, cu, hvu, _⟩ := id hu
  have HFin : Hid (∀ rv l w', OwnI W1.heap.size rv l W1 w' → OwnI X.heap.size rv l X w') := Lib.hid (fun rv l w' q => (q.mono (Nat.le_of_lt hsz)).shift hb1)
  have HK := Lib.hid hk
  have HUl : Hid ((uidsP V).length ≤ 1000000) := Lib.hid (by have := hk.len; rw [uidsP_length]; omega)
  have hbrI : (br : Int) ≤ 300 := by omega
  have HEq : Hid (∀ l, bringL (plE e us ms) val (lastD (uidsP V) 0) l = (fol e.fi br).foldl (stepL (lastD (uidsP V) 0)) l) := Lib.hid (fun l => by unfold bringL; rw [hbr]; rfl)
  subst hao
  rw [hvu] at HCe HUs
  clear h hk hL hu hb1 h1 hV1 hL1 hr2 ho2 hsz hvu hnil
  have hc0 := HCe.out W1 (Below.refl _ _)
  obtain ⟨ck, cb, ct, cf, cu8⟩ := hc0
  go_enter Try.func16, Try.ntmps16
  go_upto_block 0 with fail
  (try rw [hW1])
  clear hW1
  go_cut [9] (fun c wx => W1 = wx ∧ c = .int .i64 br)
  case first =>
    as_aux_lemma =>
      by_cases k5 : e.k = 5 ∧ e.bx = val
      · obtain rfl : br = 1 := by rw [← HBr.out]; unfold brN; exact if_pos k5
        obtain ⟨q1, q2⟩ := k5
        rw [q1] at ck
        rw [q2] at cb
        clear q1 q2
        go_wp2_with fail
        go_meet
        case rel => exact ⟨rfl, rfl⟩
      · by_cases k8 : (e.k = 8 ∨ e.k = 9) ∧ e.tt = val
        · obtain rfl : br = us.length := by rw [← HBr.out]; unfold brN; rw [if_neg (show ¬ ((plE e us ms).kind = 5 ∧ (plE e us ms).box = val) from k5)]; exact if_pos k8
          obtain ⟨q1, q2⟩ := k8
          rw [q2] at ct
          rcases q1 with q1 | q1
          · rw [q1] at ck
            clear q1 q2 k5
            go_wp2_with fail
            go_meet
            case rel => exact ⟨rfl, rfl⟩
          · rw [q1] at ck
            clear q1 q2 k5
            go_wp2_with fail
            go_meet
            case rel => exact ⟨rfl, rfl⟩
        · obtain rfl : br = 0 := by rw [← HBr.out]; unfold brN; rw [if_neg (show ¬ ((plE e us ms).kind = 5 ∧ (plE e us ms).box = val) from k5)]; exact if_neg k8
          by_cases e5 : e.k = 5
          · have hb5 : (e.bx == val) = false := by simpa using fun q => k5 ⟨e5, q⟩
            rw [e5] at ck
            clear k5 k8 e5
            go_wp2_with fail
            go_meet
            case rel => exact ⟨rfl, rfl⟩
          · by_cases e8 : e.k = 8
            · have hb5 : (e.tt == val) = false := by simpa using fun q => k8 ⟨.inl e8, q⟩
              rw [e8] at ck
              clear k5 k8 e5 e8
              go_wp2_with fail
              go_meet
              case rel => exact ⟨rfl, rfl⟩
            · by_cases e9 : e.k = 9
              · have hb5 : (e.tt == val) = false := by simpa using fun q => k8 ⟨.inr e9, q⟩
                rw [e9] at ck
                clear k5 k8 e5 e8 e9
                go_wp2_with fail
                go_meet
                case rel => exact ⟨rfl, rfl⟩
              · have b5 : (e.k == 5) = false := by simpa using e5
                have b8 : (e.k == 8) = false := by simpa using e8
                have b9 : (e.k == 9) = false := by simpa using e9
                clear k5 k8 e5 e8 e9
                go_wp2_with fail
                go_meet
                case rel => exact ⟨rfl, rfl⟩
  case rest =>
  obtain ⟨rfl, rfl⟩ := hcut
  clear ck cb ct cf cu8
  go_upto_region 9 with (first | (at_builtin; refine append_by_run (u := .slice (some ⟨W1.heap.size, 0, none⟩) 0 0) (v := .slice ao L.length co) rfl _ _ _ rfl 30 rfl rfl rfl _ _ HR2.out ?_) | (go_at_call 10; refine HU.out.mono ?_; rintro r w3 ⟨a3, c3, rfl, ho3, hn3⟩; have HO3 := Lib.hid ho3; have HN3 := Lib.hid hn3; clear ho3 hn3))
  clear HU HR2 HO2
  obtain ⟨t, ht⟩ : ∃ t, lastD (uidsP V) 0 = t := ⟨_, rfl⟩
  have HT := Lib.hid ht
  clear ht
  go_upto_if 54 with fail
  go_cut [11] (fun c w4 => w3 = w4 ∧ c = .int .i64 t)
  case first =>
    as_aux_lemma =>
      by_cases hu0 : uidsP V = []
      · obtain rfl : t = 0 := by rw [← HT.out, hu0]; rfl
        have hz : ¬ (0 : Int) < ((uidsP V).length : Int) := by rw [hu0]; simp
        clear hu0
        go_wp2_with fail
        go_meet
        case rel => exact ⟨rfl, rfl⟩
      · obtain ⟨p, hp⟩ : ∃ p, (uidsP V).length = p + 1 := ⟨(uidsP V).length - 1, by have := List.length_pos_iff.2 hu0; omega⟩
        obtain ⟨aL, cL, eL, hx⟩ := HN3.out
        obtain ⟨rfl, rfl⟩ : aL = a3 ∧ cL = c3 := by injection eL with p1 p2 p3; exact ⟨p1.symm, p3.symm⟩
        clear eL
        obtain ⟨g3, o3, rfl, _, hc3⟩ := hx (by omega)
        have x0 := hc3 p (by omega)
        have hgd : (uidsP V).getD p 0 = t := by rw [← HT.out, lastD_getD _ _ hu0, hp]; rfl
        rw [hgd] at x0
        have hip : ((uidsP V).length : Int) - 1 = (p : Int) := by omega
        have hpm : (p : Int) < ((uidsP V).length : Int) := by omega
        have hp0 : (0 : Int) ≤ (p : Int) := by omega
        have hpw : IntKind.i64.wrap (p : Int) = (p : Int) := by
          have := HUl.out
          simp only [IntKind.wrap, IntKind.signed, IntKind.bits]; simp; omega
        have hz : (0 : Int) < ((uidsP V).length : Int) := by omega
        clear hu0 hp hx hc3 hgd
        go_wp2_with fail
        go_meet
        case rel => exact ⟨rfl, rfl⟩
  case rest =>
  obtain ⟨rfl, rfl⟩ := hcut
  rw [HT.out] at HEq
  clear HN3 HK HUl
  obtain ⟨F, hF⟩ : ∃ F, fol e.fi br = F := ⟨_, rfl⟩
  have HF : Hid (F.length ≤ 300 ∧ (∀ i : Nat, (i < F.length ↔ i < br ∧ e.fi + i < 4294967295) ∧ (i < F.length → F.getD i 0 = e.fi + i)) ∧ ∀ j : Nat, j ≤ F.length → IntKind.i64.wrap (e.fi + j) = e.fi + j) := Lib.hid (by
    subst hF
    have h2 := fol_length br e.fi
    exact ⟨by omega, fun i => fol_at br e.fi i, fun j hj => fol_wrap lo hi hj hbr3⟩)
  rw [hF] at HEq
  clear hF
  go_upto_region 12 with fail
  go_loopw [10, 13] (fun lv i wr => ∃ (j : Nat) (l : List Int) (lv' : Value) (Y : World), Y = wr ∧ lv' = lv ∧ i = .int .i64 j ∧ j ≤ F.length ∧ l = (F.take j).foldl (stepL t) L ∧ l.length ≤ L.length + j ∧ OwnI W1.heap.size lv' l W1 Y) (fun _ i _ => F.length - (intOf i).toNat)
  case atStart => exact ⟨0, L, _, _, rfl, rfl, rfl, Nat.zero_le _, rfl, by omega, HO3.out⟩
  case round =>
    obtain ⟨j, l, lv', Y, hY, hlv, rfl, hj, hl, hll, ho⟩ := hrel
    subst hY hlv
    have hF3 := HF.out.1
    obtain ⟨ck, cb, ct, cf, cu8⟩ := HCe.out Y ho.below
    obtain ⟨u, hu⟩ : ∃ u : Int, e.fi + (j : Int) = u := ⟨_, rfl⟩
    have huw : IntKind.i64.wrap u = u := by rw [← hu]; exact HF.out.2.2 j hj
    have HO := Lib.hid ho
    have HLq := Lib.hid hl
    have HLl : Hid (l.length + 1 ≤ 17592186044416) := Lib.hid (by omega)
    have HLm : Hid (l.length ≤ 500300) := Lib.hid (by omega)
    have HLb := Lib.hid hll
    by_cases hjl : j < F.length
    ·
      as_aux_lemma =>
        obtain ⟨q1, q2⟩ := (HF.out.2.1 j).1.1 hjl
        have hFu : F.getD j 0 = u := by rw [(HF.out.2.1 j).2 hjl]; exact hu
        have hjb : (j : Int) < (br : Int) := by omega
        rw [hu] at q2
        have hfm : e.fi ≤ 4294967295 := by omega
        have HSt : Hid ((F.take (j + 1)).foldl (stepL t) L = stepL t l u) := Lib.hid (by rw [fold_step t hjl, hFu, ← HLq.out])
        have HJl := Lib.hid hjl
        obtain ⟨al, cl, rfl⟩ := ownI_shape ho
        clear ho hl hll hFu hjl HF
        go_upto_region 15 with fail
        go_cut [103] (fun c wq => Y = wq ∧ c = .bool (decide (1 ≤ u ∧ t < u ∧ (l = [] ∨ lastI l < u))))
        case first =>
          by_cases u1 : 1 ≤ u
          · by_cases u2 : t < u
            · by_cases l0 : l = []
              · have HD : Hid (decide (1 ≤ u ∧ t < u ∧ (l = [] ∨ lastI l < u)) = true) := Lib.hid (by simp [u1, u2, l0])
                have hlz : ((l.length : Int) == 0) = true := by rw [l0]; rfl
                clear l0
                go_wp2_with fail
                go_meet
                case rel => exact ⟨rfl, by rw [HD.out]⟩
              · obtain ⟨p, hp⟩ : ∃ p, l.length = p + 1 := ⟨l.length - 1, by have := List.length_pos_iff.2 l0; omega⟩
                obtain ⟨gl, ol, cl2, eL, _, hcl⟩ := ownI_cell HO.out (by omega)
                obtain ⟨rfl, rfl⟩ : al = some ⟨gl, ol, none⟩ ∧ cl2 = cl := by injection eL with p1 p2 p3; exact ⟨p1, p3.symm⟩
                clear eL
                have x0 := hcl p (by omega)
                obtain ⟨z, hz⟩ : ∃ z, lastI l = z := ⟨_, rfl⟩
                have hgd : l.getD p 0 = z := by rw [← hz]; unfold lastI; rw [hp]; rfl
                rw [hgd] at x0
                have HD : Hid (decide (1 ≤ u ∧ t < u ∧ (l = [] ∨ lastI l < u)) = decide (z < u)) := Lib.hid (by simp [u1, u2, l0, hz])
                have hlz : ((l.length : Int) == 0) = false := by simp; omega
                have hip : (l.length : Int) - 1 = (p : Int) := by omega
                have hpm : (p : Int) < (l.length : Int) := by omega
                have hp0 : (0 : Int) ≤ (p : Int) := by omega
                have hpw : IntKind.i64.wrap (p : Int) = (p : Int) := by
                  have := HLm.out
                  simp only [IntKind.wrap, IntKind.signed, IntKind.bits]; simp; omega
                clear l0 hp hcl hgd hz
                go_wp2_with fail
                go_meet
                case rel => exact ⟨rfl, by rw [HD.out]⟩
            · have HD : Hid (decide (1 ≤ u ∧ t < u ∧ (l = [] ∨ lastI l < u)) = false) := Lib.hid (by simp [u2])
              go_wp2_with fail
              go_meet
              case rel => exact ⟨rfl, by rw [HD.out]⟩
          · have HD : Hid (decide (1 ≤ u ∧ t < u ∧ (l = [] ∨ lastI l < u)) = false) := Lib.hid (by simp [u1])
            go_wp2_with fail
            go_meet
            case rel => exact ⟨rfl, by rw [HD.out]⟩
        case rest =>
        obtain ⟨hwq, rfl⟩ := hcut
        subst hwq
        by_cases hd : 1 ≤ u ∧ t < u ∧ (l = [] ∨ lastI l < u)
        · rw [decide_eq_true hd]
          have HS1 : Hid (stepL t l u = l ++ [u]) := Lib.hid (by unfold stepL; exact if_pos hd)
          clear hd
          go_wp2_with (at_builtin; refine appI rfl _ _ rfl u HO.out rfl rfl HLl.out ?_; intro v7 w7 ho7; have HO7 := Lib.hid ho7; clear ho7)
          go_roundw
          case rel => exact ⟨j + 1, _, _, _, rfl, rfl, by go_num, by have := HJl.out; omega, by rw [HSt.out, HS1.out], by have := HLb.out; simp; omega, HO7.out⟩
          case measure => (have := HJl.out; simp [intOf]; omega)
        · rw [decide_eq_false hd]
          have HS1 : Hid (stepL t l u = l) := Lib.hid (by unfold stepL; exact if_neg hd)
          clear hd
          go_wp2_with fail
          go_roundw
          case rel => exact ⟨j + 1, _, _, _, rfl, rfl, by go_num, by have := HJl.out; omega, by rw [HSt.out, HS1.out], by have := HLb.out; omega, HO.out⟩
          case measure => (have := HJl.out; simp [intOf]; omega)
    · obtain rfl : j = F.length := by omega
      as_aux_lemma =>
        have hLe : l = bringL (plE e us ms) val t L := by rw [HLq.out, HEq.out, List.take_length]
        have HLe := Lib.hid hLe
        have hstop : (F.length < br → decide (u < 4294967295) = false) := fun q => by
          have := (HF.out.2.1 F.length).1
          rw [hu] at this
          simp only [decide_eq_false_iff_not]
          intro q2
          have := this.2 ⟨q, q2⟩
          omega
        have hjb' : (F.length : Int) < (br : Int) ∨ (F.length : Int) = (br : Int) ∨ (br : Int) < (F.length : Int) := by omega
        obtain ⟨al, cl, rfl⟩ := ownI_shape ho
        clear ho hl hll hLe
        go_upto_region 12 with fail
        go_cut [75] (fun c wq => Y = wq ∧ c = .bool false)
        case first =>
          as_aux_lemma =>
            rcases hjb' with q | q | q
            · have hs := hstop (by omega)
              go_wp2_with fail
              go_meet
              case rel => exact ⟨rfl, rfl⟩
            · have hs : decide ((F.length : Int) < (br : Int)) = false := by simp; omega
              have hs2 : decide (F.length < br) = false := by simp; omega
              go_wp2_with fail
              go_meet
              case rel => exact ⟨rfl, rfl⟩
            · have hs : decide ((F.length : Int) < (br : Int)) = false := by simp; omega
              have hs2 : decide (F.length < br) = false := by simp; omega
              go_wp2_with fail
              go_meet
              case rel => exact ⟨rfl, rfl⟩
        case rest =>
        obtain ⟨hwq, rfl⟩ := hcut
        subst hwq
        clear hstop hjb' hu huw HF
        by_cases hbv : e.bx = val
        · have hbn : (e.bx != val) = false := by simpa using hbv
          have HBv : Hid (¬ (plE e us ms).box ≠ val) := Lib.hid (fun q => q hbv)
          have HBn := Lib.hid hbn
          go_upto_region 20 with fail
          by_cases k4 : e.k = 4
          ·
            as_aux_lemma =>
              have HA : Hid (aftL (plE e us ms) val t L = []) := Lib.hid (by unfold aftL; rw [if_neg HBv.out]; exact if_pos k4)
              rw [k4] at ck ⊢
              clear k4
              go_wp2_with fail
              go_ret
              exact ⟨_, rfl, by rw [HT.out, HA.out]; exact HFin.out _ _ _ (OwnI.nil HO.out.below HO.out.base)⟩
          · have b4 : (e.k == 4) = false := by simpa using k4
            by_cases k79 : e.k = 7 ∨ e.k = 9
            · have HA : Hid (aftL (plE e us ms) val t L = filt us l) := Lib.hid (by unfold aftL; rw [if_neg HBv.out, if_neg (show ¬ (plE e us ms).kind = 4 from k4), if_pos (show (plE e us ms).kind = 7 ∨ (plE e us ms).kind = 9 from k79), HLe.out]; rfl)
              as_aux_lemma =>
                rcases k79 with q | q
                all_goals
                  rw [q] at ck ⊢
                  clear q k4 b4
                  go_upto_region 26 with fail
                  have HNl : Hid (∀ Z, Below Y.heap.size Y Z → Nms Z (.slice al l.length cl) l) := Lib.hid (fun Z q => (nms_of HO.out.row).on q)
                  have HBy : Hid (∀ Z, Below Y.heap.size Y Z → Below W1.heap.size W1 Z) := Lib.hid (fun Z q => HO.out.below.trans (q.mono HO.out.base))
                  go_loopw [15, 16] (fun mv i wr => ∃ (i2 : Nat) (mv' : Value) (Z : World), Z = wr ∧ mv' = mv ∧ i2 ≤ l.length ∧ i = .int .i64 i2 ∧ OwnI Y.heap.size mv' (filt us (l.take i2)) Y Z) (fun _ i _ => l.length - (intOf i).toNat)
                  case atStart => exact ⟨0, _, _, rfl, rfl, Nat.zero_le _, rfl, OwnI.nil (Below.refl _ _) (Nat.le_refl _)⟩
                  case round =>
                    obtain ⟨i2, mv', Z, hZ, hmv, hi2, rfl, hoz⟩ := hrel
                    subst hZ hmv
                    have HOz := Lib.hid hoz
                    clear hoz
                    have hlm : l.length ≤ 500300 := HLm.out
                    by_cases hil : i2 < l.length
                    · have hili : (i2 : Int) < (l.length : Int) := by omega
                      obtain ⟨a9, c9, e9, hx9⟩ := HNl.out Y (Below.refl _ _)
                      obtain ⟨rfl, rfl⟩ : a9 = al ∧ c9 = cl := by injection e9 with p1 p2 p3; exact ⟨p1.symm, p3.symm⟩
                      clear e9
                      obtain ⟨g9, o9, rfl, hg9, hc9⟩ := hx9 (by omega)
                      have HXc : Hid (∀ Z, Below Y.heap.size Y Z → Z.cell? ⟨g9, o9 + i2, none⟩ = some (.int .i64 (l.getD i2 0))) := Lib.hid (fun Z q => by rw [q.cell (p := ⟨g9, o9 + i2, none⟩) hg9]; exact hc9 i2 hil)
                      have HSn := Lib.hid (filt_snoc (us := us) hil)
                      have HIl := Lib.hid hil
                      have HFl : Hid ((filt us (l.take i2)).length + 1 ≤ 17592186044416) := Lib.hid (by have := filt_len us (l.take i2); have := List.length_take_le i2 l; omega)
                      clear hx9 hc9 hg9
                      generalize l.getD i2 0 = x at *
                      generalize filt us (l.take i2) = fl at *
                      go_upto_region 30 with fail
                      go_loopw [17, 18] (fun gv i wq => ∃ (k : Nat) (gb : Bool) (Z2 : World), Z2 = wq ∧ k ≤ us.length ∧ i = .int .i64 k ∧ gv = .bool gb ∧ gb = decide (x ∈ us.take k) ∧ OwnI Y.heap.size mv' fl Y Z2) (fun _ i _ => us.length - (intOf i).toNat)
                      case atStart => exact ⟨0, false, _, rfl, Nat.zero_le _, rfl, rfl, by simp, HOz.out⟩
                      case round =>
                        obtain ⟨k, gb, Z2, hZ2, hk, rfl, rfl, hgb, ho2⟩ := hrel
                        subst hZ2
                        have HO2 := Lib.hid ho2
                        have HGb := Lib.hid hgb
                        obtain ⟨_, _, _, _, d8⟩ := HCe.out Z2 (HBy.out Z2 ho2.below)
                        have x0 := HXc.out Z2 ho2.below
                        clear ho2 hgb HOz
                        by_cases hkl : k < us.length
                        ·
                          as_aux_lemma =>
                            have hkli : (k : Int) < (us.length : Int) := by omega
                            obtain ⟨a7, c7, e7, hx7⟩ := HUs.out.on (HBy.out Z2 HO2.out.below)
                            obtain ⟨rfl, rfl⟩ : a7 = au ∧ c7 = cu := by injection e7 with p1 p2 p3; exact ⟨p1.symm, p3.symm⟩
                            clear e7
                            obtain ⟨g7, o7, rfl, hg7, hc7⟩ := hx7 (by omega)
                            have y0 := hc7 k hkl
                            have HT : Hid (∀ b, (b = true ↔ (x ∈ us.take k ∨ x = us.getD k 0)) → b = decide (x ∈ us.take (k + 1))) := Lib.hid (fun b hb => by
                              rw [take_snocI _ _ hkl]
                              apply Bool.eq_iff_iff.2
                              rw [hb, decide_eq_true_iff, List.mem_append, List.mem_singleton])
                            have HKl := Lib.hid hkl
                            clear hx7 hc7 hg7
                            generalize us.getD k 0 = y at *
                            cases gb with
                            | true =>
                              have HIn : Hid (x ∈ us.take k) := Lib.hid (by have := HGb.out; simpa using this.symm)
                              go_upto_region 32 with fail
                              go_quiet (fail)
                              go_wp2_with fail
                              go_roundw
                              case rel => exact ⟨k + 1, true, _, rfl, by have := HKl.out; omega, by go_num, rfl, HT.out true (by simp [HIn.out]), HO2.out.drewN _⟩
                              case measure => (have := HKl.out; simp [intOf]; omega)
                            | false =>
                              have HIn : Hid (¬ x ∈ us.take k) := Lib.hid (by have := HGb.out; simpa using this.symm)
                              by_cases hyx : y = x
                              · have hq : (y == x) = true := by simpa using hyx
                                have HYx := Lib.hid hyx
                                clear hyx
                                go_upto_region 32 with fail
                                go_quiet (fail)
                                go_wp2_with fail
                                go_roundw
                                case rel => exact ⟨k + 1, true, _, rfl, by have := HKl.out; omega, by go_num, rfl, HT.out true (by simp [HYx.out]), HO2.out.drewN _⟩
                                case measure => (have := HKl.out; simp [intOf]; omega)
                              · have hq : (y == x) = false := by simpa using hyx
                                have HYx := Lib.hid hyx
                                clear hyx
                                go_upto_region 32 with fail
                                go_quiet (fail)
                                go_wp2_with fail
                                go_roundw
                                case rel => exact ⟨k + 1, false, _, rfl, by have := HKl.out; omega, by go_num, rfl, HT.out false (by simp [HIn.out]; exact fun q => HYx.out q.symm), HO2.out.drewN _⟩
                                case measure => (have := HKl.out; simp [intOf]; omega)
                        · obtain rfl : k = us.length := by omega
                          as_aux_lemma =>
                            rw [List.take_length] at HGb
                            cases gb with
                            | true =>
                              have HR : Hid (filt us (l.take (i2 + 1)) = fl) := Lib.hid (by rw [HSn.out, if_pos (by have := HGb.out; simpa using this.symm)])
                              go_wp2_with fail
                              go_roundw
                              case rel => exact ⟨i2 + 1, _, _, rfl, rfl, by have := HIl.out; omega, by go_num, by rw [HR.out]; exact HO2.out⟩
                              case measure => (have := HIl.out; simp [intOf]; omega)
                            | false =>
                              have HR : Hid (filt us (l.take (i2 + 1)) = fl ++ [x]) := Lib.hid (by rw [HSn.out, if_neg (by have := HGb.out; simpa using this.symm)])
                              go_wp2_with (at_builtin; refine appI rfl _ _ rfl x HO2.out rfl rfl HFl.out ?_; intro v7 w7 ho7; have HO7 := Lib.hid ho7; clear ho7)
                              go_roundw
                              case rel => exact ⟨i2 + 1, _, _, rfl, rfl, by have := HIl.out; omega, by go_num, by rw [HR.out]; exact HO7.out⟩
                              case measure => (have := HIl.out; simp [intOf]; omega)
                    · obtain rfl : i2 = l.length := by omega
                      as_aux_lemma =>
                        have HR : Hid (OwnI W1.heap.size mv' (filt us l) W1 Z) := Lib.hid (by
                          have q := HOz.out
                          rw [List.take_length] at q
                          exact (q.mono HO.out.base).shift HO.out.below)
                        clear HOz
                        go_wp2_with fail
                        go_ret
                        exact ⟨_, rfl, by rw [HT.out, HA.out]; exact HFin.out _ _ _ HR.out⟩
            ·
              as_aux_lemma =>
                have HA : Hid (aftL (plE e us ms) val t L = l) := Lib.hid (by unfold aftL; rw [if_neg HBv.out, if_neg (show ¬ (plE e us ms).kind = 4 from k4), if_neg (show ¬ ((plE e us ms).kind = 7 ∨ (plE e us ms).kind = 9) from k79), HLe.out])
                have b7 : (e.k == 7) = false := by simp; omega
                have b9 : (e.k == 9) = false := by simp; omega
                clear k4 k79
                go_wp2_with fail
                go_ret
                exact ⟨_, rfl, by rw [HT.out, HA.out]; exact HFin.out _ _ _ HO.out⟩
        ·
          as_aux_lemma =>
            have hbn : (e.bx != val) = true := by simpa using hbv
            have HA : Hid (aftL (plE e us ms) val t L = l) := Lib.hid (by unfold aftL; rw [HLe.out]; exact if_pos hbv)
            clear hbv
            go_wp2_with fail
            go_ret
            exact ⟨_, rfl, by rw [HT.out, HA.out]; exact HFin.out _ _ _ HO.out⟩
end Go.Proofs.Ytiphbnmnoofpkaa
