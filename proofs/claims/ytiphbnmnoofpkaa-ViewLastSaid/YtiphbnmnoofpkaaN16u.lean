/- ViewSettles, its walk. -/
import Derived.Test.YtiphbnmnoofpkaaN16t
import Derived.Test.YtiphbnmnoofpkaaZv
namespace Go.Proofs.Ytiphbnmnoofpkaa
open Go.RowKit

/-- A view, and lists that are kept beside it. -/
def WO (W : World) (P : Nat) (V : PV) (K : List (Value × List Int)) (X : World) : Prop :=
  ∃ fp, VW P V fp X ∧ Below W.heap.size W X ∧ (∀ b ∈ fp, W.heap.size ≤ b) ∧ ∀ p ∈ K, Nms X p.1 p.2 ∧ ∀ b, p.1.ownBlock = some b → b ∉ fp ∧ b < X.heap.size
section
variable {W X Y : World} {P : Nat} {V : PV} {K : List (Value × List Int)} {N : Nat}
theorem WO.on (h : WO W P V K X) (hb : Below X.heap.size X Y) : WO W P V K Y := by
  obtain ⟨fp, h1, h2, h3, h4⟩ := h
  exact ⟨fp, h1.on hb, h2.trans (hb.mono h2.size), h3, fun p hp => ⟨(h4 p hp).1.on hb, fun b e => ⟨((h4 p hp).2 b e).1, Nat.lt_of_lt_of_le ((h4 p hp).2 b e).2 hb.size⟩⟩⟩
theorem WO.drewN (h : WO W P V K X) (n : Nat) : WO W P V K (X.drewN n) := h.on (below_drewN (Below.refl _ _) n)
theorem WO.drew (h : WO W P V K X) : WO W P V K X.drew := h.on (Below.refl _ _).drew
theorem WO.below (h : WO W P V K X) : Below W.heap.size W X := by
  obtain ⟨fp, _, h2, _⟩ := h
  exact h2
theorem WO.wk (h : WO W P V K X) : WK W P V X := by
  obtain ⟨fp, h1, h2, h3, _⟩ := h
  exact ⟨fp, h1, h2, h3⟩
theorem WO.list (h : WO W P V K X) {v : Value} {l : List Int} (hm : (v, l) ∈ K) : Nms X v l := by
  obtain ⟨fp, _, _, _, h4⟩ := h
  exact (h4 _ hm).1
theorem WO.sub (h : WO W P V K X) {K' : List (Value × List Int)} (hs : ∀ p ∈ K', p ∈ K) : WO W P V K' X := by
  obtain ⟨fp, h1, h2, h3, h4⟩ := h
  exact ⟨fp, h1, h2, h3, fun p hp => h4 p (hs p hp)⟩
theorem ownI_out {B : Nat} {v : Value} {l : List Int} {W w : World} (h : OwnI B v l W w) : ∀ b, v.ownBlock = some b → B ≤ b ∧ b < w.heap.size := by
  intro b e
  rcases h.row.2 with ⟨e3, _⟩ | ⟨g, cap, cur, e3, hB, hg, _⟩
  · rw [e3] at e
    cases e
  · rw [e3] at e
    simp [Value.ownBlock] at e
    have := lt_of_heap hg
    omega
theorem WO.add (h : WO W P V K X) {v : Value} {l : List Int} (ho : OwnI X.heap.size v l X Y) : WO W P V ((v, l) :: K) Y := by
  obtain ⟨fp, h1, h2, h3, h4⟩ := h.on ho.below
  obtain ⟨fp0, k1, k2, k3, k4⟩ := h
  refine ⟨fp0, k1.on ho.below, h2, k3, fun p hp => ?_⟩
  rcases List.mem_cons.1 hp with rfl | hp
  · refine ⟨nms_of ho.row, fun b e => ?_⟩
    obtain ⟨q1, q2⟩ := ownI_out ho b e
    exact ⟨fun hm => by have := k1.lt hm; omega, q2⟩
  · exact ⟨(k4 p hp).1.on ho.below, fun b e => ⟨((k4 p hp).2 b e).1, Nat.lt_of_lt_of_le ((k4 p hp).2 b e).2 ho.below.size⟩⟩
theorem WO.past {V' : PV} {fp fp' : List Nat} (k2 : Below W.heap.size W X) (k3 : ∀ b ∈ fp, W.heap.size ≤ b) (k4 : ∀ p ∈ K, Nms X p.1 p.2 ∧ ∀ b, p.1.ownBlock = some b → b ∉ fp ∧ b < X.heap.size) (q1 : VW P V' fp' Y) (q2 : FO fp fp' X Y) : WO W P V' K Y := by
  obtain ⟨y1, y2⟩ := fo_below k2 k3 q2
  refine ⟨fp', q1, y1, y2, fun p hp => ⟨(k4 p hp).1.past q2 (fun _ b e => ((k4 p hp).2 b e).1), fun b e => ?_⟩⟩
  obtain ⟨z1, z2⟩ := (k4 p hp).2 b e
  exact ⟨q2.out z2 z1, Nat.lt_of_lt_of_le z2 q2.1.size⟩
theorem act_WO {s : ST} (h : WO W P V K X) (hk : PVok V N) (hN : N + 301 ≤ 1000000) (ho : StOK W s) (hs : StShort s) :
    Calls Try.prog 11 #[.pointer (some ⟨P, 0, none⟩), .agg (stL s).toArray] X fun e w' => ∃ tv T, e = .returned tv ∧ Told w' tv T (actT V s) ∧ WO W P (actV V s) K w' := by
  obtain ⟨fp, v1, v2, v3, v4⟩ := h
  refine (act_any v1 hk hN s (ho.on v2) hs (fun h0 b e hm => ?_) ⟨fun h0 b e hm => ?_, fun m hm hne b e hmm => ?_⟩).mono ?_
  · have := ho.ub h0 b e
    have := v3 b hm
    omega
  · have := ho.mb.1 h0 b e
    have := v3 b hm
    omega
  · have := ho.mb.2 m hm hne b e
    have := v3 b hmm
    omega
  · rintro e w' ⟨tv, T, rfl, ht, fp', q1, q2⟩
    exact ⟨tv, T, rfl, ht, WO.past v2 v3 v4 q1 q2⟩
theorem take_calmW (h : WO W P V K X) (hk : PVok V N) (hN : N ≤ 1000000) (hc : Calm V) (wh rc : Int) :
    Calls Try.prog 17 #[.pointer (some ⟨P, 0, none⟩), .int .i64 wh, .int .i64 rc] X fun e w' => ∃ a c, e = .returned (.slice a 0 c) ∧ WO W P V K w' := by
  obtain ⟨fp, v1, v2, v3, v4⟩ := h
  refine (Take_any v1 hk hN wh rc).mono ?_
  rintro e w' ⟨tv, T, rfl, ht, fp', q1, q2⟩
  have hT : T = [] := by
    have := ht.pl
    rw [hc.takeT] at this
    exact List.map_eq_nil_iff.1 this
  subst hT
  obtain ⟨a, c, rfl⟩ : ∃ a c, tv = .slice a 0 c := ownsRow_shape ht.row
  rw [hc.takeV] at q1
  exact ⟨a, c, rfl, WO.past v2 v3 v4 q1 q2⟩
theorem uids_WO (h : WO W P V K X) (hk : PVok V N) (hN : N ≤ 1000000) :
    Calls Try.prog 10 #[.pointer (some ⟨P, 0, none⟩)] X fun e w' => ∃ a c, e = .returned (.slice a (uidsP V).length c) ∧ WO W P V ((.slice a (uidsP V).length c, uidsP V) :: K) w' := by
  obtain ⟨fp, v1, v2, v3, v4⟩ := id h
  refine (Uids_W v1 hk hN).mono ?_
  rintro e w' ⟨v', rfl, ho⟩
  obtain ⟨a, c, rfl⟩ := ownI_shape ho
  exact ⟨a, c, rfl, h.add ho⟩
/-- Uids, and their copy. -/
theorem uids_copyO (h : WK W P V X) (hk : PVok V N) (hN : N ≤ 1000000) :
    Calls Try.prog 10 #[.pointer (some ⟨P, 0, none⟩)] (X.alloc (.cells #[] 3)) fun e w' => ∃ a c a3 c3 W3, e = .returned (.slice a (uidsP V).length c) ∧ (Builtin.append_ #[30, 30] 30 #[.slice (some ⟨X.heap.size, 0, none⟩) 0 0, .slice a (uidsP V).length c]).run Try.prog w' = .ok (.slice a3 (uidsP V).length c3) W3 ∧ WO W P V [(.slice a3 (uidsP V).length c3, uidsP V)] W3 ∧ (a3 = none → c3 = 0) := by
  have hb1 : Below X.heap.size X (X.alloc (.cells #[] 3)) := (Below.refl _ _).alloc (Nat.le_refl _) _
  have hn1 : (X.alloc (.cells #[] 3)).heap[X.heap.size]? = some (.cells #[] 3 (0, 0)) := heap_new _ _
  obtain ⟨fp, v1, v2, v3⟩ := h.on hb1
  refine (Uids_W v1 hk hN).mono ?_
  rintro e w' ⟨v', rfl, ho⟩
  obtain ⟨a, c, rfl⟩ := ownI_shape ho
  have hlen : (uidsP V).length ≤ 1000000 := by
    have := hk.len
    rw [uidsP_length]
    omega
  have hnw : w'.heap[X.heap.size]? = some (.cells #[] 3 (0, 0)) := by rw [ho.below.block _ (lt_of_heap hn1)]; exact hn1
  have hrow : w'.ownsRow X.heap.size 3 1 (.slice (some ⟨X.heap.size, 0, none⟩) 0 0) 0 [] :=
    ⟨rfl, .inr ⟨X.heap.size, 0, #[], rfl, Nat.le_refl _, hnw, Nat.le_refl _, by unfold maxLen; omega, rfl, rfl⟩⟩
  obtain ⟨a3, c3, W3, hr, hw3, hg⟩ := copyI_run hrow (nms_of ho.row) hlen (Nat.le_of_lt (lt_of_heap hnw)) (ownI_nil ho)
  have hb3 : Below X.heap.size w' W3 := ⟨hg.os, hg.tape, hg.output, hg.size, fun b hb => hg.block b (by have := lt_of_heap hnw; omega) (by simp [Value.ownBlock]; omega)⟩
  have hbX : Below X.heap.size X W3 := (hb1.trans (ho.below.mono hb1.size)).trans hb3
  have ho3 : OwnI X.heap.size (.slice a3 (uidsP V).length c3) (uidsP V) X W3 := ⟨hw3, hbX, hbX.size⟩
  have h0 : WO W P V [] X := by
    obtain ⟨fp, k1, k2, k3⟩ := h
    exact ⟨fp, k1, k2, k3, fun p hp => by cases hp⟩
  exact ⟨a, c, a3, c3, W3, rfl, hr, h0.add ho3, fun q => ownI_nil ho3 _ _ rfl q⟩
end
theorem alike_WO {W X : World} {P : Nat} {V : PV} {K : List (Value × List Int)} (h : WO W P V K X) {a b : Value} {l : List Int} (h1 : (a, l) ∈ K) (h2 : (b, l) ∈ K) (hl : l.length ≤ 1000000) :
    Calls Try.prog 12 #[a, b] X fun e w' => e = .returned (.bool true) ∧ WO W P V K w' :=
  (alike_any a b l l X (h.list h1) (h.list h2) hl).mono (fun e w' ⟨r1, r2⟩ => ⟨by rw [r1, decide_eq_true rfl], h.on r2⟩)
theorem own_act (V : PV) (s : ST) (h1 : s.kind ≠ 1) : ownU (actV V s) = ownU V := by
  unfold actV
  rw [if_neg h1]
  split
  · exact take_own _ _ _
  · rfl
theorem new_calm (val : Int) (us : List Int) (r : Int) : Calm (newP val us r) := by
  refine ⟨rfl, fun x hx => ?_⟩
  have e : (newP val us r).rows = (comesP ⟨val, [], []⟩ us).rows ++ (comesP ⟨val, [], []⟩ us).com.map (newR r) := rfl
  rw [e, comesP_rows, List.nil_append] at hx
  obtain ⟨y, _, rfl⟩ := List.mem_map.1 hx
  exact ⟨rfl, rfl⟩
theorem new_own (val : Int) (us : List Int) (r : Int) : ownU (newP val us r) = uidsP (newP val us r) := (new_calm val us r).own
theorem newP_val (val : Int) (us : List Int) (r : Int) : (newP val us r).val = val := comesP_val us ⟨val, [], []⟩
theorem uids_hear (V : PV) (e : PEv) (own : Bool) : uidsP (hearP V e own) = uidsP V := hearP_uids V e own
set_option maxHeartbeats 16000000 in
set_option maxRecDepth 20000 in
theorem ViewSettles_walk (b : BX) (mv sv : Value) (ml : List MLE) (S : List ST) (recent : Int) (W : World) (hm : MailsAt W mv ml) (hs : StepsAt W sv S) :
    Calls Try.prog 5 #[.agg (bxA b), mv, .int .i64 recent, sv] W fun e W' => e = .returned (.bool true) ∧ Below W.heap.size W W' := by
  obtain ⟨W1, hW1⟩ : ∃ W1, W.alloc (.cells (bxA b) 24) = W1 := ⟨_, rfl⟩
  have h1 : W1.heap[W.heap.size]? = some (.cells (bxA b) 24 (0, 0)) := by rw [← hW1]; exact heap_new _ _
  have hb1 : Below W.heap.size W W1 := by rw [← hW1]; exact (Below.refl _ _).alloc (Nat.le_refl _) _
  have hsz1 := lt_of_heap h1
  have HL := Lib.hid (long_any mv sv ml S W1 (hm.on hb1) (hs.on hb1))
  have HM := Lib.hid (hm.on hb1)
  have HS := Lib.hid (hs.on hb1)
  have HFin : Hid (∀ X, Below W1.heap.size W1 X → Below W.heap.size W X) := Lib.hid (fun X hX => hb1.trans (hX.mono hb1.size))
  have HKn : Hid (∀ X, Below W1.heap.size W1 X → Calls Try.prog 13 #[] X fun e w' => e = .returned (.bool true) ∧ Below W.heap.size W w') := Lib.hid (fun X hX => (known_any X).mono (fun e w' ⟨q1, q2⟩ => ⟨q1, HFin.out _ (hX.trans (q2.mono hX.size))⟩))
  have HBx : Hid (∀ X, Below W1.heap.size W1 X → X.heap[W.heap.size]? = some (.cells (bxA b) 24 (0, 0))) := Lib.hid (fun X hX => by rw [hX.block _ hsz1]; exact h1)
  obtain ⟨am, cm, rfl, _⟩ := hm
  obtain ⟨⟨ax, cx, rfl, _⟩, _⟩ := hs
  clear hb1 h1 hsz1
  go_enter Try.func5, Try.ntmps5
  go_upto_region 1 with fail
  (try rw [hW1])
  clear hW1
  go_cut [16] (fun c wx => ∃ (lb : Bool) (X : World), X = wx ∧ c = .bool lb ∧ Below W1.heap.size W1 X ∧ (lb = false → ml.length ≤ 300 ∧ S.length ≤ 120 ∧ ∀ s ∈ S, StShort s))
  case first =>
    as_aux_lemma =>
      go_wp2_with (go_at_call 8; refine HL.out.mono ?_; rintro e w2 ⟨lb, rfl, hb2, hc2⟩; have HB2 := Lib.hid hb2; have HC2 := Lib.hid hc2; clear hb2 hc2)
      go_meet
      case rel => exact ⟨_, _, rfl, rfl, HB2.out, HC2.out⟩
  case rest =>
  obtain ⟨lb, w2, hX2, rfl, hb2, hc2⟩ := hcut
  subst hX2
  have HB2 := Lib.hid hb2
  have HC2 := Lib.hid hc2
  clear hb2 hc2 HL
  cases lb with
  | true =>
    as_aux_lemma =>
      go_wp2_with fail
      go_ret
      exact ⟨rfl, HFin.out _ HB2.out⟩
  | false =>
  obtain ⟨hml, hsl, hss⟩ := HC2.out rfl
  have HSS := Lib.hid hss
  have H2 := Lib.hid (HBx.out _ HB2.out)
  have HNew : Hid (Calls Try.prog 9 #[.agg (bxA b), .slice am ml.length cm, .int .i64 recent] w2 fun e w' => ∃ P, e = .returned (.pointer (some ⟨P, 0, none⟩)) ∧ WK W1 P (newP b.val (ml.map MLE.u) recent) w') := Lib.hid ((New_any b _ ml recent w2 (HM.out.on HB2.out) (by omega)).mono (fun e w' ⟨P, fp, q1, q2, q3, q4⟩ => ⟨P, q1, WK.ofNew HB2.out q2 q3 q4⟩))
  have HP0 : Hid (PVok (newP b.val (ml.map MLE.u) recent) 300) := Lib.hid ((newP_ok b.val (ml.map MLE.u) recent).mono (by simpa using hml))
  have HV0 : Hid ((newP b.val (ml.map MLE.u) recent).val = b.val ∧ ownU (newP b.val (ml.map MLE.u) recent) = uidsP (newP b.val (ml.map MLE.u) recent)) := Lib.hid ⟨newP_val _ _ _, new_own _ _ _⟩
  clear hss HC2
  generalize newP b.val (ml.map MLE.u) recent = V0 at *
  go_upto_region 4 with (first | (refine wpList_load_row rfl 24 _ rfl W.heap.size rfl 24 _ (0, 0) _ H2.out Try.underlying24 rfl (Try.sizeBx b) ?_) | (go_at_call 9; refine HNew.out.mono ?_; rintro e w3 ⟨P, rfl, hwk⟩; have HW0 := Lib.hid hwk; clear hwk))
  clear HNew H2 HB2
  have HU0 := Lib.hid (uids_copyO HW0.out HP0.out (by omega))
  go_upto_region 7 with (first | (go_at_call 10; refine HU0.out.mono ?_; rintro e w4 ⟨a4, c4, a3, c3, W3, rfl, hr3, hwo, hn3⟩; have HR3 := Lib.hid hr3; have HWO := Lib.hid hwo; have HN3 := Lib.hid hn3; clear hr3 hwo hn3) | (at_builtin; refine append_by_run (u := .slice (some ⟨w3.heap.size, 0, none⟩) 0 0) (v := .slice a4 (uidsP V0).length c4) rfl _ _ _ rfl 30 rfl rfl rfl _ _ HR3.out ?_))
  clear HU0 HW0 HR3
  go_upto_region 8 with fail
  go_loopw [10, 11] (fun ov i wr => ∃ (k : Nat) (V : PV) (ao : Option Addr) (co : Nat) (X : World), X = wr ∧ k ≤ S.length ∧ ov = .slice ao (ownU V).length co ∧ i = .int .i64 k ∧ WO W1 P V [(.slice ao (ownU V).length co, ownU V)] X ∧ (ao = none → co = 0) ∧ V.val = b.val ∧ PVok V (300 + 301 * k)) (fun _ i _ => S.length - (intOf i).toNat)
  case atStart => exact ⟨0, V0, a3, c3, _, rfl, Nat.zero_le _, by rw [HV0.out.2], rfl, by rw [HV0.out.2]; exact HWO.out, HN3.out, HV0.out.1, HP0.out⟩
  case round =>
    obtain ⟨k, V, ao, co, X, hX, hk, rfl, rfl, hwo, hno, hval, hpk⟩ := hrel
    subst hX
    clear HWO HN3 HV0 HP0
    by_cases hlt : k < S.length
    · have hlti : (k : Int) < (S.length : Int) := by omega
      obtain ⟨⟨a1, c1, e1, hx1⟩, hok⟩ := HS.out
      obtain ⟨rfl, rfl⟩ : a1 = ax ∧ c1 = cx := by injection e1 with p1 p2 p3; exact ⟨p1.symm, p3.symm⟩
      clear e1
      obtain ⟨g, off, rfl, hg, hc⟩ := hx1 (by omega)
      have hcr := hc k hlt
      have hse := getD_memS hlt
      have hss := hok _ hse
      have hsh := HSS.out _ hse
      obtain ⟨sx, hsx⟩ : ∃ sx, S.getD k ST0 = sx := ⟨_, rfl⟩
      rw [hsx] at hcr hss hsh
      have HRg : Hid (∀ X, Below W1.heap.size W1 X → X.rangeAt g (off + k * 26) (stL sx)) := Lib.hid (fun X hX j u hj => by
        rw [hX.cell (p := ⟨g, off + k * 26 + j, none⟩) hg]
        exact hcr j u hj)
      have HSh := Lib.hid hsh
      have HOk := Lib.hid hss
      have HAct := Lib.hid (act_WO hwo hpk (by omega) hss hsh)
      have HP2 : Hid (PVok (actV V sx) (300 + 301 * (k + 1))) := Lib.hid ((actV_ok hpk sx hsh).mono (by omega))
      have HPk := Lib.hid hpk
      have HVal := Lib.hid hval
      have HVa2 : Hid ((actV V sx).val = b.val) := Lib.hid ((actV_val V sx).trans hval)
      have HNo := Lib.hid hno
      have HR0 := Lib.hid (HRg.out _ hwo.below)
      have HK := Lib.hid hlt
      have hkm : k ≤ 120 := by omega
      have HOl : Hid ((ownU V).length ≤ 100000) := Lib.hid (by have := own_len hpk; omega)
      clear hok hse hss hsh hcr hc hx1 hsx hpk hwo hval hno
      go_upto_region 11 with (first | (refine wpList_load_mid rfl 41 _ rfl g (off + k * 26) rfl _ _ HR0.out Try.underlying41 rfl (Try.sizeSt sx) ?_) | (go_at_call 11; refine HAct.out.mono ?_; rintro e w5 ⟨tv, T5, rfl, _, hwo5⟩; have HW5 := Lib.hid hwo5; clear hwo5))
      clear HAct HR0
      have r5 := HRg.out _ HW5.out.below
      have ck := r5 0 (.int .i64 sx.kind) rfl
      rw [Nat.add_zero] at ck
      clear r5
      go_upto_if 44 with fail
      go_cut [10] (fun ov wx => ∃ (a6 : Option Addr) (c6 : Nat) (X : World), X = wx ∧ ov = .slice a6 (ownU (actV V sx)).length c6 ∧ WO W1 P (actV V sx) [(.slice a6 (ownU (actV V sx)).length c6, ownU (actV V sx))] X ∧ (a6 = none → c6 = 0))
      case first =>
        by_cases k1 : sx.kind = 1
        ·
          as_aux_lemma =>
            have hV2 : actV V sx = hearP V (evP sx) sx.own := by unfold actV; exact if_pos k1
            have HAf : Hid (Calls Try.prog 16 #[.slice ao (ownU V).length co, .int .i64 b.val, .agg (evA sx.ev).toList.toArray, .pointer (some ⟨P, 0, none⟩)] w5.drew fun r w' => ∃ a6 c6, r = .returned (.slice a6 (ownU (actV V sx)).length c6) ∧ WO W1 P (actV V sx) [(.slice a6 (ownU (actV V sx)).length c6, ownU (actV V sx))] w' ∧ (a6 = none → c6 = 0)) := Lib.hid (by
              have hw := HW5.out.drew
              obtain ⟨fp, v1, v2, v3, v4⟩ := id hw
              have hus := HSh.out.us
              have ho1 := HOk.out.on v2
              refine (after_any v1 HP2.out (by omega) _ (ownU V) (v4 _ List.mem_cons_self).1 (fun a c e q => by injection e with p1 p2 p3; rw [← p3]; exact HNo.out (by rw [p1]; exact q)) (by have := HOl.out; omega) sx.ev sx.us sx.ms ho1.ev hus HOk.out.low HOk.out.high b.val).mono ?_
              rintro r w' ⟨rv, rfl, ho⟩
              have he : aftL (plE sx.ev sx.us sx.ms) b.val (lastD (uidsP (actV V sx)) 0) (ownU V) = ownU (actV V sx) := by
                rw [hV2, uids_hear, hear_own HPk.out, HVal.out]; rfl
              rw [he] at ho
              obtain ⟨a6, c6, rfl⟩ := ownI_shape ho
              exact ⟨a6, c6, rfl, (hw.add ho).sub (fun p hp => by rcases List.mem_cons.1 hp with rfl | hp; exact List.mem_cons_self; cases hp), fun q => ownI_nil ho _ _ rfl q⟩)
            have b1 : (sx.kind == 1) = true := by simpa using k1
            have HRe : Hid (w5.drew.rangeAt g (off + k * 26 + 2) (evA sx.ev).toList) := Lib.hid (stL_evs (fun j u hj => (HRg.out _ HW5.out.drew.below) j u hj))
            have cb : w5.drew.cell? ⟨W.heap.size, 1, none⟩ = some (.int .i64 b.val) := by
              have := HBx.out _ HW5.out.drew.below
              rw [cell_of this]
              rfl
            clear hV2 k1
            go_upto_region 12 with fail
            --R Set12--
            refine wp_region_N 9 (fun X => X = w5.drew) (by kernel_rfl) ?_
            refine wpAnyN_take (i := 0) (oi := { dst := some 45, op := Go.Op.move (Go.Operand.tmp 10), type := 30, pos := "outright.go:76", after := #[], guard := none }) (oL := { dst := some 54, op := Go.Op.call { callee := Go.Callee.value (Go.Operand.func 16), args := #[Go.Operand.tmp 45, Go.Operand.tmp 47, Go.Operand.tmp 52, Go.Operand.tmp 53], argTypes := #[30, 3, 38, 28] }, type := 30, pos := "outright.go:76", after := #[{ on := 0, ground := Go.Ground.data }, { on := 2, ground := Go.Ground.data }, { on := 7, ground := Go.Ground.data }, { on := 8, ground := Go.Ground.data }], guard := none }) (v := .slice ao (ownU V).length co) rfl rfl (by kernel_rfl) (by kernel_rfl) (by kernel_rfl) (by kernel_rfl) (fun _ _ _ h => h) (Or.inl ⟨by kernel_rfl, ?_⟩) rfl ?_
            · (intro X hX; subst hX <;> (go_simp; try (with_reducible rfl)))
            (try simp only [Act.put, List.setIfInBounds_toArray, List.set_cons_zero, List.set_cons_succ])
            refine wpAnyN_take (i := 1) (oi := { dst := some 46, op := Go.Op.fieldAddr 24 (Go.Operand.tmp 4) 1, type := 0, pos := "outright.go:76", after := #[], guard := none }) (oL := { dst := some 54, op := Go.Op.call { callee := Go.Callee.value (Go.Operand.func 16), args := #[Go.Operand.tmp 45, Go.Operand.tmp 47, Go.Operand.tmp 52, Go.Operand.tmp 53], argTypes := #[30, 3, 38, 28] }, type := 30, pos := "outright.go:76", after := #[{ on := 0, ground := Go.Ground.data }, { on := 2, ground := Go.Ground.data }, { on := 7, ground := Go.Ground.data }, { on := 8, ground := Go.Ground.data }], guard := none }) (v := .pointer (some ⟨W.heap.size, 1, none⟩)) rfl rfl (by kernel_rfl) (by kernel_rfl) (by kernel_rfl) (by kernel_rfl) (fun _ _ _ h => h) (Or.inl ⟨by kernel_rfl, ?_⟩) rfl ?_
            · (intro X hX; subst hX <;> (go_simp; try (with_reducible rfl)))
            (try simp only [Act.put, List.setIfInBounds_toArray, List.set_cons_zero, List.set_cons_succ])
            refine wpAnyN_take (i := 2) (oi := { dst := some 47, op := Go.Op.load 3 (Go.Operand.tmp 46), type := 3, pos := "outright.go:76", after := #[{ on := 1, ground := Go.Ground.data }], guard := none }) (oL := { dst := some 54, op := Go.Op.call { callee := Go.Callee.value (Go.Operand.func 16), args := #[Go.Operand.tmp 45, Go.Operand.tmp 47, Go.Operand.tmp 52, Go.Operand.tmp 53], argTypes := #[30, 3, 38, 28] }, type := 30, pos := "outright.go:76", after := #[{ on := 0, ground := Go.Ground.data }, { on := 2, ground := Go.Ground.data }, { on := 7, ground := Go.Ground.data }, { on := 8, ground := Go.Ground.data }], guard := none }) (v := .int .i64 b.val) rfl rfl (by kernel_rfl) (by kernel_rfl) (by kernel_rfl) (by kernel_rfl) (fun _ _ _ h => h) (Or.inl ⟨by kernel_rfl, ?_⟩) rfl ?_
            · (intro X hX; subst hX <;> (go_simp; try (with_reducible rfl)))
            (try simp only [Act.put, List.setIfInBounds_toArray, List.set_cons_zero, List.set_cons_succ])
            refine wpAnyN_take (i := 3) (oi := { dst := some 48, op := Go.Op.move (Go.Operand.tmp 3), type := 26, pos := "outright.go:76", after := #[], guard := none }) (oL := { dst := some 54, op := Go.Op.call { callee := Go.Callee.value (Go.Operand.func 16), args := #[Go.Operand.tmp 45, Go.Operand.tmp 47, Go.Operand.tmp 52, Go.Operand.tmp 53], argTypes := #[30, 3, 38, 28] }, type := 30, pos := "outright.go:76", after := #[{ on := 0, ground := Go.Ground.data }, { on := 2, ground := Go.Ground.data }, { on := 7, ground := Go.Ground.data }, { on := 8, ground := Go.Ground.data }], guard := none }) (v := .slice (some ⟨g, off, none⟩) S.length c1) rfl rfl (by kernel_rfl) (by kernel_rfl) (by kernel_rfl) (by kernel_rfl) (fun _ _ _ h => h) (Or.inl ⟨by kernel_rfl, ?_⟩) rfl ?_
            · (intro X hX; subst hX <;> (go_simp; try (with_reducible rfl)))
            (try simp only [Act.put, List.setIfInBounds_toArray, List.set_cons_zero, List.set_cons_succ])
            refine wpAnyN_take (i := 4) (oi := { dst := some 49, op := Go.Op.move (Go.Operand.tmp 11), type := 3, pos := "outright.go:76", after := #[], guard := none }) (oL := { dst := some 54, op := Go.Op.call { callee := Go.Callee.value (Go.Operand.func 16), args := #[Go.Operand.tmp 45, Go.Operand.tmp 47, Go.Operand.tmp 52, Go.Operand.tmp 53], argTypes := #[30, 3, 38, 28] }, type := 30, pos := "outright.go:76", after := #[{ on := 0, ground := Go.Ground.data }, { on := 2, ground := Go.Ground.data }, { on := 7, ground := Go.Ground.data }, { on := 8, ground := Go.Ground.data }], guard := none }) (v := .int .i64 (k : Int)) rfl rfl (by kernel_rfl) (by kernel_rfl) (by kernel_rfl) (by kernel_rfl) (fun _ _ _ h => h) (Or.inl ⟨by kernel_rfl, ?_⟩) rfl ?_
            · (intro X hX; subst hX <;> (go_simp; try (with_reducible rfl)))
            (try simp only [Act.put, List.setIfInBounds_toArray, List.set_cons_zero, List.set_cons_succ])
            refine wpAnyN_take (i := 5) (oi := { dst := some 50, op := Go.Op.indexAddr 26 (Go.Operand.tmp 48) (Go.Operand.tmp 49), type := 0, pos := "outright.go:76", after := #[{ on := 3, ground := Go.Ground.data }, { on := 4, ground := Go.Ground.data }], guard := none }) (oL := { dst := some 54, op := Go.Op.call { callee := Go.Callee.value (Go.Operand.func 16), args := #[Go.Operand.tmp 45, Go.Operand.tmp 47, Go.Operand.tmp 52, Go.Operand.tmp 53], argTypes := #[30, 3, 38, 28] }, type := 30, pos := "outright.go:76", after := #[{ on := 0, ground := Go.Ground.data }, { on := 2, ground := Go.Ground.data }, { on := 7, ground := Go.Ground.data }, { on := 8, ground := Go.Ground.data }], guard := none }) (v := .pointer (some ⟨g, off + k * 26, none⟩)) rfl rfl (by kernel_rfl) (by kernel_rfl) (by kernel_rfl) (by kernel_rfl) (fun _ _ _ h => h) (Or.inl ⟨by kernel_rfl, ?_⟩) rfl ?_
            · (intro X hX; subst hX <;> (go_simp; try (with_reducible rfl)))
            (try simp only [Act.put, List.setIfInBounds_toArray, List.set_cons_zero, List.set_cons_succ])
            refine wpAnyN_take (i := 6) (oi := { dst := some 51, op := Go.Op.fieldAddr 41 (Go.Operand.tmp 50) 2, type := 0, pos := "outright.go:76", after := #[{ on := 5, ground := Go.Ground.data }], guard := none }) (oL := { dst := some 54, op := Go.Op.call { callee := Go.Callee.value (Go.Operand.func 16), args := #[Go.Operand.tmp 45, Go.Operand.tmp 47, Go.Operand.tmp 52, Go.Operand.tmp 53], argTypes := #[30, 3, 38, 28] }, type := 30, pos := "outright.go:76", after := #[{ on := 0, ground := Go.Ground.data }, { on := 2, ground := Go.Ground.data }, { on := 7, ground := Go.Ground.data }, { on := 8, ground := Go.Ground.data }], guard := none }) (v := .pointer (some ⟨g, off + k * 26 + 2, none⟩)) rfl rfl (by kernel_rfl) (by kernel_rfl) (by kernel_rfl) (by kernel_rfl) (fun _ _ _ h => h) (Or.inl ⟨by kernel_rfl, ?_⟩) rfl ?_
            · (intro X hX; subst hX <;> (go_simp; try (with_reducible rfl)))
            (try simp only [Act.put, List.setIfInBounds_toArray, List.set_cons_zero, List.set_cons_succ])
            refine wpAnyN_take (i := 8) (oi := { dst := some 53, op := Go.Op.move (Go.Operand.tmp 9), type := 28, pos := "outright.go:76", after := #[], guard := none }) (oL := { dst := some 54, op := Go.Op.call { callee := Go.Callee.value (Go.Operand.func 16), args := #[Go.Operand.tmp 45, Go.Operand.tmp 47, Go.Operand.tmp 52, Go.Operand.tmp 53], argTypes := #[30, 3, 38, 28] }, type := 30, pos := "outright.go:76", after := #[{ on := 0, ground := Go.Ground.data }, { on := 2, ground := Go.Ground.data }, { on := 7, ground := Go.Ground.data }, { on := 8, ground := Go.Ground.data }], guard := none }) (v := .pointer (some ⟨P, 0, none⟩)) rfl rfl (by kernel_rfl) (by kernel_rfl) (by kernel_rfl) (by kernel_rfl) (fun _ _ _ h => h) (Or.inl ⟨by kernel_rfl, ?_⟩) rfl ?_
            · (intro X hX; subst hX <;> (go_simp; try (with_reducible rfl)))
            (try simp only [Act.put, List.setIfInBounds_toArray, List.set_cons_zero, List.set_cons_succ])
            refine wpAnyN_one (i := 7) (o := { dst := some 52, op := Go.Op.load 38 (Go.Operand.tmp 51), type := 38, pos := "outright.go:76", after := #[{ on := 6, ground := Go.Ground.data }], guard := none }) (by kernel_rfl) rfl (fun K hK => ?_)
            refine wp_load_mid 38 _ rfl g (off + k * 26 + 2) rfl _ _ HRe.out Try.underlying38 rfl (Try.sizeEvL sx.ev) ?_
            refine hK.out _ _ (fun _ => rfl) ?_
            clear hK K
            (try simp only [Act.put, List.setIfInBounds_toArray, List.set_cons_zero, List.set_cons_succ])
            refine wpAnyN_one (i := 9) (o := { dst := some 54, op := Go.Op.call { callee := Go.Callee.value (Go.Operand.func 16), args := #[Go.Operand.tmp 45, Go.Operand.tmp 47, Go.Operand.tmp 52, Go.Operand.tmp 53], argTypes := #[30, 3, 38, 28] }, type := 30, pos := "outright.go:76", after := #[{ on := 0, ground := Go.Ground.data }, { on := 2, ground := Go.Ground.data }, { on := 7, ground := Go.Ground.data }, { on := 8, ground := Go.Ground.data }], guard := none }) (by kernel_rfl) rfl (fun K hK => ?_)
            go_simp
            refine HAf.out.mono ?_
            rintro r w6 ⟨a6, c6, rfl, ho⟩
            have HO6 := Lib.hid ho
            clear ho
            refine hK.out _ _ (fun e => absurd (e.symm.trans (by kernel_rfl) : false = true) Bool.false_ne_true) ?_
            clear hK K
            (try simp only [Act.put, List.setIfInBounds_toArray, List.set_cons_zero, List.set_cons_succ])
            refine wpAnyN_of_H (S' := fun _ => True) _ _ _ _ (by kernel_rfl) ?_
            refine wpAnyH_take (i := 10) (oi := { dst := some 10, op := Go.Op.assign (Go.Operand.tmp 54), type := 30, pos := "outright.go:76", after := #[{ on := 9, ground := Go.Ground.data }, { on := 9, ground := Go.Ground.chain }, { on := 0, ground := Go.Ground.phase }, { on := 1, ground := Go.Ground.phase }, { on := 2, ground := Go.Ground.phase }, { on := 3, ground := Go.Ground.phase }, { on := 4, ground := Go.Ground.phase }, { on := 5, ground := Go.Ground.phase }, { on := 6, ground := Go.Ground.phase }, { on := 7, ground := Go.Ground.phase }, { on := 8, ground := Go.Ground.phase }, { on := 9, ground := Go.Ground.phase }], guard := none }) (v := .slice a6 (ownU (actV V sx)).length c6) rfl (by kernel_rfl) (by kernel_rfl) (by kernel_rfl) (fun _ _ _ h => h) (Or.inl ⟨by kernel_rfl, ?_⟩) trivial ?_
            · (intro X hX; go_simp; try (with_reducible rfl))
            (try simp only [Act.put, List.setIfInBounds_toArray, List.set_cons_zero, List.set_cons_succ])
            refine wpAnyH_done (by kernel_rfl) ?_ _
            --E Set12--
            go_wp2_with fail
            go_meet
            case rel => exact ⟨a6, c6, _, rfl, rfl, HO6.out.1, HO6.out.2⟩
        ·
          as_aux_lemma =>
            have b1 : (sx.kind == 1) = false := by simpa using k1
            have HE := Lib.hid (own_act V sx k1)
            clear k1
            go_wp2_with fail
            go_meet
            case rel => exact ⟨ao, co, _, rfl, by rw [HE.out], by have := HW5.out; rw [HE.out]; exact this, HNo.out⟩
      case rest =>
      obtain ⟨a6, c6, X6, hX6, rfl, hw6, hn6⟩ := hcut
      subst hX6
      have HW6 := Lib.hid hw6
      have HN6 := Lib.hid hn6
      clear hw6 hn6 HW5 ck
      have r6 := HRg.out _ HW6.out.below
      have ck := r6 0 (.int .i64 sx.kind) rfl
      rw [Nat.add_zero] at ck
      have cw := r6 21 (.int .i64 sx.wh) rfl
      clear r6
      by_cases hkw : sx.kind = 2 ∧ sx.wh = 2
      · obtain ⟨q1, q2⟩ := hkw
        have hV2 : actV V sx = takeV V 2 sx.rc := by unfold actV; rw [if_neg (by omega), if_pos q1, q2]
        have HCa : Hid (Calm (actV V sx)) := Lib.hid (by rw [hV2]; exact take_calm V sx.rc)
        rw [q1] at ck
        rw [q2] at cw
        clear q1 q2 hV2 HNo HOl HVal HPk
        generalize actV V sx = V2 at *
        have HE : Hid (ownU V2 = uidsP V2) := Lib.hid HCa.out.own
        have HLn : Hid ((uidsP V2).length ≤ 1000000) := Lib.hid (by
          have := HP2.out.len
          rw [uidsP_length]
          omega)
        have HU := Lib.hid (uids_WO HW6.out HP2.out (by omega))
        go_upto_region 15 with (go_at_call 10; refine HU.out.mono ?_; rintro e w7 ⟨a7, c7, rfl, hw7⟩; have HW7 := Lib.hid hw7; clear hw7)
        clear HU ck cw
        have HT : Hid (∀ K X wh, WO W1 P V2 K X → Calls Try.prog 17 #[.pointer (some ⟨P, 0, none⟩), .int .i64 wh, .int .i64 1] X fun e w' => ∃ a c, e = .returned (.slice a 0 c) ∧ WO W1 P V2 K w') := Lib.hid (fun K X wh q => take_calmW q HP2.out (by omega) HCa.out wh 1)
        have HU2 : Hid (∀ K X, WO W1 P V2 K X → Calls Try.prog 10 #[.pointer (some ⟨P, 0, none⟩)] X fun e w' => ∃ a c, e = .returned (.slice a (uidsP V2).length c) ∧ WO W1 P V2 ((.slice a (uidsP V2).length c, uidsP V2) :: K) w') := Lib.hid (fun K X q => uids_WO q HP2.out (by omega))
        have HAl : Hid (∀ K X a b, WO W1 P V2 K X → (a, uidsP V2) ∈ K → (b, uidsP V2) ∈ K → Calls Try.prog 12 #[a, b] X fun e w' => e = .returned (.bool true) ∧ WO W1 P V2 K w') := Lib.hid (fun K X a b q m1 m2 => alike_WO q m1 m2 HLn.out)
        rw [HE.out] at HW7
        rw [HE.out]
        go_cut [93] (fun c wx => ∃ X, X = wx ∧ c = .bool false ∧ WO W1 P V2 [(.slice a7 (uidsP V2).length c7, uidsP V2), (.slice a6 (uidsP V2).length c6, uidsP V2)] X)
        case first =>
          as_aux_lemma =>
            go_wp2_with (first | (go_at_call 17; first | (refine (HT.out _ _ _ HW7.out).mono ?_; rintro e w8 ⟨a8, c8, rfl, hw8⟩; have HW8 := Lib.hid hw8; clear hw8 HW7) | (refine (HT.out _ _ _ HW8.out).mono ?_; rintro e w9 ⟨a9, c9, rfl, hw9⟩; have HW9 := Lib.hid hw9; clear hw9 HW8)) | (go_at_call 10; refine (HU2.out _ _ HW9.out).mono ?_; rintro e w10 ⟨a10, c10, rfl, hw10⟩; have HW10 := Lib.hid hw10; clear hw10 HW9) | (go_at_call 12; first | (refine (HAl.out _ _ _ _ HW10.out (by simp) (by simp)).mono ?_; rintro e w11 ⟨rfl, hw11⟩; have HW11 := Lib.hid hw11; clear hw11 HW10) | (refine (HAl.out _ _ _ _ HW11.out (by simp) (by simp)).mono ?_; rintro e w12 ⟨rfl, hw12⟩; have HW12 := Lib.hid hw12; clear hw12 HW11)))
            go_meet
            case rel => exact ⟨_, rfl, rfl, HW12.out.sub (fun p hp => List.mem_cons_of_mem _ hp)⟩
        case rest =>
        obtain ⟨X13, hX13, rfl, hw13⟩ := hcut
        subst hX13
        have HW13 := Lib.hid hw13
        clear hw13 HW7 HT HU2 HAl
        go_upto_region 18 with fail
        go_loopw [13] (fun i wq => ∃ (j : Nat) (X : World), X = wq ∧ j ≤ (uidsP V2).length ∧ i = .int .i64 j ∧ WO W1 P V2 [(.slice a7 (uidsP V2).length c7, uidsP V2), (.slice a6 (uidsP V2).length c6, uidsP V2)] X) (fun i _ => (uidsP V2).length - (intOf i).toNat)
        case atStart => exact ⟨0, _, rfl, Nat.zero_le _, rfl, HW13.out⟩
        case round =>
          obtain ⟨j, X14, hX14, hj, rfl, hw14⟩ := hrel
          subst hX14
          have HW14 := Lib.hid hw14
          clear hw14 HW13
          have hjm : (uidsP V2).length ≤ 1000000 := HLn.out
          by_cases hjl : j < (uidsP V2).length
          ·
            as_aux_lemma =>
              have hjli : (j : Int) < ((uidsP V2).length : Int) := by omega
              obtain ⟨a8, c8, e8, hx8⟩ := HW14.out.list (List.mem_cons_self)
              obtain ⟨rfl, rfl⟩ : a8 = a7 ∧ c8 = c7 := by injection e8 with p1 p2 p3; exact ⟨p1.symm, p3.symm⟩
              clear e8
              obtain ⟨g8, o8, rfl, hg8, hc8⟩ := hx8 (by omega)
              have x0 := hc8 j hjl
              have HGo : Hid (Calls Try.prog 18 #[.pointer (some ⟨P, 0, none⟩), .int .i64 ((uidsP V2).getD j 0)] X14 fun e w' => e = .returned (.bool false) ∧ WO W1 P V2 [(.slice (some ⟨g8, o8, none⟩) (uidsP V2).length c8, uidsP V2), (.slice a6 (uidsP V2).length c6, uidsP V2)] w') := Lib.hid (by
                obtain ⟨fp, v1, v2, v3, _⟩ := HW14.out
                have := Gone_W v1 HP2.out (by omega) ((uidsP V2).getD j 0)
                rw [gone_at HP2.out hjl, HCa.out.at (by rw [← uidsP_length]; exact hjl)] at this
                exact this.mono (fun e w' ⟨q1, q2⟩ => ⟨q1, HW14.out.on q2⟩))
              have HJl := Lib.hid hjl
              clear hx8 hc8 hg8
              generalize (uidsP V2).getD j 0 = x at *
              go_wp2_with (go_at_call 18; refine HGo.out.mono ?_; rintro e w15 ⟨rfl, hw15⟩; have HW15 := Lib.hid hw15; clear hw15)
              go_roundw
              case rel => exact ⟨j + 1, _, rfl, by have := HJl.out; omega, by go_num, HW15.out⟩
              case measure => (have := HJl.out; simp [intOf]; omega)
          · obtain rfl : j = (uidsP V2).length := by omega
            as_aux_lemma =>
              go_wp2_with fail
              go_roundw
              case rel => exact ⟨k + 1, V2, a6, c6, _, rfl, by have := HK.out; omega, by rw [HE.out], by go_num, by rw [HE.out]; exact HW14.out.sub (fun p hp => List.mem_cons_of_mem _ hp), HN6.out, HVa2.out, HP2.out⟩
              case measure => (have := HK.out; simp [intOf]; omega)
      ·
        as_aux_lemma =>
          by_cases q1 : sx.kind = 2
          · have q2 : ¬ sx.wh = 2 := fun q => hkw ⟨q1, q⟩
            have b2 : (sx.wh != 2) = true := by simpa using q2
            rw [q1] at ck
            clear hkw q1 q2
            go_wp2_with fail
            go_roundw
            case rel => exact ⟨k + 1, actV V sx, a6, c6, _, rfl, by have := HK.out; omega, rfl, by go_num, HW6.out, HN6.out, HVa2.out, HP2.out⟩
            case measure => (have := HK.out; simp [intOf]; omega)
          · have b2 : (sx.kind != 2) = true := by simpa using q1
            clear hkw q1
            go_wp2_with fail
            go_roundw
            case rel => exact ⟨k + 1, actV V sx, a6, c6, _, rfl, by have := HK.out; omega, rfl, by go_num, HW6.out, HN6.out, HVa2.out, HP2.out⟩
            case measure => (have := HK.out; simp [intOf]; omega)
    · obtain rfl : k = S.length := by omega
      as_aux_lemma =>
        have HKw := Lib.hid (HKn.out X hwo.below)
        clear hwo hpk hno hval
        go_wp2_with (go_at_call 13; refine HKw.out.mono ?_; rintro e w9 ⟨rfl, hb9⟩; have HB9 := Lib.hid hb9; clear hb9)
        go_ret
        exact ⟨rfl, HB9.out⟩
end Go.Proofs.Ytiphbnmnoofpkaa
