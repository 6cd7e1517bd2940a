/- view: what events do: added, copied, expunged, emptied. -/
import Derived.Test.YtflkhnmggmfhfaaGreatQ16l
import Derived.Deep.DeepCutAuto
namespace Go.Proofs.YtflkhnmggmfhfaaGreat
open Go.RowKit

/-- An event as it is handed in. -/
structure EV where
  n : Int
  k : Int
  bx : Int
  tt : Int
  fi : Int
  nm : ByteArray
  vn : Value
  vb : Value
  vu : Value
  vm : Value
  y : Int
  mo : Int
  d : Int
  h : Int
  mi : Int
  s : Int
  z : Int
  bd : ByteArray
def evA (e : EV) : Array Value := #[.int .i64 e.n, .int .i64 e.k, .int .i64 e.bx, .int .i64 e.tt, .int .i64 e.fi, .string e.nm, e.vn, e.vb, e.vu, e.vm, .int .i64 e.y, .int .i64 e.mo, .int .i64 e.d, .int .i64 e.h, .int .i64 e.mi, .int .i64 e.s, .int .i64 e.z, .string e.bd]
theorem evA_cells {X : World} {b : Nat} {e : EV} (h : X.heap[b]? = some (.cells (evA e) 45 (0, 0))) :
    X.cell? ⟨b, 0, none⟩ = some (.int .i64 e.n) ∧ X.cell? ⟨b, 1, none⟩ = some (.int .i64 e.k) ∧ X.cell? ⟨b, 2, none⟩ = some (.int .i64 e.bx) ∧ X.cell? ⟨b, 3, none⟩ = some (.int .i64 e.tt) ∧ X.cell? ⟨b, 4, none⟩ = some (.int .i64 e.fi) ∧ X.cell? ⟨b, 8, none⟩ = some e.vu ∧ X.cell? ⟨b, 9, none⟩ = some e.vm := by
  unfold evA at h
  exact ⟨cell_of h 0, cell_of h 1, cell_of h 2, cell_of h 3, cell_of h 4, cell_of h 8, cell_of h 9⟩
theorem heap_new (w : World) (o : Obj) : (w.alloc o).heap[w.heap.size]? = some o := heap_alloc_new w o
theorem below_box {B : Nat} {w0 w : World} (h : Below B w0 w) (hB : B ≤ w.heap.size) (o : Obj) : Below B w0 (w.alloc o) := h.alloc hB o
section
variable {P : Nat} {mk : Bool} {val : Int} {rv cv : Value} {R : List RE} {C : List Int} {w : World} {N : Nat}
theorem VO.from {fp : List Nat} {W w' : World} (hb : Below w.heap.size w W) (h : VO mk P val R C fp W w') : VO mk P val R C fp w w' := by
  obtain ⟨rv', cv', k1, k2⟩ := h
  exact ⟨rv', cv', k1, (FO.below hb).trans k2⟩
theorem nms_one (W : World) (u : Int) : Nms (W.alloc (.cells #[.int .i64 u] 3)) (.slice (some ⟨W.heap.size, 0, none⟩) 1 1) [u] :=
  ⟨_, 1, rfl, fun _ => ⟨W.heap.size, 0, rfl, by simp, fun i hi => by
    have : i = 0 := by simpa using hi
    subst this
    have hn : (W.alloc (.cells #[.int .i64 u] 3)).heap[W.heap.size]? = some (.cells #[.int .i64 u] 3 (0, 0)) := heap_alloc_new W _
    rw [cell_of hn]
    rfl⟩⟩
theorem new_out {W : World} (h : VAt mk P val rv cv R C W) {v : Value} (hv : ∀ b, v.ownBlock = some b → W.heap.size ≤ b) : ∀ b, v.ownBlock = some b → b ∉ fpV P rv cv R := fun b hb hm => by
  have := h.lt hm
  have := hv b hb
  omega
set_option maxHeartbeats 1000000 in
set_option maxRecDepth 20000 in
theorem added_any (h : VAt mk P val rv cv R C w) (hR : R.length ≤ 1000000) (hC : C.length + 1 ≤ 1000000) (e : EV) (own : Bool) :
    Calls Tryz.prog 45 #[.pointer (some ⟨P, 0, none⟩), .agg (evA e), .bool own] w fun r w' => r = .returned (.tuple #[]) ∧ VO mk P val R (if e.bx = val then come1 (uidR R) C e.fi else C) (fpV P rv cv R) w w' := by
  obtain ⟨W1, hW1⟩ : ∃ W1, w.alloc (.cells (evA e) 45) = W1 := ⟨_, rfl⟩
  have h1 : W1.heap[w.heap.size]? = some (.cells (evA e) 45 (0, 0)) := by rw [← hW1]; exact heap_new _ _
  have hb1 : Below w.heap.size w W1 := by rw [← hW1]; exact below_box (Below.refl _ _) (Nat.le_refl _) _
  obtain ⟨_, _, c2, _, c4, _, _⟩ := evA_cells h1
  have hV1 := h.on hb1
  have d1 := hV1.cells.c1
  by_cases hx : e.bx = val
  · have hxb : (e.bx == val) = true := by simpa using hx
    rw [if_pos hx]
    have hb2 : Below W1.heap.size W1 (W1.drew.alloc (.cells #[.int .i64 e.fi] 3)) := ((Below.refl _ _).drew).alloc (Nat.le_refl _) _
    have hV2 := hV1.on hb2
    have HCm := Lib.hid (come_any hV2 (.slice (some ⟨W1.heap.size, 0, none⟩) 1 1) [e.fi] (nms_one W1.drew e.fi) (fun _ => new_out hV1 (fun b hb => by simp [Value.ownBlock] at hb; omega)) hR (by simpa using hC))
    have HBB := Lib.hid (hb1.trans (hb2.mono hb1.size))
    clear h h1 hb1 hV1 hb2 hV2 hx
    go_enter Tryz.func45, Tryz.ntmps45
    go_upto_region 1 with fail
    (try rw [hW1])
    clear hW1
    go_region
    all_goals
      go_wp2_with (go_at_call 64; refine HCm.out.mono ?_; rintro r w2 ⟨rfl, ho⟩; have HO := Lib.hid ho; clear ho)
      first | refine bodyPost_end (results_none rfl _ _ _) rfl ?_ | refine bodyPost_ret (results_none rfl _ _ _) rfl ?_
      exact ⟨rfl, VO.from HBB.out HO.out⟩
  · have hxb : (e.bx == val) = false := by simpa using hx
    rw [if_neg hx]
    have HO : Hid (VO mk P val R C (fpV P rv cv R) w W1.drew) := Lib.hid ⟨rv, cv, hV1.on (Below.refl _ _).drew, (FO.below hb1).trans (FO.below (Below.refl _ _).drew)⟩
    clear h h1 hb1 hV1 hx
    go_enter Tryz.func45, Tryz.ntmps45
    go_upto_region 1 with fail
    (try rw [hW1])
    clear hW1
    go_region
    all_goals
      go_wp2_with fail
      first | refine bodyPost_end (results_none rfl _ _ _) rfl ?_ | refine bodyPost_ret (results_none rfl _ _ _) rfl ?_
      exact ⟨rfl, HO.out⟩
set_option maxHeartbeats 1000000 in
set_option maxRecDepth 20000 in
theorem copied_any (h : VAt mk P val rv cv R C w) (e : EV) (own : Bool) (us : List Int) (hv : Nms w e.vu us) (hf : -9223372036854775808 ≤ e.fi) (hU : us.length ≤ 1000000) (hR : R.length ≤ 1000000) (hC : C.length + us.length ≤ 1000000) :
    Calls Tryz.prog 48 #[.pointer (some ⟨P, 0, none⟩), .agg (evA e), .bool own] w fun r w' => r = .returned (.tuple #[]) ∧ VO mk P val R (if e.tt = val then comesC (uidR R) C (fol e.fi us.length) else C) (fpV P rv cv R) w w' := by
  obtain ⟨W1, hW1⟩ : ∃ W1, w.alloc (.cells (evA e) 45) = W1 := ⟨_, rfl⟩
  have h1 : W1.heap[w.heap.size]? = some (.cells (evA e) 45 (0, 0)) := by rw [← hW1]; exact heap_new _ _
  have hb1 : Below w.heap.size w W1 := by rw [← hW1]; exact below_box (Below.refl _ _) (Nat.le_refl _) _
  obtain ⟨_, _, _, c3, c4, c8, _⟩ := evA_cells h1
  have hV1 := h.on hb1
  have d1 := hV1.cells.c1
  by_cases hx : e.tt = val
  · have hxb : (e.tt == val) = true := by simpa using hx
    rw [if_pos hx]
    have HFo := Lib.hid (following_any e.fi us.length W1.drew hf hU)
    obtain ⟨au, ku, hvu, _⟩ := hv
    rw [hvu] at c8
    have HCm : Hid (∀ v W, OwnI W1.drew.heap.size v (fol e.fi us.length) W1.drew W → Calls Tryz.prog 64 #[.pointer (some ⟨P, 0, none⟩), v] W fun r w' => r = .returned (.tuple #[]) ∧ VO mk P val R (comesC (uidR R) C (fol e.fi us.length)) (fpV P rv cv R) w w') := Lib.hid (fun v W ho => by
      have hbW : Below W1.heap.size W1 W := ⟨ho.below.os, ho.below.tape, ho.below.output, ho.below.size, ho.below.block⟩
      have hl := fol_length us.length e.fi
      refine (come_any (hV1.on hbW) v _ (nms_of ho.row) (fun _ => new_out hV1 (fun b hb => (ho.row.lt b hb).1)) hR (by omega)).mono ?_
      rintro r w' ⟨q1, q2⟩
      exact ⟨q1, VO.from (hb1.trans (hbW.mono hb1.size)) q2⟩)
    clear h h1 hb1 hV1 hx hvu
    go_enter Tryz.func48, Tryz.ntmps48
    go_upto_region 1 with fail
    (try rw [hW1])
    clear hW1
    go_region
    all_goals
      go_wp2_with (first | (go_at_call 68; refine HFo.out.mono ?_; rintro r w3 ⟨v3, rfl, ho3⟩; have HO3 := Lib.hid ho3; clear ho3) | (go_at_call 64; refine (HCm.out _ _ HO3.out).mono ?_; rintro r w2 ⟨rfl, ho⟩; have HO := Lib.hid ho; clear ho))
      first | refine bodyPost_end (results_none rfl _ _ _) rfl ?_ | refine bodyPost_ret (results_none rfl _ _ _) rfl ?_
      exact ⟨rfl, HO.out⟩
  · have hxb : (e.tt == val) = false := by simpa using hx
    rw [if_neg hx]
    have HO : Hid (VO mk P val R C (fpV P rv cv R) w W1.drew) := Lib.hid ⟨rv, cv, hV1.on (Below.refl _ _).drew, (FO.below hb1).trans (FO.below (Below.refl _ _).drew)⟩
    clear h h1 hb1 hV1 hx
    go_enter Tryz.func48, Tryz.ntmps48
    go_upto_region 1 with fail
    (try rw [hW1])
    clear hW1
    go_region
    all_goals
      go_wp2_with fail
      first | refine bodyPost_end (results_none rfl _ _ _) rfl ?_ | refine bodyPost_ret (results_none rfl _ _ _) rfl ?_
      exact ⟨rfl, HO.out⟩
set_option maxHeartbeats 1000000 in
set_option maxRecDepth 20000 in
theorem expunged_any (h : VAt mk P val rv cv R C w) (hk : VOK R C N) (hN : N ≤ 1000000) (e : EV) (own : Bool) (us : List Int) (hv : Nms w e.vu us) (hn : 0 < us.length → ∀ b, e.vu.ownBlock = some b → b ∉ fpV P rv cv R) (hU : us.length ≤ 1000000) :
    Calls Tryz.prog 47 #[.pointer (some ⟨P, 0, none⟩), .agg (evA e), .bool own] w fun r w' => r = .returned (.tuple #[]) ∧ VO mk P val (if e.bx = val then lvR R us else R) (if e.bx = val then lvC C us else C) (fpV P rv cv R) w w' := by
  obtain ⟨W1, hW1⟩ : ∃ W1, w.alloc (.cells (evA e) 45) = W1 := ⟨_, rfl⟩
  have h1 : W1.heap[w.heap.size]? = some (.cells (evA e) 45 (0, 0)) := by rw [← hW1]; exact heap_new _ _
  have hb1 : Below w.heap.size w W1 := by rw [← hW1]; exact below_box (Below.refl _ _) (Nat.le_refl _) _
  obtain ⟨_, _, c2, _, _, c8, _⟩ := evA_cells h1
  have hV1 := h.on hb1
  have d1 := hV1.cells.c1
  by_cases hx : e.bx = val
  · have hxb : (e.bx == val) = true := by simpa using hx
    rw [if_pos hx, if_pos hx]
    have hbd : Below w.heap.size w W1.drew := hb1.drew
    have HLv := Lib.hid ((leave_any (hV1.on (Below.refl _ _).drew) hk hN e.vu us (hv.on hbd) hn hU).mono (fun r w' ⟨q1, q2⟩ => (⟨q1, VO.from hbd q2⟩ : _ ∧ VO mk P val (lvR R us) (lvC C us) (fpV P rv cv R) w w')))
    clear h h1 hb1 hV1 hx hv hn hbd hk
    go_enter Tryz.func47, Tryz.ntmps47
    go_upto_region 1 with fail
    (try rw [hW1])
    clear hW1
    go_region
    all_goals
      go_wp2_with (go_at_call 67; refine HLv.out.mono ?_; rintro r w2 ⟨rfl, ho⟩; have HO := Lib.hid ho; clear ho)
      first | refine bodyPost_end (results_none rfl _ _ _) rfl ?_ | refine bodyPost_ret (results_none rfl _ _ _) rfl ?_
      exact ⟨rfl, HO.out⟩
  · have hxb : (e.bx == val) = false := by simpa using hx
    rw [if_neg hx, if_neg hx]
    have HO : Hid (VO mk P val R C (fpV P rv cv R) w W1.drew) := Lib.hid ⟨rv, cv, hV1.on (Below.refl _ _).drew, (FO.below hb1).trans (FO.below (Below.refl _ _).drew)⟩
    clear h h1 hb1 hV1 hx
    go_enter Tryz.func47, Tryz.ntmps47
    go_upto_region 1 with fail
    (try rw [hW1])
    clear hW1
    go_region
    all_goals
      go_wp2_with fail
      first | refine bodyPost_end (results_none rfl _ _ _) rfl ?_ | refine bodyPost_ret (results_none rfl _ _ _) rfl ?_
      exact ⟨rfl, HO.out⟩
set_option maxHeartbeats 1000000 in
set_option maxRecDepth 20000 in
theorem emptied_any (h : VAt mk P val rv cv R C w) (hk : VOK R C N) (hN : N ≤ 1000000) (e : EV) (own : Bool)  :
    Calls Tryz.prog 44 #[.pointer (some ⟨P, 0, none⟩), .agg (evA e), .bool own] w fun r w' => r = .returned (.tuple #[]) ∧ VO mk P val (if e.bx = val then lvR R (uidR R) else R) (if e.bx = val then [] else C) (fpV P rv cv R) w w' := by
  obtain ⟨W1, hW1⟩ : ∃ W1, w.alloc (.cells (evA e) 45) = W1 := ⟨_, rfl⟩
  have h1 : W1.heap[w.heap.size]? = some (.cells (evA e) 45 (0, 0)) := by rw [← hW1]; exact heap_new _ _
  have hb1 : Below w.heap.size w W1 := by rw [← hW1]; exact below_box (Below.refl _ _) (Nat.le_refl _) _
  obtain ⟨_, _, c2, _, _, _, _⟩ := evA_cells h1
  have hV1 := h.on hb1
  have d1 := hV1.cells.c1
  by_cases hx : e.bx = val
  · have hxb : (e.bx == val) = true := by simpa using hx
    rw [if_pos hx, if_pos hx]
    have hbd : Below w.heap.size w W1.drew := hb1.drew
    have hlen := hk.len
    have HUi := Lib.hid (Uids_any (hV1.on (Below.refl _ _).drew) (by omega))
    have HLv : Hid (∀ v W, OwnI W1.drew.heap.size v (uidR R) W1.drew W → Calls Tryz.prog 67 #[.pointer (some ⟨P, 0, none⟩), v] W fun r w' => r = .returned (.tuple #[]) ∧ w'.cell? ⟨P, 3, none⟩ ≠ none ∧ w'.frozen? ⟨P, 3, none⟩ = false ∧ VO mk P val (lvR R (uidR R)) [] (fpV P rv cv R) w (w'.setCell ⟨P, 3, none⟩ (.slice none 0 0))) := Lib.hid (fun v W ho => by
      have hbW : Below W1.heap.size W1 W := ⟨ho.below.os, ho.below.tape, ho.below.output, ho.below.size, ho.below.block⟩
      refine (leave_any (hV1.on hbW) hk hN v _ (nms_of ho.row) (fun _ => new_out hV1 (fun b hb => (ho.row.lt b hb).1)) (by rw [uidR_length]; omega)).mono ?_
      rintro r w' ⟨q1, rv', cv', q2, q3⟩
      obtain ⟨y1, y2⟩ := q2.noC
      exact ⟨q1, by rw [q2.cells.c3]; simp, q2.cells.f3, _, _, y1, ((FO.below (hb1.trans (hbW.mono hb1.size))).trans q3).trans y2⟩)
    clear h h1 hb1 hV1 hx hbd hk
    go_enter Tryz.func44, Tryz.ntmps44
    go_upto_region 1 with fail
    (try rw [hW1])
    clear hW1
    go_region
    all_goals
      go_wp2_with (first | (go_at_call 7; refine HUi.out.mono ?_; rintro r w3 ⟨v3, rfl, ho3⟩; have HO3 := Lib.hid ho3; clear ho3) | (go_at_call 67; refine (HLv.out _ _ HO3.out).mono ?_; rintro r w2 ⟨rfl, hc, hf, ho⟩; obtain ⟨cx, hcx⟩ := Option.ne_none_iff_exists'.1 hc; have HO := Lib.hid ho; clear ho hc))
      first | refine bodyPost_end (results_none rfl _ _ _) rfl ?_ | refine bodyPost_ret (results_none rfl _ _ _) rfl ?_
      exact ⟨rfl, HO.out⟩
  · have hxb : (e.bx == val) = false := by simpa using hx
    rw [if_neg hx, if_neg hx]
    have HO : Hid (VO mk P val R C (fpV P rv cv R) w W1.drew) := Lib.hid ⟨rv, cv, hV1.on (Below.refl _ _).drew, (FO.below hb1).trans (FO.below (Below.refl _ _).drew)⟩
    clear h h1 hb1 hV1 hx
    go_enter Tryz.func44, Tryz.ntmps44
    go_upto_region 1 with fail
    (try rw [hW1])
    clear hW1
    go_region
    all_goals
      go_wp2_with fail
      first | refine bodyPost_end (results_none rfl _ _ _) rfl ?_ | refine bodyPost_ret (results_none rfl _ _ _) rfl ?_
      exact ⟨rfl, HO.out⟩
end
end Go.Proofs.YtflkhnmggmfhfaaGreat

/- view: moved. -/
namespace Go.Proofs.YtflkhnmggmfhfaaGreat
open Go.RowKit

theorem Tryz.sizeEvA (e : EV) : (Tryz.prog.info? 45).map (·.size) = some (evA e).size := by kernel_rfl
theorem VOK.come1 {R : List RE} {C : List Int} {N : Nat} (h : VOK R C N) (u : Int) : VOK R (come1 (uidR R) C u) (N + 1) := by
  unfold Go.Proofs.YtflkhnmggmfhfaaGreat.come1
  split
  · rename_i hu
    refine ⟨?_, ?_, ?_⟩
    · rw [← List.append_assoc, riseF_append]
      refine ⟨h.rise, ?_, trivial⟩
      rw [lastD_append]
      exact hu.1
    · intro x hx
      rw [← List.append_assoc, List.mem_append] at hx
      rcases hx with hx | hx
      · exact h.top x hx
      · simp at hx; omega
    · have := h.len
      simp only [List.length_append, List.length_cons, List.length_nil]; omega
  · exact ⟨h.rise, h.top, by have := h.len; omega⟩
theorem VOK.comes {R : List RE} : ∀ {us C : List Int} {N : Nat}, VOK R C N → VOK R (comesC (uidR R) C us) (N + us.length)
  | [], _, _, h => h
  | u :: us, _, _, h => by
    have := VOK.comes (us := us) (h.come1 u)
    refine ⟨this.rise, this.top, ?_⟩
    have := this.len
    simp only [List.length_cons]
    show R.length + (comesC (uidR R) (Go.Proofs.YtflkhnmggmfhfaaGreat.come1 (uidR R) _ u) us).length ≤ _
    omega
section
variable {P : Nat} {mk : Bool} {val : Int} {rv cv : Value} {R : List RE} {C : List Int} {w : World} {N : Nat}
set_option maxHeartbeats 1000000 in
set_option maxRecDepth 20000 in
theorem moved_any (h : VAt mk P val rv cv R C w) (hk : VOK R C N) (e : EV) (own : Bool) (us : List Int) (hv : Nms w e.vu us) (hvl : 0 < us.length → ∀ b, e.vu.ownBlock = some b → b < w.heap.size ∧ b ∉ fpV P rv cv R) (hf : -9223372036854775808 ≤ e.fi) (hU : us.length ≤ 1000000) (hN : N + us.length ≤ 1000000) :
    Calls Tryz.prog 49 #[.pointer (some ⟨P, 0, none⟩), .agg (evA e), .bool own] w fun r w' => r = .returned (.tuple #[]) ∧ VO mk P val (if e.bx = val then lvR R us else R) (if e.bx = val then lvC (if e.tt = val then comesC (uidR R) C (fol e.fi us.length) else C) us else (if e.tt = val then comesC (uidR R) C (fol e.fi us.length) else C)) (fpV P rv cv R) w w' := by
  obtain ⟨W1, hW1⟩ : ∃ W1, w.alloc (.cells (evA e) 45) = W1 := ⟨_, rfl⟩
  have h1 : W1.heap[w.heap.size]? = some (.cells (evA e) 45 (0, 0)) := by rw [← hW1]; exact heap_new _ _
  have hb1 : Below w.heap.size w W1 := by rw [← hW1]; exact below_box (Below.refl _ _) (Nat.le_refl _) _
  have hV1 := h.on hb1
  have hlen := hk.len
  have hfl := fol_length us.length e.fi
  have HCo := Lib.hid (copied_any hV1 e own us (hv.on hb1) hf hU (by omega) (by omega))
  have hk2 : VOK R (if e.tt = val then comesC (uidR R) C (fol e.fi us.length) else C) (N + us.length) := by
    split
    · have := hk.comes (us := fol e.fi us.length)
      exact ⟨this.rise, this.top, by have := this.len; omega⟩
    · exact ⟨hk.rise, hk.top, by omega⟩
  generalize (if e.tt = val then comesC (uidR R) C (fol e.fi us.length) else C) = C2 at *
  have HEx : Hid (∀ W, VO mk P val R C2 (fpV P rv cv R) W1 W → W.heap[w.heap.size]? = some (.cells (evA e) 45 (0, 0)) ∧ Calls Tryz.prog 47 #[.pointer (some ⟨P, 0, none⟩), .agg (evA e), .bool own] W fun r w' => r = .returned (.tuple #[]) ∧ VO mk P val (if e.bx = val then lvR R us else R) (if e.bx = val then lvC C2 us else C2) (fpV P rv cv R) w w') := Lib.hid (fun W ⟨rv2, cv2, q1, q2⟩ => by
    have hz : w.heap.size < W1.heap.size := lt_of_heap h1
    refine ⟨by rw [q2.keep hz (fun hm => by have := h.lt hm; omega)]; exact h1, ?_⟩
    refine (expunged_any q1 hk2 hN e own us ((hv.on hb1).past q2 (fun h0 b hb => (hvl h0 b hb).2)) (fun h0 b hb => q2.out (by have := (hvl h0 b hb).1; have := hb1.size; omega) (hvl h0 b hb).2) hU).mono ?_
    rintro r w' ⟨y1, y2⟩
    refine ⟨y1, ?_⟩
    obtain ⟨rv3, cv3, z1, z2⟩ := y2
    exact ⟨rv3, cv3, z1, ((FO.below hb1).trans q2).trans z2⟩)
  have H1 := Lib.hid h1
  clear h h1 hb1 hV1 hk hk2 hv hvl hlen hfl
  generalize (if e.bx = val then lvR R us else R) = R3 at *
  generalize (if e.bx = val then lvC C2 us else C2) = C3 at *
  go_enter Tryz.func49, Tryz.ntmps49
  go_upto_region 1 with fail
  (try rw [hW1])
  clear hW1
  go_wp2_with (first | (go_at_call 48; refine HCo.out.mono ?_; rintro r w2 ⟨rfl, ho⟩; obtain ⟨y1, y2⟩ := HEx.out _ ho; have Y1 := Lib.hid y1; have Y2 := Lib.hid y2; clear y1 y2 ho HCo) | (go_at_call 47; refine Y2.out.mono ?_; rintro r w3 ⟨rfl, ho⟩; have HO := Lib.hid ho; clear ho) | (have hq := Y1; clear hq; refine wpList_load_row rfl 45 _ rfl w.heap.size rfl 45 _ (0, 0) _ Y1.out Tryz.underlying45 rfl (Tryz.sizeEvA e) ?_) | (refine wpList_load_row rfl 45 _ rfl w.heap.size rfl 45 _ (0, 0) _ H1.out Tryz.underlying45 rfl (Tryz.sizeEvA e) ?_))
  first | refine bodyPost_end (results_none rfl _ _ _) rfl ?_ | refine bodyPost_ret (results_none rfl _ _ _) rfl ?_
  exact ⟨rfl, HO.out⟩
end
end Go.Proofs.YtflkhnmggmfhfaaGreat

/- view: flags that are copied; flagged. -/
namespace Go.Proofs.YtflkhnmggmfhfaaGreat
open Go.RowKit

theorem Tryz.infoText : (Tryz.prog.info? 9).map (fun i => (i.zero, i.size, i.bytes)) = some (some (.string ⟨#[]⟩), 1, 16) := by kernel_rfl
/-- A mark, as it lies in memory. -/
structure ME where
  uid : Int
  fa : Option Addr
  fc : Nat
  fl : List ByteArray
def ME.fv (m : ME) : Value := .slice m.fa m.fl.length m.fc
def ME.pl (m : ME) : Int × List ByteArray := (m.uid, m.fl)
structure FlAt (w : World) (m : ME) : Prop where
  none : m.fa = none → m.fl = [] ∧ m.fc = 0
  len : m.fl.length ≤ 8796093022208
  cells : m.fl ≠ [] → ∃ b off, m.fa = some ⟨b, off, .none⟩ ∧ b < w.heap.size ∧ ∀ i, i < m.fl.length → w.cell? ⟨b, off + i, .none⟩ = some (.string (m.fl.getD i ByteArray.empty))
theorem FlAt.hold {w w' : World} {m : ME} (h : FlAt w m) (hz : w.heap.size ≤ w'.heap.size) (hs : m.fl ≠ [] → ∀ b, m.fv.ownBlock = some b → b < w.heap.size → w'.heap[b]? = w.heap[b]?) : FlAt w' m := by
  refine ⟨h.none, h.len, fun hl => ?_⟩
  obtain ⟨b, off, e, hb, hc⟩ := h.cells hl
  refine ⟨b, off, e, by omega, fun i hi => ?_⟩
  rw [World.cell?_of_block (a := ⟨b, off + i, .none⟩) (hs hl b (by simp [ME.fv, e, Value.ownBlock]) hb)]
  exact hc i hi
theorem copy_run {X : World} {m : ME} (h : FlAt X m) : ∃ a c w', (Builtin.append_ #[41, 41] 41 #[.slice none 0 0, m.fv]).run Tryz.prog X = .ok (.slice a m.fl.length c) w' ∧ w'.ownsRow 0 9 1 (.slice a m.fl.length c) m.fl.length (tcs m.fl) ∧ Below X.heap.size X w' ∧ ∀ b, (Value.slice a m.fl.length c).ownBlock = some b → X.heap.size ≤ b := by
  obtain ⟨i0, hi0, hz0, hz1, hz2⟩ := info_parts' Tryz.infoText
  cases hfa : m.fa with
  | none =>
    obtain ⟨e1, e2⟩ := h.none hfa
    have hr := run_append_owned_none (P := Tryz.prog) X 0 41 41 9 i0 1 Tryz.underlying41 hi0 (.slice none 0 0) 0 [] (World.ownsRow_nil _ _ _ _)
    refine ⟨none, 0, X, ?_, ?_, Below.refl _ _, fun b hb => by cases hb⟩
    · unfold ME.fv
      rw [hfa, e1, e2]
      exact hr
    · rw [e1]; exact World.ownsRow_nil _ _ _ _
  | some ad =>
    obtain ⟨v', W3, hrun, hrow, hgr, _, hat⟩ := run_append_own_at (P := Tryz.prog) X 0 41 41 9 i0 (.string ⟨#[]⟩) 1 16 Tryz.underlying41 hi0 hz0 hz1 hz2 rfl (by decide) (.slice none 0 0) 0 [] (World.ownsRow_nil _ _ _ _) ad m.fl.length m.fc (tcs m.fl) (by rw [tcs_length]; omega) (by
      intro j u hj
      have hjl : j < m.fl.length := by have := (List.getElem?_eq_some_iff.1 hj).1; rw [tcs_length] at this; exact this
      obtain ⟨b, off, e, hb, hc⟩ := h.cells (fun e => by rw [e] at hjl; simp at hjl)
      rw [hfa] at e
      cases e
      rw [tcs_at m.fl j hjl] at hj
      rw [Addr.add_lit, hc j hjl]
      exact hj) (tcs_one _) (by have := h.len; unfold maxLen; omega) (by have := h.len; omega) (Nat.zero_le _)
    rw [Nat.zero_add, List.nil_append] at hrow
    obtain ⟨a, c, rfl⟩ := ownsRow_shape hrow
    refine ⟨a, c, W3, ?_, hrow, ⟨hgr.os, hgr.tape, hgr.output, hgr.size, fun b hb => hgr.block b hb (by simp [Value.ownBlock])⟩, fun b hb => ?_⟩
    · unfold ME.fv
      rw [hfa]
      exact hrun
    · rcases hat with hat | hat
      · rw [hat] at hb; cases hb
      · rw [hat] at hb; simp at hb; omega
/-- Marks in memory. -/
structure MksAt (w : World) (v : Value) (ms : List ME) : Prop where
  row : ∃ a c, v = .slice a ms.length c ∧ (0 < ms.length → ∃ g off, a = some ⟨g, off, none⟩ ∧ g < w.heap.size ∧ ∀ i, i < ms.length → w.cell? ⟨g, off + i * 2, none⟩ = some (.int .i64 (ms.getD i ⟨0, none, 0, []⟩).uid) ∧ w.cell? ⟨g, off + i * 2 + 1, none⟩ = some (ms.getD i ⟨0, none, 0, []⟩).fv)
  fls : ∀ m ∈ ms, FlAt w m
def MksOut (fp : List Nat) (v : Value) (ms : List ME) : Prop := (0 < ms.length → ∀ b, v.ownBlock = some b → b ∉ fp) ∧ ∀ m ∈ ms, m.fl ≠ [] → ∀ b, m.fv.ownBlock = some b → b ∉ fp
theorem MksAt.hold {w w' : World} {v : Value} {ms : List ME} (h : MksAt w v ms) (hz : w.heap.size ≤ w'.heap.size) (hs : 0 < ms.length → ∀ b, v.ownBlock = some b → b < w.heap.size → w'.heap[b]? = w.heap[b]?) (hs2 : ∀ m ∈ ms, m.fl ≠ [] → ∀ b, m.fv.ownBlock = some b → b < w.heap.size → w'.heap[b]? = w.heap[b]?) : MksAt w' v ms := by
  obtain ⟨⟨a, c, rfl, h1⟩, h2⟩ := h
  refine ⟨⟨a, c, rfl, fun hl => ?_⟩, fun m hm => (h2 m hm).hold hz (hs2 m hm)⟩
  obtain ⟨g, off, rfl, hg, hc⟩ := h1 hl
  refine ⟨g, off, rfl, by omega, fun i hi => ?_⟩
  rw [World.cell?_of_block (a := ⟨g, off + i * 2, none⟩) (hs hl g rfl hg), World.cell?_of_block (a := ⟨g, off + i * 2 + 1, none⟩) (hs hl g rfl hg)]
  exact hc i hi
theorem MksAt.on {w w' : World} {v : Value} {ms : List ME} (h : MksAt w v ms) (hb : Below w.heap.size w w') : MksAt w' v ms := h.hold hb.size (fun _ b _ hl => hb.block b hl) (fun _ _ _ b _ hl => hb.block b hl)
theorem MksAt.past {f f' : List Nat} {w w' : World} {v : Value} {ms : List ME} (h : MksAt w v ms) (hf : FO f f' w w') (hn : MksOut f v ms) : MksAt w' v ms := h.hold hf.1.size (fun h0 b e hl => hf.keep hl (hn.1 h0 b e)) (fun m hm hne b e hl => hf.keep hl (hn.2 m hm hne b e))

theorem turn_hit {R : List RE} {m0 : Int} (hr : riseF m0 (uidR R)) {u : Int} (hu : u ∈ uidR R) (t : TE) (own : Bool) (hg : (R.getD (ixP (uidR R) u) RE0).gone = false) (ho : own = false ∨ (R.getD (ixP (uidR R) u) RE0).tn.isSome = true) :
    (R.set (ixP (uidR R) u) (turnE t (R.getD (ixP (uidR R) u) RE0))).map RE.pl = (R.map RE.pl).map (turnR t.num own (u, t.fl)) := by
  have hm := ixP_mem hr hu
  have hdis : ∀ r ∈ R, r.uid = u → r = R.getD (ixP (uidR R) u) RE0 := fun r hr' e => by
    obtain ⟨j, hj, rfl⟩ := List.mem_iff_getElem.1 hr'
    have h1 := (ixP_mem hr hu).1
    rw [uidR_length] at h1
    have hu1 : (uidR R).getD j 0 = u := by rw [uidR_at, List.getD_eq_getElem?_getD, List.getElem?_eq_getElem hj]; exact e
    have hj2 : j = ixP (uidR R) u := by
      rcases Nat.lt_trichotomy j (ixP (uidR R) u) with h | h | h
      · have := riseF_getD hr j (ixP (uidR R) u) h hm.1; omega
      · exact h
      · have := riseF_getD hr (ixP (uidR R) u) j h (by rw [uidR_length]; exact hj); omega
    subst hj2
    rw [List.getD_eq_getElem?_getD, List.getElem?_eq_getElem hj]
    rfl
  rw [map_hit (f := turnE t) hr hu, List.map_map, List.map_map]
  apply List.map_congr_left
  intro r hr'
  simp only [Function.comp]
  unfold atU turnR
  by_cases e : r.uid = u
  · have er := hdis r hr' e
    rw [if_pos e, if_pos ⟨e, by rw [er]; exact hg, by
      rcases ho with ho | ho
      · exact .inl ho
      · right
        rw [er]
        show (Option.map TE.pl (R.getD (ixP (uidR R) u) RE0).tn).isSome = true
        rw [Option.isSome_map]; exact ho⟩]
    rfl
  · rw [if_neg e, if_neg (fun h => e h.1)]
theorem turn_no {R : List RE} {u : Int} {n : Int} {own : Bool} {fl : List ByteArray} (h : ∀ r ∈ R, r.uid = u → r.gone = true ∨ (own = true ∧ r.tn = none)) : (R.map RE.pl).map (turnR n own (u, fl)) = R.map RE.pl := by
  rw [List.map_map]
  apply List.map_congr_left
  intro r hr
  simp only [Function.comp]
  unfold turnR
  rw [if_neg]
  rintro ⟨e, hg, ho⟩
  rcases h r hr e with h | ⟨h1, h2⟩
  · have : r.gone = false := hg
    rw [h] at this; cases this
  · rcases ho with ho | ho
    · rw [h1] at ho; cases ho
    · have : (Option.map TE.pl r.tn).isSome = true := ho
      rw [h2] at this; cases this
theorem at_ix {R : List RE} {m0 : Int} (hr : riseF m0 (uidR R)) {u : Int} {r : RE} (hr' : r ∈ R) (e : r.uid = u) : r = R.getD (ixP (uidR R) u) RE0 := by
  have hu : u ∈ uidR R := e ▸ List.mem_map_of_mem hr'
  have hm := ixP_mem hr hu
  obtain ⟨j, hj, rfl⟩ := List.mem_iff_getElem.1 hr'
  have hu1 : (uidR R).getD j 0 = u := by rw [uidR_at, List.getD_eq_getElem?_getD, List.getElem?_eq_getElem hj]; exact e
  have hj2 : j = ixP (uidR R) u := by
    rcases Nat.lt_trichotomy j (ixP (uidR R) u) with h | h | h
    · have := riseF_getD hr j (ixP (uidR R) u) h hm.1; omega
    · exact h
    · have := riseF_getD hr (ixP (uidR R) u) j h (by rw [uidR_length]; exact hj); omega
  subst hj2
  rw [List.getD_eq_getElem?_getD, List.getElem?_eq_getElem hj]
  rfl
end Go.Proofs.YtflkhnmggmfhfaaGreat

/- view: flagged. -/
namespace Go.Proofs.YtflkhnmggmfhfaaGreat
open Go.RowKit

def ME0 : ME := ⟨0, none, 0, []⟩
def foldM (n : Int) (own : Bool) (ms : List ME) (l : List PR) : List PR := (ms.map ME.pl).foldl (fun l m => l.map (turnR n own m)) l
theorem foldM_snoc (n : Int) (own : Bool) (ms : List ME) (m : ME) (l : List PR) : foldM n own (ms ++ [m]) l = (foldM n own ms l).map (turnR n own m.pl) := by simp [foldM]
theorem take_snocM (ms : List ME) (k : Nat) (hk : k < ms.length) : ms.take (k + 1) = ms.take k ++ [ms.getD k ME0] := by
  rw [List.take_succ_eq_append_getElem hk]; simp [hk]
section
variable {P : Nat} {mk : Bool} {val : Int} {rv cv : Value} {R : List RE} {C : List Int} {w : World} {N : Nat}
set_option maxHeartbeats 1000000 in
set_option maxRecDepth 20000 in
theorem flagged_any (h : VAt mk P val rv cv R C w) (hk : VOK R C N) (hN : N ≤ 1000000) (e : EV) (own : Bool) (ms : List ME) (hm : MksAt w e.vm ms) (hout : MksOut (fpV P rv cv R) e.vm ms) (hM : ms.length ≤ 1000000) :
    Calls Tryz.prog 46 #[.pointer (some ⟨P, 0, none⟩), .agg (evA e), .bool own] w fun r w' => r = .returned (.tuple #[]) ∧ ∃ R', VO mk P val R' C (fpV P rv cv R) w w' ∧ R'.map RE.pl = (if e.bx = val then foldM e.n own ms (R.map RE.pl) else R.map RE.pl) ∧ uidR R' = uidR R := by
  obtain ⟨W1, hW1⟩ : ∃ W1, w.alloc (.cells (evA e) 45) = W1 := ⟨_, rfl⟩
  have h1 : W1.heap[w.heap.size]? = some (.cells (evA e) 45 (0, 0)) := by rw [← hW1]; exact heap_new _ _
  have hb1 : Below w.heap.size w W1 := by rw [← hW1]; exact below_box (Below.refl _ _) (Nat.le_refl _) _
  obtain ⟨_, _, c2, _, _, _, c9⟩ := evA_cells h1
  have hV1 := h.on hb1
  have d1 := hV1.cells.c1
  by_cases hx : e.bx = val
  · have hxb : (e.bx != val) = false := by simpa using hx
    rw [if_pos hx]
    have hwz : w.heap.size < W1.heap.size := lt_of_heap h1
    have hmW := hm.on hb1
    obtain ⟨am, cm, hvm, hmr⟩ := hmW.row
    rw [hvm] at c9
    have HMR := Lib.hid hmr
    have HFL := Lib.hid hmW.fls
    have HOut := Lib.hid hout
    have HVM := Lib.hid hvm
    have HK := Lib.hid hk
    have H1 := Lib.hid h1
    have HB1 := Lib.hid hb1
    have HEO : Hid (w.heap.size ∉ fpV P rv cv R) := Lib.hid (fun hm => by have := h.lt hm; omega)
    have H0 : Hid (VO mk P val R C (fpV P rv cv R) W1 W1.drew) := Lib.hid ⟨rv, cv, hV1.on (Below.refl _ _).drew, FO.below (Below.refl _ _).drew⟩
    clear h hm hout h1 hb1 hV1 hx hmW hmr hvm hk
    go_enter Tryz.func46, Tryz.ntmps46
    go_upto_region 1 with fail
    (try rw [hW1])
    clear hW1
    go_region
    go_wp2_with fail
    clear c2 c9 d1 hxb
    go_loopw [20] (fun i wr => ∃ (k : Nat) (R1 : List RE), k ≤ ms.length ∧ i = .int .i64 k ∧ VO mk P val R1 C (fpV P rv cv R) W1 wr ∧ Hid (R1.map RE.pl = foldM e.n own (ms.take k) (R.map RE.pl) ∧ uidR R1 = uidR R)) (fun i _ => ms.length - (intOf i).toNat)
    case atStart => exact ⟨0, R, Nat.zero_le _, rfl, H0.out, Lib.hid ⟨rfl, rfl⟩⟩
    case round =>
      obtain ⟨k, R1, hk, rfl, hO, HR1⟩ := hrel
      by_cases hlt : k < ms.length
      · have hlti : (k : Int) < (ms.length : Int) := by omega
        obtain ⟨g, off, rfl, hg, hcc⟩ := HMR.out (by omega)
        obtain ⟨rv1, cv1, q1, f1⟩ := hO
        have hgo : g ∉ fpV P rv cv R := HOut.out.1 (by omega) g (by rw [HVM.out]; rfl)
        obtain ⟨ck0, ck1⟩ := hcc k hlt
        rw [← World.cell?_of_block (a := ⟨g, off + k * 2, none⟩) (f1.keep hg hgo)] at ck0
        rw [← World.cell?_of_block (a := ⟨g, off + k * 2 + 1, none⟩) (f1.keep hg hgo)] at ck1
        have hmm : ms.getD k ME0 ∈ ms := by rw [List.getD_eq_getElem?_getD, List.getElem?_eq_getElem hlt]; exact List.getElem_mem hlt
        have hfl : FlAt wr (ms.getD k ME0) := (HFL.out _ hmm).hold f1.1.size (fun hne b hb hl => f1.keep hl (HOut.out.2 _ hmm hne b hb))
        have hEv : wr.heap[w.heap.size]? = some (.cells (evA e) 45 (0, 0)) := by rw [f1.keep hwz HEO.out]; exact H1.out
        have HS : Hid (foldM e.n own (ms.take (k + 1)) (R.map RE.pl) = (R1.map RE.pl).map (turnR e.n own ((ms.getD k ME0).uid, (ms.getD k ME0).fl))) := Lib.hid (by rw [take_snocM ms k hlt, foldM_snoc, HR1.out.1]; rfl)
        have hk1 : VOK R1 C N := ⟨by rw [HR1.out.2]; exact HK.out.rise, by rw [HR1.out.2]; exact HK.out.top, by
          have := HK.out.len
          have e2 := congrArg List.length HR1.out.2
          rw [uidR_length, uidR_length] at e2
          omega⟩
        change wr.cell? ⟨g, off + k * 2, none⟩ = some (.int .i64 (ms.getD k ME0).uid) at ck0
        change wr.cell? ⟨g, off + k * 2 + 1, none⟩ = some (.slice (ms.getD k ME0).fa (ms.getD k ME0).fl.length (ms.getD k ME0).fc) at ck1
        clear hcc hgo hmm
        generalize ms.getD k ME0 = m at *
        obtain ⟨u, fa, fc, fl⟩ := m
        dsimp only at ck0 ck1 HS hfl
        obtain ⟨Y1, hY1⟩ : ∃ Y1, wr.alloc (.cells #[.int .i64 u, .slice fa fl.length fc] 58) = Y1 := ⟨_, rfl⟩
        have hbY : Below wr.heap.size wr Y1 := by rw [← hY1]; exact (Below.refl _ _).alloc (Nat.le_refl _) _
        have hYn : Y1.heap[wr.heap.size]? = some (.cells #[.int .i64 u, .slice fa fl.length fc] 58 (0, 0)) := by rw [← hY1]; exact heap_new _ _
        have hwY : wr.heap.size < Y1.heap.size := lt_of_heap hYn
        have hqY := q1.on hbY
        have HP := Lib.hid (place_any hqY hk1 hN u)
        have hl1 := hk1.len
        have cY0 := cell_of hYn 0
        have hevl : w.heap.size < wr.heap.size := lt_of_heap hEv
        have HSkip : Hid (∀ W, Below Y1.heap.size Y1 W → VO mk P val R1 C (fpV P rv cv R) W1 W) := Lib.hid (fun W hb => ⟨rv1, cv1, hqY.on hb, (f1.trans (FO.below hbY)).trans (FO.below hb)⟩)
        cases hh : hitP (uidR R1) u with
        | false =>
          rw [hh] at HP
          have HN0 : Hid ((R1.map RE.pl).map (turnR e.n own (u, fl)) = R1.map RE.pl) := Lib.hid (turn_no (fun r hr er => by
            have : hitP (uidR R1) u = true := (hitP_iff hk1.rows).2 (er ▸ List.mem_map_of_mem hr)
            rw [hh] at this; cases this))
          clear hh q1 f1 hqY hfl hEv hYn hk1 hbY
          generalize ixP (uidR R1) u = ix at *
          go_upto_region 5 with fail
          (try rw [hY1])
          clear hY1
          go_wp2_with (go_at_call 60; refine HP.out.mono ?_; rintro r W ⟨rfl, hb⟩; have HO := Lib.hid (HSkip.out _ hb); clear hb)
          go_roundw
          case rel => exact ⟨k + 1, R1, by omega, by go_num, HO.out, Lib.hid ⟨by rw [HS.out, HN0.out], HR1.out.2⟩⟩
          case measure => simp [intOf]; omega
        | true =>
          rw [hh] at HP
          have hix := ixP_mem hk1.rows (hitP_mem hh)
          rw [uidR_length] at hix
          have hixl := hix.1
          obtain ⟨g2, cap2, rfl, _⟩ := q1.row_at hixl
          have hR1 : R1.length ≤ 1000000 := by omega
          have hixi : ((ixP (uidR R1) u : Nat) : Int) < (R1.length : Int) := by omega
          have H2 : Hid (∀ W, Below Y1.heap.size Y1 W → W.cell? ⟨P, 2, none⟩ = some (.slice (some ⟨g2, 0, none⟩) R1.length cap2) ∧ W.cell? ⟨g2, ixP (uidR R1) u * 4 + 1, none⟩ = some (.bool (R1.getD (ixP (uidR R1) u) RE0).gone) ∧ W.cell? ⟨g2, ixP (uidR R1) u * 4 + 3, none⟩ = some (R1.getD (ixP (uidR R1) u) RE0).ptr ∧ W.cell? ⟨w.heap.size, 0, none⟩ = some (.int .i64 e.n) ∧ W.cell? ⟨wr.heap.size, 1, none⟩ = some (.slice fa fl.length fc)) := Lib.hid (fun W hb => by
            have hW := hqY.on hb
            obtain ⟨g3, cap3, e3, _, y1, _, y3, _⟩ := hW.row_at hixl
            cases e3
            refine ⟨hW.cells.c2, y1, y3, ?_, ?_⟩
            · have hq : Y1.heap[w.heap.size]? = some (.cells (evA e) 45 (0, 0)) := by rw [hbY.block _ hevl]; exact hEv
              rw [hb.cell (p := ⟨w.heap.size, 0, none⟩) (show w.heap.size < Y1.heap.size by omega)]
              exact (evA_cells hq).1
            · rw [hb.cell (p := ⟨wr.heap.size, 1, none⟩) hwY, cell_of hYn 1]; rfl)
          have HT : Hid (∀ W, Below Y1.heap.size Y1 W → ∃ a2 c2 Y2, (Builtin.append_ #[41, 41] 41 #[.slice none 0 0, .slice fa fl.length fc]).run Tryz.prog W.drew = .ok (.slice a2 fl.length c2) Y2 ∧ Below W.heap.size W Y2 ∧ Y2.frozen? ⟨g2, ixP (uidR R1) u * 4 + 3, none⟩ = false ∧ (Y2.cell? ⟨g2, ixP (uidR R1) u * 4 + 3, none⟩).isSome = true ∧ g2 < Y2.heap.size ∧ VO mk P val (R1.set (ixP (uidR R1) u) (turnE ⟨Y2.heap.size, .slice a2 fl.length c2, e.n, fl⟩ (R1.getD (ixP (uidR R1) u) RE0))) C (fpV P rv cv R) W1 ((Y2.alloc (.cells #[.int .i64 e.n, .slice a2 fl.length c2] 116)).setCell ⟨g2, ixP (uidR R1) u * 4 + 3, none⟩ (.pointer (some ⟨Y2.heap.size, 0, none⟩)))) := Lib.hid (fun W hb => by
            have hW := hqY.on hb
            have hfW : FlAt W.drew ⟨u, fa, fc, fl⟩ := (hfl.hold hbY.size (fun _ b _ hl => hbY.block b hl)).hold hb.size (fun _ b _ hl => hb.block b hl)
            obtain ⟨a2, c2, Y2, hrun, hrow, hbl, hnw⟩ := copy_run hfW
            have hbl2 : Below W.heap.size W Y2 := ⟨hbl.os, hbl.tape, hbl.output, hbl.size, hbl.block⟩
            have hY2 := hW.on hbl2
            obtain ⟨g3, cap3, e3, _, _, _, y3, y4⟩ := hY2.row_at hixl
            cases e3
            have hb3 : Below W.heap.size W (Y2.alloc (.cells #[.int .i64 e.n, .slice a2 fl.length c2] 116)) := hbl2.alloc hbl2.size _
            obtain ⟨t1, t2⟩ := hW.turnR hixl hb3 ⟨Y2.heap.size, .slice a2 fl.length c2, e.n, fl⟩ ⟨heap_new _ _, hrow.alloc _⟩ (fun b hb' => by
              simp only [TE.blks, List.mem_cons, Option.mem_toList] at hb'
              rcases hb' with rfl | hb'
              · exact hbl2.size
              · exact hnw b hb')
            exact ⟨a2, c2, Y2, hrun, hbl2, y4 _, by rw [y3]; rfl, (hY2.rows.lt g2 rfl).2, _, _, t1, ((f1.trans (FO.below hbY)).trans (FO.below hb)).trans t2⟩)
          have HTu : Hid (∀ t : TE, uidR (R1.set (ixP (uidR R1) u) (turnE t (R1.getD (ixP (uidR R1) u) RE0))) = uidR R1) := Lib.hid (fun t => by
            rw [map_hit (f := turnE t) hk1.rows (hitP_mem hh)]
            exact uidR_map (f := atU u (turnE t)) (atU_uid (f := turnE t) (fun _ => rfl)) R1)
          cases hgn : (R1.getD (ixP (uidR R1) u) RE0).gone with
          | true =>
            have HN0 : Hid ((R1.map RE.pl).map (turnR e.n own (u, fl)) = R1.map RE.pl) := Lib.hid (turn_no (fun r hr er => .inl (by rw [at_ix hk1.rows hr er]; exact hgn)))
            rw [hgn] at H2
            clear hh q1 f1 hqY hfl hEv hYn hk1 hbY hix HT HTu hgn
            generalize (R1.getD (ixP (uidR R1) u) RE0).ptr = yp at *
            generalize ixP (uidR R1) u = ix at *
            go_upto_region 5 with fail
            (try rw [hY1])
            clear hY1
            go_wp2_with (go_at_call 60; refine HP.out.mono ?_; rintro r W ⟨rfl, hb⟩; obtain ⟨x2, x3, x4, x5, x6⟩ := H2.out _ hb; have HO := Lib.hid (HSkip.out _ hb); clear hb)
            go_roundw
            case rel => exact ⟨k + 1, R1, by omega, by go_num, HO.out, Lib.hid ⟨by rw [HS.out, HN0.out], HR1.out.2⟩⟩
            case measure => simp [intOf]; omega
          | false =>
            rw [hgn] at H2
            cases own with
            | false =>
              have HTn : Hid (∀ b v, (R1.set (ixP (uidR R1) u) (turnE ⟨b, v, e.n, fl⟩ (R1.getD (ixP (uidR R1) u) RE0))).map RE.pl = (R1.map RE.pl).map (turnR e.n false (u, fl))) := Lib.hid (fun b v => turn_hit hk1.rows (hitP_mem hh) ⟨b, v, e.n, fl⟩ false hgn (.inl rfl))
              clear hh q1 f1 hqY hfl hEv hYn hk1 hbY hix hgn HSkip
              generalize (R1.getD (ixP (uidR R1) u) RE0).ptr = yp at *
              generalize ixP (uidR R1) u = ix at *
              generalize hnr : R1.length = nr at *
              generalize hnf : fl.length = nf at *
              generalize hnum : e.n = num at *
              go_upto_region 5 with fail
              (try rw [hY1])
              clear hY1
              go_upto_region 8 with (go_at_call 60; refine HP.out.mono ?_; rintro r W ⟨rfl, hb⟩; obtain ⟨x2, x3, x4, x5, x6⟩ := H2.out _ hb; obtain ⟨a2, c2, Y2, hrun, hb2, hfz, hce, hgl, ho⟩ := HT.out _ hb; have HRun := Lib.hid hrun; have HB2 := Lib.hid hb2; have HO := Lib.hid ho; clear hb hrun hb2 ho)
              have hdr := hfz
              have HBd : Hid (Below W.heap.size W W.drew) := Lib.hid (Below.refl _ _).drew
              have HX : Hid (∀ X, Below W.heap.size W X → X.cell? ⟨P, 2, none⟩ = some (.slice (some ⟨g2, 0, none⟩) nr cap2) ∧ X.cell? ⟨w.heap.size, 0, none⟩ = some (.int .i64 num) ∧ X.cell? ⟨wr.heap.size, 1, none⟩ = some (.slice fa nf fc)) := Lib.hid (fun X hX => ⟨by rw [hX.cell (p := ⟨P, 2, none⟩) (World.block_lt_of_cell? W _ x2)]; exact x2, by rw [hX.cell (p := ⟨w.heap.size, 0, none⟩) (World.block_lt_of_cell? W _ x5)]; exact x5, by rw [hX.cell (p := ⟨wr.heap.size, 1, none⟩) (World.block_lt_of_cell? W _ x6)]; exact x6⟩)
              have HB3 : Hid (Below W.heap.size W (Y2.alloc (.cells #[.int .i64 num, .slice a2 nf c2] 116))) := Lib.hid (HB2.out.alloc HB2.out.size _)
              obtain ⟨cx, hcx⟩ := Option.isSome_iff_exists.1 hce
              have hgne : g2 ≠ Y2.heap.size := by omega
              clear hce hdr
              rw [World.setCell_alloc_past _ _ _ _ hgl] at HO
              --R Flag8a--
              refine wp_region_N 14 (fun X => Below W.heap.size W X) (by kernel_rfl) ?_
              refine wpAnyN_take (i := 0) (oi := { dst := some 56, op := Go.Op.move (Go.Operand.tmp 0), type := 24, pos := "hear.go:71", after := #[], guard := none }) (oL := { dst := none, op := Go.Op.store 80 (Go.Operand.tmp 69) (Go.Operand.tmp 67), type := 0, pos := "hear.go:71", after := #[{ on := 13, ground := Go.Ground.data }, { on := 11, ground := Go.Ground.data }, { on := 9, ground := Go.Ground.chain }, { on := 0, ground := Go.Ground.phase }, { on := 1, ground := Go.Ground.phase }, { on := 2, ground := Go.Ground.phase }, { on := 3, ground := Go.Ground.phase }, { on := 4, ground := Go.Ground.phase }, { on := 5, ground := Go.Ground.phase }, { on := 6, ground := Go.Ground.phase }, { on := 7, ground := Go.Ground.phase }, { on := 8, ground := Go.Ground.phase }, { on := 9, ground := Go.Ground.phase }, { on := 10, ground := Go.Ground.phase }, { on := 11, ground := Go.Ground.phase }], guard := none }) (v := .pointer (some ⟨P, 0, none⟩)) rfl rfl (by kernel_rfl) (by kernel_rfl) (by kernel_rfl) (by kernel_rfl) (fun _ _ _ h => h) (Or.inl ⟨by kernel_rfl, ?_⟩) HBd.out ?_
              · (intro X hX; obtain ⟨z2, z3, z4⟩ := HX.out X hX <;> (go_simp; try (with_reducible rfl)))
              (try simp only [Act.put, List.setIfInBounds_toArray, List.set_cons_zero, List.set_cons_succ])
              refine wpAnyN_take (i := 1) (oi := { dst := some 57, op := Go.Op.nilCheck (Go.Operand.tmp 56), type := 0, pos := "hear.go:71", after := #[{ on := 0, ground := Go.Ground.data }], guard := none }) (oL := { dst := none, op := Go.Op.store 80 (Go.Operand.tmp 69) (Go.Operand.tmp 67), type := 0, pos := "hear.go:71", after := #[{ on := 13, ground := Go.Ground.data }, { on := 11, ground := Go.Ground.data }, { on := 9, ground := Go.Ground.chain }, { on := 0, ground := Go.Ground.phase }, { on := 1, ground := Go.Ground.phase }, { on := 2, ground := Go.Ground.phase }, { on := 3, ground := Go.Ground.phase }, { on := 4, ground := Go.Ground.phase }, { on := 5, ground := Go.Ground.phase }, { on := 6, ground := Go.Ground.phase }, { on := 7, ground := Go.Ground.phase }, { on := 8, ground := Go.Ground.phase }, { on := 9, ground := Go.Ground.phase }, { on := 10, ground := Go.Ground.phase }, { on := 11, ground := Go.Ground.phase }], guard := none }) (v := .pointer (some ⟨P, 0, none⟩)) rfl rfl (by kernel_rfl) (by kernel_rfl) (by kernel_rfl) (by kernel_rfl) (fun _ _ _ h => h) (Or.inl ⟨by kernel_rfl, ?_⟩) HBd.out ?_
              · (intro X hX; obtain ⟨z2, z3, z4⟩ := HX.out X hX <;> (go_simp; try (with_reducible rfl)))
              (try simp only [Act.put, List.setIfInBounds_toArray, List.set_cons_zero, List.set_cons_succ])
              refine wpAnyN_take (i := 2) (oi := { dst := some 58, op := Go.Op.fieldAddr 28 (Go.Operand.tmp 57) 2, type := 0, pos := "hear.go:71", after := #[{ on := 1, ground := Go.Ground.data }], guard := none }) (oL := { dst := none, op := Go.Op.store 80 (Go.Operand.tmp 69) (Go.Operand.tmp 67), type := 0, pos := "hear.go:71", after := #[{ on := 13, ground := Go.Ground.data }, { on := 11, ground := Go.Ground.data }, { on := 9, ground := Go.Ground.chain }, { on := 0, ground := Go.Ground.phase }, { on := 1, ground := Go.Ground.phase }, { on := 2, ground := Go.Ground.phase }, { on := 3, ground := Go.Ground.phase }, { on := 4, ground := Go.Ground.phase }, { on := 5, ground := Go.Ground.phase }, { on := 6, ground := Go.Ground.phase }, { on := 7, ground := Go.Ground.phase }, { on := 8, ground := Go.Ground.phase }, { on := 9, ground := Go.Ground.phase }, { on := 10, ground := Go.Ground.phase }, { on := 11, ground := Go.Ground.phase }], guard := none }) (v := .pointer (some ⟨P, 2, none⟩)) rfl rfl (by kernel_rfl) (by kernel_rfl) (by kernel_rfl) (by kernel_rfl) (fun _ _ _ h => h) (Or.inl ⟨by kernel_rfl, ?_⟩) HBd.out ?_
              · (intro X hX; obtain ⟨z2, z3, z4⟩ := HX.out X hX <;> (go_simp; try (with_reducible rfl)))
              (try simp only [Act.put, List.setIfInBounds_toArray, List.set_cons_zero, List.set_cons_succ])
              refine wpAnyN_take (i := 3) (oi := { dst := some 59, op := Go.Op.load 25 (Go.Operand.tmp 58), type := 25, pos := "hear.go:71", after := #[{ on := 2, ground := Go.Ground.data }], guard := none }) (oL := { dst := none, op := Go.Op.store 80 (Go.Operand.tmp 69) (Go.Operand.tmp 67), type := 0, pos := "hear.go:71", after := #[{ on := 13, ground := Go.Ground.data }, { on := 11, ground := Go.Ground.data }, { on := 9, ground := Go.Ground.chain }, { on := 0, ground := Go.Ground.phase }, { on := 1, ground := Go.Ground.phase }, { on := 2, ground := Go.Ground.phase }, { on := 3, ground := Go.Ground.phase }, { on := 4, ground := Go.Ground.phase }, { on := 5, ground := Go.Ground.phase }, { on := 6, ground := Go.Ground.phase }, { on := 7, ground := Go.Ground.phase }, { on := 8, ground := Go.Ground.phase }, { on := 9, ground := Go.Ground.phase }, { on := 10, ground := Go.Ground.phase }, { on := 11, ground := Go.Ground.phase }], guard := none }) (v := .slice (some ⟨g2, 0, none⟩) nr cap2) rfl rfl (by kernel_rfl) (by kernel_rfl) (by kernel_rfl) (by kernel_rfl) (fun _ _ _ h => h) (Or.inl ⟨by kernel_rfl, ?_⟩) HBd.out ?_
              · (intro X hX; obtain ⟨z2, z3, z4⟩ := HX.out X hX <;> (go_simp; try (with_reducible rfl)))
              (try simp only [Act.put, List.setIfInBounds_toArray, List.set_cons_zero, List.set_cons_succ])
              refine wpAnyN_take (i := 4) (oi := { dst := some 60, op := Go.Op.move (Go.Operand.tmp 8), type := 3, pos := "hear.go:71", after := #[], guard := none }) (oL := { dst := none, op := Go.Op.store 80 (Go.Operand.tmp 69) (Go.Operand.tmp 67), type := 0, pos := "hear.go:71", after := #[{ on := 13, ground := Go.Ground.data }, { on := 11, ground := Go.Ground.data }, { on := 9, ground := Go.Ground.chain }, { on := 0, ground := Go.Ground.phase }, { on := 1, ground := Go.Ground.phase }, { on := 2, ground := Go.Ground.phase }, { on := 3, ground := Go.Ground.phase }, { on := 4, ground := Go.Ground.phase }, { on := 5, ground := Go.Ground.phase }, { on := 6, ground := Go.Ground.phase }, { on := 7, ground := Go.Ground.phase }, { on := 8, ground := Go.Ground.phase }, { on := 9, ground := Go.Ground.phase }, { on := 10, ground := Go.Ground.phase }, { on := 11, ground := Go.Ground.phase }], guard := none }) (v := .int .i64 (ix : Int)) rfl rfl (by kernel_rfl) (by kernel_rfl) (by kernel_rfl) (by kernel_rfl) (fun _ _ _ h => h) (Or.inl ⟨by kernel_rfl, ?_⟩) HBd.out ?_
              · (intro X hX; obtain ⟨z2, z3, z4⟩ := HX.out X hX <;> (go_simp; try (with_reducible rfl)))
              (try simp only [Act.put, List.setIfInBounds_toArray, List.set_cons_zero, List.set_cons_succ])
              refine wpAnyN_take (i := 5) (oi := { dst := some 61, op := Go.Op.fieldAddr 45 (Go.Operand.tmp 4) 0, type := 0, pos := "hear.go:71", after := #[], guard := none }) (oL := { dst := none, op := Go.Op.store 80 (Go.Operand.tmp 69) (Go.Operand.tmp 67), type := 0, pos := "hear.go:71", after := #[{ on := 13, ground := Go.Ground.data }, { on := 11, ground := Go.Ground.data }, { on := 9, ground := Go.Ground.chain }, { on := 0, ground := Go.Ground.phase }, { on := 1, ground := Go.Ground.phase }, { on := 2, ground := Go.Ground.phase }, { on := 3, ground := Go.Ground.phase }, { on := 4, ground := Go.Ground.phase }, { on := 5, ground := Go.Ground.phase }, { on := 6, ground := Go.Ground.phase }, { on := 7, ground := Go.Ground.phase }, { on := 8, ground := Go.Ground.phase }, { on := 9, ground := Go.Ground.phase }, { on := 10, ground := Go.Ground.phase }, { on := 11, ground := Go.Ground.phase }], guard := none }) (v := .pointer (some ⟨w.heap.size, 0, none⟩)) rfl rfl (by kernel_rfl) (by kernel_rfl) (by kernel_rfl) (by kernel_rfl) (fun _ _ _ h => h) (Or.inl ⟨by kernel_rfl, ?_⟩) HBd.out ?_
              · (intro X hX; obtain ⟨z2, z3, z4⟩ := HX.out X hX <;> (go_simp; try (with_reducible rfl)))
              (try simp only [Act.put, List.setIfInBounds_toArray, List.set_cons_zero, List.set_cons_succ])
              refine wpAnyN_take (i := 6) (oi := { dst := some 62, op := Go.Op.load 3 (Go.Operand.tmp 61), type := 3, pos := "hear.go:71", after := #[{ on := 5, ground := Go.Ground.data }], guard := none }) (oL := { dst := none, op := Go.Op.store 80 (Go.Operand.tmp 69) (Go.Operand.tmp 67), type := 0, pos := "hear.go:71", after := #[{ on := 13, ground := Go.Ground.data }, { on := 11, ground := Go.Ground.data }, { on := 9, ground := Go.Ground.chain }, { on := 0, ground := Go.Ground.phase }, { on := 1, ground := Go.Ground.phase }, { on := 2, ground := Go.Ground.phase }, { on := 3, ground := Go.Ground.phase }, { on := 4, ground := Go.Ground.phase }, { on := 5, ground := Go.Ground.phase }, { on := 6, ground := Go.Ground.phase }, { on := 7, ground := Go.Ground.phase }, { on := 8, ground := Go.Ground.phase }, { on := 9, ground := Go.Ground.phase }, { on := 10, ground := Go.Ground.phase }, { on := 11, ground := Go.Ground.phase }], guard := none }) (v := .int .i64 num) rfl rfl (by kernel_rfl) (by kernel_rfl) (by kernel_rfl) (by kernel_rfl) (fun _ _ _ h => h) (Or.inl ⟨by kernel_rfl, ?_⟩) HBd.out ?_
              · (intro X hX; obtain ⟨z2, z3, z4⟩ := HX.out X hX <;> (go_simp; try (with_reducible rfl)))
              (try simp only [Act.put, List.setIfInBounds_toArray, List.set_cons_zero, List.set_cons_succ])
              refine wpAnyN_take (i := 7) (oi := { dst := some 63, op := Go.Op.fieldAddr 58 (Go.Operand.tmp 7) 1, type := 0, pos := "hear.go:71", after := #[], guard := none }) (oL := { dst := none, op := Go.Op.store 80 (Go.Operand.tmp 69) (Go.Operand.tmp 67), type := 0, pos := "hear.go:71", after := #[{ on := 13, ground := Go.Ground.data }, { on := 11, ground := Go.Ground.data }, { on := 9, ground := Go.Ground.chain }, { on := 0, ground := Go.Ground.phase }, { on := 1, ground := Go.Ground.phase }, { on := 2, ground := Go.Ground.phase }, { on := 3, ground := Go.Ground.phase }, { on := 4, ground := Go.Ground.phase }, { on := 5, ground := Go.Ground.phase }, { on := 6, ground := Go.Ground.phase }, { on := 7, ground := Go.Ground.phase }, { on := 8, ground := Go.Ground.phase }, { on := 9, ground := Go.Ground.phase }, { on := 10, ground := Go.Ground.phase }, { on := 11, ground := Go.Ground.phase }], guard := none }) (v := .pointer (some ⟨wr.heap.size, 1, none⟩)) rfl rfl (by kernel_rfl) (by kernel_rfl) (by kernel_rfl) (by kernel_rfl) (fun _ _ _ h => h) (Or.inl ⟨by kernel_rfl, ?_⟩) HBd.out ?_
              · (intro X hX; obtain ⟨z2, z3, z4⟩ := HX.out X hX <;> (go_simp; try (with_reducible rfl)))
              (try simp only [Act.put, List.setIfInBounds_toArray, List.set_cons_zero, List.set_cons_succ])
              refine wpAnyN_take (i := 8) (oi := { dst := some 64, op := Go.Op.load 41 (Go.Operand.tmp 63), type := 41, pos := "hear.go:71", after := #[{ on := 7, ground := Go.Ground.data }], guard := none }) (oL := { dst := none, op := Go.Op.store 80 (Go.Operand.tmp 69) (Go.Operand.tmp 67), type := 0, pos := "hear.go:71", after := #[{ on := 13, ground := Go.Ground.data }, { on := 11, ground := Go.Ground.data }, { on := 9, ground := Go.Ground.chain }, { on := 0, ground := Go.Ground.phase }, { on := 1, ground := Go.Ground.phase }, { on := 2, ground := Go.Ground.phase }, { on := 3, ground := Go.Ground.phase }, { on := 4, ground := Go.Ground.phase }, { on := 5, ground := Go.Ground.phase }, { on := 6, ground := Go.Ground.phase }, { on := 7, ground := Go.Ground.phase }, { on := 8, ground := Go.Ground.phase }, { on := 9, ground := Go.Ground.phase }, { on := 10, ground := Go.Ground.phase }, { on := 11, ground := Go.Ground.phase }], guard := none }) (v := .slice fa nf fc) rfl rfl (by kernel_rfl) (by kernel_rfl) (by kernel_rfl) (by kernel_rfl) (fun _ _ _ h => h) (Or.inl ⟨by kernel_rfl, ?_⟩) HBd.out ?_
              · (intro X hX; obtain ⟨z2, z3, z4⟩ := HX.out X hX <;> (go_simp; try (with_reducible rfl)))
              (try simp only [Act.put, List.setIfInBounds_toArray, List.set_cons_zero, List.set_cons_succ])
              refine wpAnyN_one (i := 9) (o := { dst := some 65, op := Go.Op.call { callee := Go.Callee.builtin Go.Builtin.append, args := #[Go.Operand.const (Go.Value.slice none 0 0), Go.Operand.tmp 64], argTypes := #[41, 41] }, type := 41, pos := "hear.go:71", after := #[{ on := 8, ground := Go.Ground.data }], guard := none }) (by kernel_rfl) rfl (fun K hK => ?_)
              refine step_append_run (u := .slice none 0 0) (v := .slice fa nf fc) rfl _ _ _ rfl 41 rfl rfl rfl _ _ HRun.out ?_
              refine hK.out _ _ (fun _ => HB2.out) ?_
              clear hK K
              (try simp only [Act.put, List.setIfInBounds_toArray, List.set_cons_zero, List.set_cons_succ])
              refine wpAnyN_take (i := 10) (oi := { dst := some 66, op := Go.Op.build 116 #[(0, Go.Operand.tmp 62), (1, Go.Operand.tmp 65)], type := 116, pos := "hear.go:71", after := #[{ on := 6, ground := Go.Ground.data }, { on := 9, ground := Go.Ground.data }], guard := none }) (oL := { dst := none, op := Go.Op.store 80 (Go.Operand.tmp 69) (Go.Operand.tmp 67), type := 0, pos := "hear.go:71", after := #[{ on := 13, ground := Go.Ground.data }, { on := 11, ground := Go.Ground.data }, { on := 9, ground := Go.Ground.chain }, { on := 0, ground := Go.Ground.phase }, { on := 1, ground := Go.Ground.phase }, { on := 2, ground := Go.Ground.phase }, { on := 3, ground := Go.Ground.phase }, { on := 4, ground := Go.Ground.phase }, { on := 5, ground := Go.Ground.phase }, { on := 6, ground := Go.Ground.phase }, { on := 7, ground := Go.Ground.phase }, { on := 8, ground := Go.Ground.phase }, { on := 9, ground := Go.Ground.phase }, { on := 10, ground := Go.Ground.phase }, { on := 11, ground := Go.Ground.phase }], guard := none }) (v := .agg #[.int .i64 num, .slice a2 nf c2]) rfl rfl (by kernel_rfl) (by kernel_rfl) (by kernel_rfl) (by kernel_rfl) (fun _ _ _ h => h) (Or.inl ⟨by kernel_rfl, ?_⟩) HB2.out ?_
              · (intro X hX; obtain ⟨z2, z3, z4⟩ := HX.out X hX <;> (go_simp; try (with_reducible rfl)))
              (try simp only [Act.put, List.setIfInBounds_toArray, List.set_cons_zero, List.set_cons_succ])
              refine wpAnyN_one (i := 11) (o := { dst := some 67, op := Go.Op.box 116 (Go.Operand.tmp 66), type := 80, pos := "hear.go:71", after := #[{ on := 10, ground := Go.Ground.data }], guard := none }) (by kernel_rfl) rfl (fun K hK => ?_)
              go_simp
              refine hK.out _ _ (fun _ => HB3.out) ?_
              clear hK K
              (try simp only [Act.put, List.setIfInBounds_toArray, List.set_cons_zero, List.set_cons_succ])
              refine wpAnyN_take (i := 12) (oi := { dst := some 68, op := Go.Op.indexAddr 25 (Go.Operand.tmp 59) (Go.Operand.tmp 60), type := 0, pos := "hear.go:71", after := #[{ on := 3, ground := Go.Ground.data }, { on := 4, ground := Go.Ground.data }, { on := 0, ground := Go.Ground.phase }, { on := 1, ground := Go.Ground.phase }, { on := 2, ground := Go.Ground.phase }, { on := 3, ground := Go.Ground.phase }, { on := 4, ground := Go.Ground.phase }, { on := 5, ground := Go.Ground.phase }, { on := 6, ground := Go.Ground.phase }, { on := 7, ground := Go.Ground.phase }, { on := 8, ground := Go.Ground.phase }, { on := 9, ground := Go.Ground.phase }, { on := 10, ground := Go.Ground.phase }, { on := 11, ground := Go.Ground.phase }], guard := none }) (oL := { dst := none, op := Go.Op.store 80 (Go.Operand.tmp 69) (Go.Operand.tmp 67), type := 0, pos := "hear.go:71", after := #[{ on := 13, ground := Go.Ground.data }, { on := 11, ground := Go.Ground.data }, { on := 9, ground := Go.Ground.chain }, { on := 0, ground := Go.Ground.phase }, { on := 1, ground := Go.Ground.phase }, { on := 2, ground := Go.Ground.phase }, { on := 3, ground := Go.Ground.phase }, { on := 4, ground := Go.Ground.phase }, { on := 5, ground := Go.Ground.phase }, { on := 6, ground := Go.Ground.phase }, { on := 7, ground := Go.Ground.phase }, { on := 8, ground := Go.Ground.phase }, { on := 9, ground := Go.Ground.phase }, { on := 10, ground := Go.Ground.phase }, { on := 11, ground := Go.Ground.phase }], guard := none }) (v := .pointer (some ⟨g2, ix * 4, none⟩)) rfl rfl (by kernel_rfl) (by kernel_rfl) (by kernel_rfl) (by kernel_rfl) (fun _ _ _ h => h) (Or.inl ⟨by kernel_rfl, ?_⟩) HB3.out ?_
              · (intro X hX; obtain ⟨z2, z3, z4⟩ := HX.out X hX <;> (go_simp; try (with_reducible rfl)))
              (try simp only [Act.put, List.setIfInBounds_toArray, List.set_cons_zero, List.set_cons_succ])
              refine wpAnyN_take (i := 13) (oi := { dst := some 69, op := Go.Op.fieldAddr 82 (Go.Operand.tmp 68) 3, type := 0, pos := "hear.go:71", after := #[{ on := 12, ground := Go.Ground.data }, { on := 0, ground := Go.Ground.phase }, { on := 1, ground := Go.Ground.phase }, { on := 2, ground := Go.Ground.phase }, { on := 3, ground := Go.Ground.phase }, { on := 4, ground := Go.Ground.phase }, { on := 5, ground := Go.Ground.phase }, { on := 6, ground := Go.Ground.phase }, { on := 7, ground := Go.Ground.phase }, { on := 8, ground := Go.Ground.phase }, { on := 9, ground := Go.Ground.phase }, { on := 10, ground := Go.Ground.phase }, { on := 11, ground := Go.Ground.phase }], guard := none }) (oL := { dst := none, op := Go.Op.store 80 (Go.Operand.tmp 69) (Go.Operand.tmp 67), type := 0, pos := "hear.go:71", after := #[{ on := 13, ground := Go.Ground.data }, { on := 11, ground := Go.Ground.data }, { on := 9, ground := Go.Ground.chain }, { on := 0, ground := Go.Ground.phase }, { on := 1, ground := Go.Ground.phase }, { on := 2, ground := Go.Ground.phase }, { on := 3, ground := Go.Ground.phase }, { on := 4, ground := Go.Ground.phase }, { on := 5, ground := Go.Ground.phase }, { on := 6, ground := Go.Ground.phase }, { on := 7, ground := Go.Ground.phase }, { on := 8, ground := Go.Ground.phase }, { on := 9, ground := Go.Ground.phase }, { on := 10, ground := Go.Ground.phase }, { on := 11, ground := Go.Ground.phase }], guard := none }) (v := .pointer (some ⟨g2, ix * 4 + 3, none⟩)) rfl rfl (by kernel_rfl) (by kernel_rfl) (by kernel_rfl) (by kernel_rfl) (fun _ _ _ h => h) (Or.inl ⟨by kernel_rfl, ?_⟩) HB3.out ?_
              · (intro X hX; obtain ⟨z2, z3, z4⟩ := HX.out X hX <;> (go_simp; try (with_reducible rfl)))
              (try simp only [Act.put, List.setIfInBounds_toArray, List.set_cons_zero, List.set_cons_succ])
              refine wpAnyN_one (i := 14) (o := { dst := none, op := Go.Op.store 80 (Go.Operand.tmp 69) (Go.Operand.tmp 67), type := 0, pos := "hear.go:71", after := #[{ on := 13, ground := Go.Ground.data }, { on := 11, ground := Go.Ground.data }, { on := 9, ground := Go.Ground.chain }, { on := 0, ground := Go.Ground.phase }, { on := 1, ground := Go.Ground.phase }, { on := 2, ground := Go.Ground.phase }, { on := 3, ground := Go.Ground.phase }, { on := 4, ground := Go.Ground.phase }, { on := 5, ground := Go.Ground.phase }, { on := 6, ground := Go.Ground.phase }, { on := 7, ground := Go.Ground.phase }, { on := 8, ground := Go.Ground.phase }, { on := 9, ground := Go.Ground.phase }, { on := 10, ground := Go.Ground.phase }, { on := 11, ground := Go.Ground.phase }], guard := none }) (by kernel_rfl) rfl (fun K hK => ?_)
              go_simp
              refine hK.out _ _ (fun e => absurd (e.symm.trans (by kernel_rfl) : false = true) Bool.false_ne_true) ?_
              clear hK K
              (try simp only [Act.put, List.setIfInBounds_toArray, List.set_cons_zero, List.set_cons_succ])
              refine wpAnyN_of_H (S' := fun _ => True) _ _ _ _ (by kernel_rfl) ?_
              refine wpAnyH_done (by kernel_rfl) ?_ _
              --E Flag8a--
              go_wp2_with fail
              go_roundw
              case rel => exact ⟨k + 1, _, by omega, by go_num, HO.out, Lib.hid ⟨(HTn.out _ _).trans HS.out.symm, (HTu.out _).trans HR1.out.2⟩⟩
              case measure => simp [intOf]; omega
            | true =>
              cases htn : (R1.getD (ixP (uidR R1) u) RE0).tn with
              | none =>
                have HN0 : Hid ((R1.map RE.pl).map (turnR e.n true (u, fl)) = R1.map RE.pl) := Lib.hid (turn_no (fun r hr er => .inr ⟨rfl, by rw [at_ix hk1.rows hr er]; exact htn⟩))
                have hyp : (R1.getD (ixP (uidR R1) u) RE0).ptr = .pointer none := by unfold RE.ptr; rw [htn]; rfl
                rw [hyp] at H2
                clear hh q1 f1 hqY hfl hEv hYn hk1 hbY hix HT HTu hgn htn hyp
                generalize ixP (uidR R1) u = ix at *
                go_upto_region 5 with fail
                (try rw [hY1])
                clear hY1
                go_wp2_with (go_at_call 60; refine HP.out.mono ?_; rintro r W ⟨rfl, hb⟩; obtain ⟨x2, x3, x4, x5, x6⟩ := H2.out _ hb; have HO := Lib.hid (HSkip.out _ hb); clear hb)
                go_roundw
                case rel => exact ⟨k + 1, R1, by omega, by go_num, HO.out, Lib.hid ⟨by rw [HS.out, HN0.out], HR1.out.2⟩⟩
                case measure => simp [intOf]; omega
              | some t0 =>
                have HTn : Hid (∀ b v, (R1.set (ixP (uidR R1) u) (turnE ⟨b, v, e.n, fl⟩ (R1.getD (ixP (uidR R1) u) RE0))).map RE.pl = (R1.map RE.pl).map (turnR e.n true (u, fl))) := Lib.hid (fun b v => turn_hit hk1.rows (hitP_mem hh) ⟨b, v, e.n, fl⟩ true hgn (.inr (by rw [htn]; rfl)))
                have hyp : (R1.getD (ixP (uidR R1) u) RE0).ptr = .pointer (some ⟨t0.blk, 0, none⟩) := by unfold RE.ptr; rw [htn]; rfl
                rw [hyp] at H2
                clear hh q1 f1 hqY hfl hEv hYn hk1 hbY hix hgn htn hyp HSkip
                generalize ixP (uidR R1) u = ix at *
                generalize hnr : R1.length = nr at *
                generalize hnf : fl.length = nf at *
                generalize hnum : e.n = num at *
                go_upto_region 5 with fail
                (try rw [hY1])
                clear hY1
                go_upto_region 8 with (go_at_call 60; refine HP.out.mono ?_; rintro r W ⟨rfl, hb⟩; obtain ⟨x2, x3, x4, x5, x6⟩ := H2.out _ hb; obtain ⟨a2, c2, Y2, hrun, hb2, hfz, hce, hgl, ho⟩ := HT.out _ hb; have HRun := Lib.hid hrun; have HB2 := Lib.hid hb2; have HO := Lib.hid ho; clear hb hrun hb2 ho)
                have hdr := hfz
                have HBd : Hid (Below W.heap.size W W.drew) := Lib.hid (Below.refl _ _).drew
                have HX : Hid (∀ X, Below W.heap.size W X → X.cell? ⟨P, 2, none⟩ = some (.slice (some ⟨g2, 0, none⟩) nr cap2) ∧ X.cell? ⟨w.heap.size, 0, none⟩ = some (.int .i64 num) ∧ X.cell? ⟨wr.heap.size, 1, none⟩ = some (.slice fa nf fc)) := Lib.hid (fun X hX => ⟨by rw [hX.cell (p := ⟨P, 2, none⟩) (World.block_lt_of_cell? W _ x2)]; exact x2, by rw [hX.cell (p := ⟨w.heap.size, 0, none⟩) (World.block_lt_of_cell? W _ x5)]; exact x5, by rw [hX.cell (p := ⟨wr.heap.size, 1, none⟩) (World.block_lt_of_cell? W _ x6)]; exact x6⟩)
                have HB3 : Hid (Below W.heap.size W (Y2.alloc (.cells #[.int .i64 num, .slice a2 nf c2] 116))) := Lib.hid (HB2.out.alloc HB2.out.size _)
                obtain ⟨cx, hcx⟩ := Option.isSome_iff_exists.1 hce
                have hgne : g2 ≠ Y2.heap.size := by omega
                clear hce hdr
                rw [World.setCell_alloc_past _ _ _ _ hgl] at HO
                --R Flag8b--
                refine wp_region_N 14 (fun X => Below W.heap.size W X) (by kernel_rfl) ?_
                refine wpAnyN_take (i := 0) (oi := { dst := some 56, op := Go.Op.move (Go.Operand.tmp 0), type := 24, pos := "hear.go:71", after := #[], guard := none }) (oL := { dst := none, op := Go.Op.store 80 (Go.Operand.tmp 69) (Go.Operand.tmp 67), type := 0, pos := "hear.go:71", after := #[{ on := 13, ground := Go.Ground.data }, { on := 11, ground := Go.Ground.data }, { on := 9, ground := Go.Ground.chain }, { on := 0, ground := Go.Ground.phase }, { on := 1, ground := Go.Ground.phase }, { on := 2, ground := Go.Ground.phase }, { on := 3, ground := Go.Ground.phase }, { on := 4, ground := Go.Ground.phase }, { on := 5, ground := Go.Ground.phase }, { on := 6, ground := Go.Ground.phase }, { on := 7, ground := Go.Ground.phase }, { on := 8, ground := Go.Ground.phase }, { on := 9, ground := Go.Ground.phase }, { on := 10, ground := Go.Ground.phase }, { on := 11, ground := Go.Ground.phase }], guard := none }) (v := .pointer (some ⟨P, 0, none⟩)) rfl rfl (by kernel_rfl) (by kernel_rfl) (by kernel_rfl) (by kernel_rfl) (fun _ _ _ h => h) (Or.inl ⟨by kernel_rfl, ?_⟩) HBd.out ?_
                · (intro X hX; obtain ⟨z2, z3, z4⟩ := HX.out X hX <;> (go_simp; try (with_reducible rfl)))
                (try simp only [Act.put, List.setIfInBounds_toArray, List.set_cons_zero, List.set_cons_succ])
                refine wpAnyN_take (i := 1) (oi := { dst := some 57, op := Go.Op.nilCheck (Go.Operand.tmp 56), type := 0, pos := "hear.go:71", after := #[{ on := 0, ground := Go.Ground.data }], guard := none }) (oL := { dst := none, op := Go.Op.store 80 (Go.Operand.tmp 69) (Go.Operand.tmp 67), type := 0, pos := "hear.go:71", after := #[{ on := 13, ground := Go.Ground.data }, { on := 11, ground := Go.Ground.data }, { on := 9, ground := Go.Ground.chain }, { on := 0, ground := Go.Ground.phase }, { on := 1, ground := Go.Ground.phase }, { on := 2, ground := Go.Ground.phase }, { on := 3, ground := Go.Ground.phase }, { on := 4, ground := Go.Ground.phase }, { on := 5, ground := Go.Ground.phase }, { on := 6, ground := Go.Ground.phase }, { on := 7, ground := Go.Ground.phase }, { on := 8, ground := Go.Ground.phase }, { on := 9, ground := Go.Ground.phase }, { on := 10, ground := Go.Ground.phase }, { on := 11, ground := Go.Ground.phase }], guard := none }) (v := .pointer (some ⟨P, 0, none⟩)) rfl rfl (by kernel_rfl) (by kernel_rfl) (by kernel_rfl) (by kernel_rfl) (fun _ _ _ h => h) (Or.inl ⟨by kernel_rfl, ?_⟩) HBd.out ?_
                · (intro X hX; obtain ⟨z2, z3, z4⟩ := HX.out X hX <;> (go_simp; try (with_reducible rfl)))
                (try simp only [Act.put, List.setIfInBounds_toArray, List.set_cons_zero, List.set_cons_succ])
                refine wpAnyN_take (i := 2) (oi := { dst := some 58, op := Go.Op.fieldAddr 28 (Go.Operand.tmp 57) 2, type := 0, pos := "hear.go:71", after := #[{ on := 1, ground := Go.Ground.data }], guard := none }) (oL := { dst := none, op := Go.Op.store 80 (Go.Operand.tmp 69) (Go.Operand.tmp 67), type := 0, pos := "hear.go:71", after := #[{ on := 13, ground := Go.Ground.data }, { on := 11, ground := Go.Ground.data }, { on := 9, ground := Go.Ground.chain }, { on := 0, ground := Go.Ground.phase }, { on := 1, ground := Go.Ground.phase }, { on := 2, ground := Go.Ground.phase }, { on := 3, ground := Go.Ground.phase }, { on := 4, ground := Go.Ground.phase }, { on := 5, ground := Go.Ground.phase }, { on := 6, ground := Go.Ground.phase }, { on := 7, ground := Go.Ground.phase }, { on := 8, ground := Go.Ground.phase }, { on := 9, ground := Go.Ground.phase }, { on := 10, ground := Go.Ground.phase }, { on := 11, ground := Go.Ground.phase }], guard := none }) (v := .pointer (some ⟨P, 2, none⟩)) rfl rfl (by kernel_rfl) (by kernel_rfl) (by kernel_rfl) (by kernel_rfl) (fun _ _ _ h => h) (Or.inl ⟨by kernel_rfl, ?_⟩) HBd.out ?_
                · (intro X hX; obtain ⟨z2, z3, z4⟩ := HX.out X hX <;> (go_simp; try (with_reducible rfl)))
                (try simp only [Act.put, List.setIfInBounds_toArray, List.set_cons_zero, List.set_cons_succ])
                refine wpAnyN_take (i := 3) (oi := { dst := some 59, op := Go.Op.load 25 (Go.Operand.tmp 58), type := 25, pos := "hear.go:71", after := #[{ on := 2, ground := Go.Ground.data }], guard := none }) (oL := { dst := none, op := Go.Op.store 80 (Go.Operand.tmp 69) (Go.Operand.tmp 67), type := 0, pos := "hear.go:71", after := #[{ on := 13, ground := Go.Ground.data }, { on := 11, ground := Go.Ground.data }, { on := 9, ground := Go.Ground.chain }, { on := 0, ground := Go.Ground.phase }, { on := 1, ground := Go.Ground.phase }, { on := 2, ground := Go.Ground.phase }, { on := 3, ground := Go.Ground.phase }, { on := 4, ground := Go.Ground.phase }, { on := 5, ground := Go.Ground.phase }, { on := 6, ground := Go.Ground.phase }, { on := 7, ground := Go.Ground.phase }, { on := 8, ground := Go.Ground.phase }, { on := 9, ground := Go.Ground.phase }, { on := 10, ground := Go.Ground.phase }, { on := 11, ground := Go.Ground.phase }], guard := none }) (v := .slice (some ⟨g2, 0, none⟩) nr cap2) rfl rfl (by kernel_rfl) (by kernel_rfl) (by kernel_rfl) (by kernel_rfl) (fun _ _ _ h => h) (Or.inl ⟨by kernel_rfl, ?_⟩) HBd.out ?_
                · (intro X hX; obtain ⟨z2, z3, z4⟩ := HX.out X hX <;> (go_simp; try (with_reducible rfl)))
                (try simp only [Act.put, List.setIfInBounds_toArray, List.set_cons_zero, List.set_cons_succ])
                refine wpAnyN_take (i := 4) (oi := { dst := some 60, op := Go.Op.move (Go.Operand.tmp 8), type := 3, pos := "hear.go:71", after := #[], guard := none }) (oL := { dst := none, op := Go.Op.store 80 (Go.Operand.tmp 69) (Go.Operand.tmp 67), type := 0, pos := "hear.go:71", after := #[{ on := 13, ground := Go.Ground.data }, { on := 11, ground := Go.Ground.data }, { on := 9, ground := Go.Ground.chain }, { on := 0, ground := Go.Ground.phase }, { on := 1, ground := Go.Ground.phase }, { on := 2, ground := Go.Ground.phase }, { on := 3, ground := Go.Ground.phase }, { on := 4, ground := Go.Ground.phase }, { on := 5, ground := Go.Ground.phase }, { on := 6, ground := Go.Ground.phase }, { on := 7, ground := Go.Ground.phase }, { on := 8, ground := Go.Ground.phase }, { on := 9, ground := Go.Ground.phase }, { on := 10, ground := Go.Ground.phase }, { on := 11, ground := Go.Ground.phase }], guard := none }) (v := .int .i64 (ix : Int)) rfl rfl (by kernel_rfl) (by kernel_rfl) (by kernel_rfl) (by kernel_rfl) (fun _ _ _ h => h) (Or.inl ⟨by kernel_rfl, ?_⟩) HBd.out ?_
                · (intro X hX; obtain ⟨z2, z3, z4⟩ := HX.out X hX <;> (go_simp; try (with_reducible rfl)))
                (try simp only [Act.put, List.setIfInBounds_toArray, List.set_cons_zero, List.set_cons_succ])
                refine wpAnyN_take (i := 5) (oi := { dst := some 61, op := Go.Op.fieldAddr 45 (Go.Operand.tmp 4) 0, type := 0, pos := "hear.go:71", after := #[], guard := none }) (oL := { dst := none, op := Go.Op.store 80 (Go.Operand.tmp 69) (Go.Operand.tmp 67), type := 0, pos := "hear.go:71", after := #[{ on := 13, ground := Go.Ground.data }, { on := 11, ground := Go.Ground.data }, { on := 9, ground := Go.Ground.chain }, { on := 0, ground := Go.Ground.phase }, { on := 1, ground := Go.Ground.phase }, { on := 2, ground := Go.Ground.phase }, { on := 3, ground := Go.Ground.phase }, { on := 4, ground := Go.Ground.phase }, { on := 5, ground := Go.Ground.phase }, { on := 6, ground := Go.Ground.phase }, { on := 7, ground := Go.Ground.phase }, { on := 8, ground := Go.Ground.phase }, { on := 9, ground := Go.Ground.phase }, { on := 10, ground := Go.Ground.phase }, { on := 11, ground := Go.Ground.phase }], guard := none }) (v := .pointer (some ⟨w.heap.size, 0, none⟩)) rfl rfl (by kernel_rfl) (by kernel_rfl) (by kernel_rfl) (by kernel_rfl) (fun _ _ _ h => h) (Or.inl ⟨by kernel_rfl, ?_⟩) HBd.out ?_
                · (intro X hX; obtain ⟨z2, z3, z4⟩ := HX.out X hX <;> (go_simp; try (with_reducible rfl)))
                (try simp only [Act.put, List.setIfInBounds_toArray, List.set_cons_zero, List.set_cons_succ])
                refine wpAnyN_take (i := 6) (oi := { dst := some 62, op := Go.Op.load 3 (Go.Operand.tmp 61), type := 3, pos := "hear.go:71", after := #[{ on := 5, ground := Go.Ground.data }], guard := none }) (oL := { dst := none, op := Go.Op.store 80 (Go.Operand.tmp 69) (Go.Operand.tmp 67), type := 0, pos := "hear.go:71", after := #[{ on := 13, ground := Go.Ground.data }, { on := 11, ground := Go.Ground.data }, { on := 9, ground := Go.Ground.chain }, { on := 0, ground := Go.Ground.phase }, { on := 1, ground := Go.Ground.phase }, { on := 2, ground := Go.Ground.phase }, { on := 3, ground := Go.Ground.phase }, { on := 4, ground := Go.Ground.phase }, { on := 5, ground := Go.Ground.phase }, { on := 6, ground := Go.Ground.phase }, { on := 7, ground := Go.Ground.phase }, { on := 8, ground := Go.Ground.phase }, { on := 9, ground := Go.Ground.phase }, { on := 10, ground := Go.Ground.phase }, { on := 11, ground := Go.Ground.phase }], guard := none }) (v := .int .i64 num) rfl rfl (by kernel_rfl) (by kernel_rfl) (by kernel_rfl) (by kernel_rfl) (fun _ _ _ h => h) (Or.inl ⟨by kernel_rfl, ?_⟩) HBd.out ?_
                · (intro X hX; obtain ⟨z2, z3, z4⟩ := HX.out X hX <;> (go_simp; try (with_reducible rfl)))
                (try simp only [Act.put, List.setIfInBounds_toArray, List.set_cons_zero, List.set_cons_succ])
                refine wpAnyN_take (i := 7) (oi := { dst := some 63, op := Go.Op.fieldAddr 58 (Go.Operand.tmp 7) 1, type := 0, pos := "hear.go:71", after := #[], guard := none }) (oL := { dst := none, op := Go.Op.store 80 (Go.Operand.tmp 69) (Go.Operand.tmp 67), type := 0, pos := "hear.go:71", after := #[{ on := 13, ground := Go.Ground.data }, { on := 11, ground := Go.Ground.data }, { on := 9, ground := Go.Ground.chain }, { on := 0, ground := Go.Ground.phase }, { on := 1, ground := Go.Ground.phase }, { on := 2, ground := Go.Ground.phase }, { on := 3, ground := Go.Ground.phase }, { on := 4, ground := Go.Ground.phase }, { on := 5, ground := Go.Ground.phase }, { on := 6, ground := Go.Ground.phase }, { on := 7, ground := Go.Ground.phase }, { on := 8, ground := Go.Ground.phase }, { on := 9, ground := Go.Ground.phase }, { on := 10, ground := Go.Ground.phase }, { on := 11, ground := Go.Ground.phase }], guard := none }) (v := .pointer (some ⟨wr.heap.size, 1, none⟩)) rfl rfl (by kernel_rfl) (by kernel_rfl) (by kernel_rfl) (by kernel_rfl) (fun _ _ _ h => h) (Or.inl ⟨by kernel_rfl, ?_⟩) HBd.out ?_
                · (intro X hX; obtain ⟨z2, z3, z4⟩ := HX.out X hX <;> (go_simp; try (with_reducible rfl)))
                (try simp only [Act.put, List.setIfInBounds_toArray, List.set_cons_zero, List.set_cons_succ])
                refine wpAnyN_take (i := 8) (oi := { dst := some 64, op := Go.Op.load 41 (Go.Operand.tmp 63), type := 41, pos := "hear.go:71", after := #[{ on := 7, ground := Go.Ground.data }], guard := none }) (oL := { dst := none, op := Go.Op.store 80 (Go.Operand.tmp 69) (Go.Operand.tmp 67), type := 0, pos := "hear.go:71", after := #[{ on := 13, ground := Go.Ground.data }, { on := 11, ground := Go.Ground.data }, { on := 9, ground := Go.Ground.chain }, { on := 0, ground := Go.Ground.phase }, { on := 1, ground := Go.Ground.phase }, { on := 2, ground := Go.Ground.phase }, { on := 3, ground := Go.Ground.phase }, { on := 4, ground := Go.Ground.phase }, { on := 5, ground := Go.Ground.phase }, { on := 6, ground := Go.Ground.phase }, { on := 7, ground := Go.Ground.phase }, { on := 8, ground := Go.Ground.phase }, { on := 9, ground := Go.Ground.phase }, { on := 10, ground := Go.Ground.phase }, { on := 11, ground := Go.Ground.phase }], guard := none }) (v := .slice fa nf fc) rfl rfl (by kernel_rfl) (by kernel_rfl) (by kernel_rfl) (by kernel_rfl) (fun _ _ _ h => h) (Or.inl ⟨by kernel_rfl, ?_⟩) HBd.out ?_
                · (intro X hX; obtain ⟨z2, z3, z4⟩ := HX.out X hX <;> (go_simp; try (with_reducible rfl)))
                (try simp only [Act.put, List.setIfInBounds_toArray, List.set_cons_zero, List.set_cons_succ])
                refine wpAnyN_one (i := 9) (o := { dst := some 65, op := Go.Op.call { callee := Go.Callee.builtin Go.Builtin.append, args := #[Go.Operand.const (Go.Value.slice none 0 0), Go.Operand.tmp 64], argTypes := #[41, 41] }, type := 41, pos := "hear.go:71", after := #[{ on := 8, ground := Go.Ground.data }], guard := none }) (by kernel_rfl) rfl (fun K hK => ?_)
                refine step_append_run (u := .slice none 0 0) (v := .slice fa nf fc) rfl _ _ _ rfl 41 rfl rfl rfl _ _ HRun.out ?_
                refine hK.out _ _ (fun _ => HB2.out) ?_
                clear hK K
                (try simp only [Act.put, List.setIfInBounds_toArray, List.set_cons_zero, List.set_cons_succ])
                refine wpAnyN_take (i := 10) (oi := { dst := some 66, op := Go.Op.build 116 #[(0, Go.Operand.tmp 62), (1, Go.Operand.tmp 65)], type := 116, pos := "hear.go:71", after := #[{ on := 6, ground := Go.Ground.data }, { on := 9, ground := Go.Ground.data }], guard := none }) (oL := { dst := none, op := Go.Op.store 80 (Go.Operand.tmp 69) (Go.Operand.tmp 67), type := 0, pos := "hear.go:71", after := #[{ on := 13, ground := Go.Ground.data }, { on := 11, ground := Go.Ground.data }, { on := 9, ground := Go.Ground.chain }, { on := 0, ground := Go.Ground.phase }, { on := 1, ground := Go.Ground.phase }, { on := 2, ground := Go.Ground.phase }, { on := 3, ground := Go.Ground.phase }, { on := 4, ground := Go.Ground.phase }, { on := 5, ground := Go.Ground.phase }, { on := 6, ground := Go.Ground.phase }, { on := 7, ground := Go.Ground.phase }, { on := 8, ground := Go.Ground.phase }, { on := 9, ground := Go.Ground.phase }, { on := 10, ground := Go.Ground.phase }, { on := 11, ground := Go.Ground.phase }], guard := none }) (v := .agg #[.int .i64 num, .slice a2 nf c2]) rfl rfl (by kernel_rfl) (by kernel_rfl) (by kernel_rfl) (by kernel_rfl) (fun _ _ _ h => h) (Or.inl ⟨by kernel_rfl, ?_⟩) HB2.out ?_
                · (intro X hX; obtain ⟨z2, z3, z4⟩ := HX.out X hX <;> (go_simp; try (with_reducible rfl)))
                (try simp only [Act.put, List.setIfInBounds_toArray, List.set_cons_zero, List.set_cons_succ])
                refine wpAnyN_one (i := 11) (o := { dst := some 67, op := Go.Op.box 116 (Go.Operand.tmp 66), type := 80, pos := "hear.go:71", after := #[{ on := 10, ground := Go.Ground.data }], guard := none }) (by kernel_rfl) rfl (fun K hK => ?_)
                go_simp
                refine hK.out _ _ (fun _ => HB3.out) ?_
                clear hK K
                (try simp only [Act.put, List.setIfInBounds_toArray, List.set_cons_zero, List.set_cons_succ])
                refine wpAnyN_take (i := 12) (oi := { dst := some 68, op := Go.Op.indexAddr 25 (Go.Operand.tmp 59) (Go.Operand.tmp 60), type := 0, pos := "hear.go:71", after := #[{ on := 3, ground := Go.Ground.data }, { on := 4, ground := Go.Ground.data }, { on := 0, ground := Go.Ground.phase }, { on := 1, ground := Go.Ground.phase }, { on := 2, ground := Go.Ground.phase }, { on := 3, ground := Go.Ground.phase }, { on := 4, ground := Go.Ground.phase }, { on := 5, ground := Go.Ground.phase }, { on := 6, ground := Go.Ground.phase }, { on := 7, ground := Go.Ground.phase }, { on := 8, ground := Go.Ground.phase }, { on := 9, ground := Go.Ground.phase }, { on := 10, ground := Go.Ground.phase }, { on := 11, ground := Go.Ground.phase }], guard := none }) (oL := { dst := none, op := Go.Op.store 80 (Go.Operand.tmp 69) (Go.Operand.tmp 67), type := 0, pos := "hear.go:71", after := #[{ on := 13, ground := Go.Ground.data }, { on := 11, ground := Go.Ground.data }, { on := 9, ground := Go.Ground.chain }, { on := 0, ground := Go.Ground.phase }, { on := 1, ground := Go.Ground.phase }, { on := 2, ground := Go.Ground.phase }, { on := 3, ground := Go.Ground.phase }, { on := 4, ground := Go.Ground.phase }, { on := 5, ground := Go.Ground.phase }, { on := 6, ground := Go.Ground.phase }, { on := 7, ground := Go.Ground.phase }, { on := 8, ground := Go.Ground.phase }, { on := 9, ground := Go.Ground.phase }, { on := 10, ground := Go.Ground.phase }, { on := 11, ground := Go.Ground.phase }], guard := none }) (v := .pointer (some ⟨g2, ix * 4, none⟩)) rfl rfl (by kernel_rfl) (by kernel_rfl) (by kernel_rfl) (by kernel_rfl) (fun _ _ _ h => h) (Or.inl ⟨by kernel_rfl, ?_⟩) HB3.out ?_
                · (intro X hX; obtain ⟨z2, z3, z4⟩ := HX.out X hX <;> (go_simp; try (with_reducible rfl)))
                (try simp only [Act.put, List.setIfInBounds_toArray, List.set_cons_zero, List.set_cons_succ])
                refine wpAnyN_take (i := 13) (oi := { dst := some 69, op := Go.Op.fieldAddr 82 (Go.Operand.tmp 68) 3, type := 0, pos := "hear.go:71", after := #[{ on := 12, ground := Go.Ground.data }, { on := 0, ground := Go.Ground.phase }, { on := 1, ground := Go.Ground.phase }, { on := 2, ground := Go.Ground.phase }, { on := 3, ground := Go.Ground.phase }, { on := 4, ground := Go.Ground.phase }, { on := 5, ground := Go.Ground.phase }, { on := 6, ground := Go.Ground.phase }, { on := 7, ground := Go.Ground.phase }, { on := 8, ground := Go.Ground.phase }, { on := 9, ground := Go.Ground.phase }, { on := 10, ground := Go.Ground.phase }, { on := 11, ground := Go.Ground.phase }], guard := none }) (oL := { dst := none, op := Go.Op.store 80 (Go.Operand.tmp 69) (Go.Operand.tmp 67), type := 0, pos := "hear.go:71", after := #[{ on := 13, ground := Go.Ground.data }, { on := 11, ground := Go.Ground.data }, { on := 9, ground := Go.Ground.chain }, { on := 0, ground := Go.Ground.phase }, { on := 1, ground := Go.Ground.phase }, { on := 2, ground := Go.Ground.phase }, { on := 3, ground := Go.Ground.phase }, { on := 4, ground := Go.Ground.phase }, { on := 5, ground := Go.Ground.phase }, { on := 6, ground := Go.Ground.phase }, { on := 7, ground := Go.Ground.phase }, { on := 8, ground := Go.Ground.phase }, { on := 9, ground := Go.Ground.phase }, { on := 10, ground := Go.Ground.phase }, { on := 11, ground := Go.Ground.phase }], guard := none }) (v := .pointer (some ⟨g2, ix * 4 + 3, none⟩)) rfl rfl (by kernel_rfl) (by kernel_rfl) (by kernel_rfl) (by kernel_rfl) (fun _ _ _ h => h) (Or.inl ⟨by kernel_rfl, ?_⟩) HB3.out ?_
                · (intro X hX; obtain ⟨z2, z3, z4⟩ := HX.out X hX <;> (go_simp; try (with_reducible rfl)))
                (try simp only [Act.put, List.setIfInBounds_toArray, List.set_cons_zero, List.set_cons_succ])
                refine wpAnyN_one (i := 14) (o := { dst := none, op := Go.Op.store 80 (Go.Operand.tmp 69) (Go.Operand.tmp 67), type := 0, pos := "hear.go:71", after := #[{ on := 13, ground := Go.Ground.data }, { on := 11, ground := Go.Ground.data }, { on := 9, ground := Go.Ground.chain }, { on := 0, ground := Go.Ground.phase }, { on := 1, ground := Go.Ground.phase }, { on := 2, ground := Go.Ground.phase }, { on := 3, ground := Go.Ground.phase }, { on := 4, ground := Go.Ground.phase }, { on := 5, ground := Go.Ground.phase }, { on := 6, ground := Go.Ground.phase }, { on := 7, ground := Go.Ground.phase }, { on := 8, ground := Go.Ground.phase }, { on := 9, ground := Go.Ground.phase }, { on := 10, ground := Go.Ground.phase }, { on := 11, ground := Go.Ground.phase }], guard := none }) (by kernel_rfl) rfl (fun K hK => ?_)
                go_simp
                refine hK.out _ _ (fun e => absurd (e.symm.trans (by kernel_rfl) : false = true) Bool.false_ne_true) ?_
                clear hK K
                (try simp only [Act.put, List.setIfInBounds_toArray, List.set_cons_zero, List.set_cons_succ])
                refine wpAnyN_of_H (S' := fun _ => True) _ _ _ _ (by kernel_rfl) ?_
                refine wpAnyH_done (by kernel_rfl) ?_ _
                --E Flag8b--
                go_wp2_with fail
                go_roundw
                case rel => exact ⟨k + 1, _, by omega, by go_num, HO.out, Lib.hid ⟨(HTn.out _ _).trans HS.out.symm, (HTu.out _).trans HR1.out.2⟩⟩
                case measure => simp [intOf]; omega
      · obtain rfl : k = ms.length := by omega
        rw [List.take_of_length_le (Nat.le_refl _)] at HR1
        have HO := Lib.hid hO
        clear hO
        go_wp2
        first | refine bodyPost_end (results_none rfl _ _ _) rfl ?_ | refine bodyPost_ret (results_none rfl _ _ _) rfl ?_
        exact ⟨rfl, R1, VO.from HB1.out HO.out, HR1.out⟩
  · have hxb : (e.bx != val) = true := by simpa using hx
    rw [if_neg hx]
    have HO : Hid (VO mk P val R C (fpV P rv cv R) w W1.drew) := Lib.hid ⟨rv, cv, hV1.on (Below.refl _ _).drew, (FO.below hb1).trans (FO.below (Below.refl _ _).drew)⟩
    clear h h1 hb1 hV1 hx hm hout
    go_enter Tryz.func46, Tryz.ntmps46
    go_upto_region 1 with fail
    (try rw [hW1])
    clear hW1
    go_region
    all_goals
      go_wp2_with fail
      first | refine bodyPost_end (results_none rfl _ _ _) rfl ?_ | refine bodyPost_ret (results_none rfl _ _ _) rfl ?_
      exact ⟨rfl, R, HO.out, rfl, rfl⟩
end
end Go.Proofs.YtflkhnmggmfhfaaGreat

/- view: a view by what is plain of it; Hear. -/
namespace Go.Proofs.YtflkhnmggmfhfaaGreat
open Go.RowKit

theorem uid_pl {R : List RE} {V : PV} (h : R.map RE.pl = V.rows) : uidR R = uidsP V := by
  unfold uidsP uidR
  rw [← h, List.map_map]
  rfl
theorem VOK.of {R : List RE} {V : PV} {N : Nat} (h : R.map RE.pl = V.rows) (hk : PVok V N) : VOK R V.com N :=
  ⟨by rw [uid_pl h]; exact hk.rise, by rw [uid_pl h]; exact hk.top, by
    have := hk.len
    have e := congrArg List.length h
    simp only [List.length_map] at e
    omega⟩
theorem VG.of {P : Nat} {V' : PV} {fp : List Nat} {w w' : World} {R' : List RE} {C' : List Int} {mk : Bool} {val : Int} (h : VO mk P val R' C' fp w w') (hv : val = V'.val) (hr : R'.map RE.pl = V'.rows) (hc : C' = V'.com) : VGm mk P V' fp w w' := by
  obtain ⟨rv, cv, h1, h2⟩ := h
  subst hv hc
  exact ⟨_, ⟨rv, cv, R', h1, hr, rfl⟩, h2⟩
theorem lvR_pl : ∀ (us : List Int) (V : PV) (R : List RE), R.map RE.pl = V.rows → (lvR R us).map RE.pl = (leavesP V us).rows ∧ lvC V.com us = (leavesP V us).com
  | [], _, _, h => ⟨h, rfl⟩
  | u :: us, V, R, h => by
    have h1 : (R.map (atU u goE)).map RE.pl = (leave1 V u).rows := by
      show _ = V.rows.map (goR u)
      rw [← h, List.map_map, List.map_map]
      apply List.map_congr_left
      intro r _
      simp only [Function.comp]
      unfold atU goR
      by_cases e : r.uid = u
      · rw [if_pos e, if_pos (show r.pl.uid = u from e)]; rfl
      · rw [if_neg e, if_neg (show ¬ r.pl.uid = u from e)]
    exact lvR_pl us (leave1 V u) (R.map (atU u goE)) h1
theorem foldM_pl (n : Int) (own : Bool) : ∀ (ms : List ME) (V : PV), foldM n own ms V.rows = (marksP V n own (ms.map ME.pl)).rows ∧ (marksP V n own (ms.map ME.pl)).com = V.com ∧ (marksP V n own (ms.map ME.pl)).val = V.val
  | [], _ => ⟨rfl, rfl, rfl⟩
  | m :: ms, V => foldM_pl n own ms (mark1 n own V m.pl)

/-- What lies behind an event's lists. -/
structure EvAt (w : World) (e : EV) (us : List Int) (ms : List ME) : Prop where
  uids : Nms w e.vu us
  marks : MksAt w e.vm ms
  low : -9223372036854775808 ≤ e.fi
  ulen : us.length ≤ 300000
  mlen : ms.length ≤ 300000
structure EvOut (w : World) (fp : List Nat) (e : EV) (us : List Int) (ms : List ME) : Prop where
  uids : 0 < us.length → ∀ b, e.vu.ownBlock = some b → b < w.heap.size ∧ b ∉ fp
  marks : MksOut fp e.vm ms
def plE (e : EV) (us : List Int) (ms : List ME) : PEv := ⟨e.n, e.k, e.bx, e.tt, e.fi, us, ms.map ME.pl⟩
theorem EvAt.on {w w' : World} {e : EV} {us : List Int} {ms : List ME} (h : EvAt w e us ms) (hb : Below w.heap.size w w') : EvAt w' e us ms := ⟨h.uids.on hb, h.marks.on hb, h.low, h.ulen, h.mlen⟩
theorem EvOut.on {w w' : World} {fp : List Nat} {e : EV} {us : List Int} {ms : List ME} (h : EvOut w fp e us ms) (hz : w.heap.size ≤ w'.heap.size) : EvOut w' fp e us ms := ⟨fun h0 b hb => ⟨by have := (h.uids h0 b hb).1; omega, (h.uids h0 b hb).2⟩, h.marks⟩
/-- What the one function does that an event's kind asks for. -/
def hearF (k : Int) : Option Nat := if k = 4 then some 44 else if k = 5 then some 45 else if k = 6 then some 46 else if k = 7 then some 47 else if k = 8 then some 48 else if k = 9 then some 49 else none
theorem hear_fn {P : Nat} {V : PV} {fp : List Nat} {w : World} {N : Nat} (h : VW P V fp w) (hk : PVok V N) (e : EV) (own : Bool) (us : List Int) (ms : List ME) (hN : N + (1 + us.length) ≤ 1000000) (he : EvAt w e us ms) (ho : EvOut w fp e us ms) (f : Nat) (hf : hearF e.k = some f) :
    Calls Tryz.prog f #[.pointer (some ⟨P, 0, none⟩), .agg (evA e), .bool own] w fun r w' => r = .returned (.tuple #[]) ∧ VG P (hearP V (plE e us ms) own) fp w w' := by
  obtain ⟨rv, cv, R, hV, hpl, rfl⟩ := h
  have hko := VOK.of hpl hk
  have hul := uid_pl hpl
  have hlen := hko.len
  have hu := he.ulen
  have hml := he.mlen
  unfold hearF at hf
  by_cases k4 : e.k = 4
  · rw [if_pos k4] at hf
    cases hf
    refine (emptied_any hV hko (by omega) e own).mono ?_
    rintro r w' ⟨rfl, hO⟩
    refine ⟨rfl, VG.of hO (hearP_val _ _ _).symm ?_ ?_⟩
    · unfold hearP plE
      simp only [if_pos k4]
      split
      · rw [hul]; exact (lvR_pl (uidsP V) V R hpl).1
      · exact hpl
    · unfold hearP plE
      simp only [if_pos k4]
      split <;> rfl
  rw [if_neg k4] at hf
  by_cases k5 : e.k = 5
  · rw [if_pos k5] at hf
    cases hf
    refine (added_any hV (by omega) (by omega) e own).mono ?_
    rintro r w' ⟨rfl, hO⟩
    refine ⟨rfl, VG.of hO (hearP_val _ _ _).symm ?_ ?_⟩
    · unfold hearP plE
      simp only [if_neg k4, if_pos k5]
      split
      · rw [comeP_rows]; exact hpl
      · exact hpl
    · unfold hearP plE
      simp only [if_neg k4, if_pos k5]
      split
      · rw [comeP_C, hul]
      · rfl
  rw [if_neg k5] at hf
  by_cases k6 : e.k = 6
  · rw [if_pos k6] at hf
    cases hf
    refine (flagged_any hV hko (by omega) e own ms he.marks ho.marks (by omega)).mono ?_
    rintro r w' ⟨rfl, R', hO, hp, _⟩
    obtain ⟨f1, f2, _⟩ := foldM_pl e.n own ms V
    refine ⟨rfl, VG.of hO (hearP_val _ _ _).symm ?_ ?_⟩
    · rw [hp]
      unfold hearP plE
      simp only [if_neg k4, if_neg k5, if_pos k6]
      split
      · rw [hpl]; exact f1
      · exact hpl
    · unfold hearP plE
      simp only [if_neg k4, if_neg k5, if_pos k6]
      split
      · exact f2.symm
      · rfl
  rw [if_neg k6] at hf
  by_cases k7 : e.k = 7
  · rw [if_pos k7] at hf
    cases hf
    refine (expunged_any hV hko (by omega) e own us he.uids (fun h0 b hb => (ho.uids h0 b hb).2) (by omega)).mono ?_
    rintro r w' ⟨rfl, hO⟩
    refine ⟨rfl, VG.of hO (hearP_val _ _ _).symm ?_ ?_⟩
    · unfold hearP plE
      simp only [if_neg k4, if_neg k5, if_neg k6, if_pos k7]
      split
      · exact (lvR_pl us V R hpl).1
      · exact hpl
    · unfold hearP plE
      simp only [if_neg k4, if_neg k5, if_neg k6, if_pos k7]
      split
      · exact (lvR_pl us V R hpl).2
      · rfl
  rw [if_neg k7] at hf
  by_cases k8 : e.k = 8
  · rw [if_pos k8] at hf
    cases hf
    refine (copied_any hV e own us he.uids he.low (by omega) (by omega) (by omega)).mono ?_
    rintro r w' ⟨rfl, hO⟩
    refine ⟨rfl, VG.of hO (hearP_val _ _ _).symm ?_ ?_⟩
    · unfold hearP plE
      simp only [if_neg k4, if_neg k5, if_neg k6, if_neg k7, if_pos k8]
      split
      · rw [comesP_rows]; exact hpl
      · exact hpl
    · unfold hearP plE
      simp only [if_neg k4, if_neg k5, if_neg k6, if_neg k7, if_pos k8]
      split
      · rw [comesP_C, hul]
      · rfl
  rw [if_neg k8] at hf
  by_cases k9 : e.k = 9
  · rw [if_pos k9] at hf
    cases hf
    refine (moved_any hV hko e own us he.uids ho.uids he.low (by omega) (by omega)).mono ?_
    rintro r w' ⟨rfl, hO⟩
    have hpc : R.map RE.pl = (comesP V (fol e.fi us.length)).rows := by rw [comesP_rows]; exact hpl
    have hcc : comesC (uidR R) V.com (fol e.fi us.length) = (comesP V (fol e.fi us.length)).com := by rw [comesP_C, hul]
    refine ⟨rfl, VG.of hO (hearP_val _ _ _).symm ?_ ?_⟩
    · unfold hearP plE
      simp only [if_neg k4, if_neg k5, if_neg k6, if_neg k7, if_neg k8, if_pos k9]
      by_cases a1 : e.tt = V.val <;> by_cases a2 : e.bx = V.val <;> simp only [a1, a2, if_true, if_false]
      · exact (lvR_pl us _ R hpc).1
      · exact hpc
      · exact (lvR_pl us V R hpl).1
      · exact hpl
    · unfold hearP plE
      simp only [if_neg k4, if_neg k5, if_neg k6, if_neg k7, if_neg k8, if_pos k9]
      by_cases a1 : e.tt = V.val <;> by_cases a2 : e.bx = V.val <;> simp only [a1, a2, if_true, if_false]
      · rw [hcc]; exact (lvR_pl us _ R hpc).2
      · exact hcc
      · exact (lvR_pl us V R hpl).2
  rw [if_neg k9] at hf
  cases hf
end Go.Proofs.YtflkhnmggmfhfaaGreat

/- view: Hear. -/
namespace Go.Proofs.YtflkhnmggmfhfaaGreat
open Go.RowKit

def tabV (P : Nat) : Array Value := #[.nilFunc, .nilFunc, .nilFunc, .nilFunc, .func (.func 44) #[.pointer (some ⟨P, 0, none⟩)] #[], .func (.func 45) #[.pointer (some ⟨P, 0, none⟩)] #[], .func (.func 46) #[.pointer (some ⟨P, 0, none⟩)] #[], .func (.func 47) #[.pointer (some ⟨P, 0, none⟩)] #[], .func (.func 48) #[.pointer (some ⟨P, 0, none⟩)] #[], .func (.func 49) #[.pointer (some ⟨P, 0, none⟩)] #[], .nilFunc, .nilFunc]
theorem Tryz.sizeTab : (Tryz.prog.info? 99).map (·.size) = some 12 := by kernel_rfl
theorem Tryz.eqFn (fn : Nat) (v : Value) (w : World) : (binOp .eql 59 (.func (.func fn) #[v] #[]) .nilFunc).run Tryz.prog w = .ok (.bool false) w := by kernel_rfl
theorem Tryz.eqNil (w : World) : (binOp .eql 59 .nilFunc .nilFunc).run Tryz.prog w = .ok (.bool true) w := by kernel_rfl
set_option maxHeartbeats 1000000 in
set_option maxRecDepth 20000 in
theorem Hear_no {P : Nat} {V : PV} {fp : List Nat} {w : World} (h : VW P V fp w) (e : EV) (own : Bool) (hk : hearF e.k = none) :
    Calls Tryz.prog 12 #[.pointer (some ⟨P, 0, none⟩), .agg (evA e), .bool own] w fun r w' => r = .returned (.tuple #[]) ∧ VG P V fp w w' := by
  obtain ⟨W1, hW1⟩ : ∃ W1, w.alloc (.cells (evA e) 45) = W1 := ⟨_, rfl⟩
  have h1 : W1.heap[w.heap.size]? = some (.cells (evA e) 45 (0, 0)) := by rw [← hW1]; exact heap_new _ _
  have hb1 : Below w.heap.size w W1 := by rw [← hW1]; exact below_box (Below.refl _ _) (Nat.le_refl _) _
  obtain ⟨W2, hW2⟩ : ∃ W2, (W1.alloc (.cells #[.nilFunc, .nilFunc, .nilFunc, .nilFunc, .nilFunc, .nilFunc, .nilFunc, .nilFunc, .nilFunc, .nilFunc, .nilFunc, .nilFunc] 99)).setRow W1.heap.size (tabV P) = W2 := ⟨_, rfl⟩
  have h2 : W2.heap[W1.heap.size]? = some (.cells (tabV P) 99 (0, 0)) := by rw [← hW2]; exact setRow_heap _ _ _ _ _ _ (heap_new W1 _)
  have hb2 : Below W1.heap.size W1 W2 := by
    rw [← hW2]
    exact ⟨rfl, rfl, rfl, by simp, fun b hb => by rw [setRow_other _ _ _ _ (by omega)]; exact Below.heap_alloc _ _ _ hb⟩
  have hwz : w.heap.size < W1.heap.size := lt_of_heap h1
  have h3 : W2.heap[w.heap.size]? = some (.cells (evA e) 45 (0, 0)) := by rw [hb2.block _ hwz]; exact h1
  obtain ⟨_, c1, _⟩ := evA_cells h3
  obtain ⟨rv, cv, R, hV, hpl, rfl⟩ := h
  have hV1 := hV.on hb1
  have d0 := hV1.cells.c0
  have HO : Hid (VG P V (fpV P rv cv R) w W2) := Lib.hid ⟨_, ⟨rv, cv, R, hV1.on hb2, hpl, rfl⟩, (FO.below hb1).trans (FO.below hb2)⟩
  have y : ∀ k v, (tabV P)[k]? = some v → W2.cell? ⟨W1.heap.size, k, none⟩ = some v := fun k v hv => by rw [cell_of h2 k]; exact hv
  have y0 : W2.cell? ⟨W1.heap.size, 0, none⟩ = some .nilFunc := y 0 _ rfl
  have y1 : W2.cell? ⟨W1.heap.size, 1, none⟩ = some .nilFunc := y 1 _ rfl
  have y2 : W2.cell? ⟨W1.heap.size, 2, none⟩ = some .nilFunc := y 2 _ rfl
  have y3 : W2.cell? ⟨W1.heap.size, 3, none⟩ = some .nilFunc := y 3 _ rfl
  have ya : W2.cell? ⟨W1.heap.size, 10, none⟩ = some .nilFunc := y 10 _ rfl
  have yb : W2.cell? ⟨W1.heap.size, 11, none⟩ = some .nilFunc := y 11 _ rfl
  have hkk : e.k < 0 ∨ 11 < e.k ∨ e.k = 0 ∨ e.k = 1 ∨ e.k = 2 ∨ e.k = 3 ∨ e.k = 10 ∨ e.k = 11 := by
    unfold hearF at hk
    by_cases a : e.k < 0
    · exact .inl a
    by_cases b : 11 < e.k
    · exact .inr (.inl b)
    (repeat' split at hk) <;> (first | omega | cases hk)
  clear hV hV1 hb1 hb2 h1 h2 h3 hpl hwz y hk
  have q0 := Tryz.eqFn
  have q1 := Tryz.eqNil
  go_enter Tryz.func12, Tryz.ntmps12
  go_upto_region 1 with fail
  (try rw [hW1])
  clear hW1
  go_upto_region 3 with (refine wpList_store_row rfl 99 _ _ rfl W1.heap.size (tabV P) rfl rfl 99 _ (heap_new _ _) Tryz.sizeTab rfl (by simp [tabV, Value.oneCell']) ?_)
  (try rw [hW2])
  clear hW2 d0
  generalize e.k = kk at *
  rcases hkk with hk | hk | rfl | rfl | rfl | rfl | rfl | rfl
  · go_wp2_with fail
    first | refine bodyPost_end (results_none rfl _ _ _) rfl ?_ | refine bodyPost_ret (results_none rfl _ _ _) rfl ?_
    exact ⟨rfl, HO.out⟩
  · have hk0 : ¬ kk < 0 := by omega
    go_wp2_with fail
    first | refine bodyPost_end (results_none rfl _ _ _) rfl ?_ | refine bodyPost_ret (results_none rfl _ _ _) rfl ?_
    exact ⟨rfl, HO.out⟩
  all_goals
    go_wp2_with fail
    first | refine bodyPost_end (results_none rfl _ _ _) rfl ?_ | refine bodyPost_ret (results_none rfl _ _ _) rfl ?_
    exact ⟨rfl, HO.out⟩
set_option maxHeartbeats 1000000 in
set_option maxRecDepth 20000 in
theorem Hear_some {P : Nat} {V : PV} {fp : List Nat} {w : World} {N : Nat} (h : VW P V fp w) (hk : PVok V N) (e : EV) (own : Bool) (us : List Int) (ms : List ME) (hN : N + (1 + us.length) ≤ 1000000) (he : EvAt w e us ms) (ho : EvOut w fp e us ms) (fn kn : Nat) (hf : hearF e.k = some fn) (hkn : e.k = (kn : Int)) (hk11 : kn ≤ 11) (hfn : (tabV P)[kn]? = some (.func (.func fn) #[.pointer (some ⟨P, 0, none⟩)] #[]))
    (eg : ∀ args w, (callFunc fn args).run Tryz.prog w = .ok (.enter fn args) w) :
    Calls Tryz.prog 12 #[.pointer (some ⟨P, 0, none⟩), .agg (evA e), .bool own] w fun r w' => r = .returned (.tuple #[]) ∧ VG P (hearP V (plE e us ms) own) fp w w' := by
  obtain ⟨W1, hW1⟩ : ∃ W1, w.alloc (.cells (evA e) 45) = W1 := ⟨_, rfl⟩
  have h1 : W1.heap[w.heap.size]? = some (.cells (evA e) 45 (0, 0)) := by rw [← hW1]; exact heap_new _ _
  have hb1 : Below w.heap.size w W1 := by rw [← hW1]; exact below_box (Below.refl _ _) (Nat.le_refl _) _
  obtain ⟨W2, hW2⟩ : ∃ W2, (W1.alloc (.cells #[.nilFunc, .nilFunc, .nilFunc, .nilFunc, .nilFunc, .nilFunc, .nilFunc, .nilFunc, .nilFunc, .nilFunc, .nilFunc, .nilFunc] 99)).setRow W1.heap.size (tabV P) = W2 := ⟨_, rfl⟩
  have h2 : W2.heap[W1.heap.size]? = some (.cells (tabV P) 99 (0, 0)) := by rw [← hW2]; exact setRow_heap _ _ _ _ _ _ (heap_new W1 _)
  have hb2 : Below W1.heap.size W1 W2 := by
    rw [← hW2]
    exact ⟨rfl, rfl, rfl, by simp, fun b hb => by rw [setRow_other _ _ _ _ (by omega)]; exact Below.heap_alloc _ _ _ hb⟩
  have hwz : w.heap.size < W1.heap.size := lt_of_heap h1
  have h3 : W2.heap[w.heap.size]? = some (.cells (evA e) 45 (0, 0)) := by rw [hb2.block _ hwz]; exact h1
  obtain ⟨_, c1, _⟩ := evA_cells h3
  have hbd : Below w.heap.size w W2.drew := (hb1.trans (hb2.mono hb1.size)).drew
  have HC := Lib.hid ((hear_fn (h.on hbd) hk e own us ms hN (he.on hbd) (ho.on hbd.size) fn hf).mono (fun r w' ⟨q1, q2⟩ => (⟨q1, by
    obtain ⟨fp', k1, k2⟩ := q2
    exact ⟨fp', k1, (FO.below hbd).trans k2⟩⟩ : _ ∧ VG P (hearP V (plE e us ms) own) fp w w')))
  have yk : W2.cell? ⟨W1.heap.size, kn, none⟩ = some (.func (.func fn) #[.pointer (some ⟨P, 0, none⟩)] #[]) := by rw [cell_of h2 kn]; exact hfn
  have d0 : W1.cell? ⟨P, 0, none⟩ = some (.bool true) := by
    obtain ⟨rv, cv, R, hV, _, rfl⟩ := h
    exact (hV.on hb1).cells.c0
  have HEv : Hid (W2.drew.heap[w.heap.size]? = some (.cells (evA e) 45 (0, 0))) := Lib.hid h3
  clear h hb1 hb2 h1 h2 h3 hwz he ho hbd hf hfn
  rw [hkn] at c1
  have hk0 : ¬ (kn : Int) < 0 := by omega
  have hk1 : ¬ (11 : Int) < (kn : Int) := by omega
  have hk2 : ¬ (12 : Int) ≤ (kn : Int) := by omega
  have q0 := Tryz.eqFn
  have q1 := Tryz.eqNil
  go_enter Tryz.func12, Tryz.ntmps12
  go_upto_region 1 with fail
  (try rw [hW1])
  clear hW1
  go_upto_region 3 with (refine wpList_store_row rfl 99 _ _ rfl W1.heap.size (tabV P) rfl rfl 99 _ (heap_new _ _) Tryz.sizeTab rfl (by simp [tabV, Value.oneCell']) ?_)
  (try rw [hW2])
  clear hW2 d0
  go_upto_region 4 with fail
  --R Hear4--
  refine wp_region_N 6 (fun X => X = W2.drew) (by kernel_rfl) ?_
  refine wpAnyN_take (i := 0) (oi := { dst := some 44, op := Go.Op.fieldAddr 45 (Go.Operand.tmp 4) 1, type := 0, pos := "hear.go:27", after := #[], guard := none }) (oL := { dst := some 50, op := Go.Op.call { callee := Go.Callee.value (Go.Operand.tmp 47), args := #[Go.Operand.tmp 48, Go.Operand.tmp 49], argTypes := #[45, 4] }, type := 0, pos := "hear.go:27", after := #[{ on := 3, ground := Go.Ground.data }, { on := 4, ground := Go.Ground.data }, { on := 5, ground := Go.Ground.data }], guard := none }) (v := .pointer (some ⟨w.heap.size, 1, none⟩)) rfl rfl (by kernel_rfl) (by kernel_rfl) (by kernel_rfl) (by kernel_rfl) (fun _ _ _ h => h) (Or.inl ⟨by kernel_rfl, ?_⟩) rfl ?_
  · (intro X hX; subst hX <;> (go_simp; try (with_reducible rfl)))
  (try simp only [Act.put, List.setIfInBounds_toArray, List.set_cons_zero, List.set_cons_succ])
  refine wpAnyN_take (i := 1) (oi := { dst := some 45, op := Go.Op.load 3 (Go.Operand.tmp 44), type := 3, pos := "hear.go:27", after := #[{ on := 0, ground := Go.Ground.data }], guard := none }) (oL := { dst := some 50, op := Go.Op.call { callee := Go.Callee.value (Go.Operand.tmp 47), args := #[Go.Operand.tmp 48, Go.Operand.tmp 49], argTypes := #[45, 4] }, type := 0, pos := "hear.go:27", after := #[{ on := 3, ground := Go.Ground.data }, { on := 4, ground := Go.Ground.data }, { on := 5, ground := Go.Ground.data }], guard := none }) (v := .int .i64 (kn : Int)) rfl rfl (by kernel_rfl) (by kernel_rfl) (by kernel_rfl) (by kernel_rfl) (fun _ _ _ h => h) (Or.inl ⟨by kernel_rfl, ?_⟩) rfl ?_
  · (intro X hX; subst hX <;> (go_simp; try (with_reducible rfl)))
  (try simp only [Act.put, List.setIfInBounds_toArray, List.set_cons_zero, List.set_cons_succ])
  refine wpAnyN_take (i := 2) (oi := { dst := some 46, op := Go.Op.indexAddr 99 (Go.Operand.tmp 6) (Go.Operand.tmp 45), type := 0, pos := "hear.go:27", after := #[{ on := 1, ground := Go.Ground.data }], guard := none }) (oL := { dst := some 50, op := Go.Op.call { callee := Go.Callee.value (Go.Operand.tmp 47), args := #[Go.Operand.tmp 48, Go.Operand.tmp 49], argTypes := #[45, 4] }, type := 0, pos := "hear.go:27", after := #[{ on := 3, ground := Go.Ground.data }, { on := 4, ground := Go.Ground.data }, { on := 5, ground := Go.Ground.data }], guard := none }) (v := .pointer (some ⟨W1.heap.size, kn, none⟩)) rfl rfl (by kernel_rfl) (by kernel_rfl) (by kernel_rfl) (by kernel_rfl) (fun _ _ _ h => h) (Or.inl ⟨by kernel_rfl, ?_⟩) rfl ?_
  · (intro X hX; subst hX <;> (go_simp; try (with_reducible rfl)))
  (try simp only [Act.put, List.setIfInBounds_toArray, List.set_cons_zero, List.set_cons_succ])
  refine wpAnyN_take (i := 3) (oi := { dst := some 47, op := Go.Op.load 59 (Go.Operand.tmp 46), type := 59, pos := "hear.go:27", after := #[{ on := 2, ground := Go.Ground.data }], guard := none }) (oL := { dst := some 50, op := Go.Op.call { callee := Go.Callee.value (Go.Operand.tmp 47), args := #[Go.Operand.tmp 48, Go.Operand.tmp 49], argTypes := #[45, 4] }, type := 0, pos := "hear.go:27", after := #[{ on := 3, ground := Go.Ground.data }, { on := 4, ground := Go.Ground.data }, { on := 5, ground := Go.Ground.data }], guard := none }) (v := .func (.func fn) #[.pointer (some ⟨P, 0, none⟩)] #[]) rfl rfl (by kernel_rfl) (by kernel_rfl) (by kernel_rfl) (by kernel_rfl) (fun _ _ _ h => h) (Or.inl ⟨by kernel_rfl, ?_⟩) rfl ?_
  · (intro X hX; subst hX <;> (go_simp; try (with_reducible rfl)))
  (try simp only [Act.put, List.setIfInBounds_toArray, List.set_cons_zero, List.set_cons_succ])
  refine wpAnyN_take (i := 5) (oi := { dst := some 49, op := Go.Op.move (Go.Operand.tmp 2), type := 4, pos := "hear.go:27", after := #[], guard := none }) (oL := { dst := some 50, op := Go.Op.call { callee := Go.Callee.value (Go.Operand.tmp 47), args := #[Go.Operand.tmp 48, Go.Operand.tmp 49], argTypes := #[45, 4] }, type := 0, pos := "hear.go:27", after := #[{ on := 3, ground := Go.Ground.data }, { on := 4, ground := Go.Ground.data }, { on := 5, ground := Go.Ground.data }], guard := none }) (v := .bool own) rfl rfl (by kernel_rfl) (by kernel_rfl) (by kernel_rfl) (by kernel_rfl) (fun _ _ _ h => h) (Or.inl ⟨by kernel_rfl, ?_⟩) rfl ?_
  · (intro X hX; subst hX <;> (go_simp; try (with_reducible rfl)))
  (try simp only [Act.put, List.setIfInBounds_toArray, List.set_cons_zero, List.set_cons_succ])
  refine wpAnyN_one (i := 4) (o := { dst := some 48, op := Go.Op.load 45 (Go.Operand.tmp 4), type := 45, pos := "hear.go:27", after := #[], guard := none }) (by kernel_rfl) rfl (fun K hK => ?_)
  refine wp_load_row 45 _ rfl w.heap.size rfl 45 _ (0, 0) _ HEv.out Tryz.underlying45 rfl (Tryz.sizeEvA e) ?_
  refine hK.out _ _ (fun _ => rfl) ?_
  clear hK K
  (try simp only [Act.put, List.setIfInBounds_toArray, List.set_cons_zero, List.set_cons_succ])
  refine wpAnyN_one (i := 6) (o := { dst := some 50, op := Go.Op.call { callee := Go.Callee.value (Go.Operand.tmp 47), args := #[Go.Operand.tmp 48, Go.Operand.tmp 49], argTypes := #[45, 4] }, type := 0, pos := "hear.go:27", after := #[{ on := 3, ground := Go.Ground.data }, { on := 4, ground := Go.Ground.data }, { on := 5, ground := Go.Ground.data }], guard := none }) (by kernel_rfl) rfl (fun K hK => ?_)
  go_simp
  refine HC.out.mono ?_
  rintro r w4 ⟨rfl, ho⟩
  have HO := Lib.hid ho
  clear ho
  refine hK.out _ _ (fun e => absurd (e.symm.trans (by kernel_rfl) : false = true) Bool.false_ne_true) ?_
  clear hK K
  (try simp only [Act.put, List.setIfInBounds_toArray, List.set_cons_zero, List.set_cons_succ])
  refine wpAnyN_of_H (S' := fun _ => True) _ _ _ _ (by kernel_rfl) ?_
  refine wpAnyH_done (by kernel_rfl) ?_ _
  --E Hear4--
  go_wp2_with fail
  first | refine bodyPost_end (results_none rfl _ _ _) rfl ?_ | refine bodyPost_ret (results_none rfl _ _ _) rfl ?_
  exact ⟨rfl, HO.out⟩
theorem hearP_no {V : PV} {e : EV} {us : List Int} {ms : List ME} {own : Bool} (h : hearF e.k = none) : hearP V (plE e us ms) own = V := by
  unfold hearF at h
  unfold hearP plE
  repeat' split at h
  all_goals (first | (cases h; done) | skip)
  simp only [*, if_false]
theorem Hear_any {P : Nat} {V : PV} {fp : List Nat} {w : World} {N : Nat} (h : VW P V fp w) (hk : PVok V N) (e : EV) (own : Bool) (us : List Int) (ms : List ME) (hN : N + (1 + us.length) ≤ 1000000) (he : EvAt w e us ms) (ho : EvOut w fp e us ms) :
    Calls Tryz.prog 12 #[.pointer (some ⟨P, 0, none⟩), .agg (evA e), .bool own] w fun r w' => r = .returned (.tuple #[]) ∧ VG P (hearP V (plE e us ms) own) fp w w' := by
  cases hf : hearF e.k with
  | none => rw [hearP_no hf]; exact Hear_no h e own hf
  | some fn =>
    have hf' := hf
    unfold hearF at hf'
    by_cases k4 : e.k = 4
    · rw [if_pos k4] at hf'
      cases hf'
      exact Hear_some h hk e own us ms hN he ho _ 4 hf k4 (by omega) rfl (enters_of Tryz.func44 (by kernel_rfl) rfl)
    rw [if_neg k4] at hf'
    by_cases k5 : e.k = 5
    · rw [if_pos k5] at hf'
      cases hf'
      exact Hear_some h hk e own us ms hN he ho _ 5 hf k5 (by omega) rfl (enters_of Tryz.func45 (by kernel_rfl) rfl)
    rw [if_neg k5] at hf'
    by_cases k6 : e.k = 6
    · rw [if_pos k6] at hf'
      cases hf'
      exact Hear_some h hk e own us ms hN he ho _ 6 hf k6 (by omega) rfl (enters_of Tryz.func46 (by kernel_rfl) rfl)
    rw [if_neg k6] at hf'
    by_cases k7 : e.k = 7
    · rw [if_pos k7] at hf'
      cases hf'
      exact Hear_some h hk e own us ms hN he ho _ 7 hf k7 (by omega) rfl (enters_of Tryz.func47 (by kernel_rfl) rfl)
    rw [if_neg k7] at hf'
    by_cases k8 : e.k = 8
    · rw [if_pos k8] at hf'
      cases hf'
      exact Hear_some h hk e own us ms hN he ho _ 8 hf k8 (by omega) rfl (enters_of Tryz.func48 (by kernel_rfl) rfl)
    rw [if_neg k8] at hf'
    by_cases k9 : e.k = 9
    · rw [if_pos k9] at hf'
      cases hf'
      exact Hear_some h hk e own us ms hN he ho _ 9 hf k9 (by omega) rfl (enters_of Tryz.func49 (by kernel_rfl) rfl)
    rw [if_neg k9] at hf'
    cases hf'
end Go.Proofs.YtflkhnmggmfhfaaGreat

/- view: what is told, as a row; tellGone. -/
namespace Go.Proofs.YtflkhnmggmfhfaaGreat
open Go.RowKit

structure TDE where
  kind : Int
  num : Int
  uid : Int
  mod : Int
  fv : Value
  fl : List ByteArray
def TDE.pl (t : TDE) : Td := ⟨t.kind, t.num, t.uid, t.mod, t.fl⟩
def TDE.enc (t : TDE) : List Value := [.int .i64 t.kind, .int .i64 t.num, .int .i64 t.uid, .int .i64 t.mod, t.fv]
def tdC (T : List TDE) : List Value := T.flatMap TDE.enc
theorem tdC_append (a b : List TDE) : tdC (a ++ b) = tdC a ++ tdC b := by simp [tdC]
theorem tdC_length (T : List TDE) : (tdC T).length = T.length * 5 := by
  induction T with
  | nil => rfl
  | cons p r ih => simp only [tdC, List.flatMap_cons, List.length_append, List.length_cons] at *; rw [ih]; simp [TDE.enc]; omega
def nilT (t : Td) : TDE := ⟨t.kind, t.num, t.uid, t.mod, .slice none 0 0, []⟩
theorem Tryz.infoTold : (Tryz.prog.info? 92).map (fun i => (i.zero, i.size, i.bytes)) = some (some (.agg #[.int .i64 0, .int .i64 0, .int .i64 0, .int .i64 0, .slice none 0 0]), 5, 56) := by kernel_rfl
abbrev TdRow (w : World) (v : Value) (T : List TDE) : Prop := w.ownsRow 0 92 5 v T.length (tdC T)
/-- told = append(told, Told{..}). -/
theorem told_app {w : World} {v : Value} {T : List TDE} (h : TdRow w v T) (t : TDE) (a0 : Option Addr) (n0 c0 : Nat) (hf : t.fv = .slice a0 n0 c0) (hl : T.length + 1 ≤ 4294967296) :
    ∃ a c W1, (Builtin.append_ #[49, 49] 49 #[v, .slice (some ⟨w.heap.size, 0, none⟩) 1 1]).run Tryz.prog (w.alloc (.cells #[.int .i64 t.kind, .int .i64 t.num, .int .i64 t.uid, .int .i64 t.mod, .slice a0 n0 c0] 92)) = .ok (.slice a (T.length + 1) c) W1 ∧
      TdRow W1 (.slice a (T.length + 1) c) (T ++ [t]) ∧ w.grownBy W1 v.ownBlock ∧ ∀ b, (Value.slice a (T.length + 1) c).ownBlock = some b → v.ownBlock = some b ∨ w.heap.size ≤ b := by
  obtain ⟨a, c, W1, hrun, hrow, hg, hown⟩ := row_app (P := Tryz.prog) 49 92 _ 5 56 Tryz.underlying49 Tryz.infoTold rfl (by decide) h #[.int .i64 t.kind, .int .i64 t.num, .int .i64 t.uid, .int .i64 t.mod, .slice a0 n0 c0] rfl (by intro x hx; simp at hx; rcases hx with rfl | rfl | rfl | rfl | rfl <;> rfl) hl (by omega)
  refine ⟨a, c, W1, hrun, ?_, hg, hown⟩
  unfold TdRow
  rw [List.length_append, tdC_append]
  rw [show tdC [t] = [.int .i64 t.kind, .int .i64 t.num, .int .i64 t.uid, .int .i64 t.mod, .slice a0 n0 c0] by simp [tdC, TDE.enc, hf]]
  exact hrow
/-- left = append(left, row). -/
theorem left_app {w : World} {v : Value} {L : List RE} (h : w.ownsRow 0 82 4 v L.length (rwC L)) (r : RE) (yo : Option Addr) (hy : r.ptr = .pointer yo) (hl : L.length + 1 ≤ 4294967296) :
    ∃ a c W1, (Builtin.append_ #[25, 25] 25 #[v, .slice (some ⟨w.heap.size, 0, none⟩) 1 1]).run Tryz.prog (w.alloc (.cells #[.int .i64 r.uid, .bool r.gone, .bool r.rct, .pointer yo] 82)) = .ok (.slice a (L.length + 1) c) W1 ∧
      W1.ownsRow 0 82 4 (.slice a (L.length + 1) c) (L ++ [r]).length (rwC (L ++ [r])) ∧ w.grownBy W1 v.ownBlock ∧ ∀ b, (Value.slice a (L.length + 1) c).ownBlock = some b → v.ownBlock = some b ∨ w.heap.size ≤ b := by
  obtain ⟨a, c, W1, hrun, hrow, hg, hown⟩ := row_app (P := Tryz.prog) 25 82 _ 4 24 Tryz.underlying25 Tryz.infoRow rfl (by decide) h #[.int .i64 r.uid, .bool r.gone, .bool r.rct, .pointer yo] rfl (by intro x hx; simp at hx; rcases hx with rfl | rfl | rfl | rfl <;> rfl) hl (by omega)
  refine ⟨a, c, W1, hrun, ?_, hg, hown⟩
  rw [List.length_append, rwC_append]
  rw [show rwC [r] = [.int .i64 r.uid, .bool r.gone, .bool r.rct, .pointer yo] by simp [rwC, RE.enc, hy]]
  exact hrow
theorem goneT_snoc : ∀ (l : List PR) (n : Nat) (r : PR), goneT n (l ++ [r]) = goneT n l ++ (if r.gone = true then [⟨1, ((n + (stayR l).length : Nat) : Int) + 1, r.uid, 0, []⟩] else [])
  | [], n, r => by
    by_cases h : r.gone = true
    · simp [goneT, h, stayR]
    · simp [goneT, h]
  | x :: l, n, r => by
    show goneT n (x :: (l ++ [r])) = _
    by_cases hx : x.gone = true
    · have e : stayR (x :: l) = stayR l := by unfold stayR; rw [List.filter_cons_of_neg (by simp [hx])]
      rw [e]
      show (if x.gone = true then _ :: goneT n (l ++ [r]) else goneT (n + 1) (l ++ [r])) = (if x.gone = true then _ :: goneT n l else goneT (n + 1) l) ++ _
      rw [if_pos hx, if_pos hx, goneT_snoc l n r]
      rfl
    · have e : (stayR (x :: l)).length = (stayR l).length + 1 := by unfold stayR; rw [List.filter_cons_of_pos (by simp [hx])]; rfl
      rw [e]
      show (if x.gone = true then _ :: goneT n (l ++ [r]) else goneT (n + 1) (l ++ [r])) = (if x.gone = true then _ :: goneT n l else goneT (n + 1) l) ++ _
      rw [if_neg hx, if_neg hx, goneT_snoc l (n + 1) r]
      congr 2
      rw [show n + 1 + (stayR l).length = n + ((stayR l).length + 1) by omega]
def stayE (R : List RE) : List RE := R.filter (fun r => !r.gone)
theorem stayE_pl (R : List RE) : (stayE R).map RE.pl = stayR (R.map RE.pl) := by
  unfold stayE stayR
  rw [List.filter_map]
  rfl
theorem stayE_snoc (R : List RE) (r : RE) : stayE (R ++ [r]) = stayE R ++ (if r.gone = true then [] else [r]) := by
  unfold stayE
  rw [List.filter_append]
  congr 1
  by_cases h : r.gone = true
  · rw [if_pos h, List.filter_cons_of_neg (by simp [h])]; rfl
  · rw [if_neg h, List.filter_cons_of_pos (by simp [h])]; rfl
theorem stayE_len (R : List RE) : (stayE R).length ≤ R.length := List.length_filter_le _ _
/-- All but told's block is as it was. -/
theorem row_past {w w' : World} {B z n : Nat} {e : TypeId} {v : Value} {xs : List Value} {fp : List Nat} (h : w.ownsRow B e z v n xs) (hs : Stays fp w w') (hn : ∀ b, v.ownBlock = some b → b ∉ fp) : w'.ownsRow B e z v n xs :=
  ownsRow_same h (fun b e => hs.block b (h.lt b e).2 (hn b e))
section
variable {P : Nat} {mk : Bool} {val : Int} {rv cv : Value} {R : List RE} {C : List Int} {w : World} {N : Nat}
/-- Another row of rows. -/
theorem VAt.newR {lv : Value} {L : List RE} (h : VAt mk P val rv cv R C w) (hrow : w.ownsRow 0 82 4 lv L.length (rwC L)) (hsub : ∀ r ∈ L, r ∈ R) : VAt mk P val lv cv L C (w.setCell ⟨P, 2, none⟩ lv) := by
  have hset : ∀ b, b ≠ P → (w.setCell ⟨P, 2, none⟩ lv).heap[b]? = w.heap[b]? := fun b hb => Below.heap_setCell _ _ _ _ hb
  refine ⟨?_, ?_, ?_, ?_⟩
  · have hs := h.self
    unfold selfV at hs
    rw [heap_setCell_at _ hs]
    rfl
  · refine ownsRow_same hrow (fun b e => hset b (fun e' => ?_))
    subst e'
    obtain ⟨cs, hc⟩ := row_kind hrow e
    exact kind_ne hc h.self (by decide) rfl
  · exact ownsRow_same h.com (fun b e => hset b (fun e' => h.pc (e' ▸ e)))
  · intro r hr t ht
    exact (h.turns r (hsub r hr) t ht).hold (fun b hb => hset b (h.tt (hsub r hr) ht hb).1)
theorem VAt.told {tv : Value} {T : List TDE} (h : VAt mk P val rv cv R C w) (ht : TdRow w tv T) {b : Nat} (e : tv.ownBlock = some b) : b ∉ fpV P rv cv R := fun hm => by
  obtain ⟨cs, hc⟩ := row_kind ht e
  rcases mem_fpV.1 hm with rfl | hm | hm | ⟨r, hr, hm⟩
  · exact kind_ne hc h.self (by decide) rfl
  · obtain ⟨cs2, hc2⟩ := row_kind h.rows hm
    exact kind_ne hc hc2 (by decide) rfl
  · obtain ⟨cs2, hc2⟩ := row_kind h.com hm
    exact kind_ne hc hc2 (by decide) rfl
  · cases htn : r.tn with
    | none => rw [blks_no htn] at hm; cases hm
    | some t =>
      rw [blks_tn htn] at hm
      obtain ⟨cs2, ty, hc2, hty⟩ := (h.turns r hr t htn).kind hm
      exact kind_ne hc hc2 (by rcases hty with rfl | rfl <;> decide) rfl
end
end Go.Proofs.YtflkhnmggmfhfaaGreat
