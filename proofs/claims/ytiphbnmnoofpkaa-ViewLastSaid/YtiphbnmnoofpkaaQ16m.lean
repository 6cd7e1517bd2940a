/- view: what events do: added, copied, expunged, emptied. -/
import Derived.Test.YtiphbnmnoofpkaaQ16l
import Derived.Deep.DeepCutAuto
namespace Go.Proofs.Ytiphbnmnoofpkaa
open Go.RowKit

/-- An event as it is handed in. -/
structure EV where
  n : Int
  k : Int
  bx : Int
  tt : Int
  fi : Int
  nm : ByteArray
  vn : Value
  vb : Value
  vu : Value
  vm : Value
  y : Int
  mo : Int
  d : Int
  h : Int
  mi : Int
  s : Int
  z : Int
  bd : ByteArray
def evA (e : EV) : Array Value := #[.int .i64 e.n, .int .i64 e.k, .int .i64 e.bx, .int .i64 e.tt, .int .i64 e.fi, .string e.nm, e.vn, e.vb, e.vu, e.vm, .int .i64 e.y, .int .i64 e.mo, .int .i64 e.d, .int .i64 e.h, .int .i64 e.mi, .int .i64 e.s, .int .i64 e.z, .string e.bd]
theorem evA_cells {X : World} {b : Nat} {e : EV} (h : X.heap[b]? = some (.cells (evA e) 38 (0, 0))) :
    X.cell? ⟨b, 0, none⟩ = some (.int .i64 e.n) ∧ X.cell? ⟨b, 1, none⟩ = some (.int .i64 e.k) ∧ X.cell? ⟨b, 2, none⟩ = some (.int .i64 e.bx) ∧ X.cell? ⟨b, 3, none⟩ = some (.int .i64 e.tt) ∧ X.cell? ⟨b, 4, none⟩ = some (.int .i64 e.fi) ∧ X.cell? ⟨b, 8, none⟩ = some e.vu ∧ X.cell? ⟨b, 9, none⟩ = some e.vm := by
  unfold evA at h
  exact ⟨cell_of h 0, cell_of h 1, cell_of h 2, cell_of h 3, cell_of h 4, cell_of h 8, cell_of h 9⟩
theorem heap_new (w : World) (o : Obj) : (w.alloc o).heap[w.heap.size]? = some o := heap_alloc_new w o
theorem below_box {B : Nat} {w0 w : World} (h : Below B w0 w) (hB : B ≤ w.heap.size) (o : Obj) : Below B w0 (w.alloc o) := h.alloc hB o
section
variable {P : Nat} {val : Int} {rv cv : Value} {R : List RE} {C : List Int} {w : World} {N : Nat}
theorem VO.from {fp : List Nat} {W w' : World} (hb : Below w.heap.size w W) (h : VO P val R C fp W w') : VO P val R C fp w w' := by
  obtain ⟨rv', cv', k1, k2⟩ := h
  exact ⟨rv', cv', k1, (FO.below hb).trans k2⟩
theorem nms_one (W : World) (u : Int) : Nms (W.alloc (.cells #[.int .i64 u] 3)) (.slice (some ⟨W.heap.size, 0, none⟩) 1 1) [u] :=
  ⟨_, 1, rfl, fun _ => ⟨W.heap.size, 0, rfl, by simp, fun i hi => by
    have : i = 0 := by simpa using hi
    subst this
    have hn : (W.alloc (.cells #[.int .i64 u] 3)).heap[W.heap.size]? = some (.cells #[.int .i64 u] 3 (0, 0)) := heap_alloc_new W _
    rw [cell_of hn]
    rfl⟩⟩
theorem new_out {W : World} (h : VAt P val rv cv R C W) {v : Value} (hv : ∀ b, v.ownBlock = some b → W.heap.size ≤ b) : ∀ b, v.ownBlock = some b → b ∉ fpV P rv cv R := fun b hb hm => by
  have := h.lt hm
  have := hv b hb
  omega
set_option maxHeartbeats 1000000 in
set_option maxRecDepth 20000 in
theorem added_any (h : VAt P val rv cv R C w) (hR : R.length ≤ 1000000) (hC : C.length + 1 ≤ 1000000) (e : EV) (own : Bool) :
    Calls Try.prog 41 #[.pointer (some ⟨P, 0, none⟩), .agg (evA e), .bool own] w fun r w' => r = .returned (.tuple #[]) ∧ VO P val R (if e.bx = val then come1 (uidR R) C e.fi else C) (fpV P rv cv R) w w' := by
  obtain ⟨W1, hW1⟩ : ∃ W1, w.alloc (.cells (evA e) 38) = W1 := ⟨_, rfl⟩
  have h1 : W1.heap[w.heap.size]? = some (.cells (evA e) 38 (0, 0)) := by rw [← hW1]; exact heap_new _ _
  have hb1 : Below w.heap.size w W1 := by rw [← hW1]; exact below_box (Below.refl _ _) (Nat.le_refl _) _
  obtain ⟨_, _, c2, _, c4, _, _⟩ := evA_cells h1
  have hV1 := h.on hb1
  have d1 := hV1.cells.c1
  by_cases hx : e.bx = val
  · have hxb : (e.bx == val) = true := by simpa using hx
    rw [if_pos hx]
    have hb2 : Below W1.heap.size W1 (W1.drew.alloc (.cells #[.int .i64 e.fi] 3)) := ((Below.refl _ _).drew).alloc (Nat.le_refl _) _
    have hV2 := hV1.on hb2
    have HCm := Lib.hid (come_any hV2 (.slice (some ⟨W1.heap.size, 0, none⟩) 1 1) [e.fi] (nms_one W1.drew e.fi) (fun _ => new_out hV1 (fun b hb => by simp [Value.ownBlock] at hb; omega)) hR (by simpa using hC))
    have HBB := Lib.hid (hb1.trans (hb2.mono hb1.size))
    clear h h1 hb1 hV1 hb2 hV2 hx
    go_enter Try.func41, Try.ntmps41
    go_upto_region 1 with fail
    (try rw [hW1])
    clear hW1
    go_region
    all_goals
      go_wp2_with (go_at_call 22; refine HCm.out.mono ?_; rintro r w2 ⟨rfl, ho⟩; have HO := Lib.hid ho; clear ho)
      first | refine bodyPost_end (results_none rfl _ _ _) rfl ?_ | refine bodyPost_ret (results_none rfl _ _ _) rfl ?_
      exact ⟨rfl, VO.from HBB.out HO.out⟩
  · have hxb : (e.bx == val) = false := by simpa using hx
    rw [if_neg hx]
    have HO : Hid (VO P val R C (fpV P rv cv R) w W1.drew) := Lib.hid ⟨rv, cv, hV1.on (Below.refl _ _).drew, (FO.below hb1).trans (FO.below (Below.refl _ _).drew)⟩
    clear h h1 hb1 hV1 hx
    go_enter Try.func41, Try.ntmps41
    go_upto_region 1 with fail
    (try rw [hW1])
    clear hW1
    go_region
    all_goals
      go_wp2_with fail
      first | refine bodyPost_end (results_none rfl _ _ _) rfl ?_ | refine bodyPost_ret (results_none rfl _ _ _) rfl ?_
      exact ⟨rfl, HO.out⟩
set_option maxHeartbeats 1000000 in
set_option maxRecDepth 20000 in
theorem copied_any (h : VAt P val rv cv R C w) (e : EV) (own : Bool) (us : List Int) (hv : Nms w e.vu us) (hf : -9223372036854775808 ≤ e.fi) (hU : us.length ≤ 1000000) (hR : R.length ≤ 1000000) (hC : C.length + us.length ≤ 1000000) :
    Calls Try.prog 44 #[.pointer (some ⟨P, 0, none⟩), .agg (evA e), .bool own] w fun r w' => r = .returned (.tuple #[]) ∧ VO P val R (if e.tt = val then comesC (uidR R) C (fol e.fi us.length) else C) (fpV P rv cv R) w w' := by
  obtain ⟨W1, hW1⟩ : ∃ W1, w.alloc (.cells (evA e) 38) = W1 := ⟨_, rfl⟩
  have h1 : W1.heap[w.heap.size]? = some (.cells (evA e) 38 (0, 0)) := by rw [← hW1]; exact heap_new _ _
  have hb1 : Below w.heap.size w W1 := by rw [← hW1]; exact below_box (Below.refl _ _) (Nat.le_refl _) _
  obtain ⟨_, _, _, c3, c4, c8, _⟩ := evA_cells h1
  have hV1 := h.on hb1
  have d1 := hV1.cells.c1
  by_cases hx : e.tt = val
  · have hxb : (e.tt == val) = true := by simpa using hx
    rw [if_pos hx]
    have HFo := Lib.hid (following_any e.fi us.length W1.drew hf hU)
    obtain ⟨au, ku, hvu, _⟩ := hv
    rw [hvu] at c8
    have HCm : Hid (∀ v W, OwnI W1.drew.heap.size v (fol e.fi us.length) W1.drew W → Calls Try.prog 22 #[.pointer (some ⟨P, 0, none⟩), v] W fun r w' => r = .returned (.tuple #[]) ∧ VO P val R (comesC (uidR R) C (fol e.fi us.length)) (fpV P rv cv R) w w') := Lib.hid (fun v W ho => by
      have hbW : Below W1.heap.size W1 W := ⟨ho.below.os, ho.below.tape, ho.below.output, ho.below.size, ho.below.block⟩
      have hl := fol_length us.length e.fi
      refine (come_any (hV1.on hbW) v _ (nms_of ho.row) (fun _ => new_out hV1 (fun b hb => (ho.row.lt b hb).1)) hR (by omega)).mono ?_
      rintro r w' ⟨q1, q2⟩
      exact ⟨q1, VO.from (hb1.trans (hbW.mono hb1.size)) q2⟩)
    clear h h1 hb1 hV1 hx hvu
    go_enter Try.func44, Try.ntmps44
    go_upto_region 1 with fail
    (try rw [hW1])
    clear hW1
    go_region
    all_goals
      go_wp2_with (first | (go_at_call 54; refine HFo.out.mono ?_; rintro r w3 ⟨v3, rfl, ho3⟩; have HO3 := Lib.hid ho3; clear ho3) | (go_at_call 22; refine (HCm.out _ _ HO3.out).mono ?_; rintro r w2 ⟨rfl, ho⟩; have HO := Lib.hid ho; clear ho))
      first | refine bodyPost_end (results_none rfl _ _ _) rfl ?_ | refine bodyPost_ret (results_none rfl _ _ _) rfl ?_
      exact ⟨rfl, HO.out⟩
  · have hxb : (e.tt == val) = false := by simpa using hx
    rw [if_neg hx]
    have HO : Hid (VO P val R C (fpV P rv cv R) w W1.drew) := Lib.hid ⟨rv, cv, hV1.on (Below.refl _ _).drew, (FO.below hb1).trans (FO.below (Below.refl _ _).drew)⟩
    clear h h1 hb1 hV1 hx
    go_enter Try.func44, Try.ntmps44
    go_upto_region 1 with fail
    (try rw [hW1])
    clear hW1
    go_region
    all_goals
      go_wp2_with fail
      first | refine bodyPost_end (results_none rfl _ _ _) rfl ?_ | refine bodyPost_ret (results_none rfl _ _ _) rfl ?_
      exact ⟨rfl, HO.out⟩
set_option maxHeartbeats 1000000 in
set_option maxRecDepth 20000 in
theorem expunged_any (h : VAt P val rv cv R C w) (hk : VOK R C N) (hN : N ≤ 1000000) (e : EV) (own : Bool) (us : List Int) (hv : Nms w e.vu us) (hn : 0 < us.length → ∀ b, e.vu.ownBlock = some b → b ∉ fpV P rv cv R) (hU : us.length ≤ 1000000) :
    Calls Try.prog 43 #[.pointer (some ⟨P, 0, none⟩), .agg (evA e), .bool own] w fun r w' => r = .returned (.tuple #[]) ∧ VO P val (if e.bx = val then lvR R us else R) (if e.bx = val then lvC C us else C) (fpV P rv cv R) w w' := by
  obtain ⟨W1, hW1⟩ : ∃ W1, w.alloc (.cells (evA e) 38) = W1 := ⟨_, rfl⟩
  have h1 : W1.heap[w.heap.size]? = some (.cells (evA e) 38 (0, 0)) := by rw [← hW1]; exact heap_new _ _
  have hb1 : Below w.heap.size w W1 := by rw [← hW1]; exact below_box (Below.refl _ _) (Nat.le_refl _) _
  obtain ⟨_, _, c2, _, _, c8, _⟩ := evA_cells h1
  have hV1 := h.on hb1
  have d1 := hV1.cells.c1
  by_cases hx : e.bx = val
  · have hxb : (e.bx == val) = true := by simpa using hx
    rw [if_pos hx, if_pos hx]
    have hbd : Below w.heap.size w W1.drew := hb1.drew
    have HLv := Lib.hid ((leave_any (hV1.on (Below.refl _ _).drew) hk hN e.vu us (hv.on hbd) hn hU).mono (fun r w' ⟨q1, q2⟩ => (⟨q1, VO.from hbd q2⟩ : _ ∧ VO P val (lvR R us) (lvC C us) (fpV P rv cv R) w w')))
    clear h h1 hb1 hV1 hx hv hn hbd hk
    go_enter Try.func43, Try.ntmps43
    go_upto_region 1 with fail
    (try rw [hW1])
    clear hW1
    go_region
    all_goals
      go_wp2_with (go_at_call 56; refine HLv.out.mono ?_; rintro r w2 ⟨rfl, ho⟩; have HO := Lib.hid ho; clear ho)
      first | refine bodyPost_end (results_none rfl _ _ _) rfl ?_ | refine bodyPost_ret (results_none rfl _ _ _) rfl ?_
      exact ⟨rfl, HO.out⟩
  · have hxb : (e.bx == val) = false := by simpa using hx
    rw [if_neg hx, if_neg hx]
    have HO : Hid (VO P val R C (fpV P rv cv R) w W1.drew) := Lib.hid ⟨rv, cv, hV1.on (Below.refl _ _).drew, (FO.below hb1).trans (FO.below (Below.refl _ _).drew)⟩
    clear h h1 hb1 hV1 hx
    go_enter Try.func43, Try.ntmps43
    go_upto_region 1 with fail
    (try rw [hW1])
    clear hW1
    go_region
    all_goals
      go_wp2_with fail
      first | refine bodyPost_end (results_none rfl _ _ _) rfl ?_ | refine bodyPost_ret (results_none rfl _ _ _) rfl ?_
      exact ⟨rfl, HO.out⟩
set_option maxHeartbeats 1000000 in
set_option maxRecDepth 20000 in
theorem emptied_any (h : VAt P val rv cv R C w) (hk : VOK R C N) (hN : N ≤ 1000000) (e : EV) (own : Bool)  :
    Calls Try.prog 40 #[.pointer (some ⟨P, 0, none⟩), .agg (evA e), .bool own] w fun r w' => r = .returned (.tuple #[]) ∧ VO P val (if e.bx = val then lvR R (uidR R) else R) (if e.bx = val then [] else C) (fpV P rv cv R) w w' := by
  obtain ⟨W1, hW1⟩ : ∃ W1, w.alloc (.cells (evA e) 38) = W1 := ⟨_, rfl⟩
  have h1 : W1.heap[w.heap.size]? = some (.cells (evA e) 38 (0, 0)) := by rw [← hW1]; exact heap_new _ _
  have hb1 : Below w.heap.size w W1 := by rw [← hW1]; exact below_box (Below.refl _ _) (Nat.le_refl _) _
  obtain ⟨_, _, c2, _, _, _, _⟩ := evA_cells h1
  have hV1 := h.on hb1
  have d1 := hV1.cells.c1
  by_cases hx : e.bx = val
  · have hxb : (e.bx == val) = true := by simpa using hx
    rw [if_pos hx, if_pos hx]
    have hbd : Below w.heap.size w W1.drew := hb1.drew
    have hlen := hk.len
    have HUi := Lib.hid (Uids_any (hV1.on (Below.refl _ _).drew) (by omega))
    have HLv : Hid (∀ v W, OwnI W1.drew.heap.size v (uidR R) W1.drew W → Calls Try.prog 56 #[.pointer (some ⟨P, 0, none⟩), v] W fun r w' => r = .returned (.tuple #[]) ∧ w'.cell? ⟨P, 3, none⟩ ≠ none ∧ w'.frozen? ⟨P, 3, none⟩ = false ∧ VO P val (lvR R (uidR R)) [] (fpV P rv cv R) w (w'.setCell ⟨P, 3, none⟩ (.slice none 0 0))) := Lib.hid (fun v W ho => by
      have hbW : Below W1.heap.size W1 W := ⟨ho.below.os, ho.below.tape, ho.below.output, ho.below.size, ho.below.block⟩
      refine (leave_any (hV1.on hbW) hk hN v _ (nms_of ho.row) (fun _ => new_out hV1 (fun b hb => (ho.row.lt b hb).1)) (by rw [uidR_length]; omega)).mono ?_
      rintro r w' ⟨q1, rv', cv', q2, q3⟩
      obtain ⟨y1, y2⟩ := q2.noC
      exact ⟨q1, by rw [q2.cells.c3]; simp, q2.cells.f3, _, _, y1, ((FO.below (hb1.trans (hbW.mono hb1.size))).trans q3).trans y2⟩)
    clear h h1 hb1 hV1 hx hbd hk
    go_enter Try.func40, Try.ntmps40
    go_upto_region 1 with fail
    (try rw [hW1])
    clear hW1
    go_region
    all_goals
      go_wp2_with (first | (go_at_call 10; refine HUi.out.mono ?_; rintro r w3 ⟨v3, rfl, ho3⟩; have HO3 := Lib.hid ho3; clear ho3) | (go_at_call 56; refine (HLv.out _ _ HO3.out).mono ?_; rintro r w2 ⟨rfl, hc, hf, ho⟩; obtain ⟨cx, hcx⟩ := Option.ne_none_iff_exists'.1 hc; have HO := Lib.hid ho; clear ho hc))
      first | refine bodyPost_end (results_none rfl _ _ _) rfl ?_ | refine bodyPost_ret (results_none rfl _ _ _) rfl ?_
      exact ⟨rfl, HO.out⟩
  · have hxb : (e.bx == val) = false := by simpa using hx
    rw [if_neg hx, if_neg hx]
    have HO : Hid (VO P val R C (fpV P rv cv R) w W1.drew) := Lib.hid ⟨rv, cv, hV1.on (Below.refl _ _).drew, (FO.below hb1).trans (FO.below (Below.refl _ _).drew)⟩
    clear h h1 hb1 hV1 hx
    go_enter Try.func40, Try.ntmps40
    go_upto_region 1 with fail
    (try rw [hW1])
    clear hW1
    go_region
    all_goals
      go_wp2_with fail
      first | refine bodyPost_end (results_none rfl _ _ _) rfl ?_ | refine bodyPost_ret (results_none rfl _ _ _) rfl ?_
      exact ⟨rfl, HO.out⟩
end
end Go.Proofs.Ytiphbnmnoofpkaa

/- view: moved. -/
namespace Go.Proofs.Ytiphbnmnoofpkaa
open Go.RowKit

theorem Try.sizeEvA (e : EV) : (Try.prog.info? 38).map (·.size) = some (evA e).size := by kernel_rfl
theorem VOK.come1 {R : List RE} {C : List Int} {N : Nat} (h : VOK R C N) (u : Int) : VOK R (come1 (uidR R) C u) (N + 1) := by
  unfold Go.Proofs.Ytiphbnmnoofpkaa.come1
  split
  · rename_i hu
    refine ⟨?_, ?_, ?_⟩
    · rw [← List.append_assoc, riseF_append]
      refine ⟨h.rise, ?_, trivial⟩
      rw [lastD_append]
      exact hu.1
    · intro x hx
      rw [← List.append_assoc, List.mem_append] at hx
      rcases hx with hx | hx
      · exact h.top x hx
      · simp at hx; omega
    · have := h.len
      simp only [List.length_append, List.length_cons, List.length_nil]; omega
  · exact ⟨h.rise, h.top, by have := h.len; omega⟩
theorem VOK.comes {R : List RE} : ∀ {us C : List Int} {N : Nat}, VOK R C N → VOK R (comesC (uidR R) C us) (N + us.length)
  | [], _, _, h => h
  | u :: us, _, _, h => by
    have := VOK.comes (us := us) (h.come1 u)
    refine ⟨this.rise, this.top, ?_⟩
    have := this.len
    simp only [List.length_cons]
    show R.length + (comesC (uidR R) (Go.Proofs.Ytiphbnmnoofpkaa.come1 (uidR R) _ u) us).length ≤ _
    omega
section
variable {P : Nat} {val : Int} {rv cv : Value} {R : List RE} {C : List Int} {w : World} {N : Nat}
set_option maxHeartbeats 1000000 in
set_option maxRecDepth 20000 in
theorem moved_any (h : VAt P val rv cv R C w) (hk : VOK R C N) (e : EV) (own : Bool) (us : List Int) (hv : Nms w e.vu us) (hvl : 0 < us.length → ∀ b, e.vu.ownBlock = some b → b < w.heap.size ∧ b ∉ fpV P rv cv R) (hf : -9223372036854775808 ≤ e.fi) (hU : us.length ≤ 1000000) (hN : N + us.length ≤ 1000000) :
    Calls Try.prog 45 #[.pointer (some ⟨P, 0, none⟩), .agg (evA e), .bool own] w fun r w' => r = .returned (.tuple #[]) ∧ VO P val (if e.bx = val then lvR R us else R) (if e.bx = val then lvC (if e.tt = val then comesC (uidR R) C (fol e.fi us.length) else C) us else (if e.tt = val then comesC (uidR R) C (fol e.fi us.length) else C)) (fpV P rv cv R) w w' := by
  obtain ⟨W1, hW1⟩ : ∃ W1, w.alloc (.cells (evA e) 38) = W1 := ⟨_, rfl⟩
  have h1 : W1.heap[w.heap.size]? = some (.cells (evA e) 38 (0, 0)) := by rw [← hW1]; exact heap_new _ _
  have hb1 : Below w.heap.size w W1 := by rw [← hW1]; exact below_box (Below.refl _ _) (Nat.le_refl _) _
  have hV1 := h.on hb1
  have hlen := hk.len
  have hfl := fol_length us.length e.fi
  have HCo := Lib.hid (copied_any hV1 e own us (hv.on hb1) hf hU (by omega) (by omega))
  have hk2 : VOK R (if e.tt = val then comesC (uidR R) C (fol e.fi us.length) else C) (N + us.length) := by
    split
    · have := hk.comes (us := fol e.fi us.length)
      exact ⟨this.rise, this.top, by have := this.len; omega⟩
    · exact ⟨hk.rise, hk.top, by omega⟩
  generalize (if e.tt = val then comesC (uidR R) C (fol e.fi us.length) else C) = C2 at *
  have HEx : Hid (∀ W, VO P val R C2 (fpV P rv cv R) W1 W → W.heap[w.heap.size]? = some (.cells (evA e) 38 (0, 0)) ∧ Calls Try.prog 43 #[.pointer (some ⟨P, 0, none⟩), .agg (evA e), .bool own] W fun r w' => r = .returned (.tuple #[]) ∧ VO P val (if e.bx = val then lvR R us else R) (if e.bx = val then lvC C2 us else C2) (fpV P rv cv R) w w') := Lib.hid (fun W ⟨rv2, cv2, q1, q2⟩ => by
    have hz : w.heap.size < W1.heap.size := lt_of_heap h1
    refine ⟨by rw [q2.keep hz (fun hm => by have := h.lt hm; omega)]; exact h1, ?_⟩
    refine (expunged_any q1 hk2 hN e own us ((hv.on hb1).past q2 (fun h0 b hb => (hvl h0 b hb).2)) (fun h0 b hb => q2.out (by have := (hvl h0 b hb).1; have := hb1.size; omega) (hvl h0 b hb).2) hU).mono ?_
    rintro r w' ⟨y1, y2⟩
    refine ⟨y1, ?_⟩
    obtain ⟨rv3, cv3, z1, z2⟩ := y2
    exact ⟨rv3, cv3, z1, ((FO.below hb1).trans q2).trans z2⟩)
  have H1 := Lib.hid h1
  clear h h1 hb1 hV1 hk hk2 hv hvl hlen hfl
  generalize (if e.bx = val then lvR R us else R) = R3 at *
  generalize (if e.bx = val then lvC C2 us else C2) = C3 at *
  go_enter Try.func45, Try.ntmps45
  go_upto_region 1 with fail
  (try rw [hW1])
  clear hW1
  go_wp2_with (first | (go_at_call 44; refine HCo.out.mono ?_; rintro r w2 ⟨rfl, ho⟩; obtain ⟨y1, y2⟩ := HEx.out _ ho; have Y1 := Lib.hid y1; have Y2 := Lib.hid y2; clear y1 y2 ho HCo) | (go_at_call 43; refine Y2.out.mono ?_; rintro r w3 ⟨rfl, ho⟩; have HO := Lib.hid ho; clear ho) | (have hq := Y1; clear hq; refine wpList_load_row rfl 38 _ rfl w.heap.size rfl 38 _ (0, 0) _ Y1.out Try.underlying38 rfl (Try.sizeEvA e) ?_) | (refine wpList_load_row rfl 38 _ rfl w.heap.size rfl 38 _ (0, 0) _ H1.out Try.underlying38 rfl (Try.sizeEvA e) ?_))
  first | refine bodyPost_end (results_none rfl _ _ _) rfl ?_ | refine bodyPost_ret (results_none rfl _ _ _) rfl ?_
  exact ⟨rfl, HO.out⟩
end
end Go.Proofs.Ytiphbnmnoofpkaa
