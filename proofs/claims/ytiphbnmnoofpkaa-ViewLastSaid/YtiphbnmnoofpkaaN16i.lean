/- ViewNumbers: what is plain of it; a list that is copied. -/
import Derived.Test.YtiphbnmnoofpkaaN16h
import Derived.Test.YtiphbnmnoofpkaaN16g
namespace Go.Proofs.Ytiphbnmnoofpkaa
open Go.RowKit

theorem actV_keep (V : PV) (s : ST) (h : s.kind ≠ 2) : uidsP (actV V s) = uidsP V := by
  unfold actV
  rw [if_neg h]
  split
  · exact hearP_uids _ _ _
  · rfl
theorem takeV_more (V : PV) (wh rc : Int) (h : wh ≠ 2) : ∃ T, uidsP (takeV V wh rc) = uidsP V ++ T := by
  unfold takeV
  split
  · have hg : goneV V wh = V := by unfold goneV; rw [if_neg h]
    refine ⟨V.com, ?_⟩
    rw [hg]
    show uidsP { settleP V rc with rows := (settleP V rc).rows.map calmR } = _
    exact (map_uid calmR_uid _).trans (settle_uids V rc)
  · exact ⟨[], by simp⟩
theorem actV_more (V : PV) (s : ST) (h : s.kind ≠ 2 ∨ s.wh ≠ 2) : ∃ T, uidsP (actV V s) = uidsP V ++ T := by
  by_cases k2 : s.kind = 2
  · have h1 : ¬ s.kind = 1 := by omega
    unfold actV
    rw [if_neg h1, if_pos k2]
    exact takeV_more V _ _ (by rcases h with h | h; exact absurd k2 h; exact h)
  · exact ⟨[], by rw [actV_keep V s k2]; simp⟩
theorem take_more {U T : List Int} : (U ++ T).take U.length = U := by simp
theorem riseP {V : PV} {N : Nat} (h : PVok V N) : riseF 0 (uidsP V) := ((riseF_append _ _ _).1 h.rise).1
theorem getD_mem0 {l : List Int} {k : Nat} (h : k < l.length) : l.getD k 0 ∈ l := by
  rw [List.getD_eq_getElem?_getD, List.getElem?_eq_getElem h]
  exact List.getElem_mem h
theorem uid_pos {V : PV} {N : Nat} (h : PVok V N) {k : Nat} (hk : k < (uidsP V).length) : 1 ≤ (uidsP V).getD k 0 := by
  have := riseF_gt (riseP h) (getD_mem0 hk)
  omega
theorem ixP_at {U : List Int} {m : Int} (h : riseF m U) {k : Nat} (hk : k < U.length) : ixP U (U.getD k 0) = k :=
  ixP_eq U _ k (by omega) (fun t ht => riseF_getD h t k ht hk) (fun t h1 h2 => by
    by_cases e : k = t
    · rw [e]; exact Int.le_refl _
    · have := riseF_getD h k t (by omega) h2; omega)
theorem seq_at {U : List Int} {m : Int} (h : riseF m U) {k : Nat} (hk : k < U.length) : seqI U (U.getD k 0) = (k : Int) + 1 ∧ seqE U (U.getD k 0) = 0 := by
  have hh : hitP U (U.getD k 0) = true := (hitP_iff h).2 (getD_mem0 hk)
  unfold seqI seqE
  rw [if_pos hh, if_pos hh, ixP_at h hk]
  exact ⟨rfl, rfl⟩
theorem folN_pick (k : Nat) : ∀ n, (folN 1 n).filter (fun m => decide ((k : Int) + 1 ≤ m) && decide (m ≤ (k : Int) + 1)) = if k < n then [(k : Int) + 1] else []
  | 0 => by simp [folN]
  | n + 1 => by
    rw [folN_succ, List.filter_append, folN_pick k n]
    by_cases h1 : k < n
    · rw [if_pos h1, if_pos (by omega), List.filter_cons_of_neg (by simp; omega)]
      rfl
    · rw [if_neg h1]
      by_cases h2 : k = n
      · subst h2
        rw [if_pos (by omega), List.filter_cons_of_pos (by simp; omega), List.filter_nil]
        show [(1 : Int) + (k : Int)] = _
        rw [Int.add_comm]
      · rw [if_neg (by omega), List.filter_cons_of_neg (by simp; omega)]
        rfl
theorem numL_one {n k : Nat} (hn : n ≤ 1000000) (hk : k < n) : numL n [((k : Int) + 1, (k : Int) + 1)] = [(k : Int) + 1] := by
  unfold numL ofL
  rw [fol_one n hn]
  have hl : lastI (folN 1 n) = (n : Int) := by
    obtain ⟨m, rfl⟩ : ∃ m, n = m + 1 := ⟨n - 1, by omega⟩
    unfold lastI
    rw [folN_length, folN_succ, List.getD_eq_getElem?_getD, List.getElem?_append_right (by rw [folN_length]; omega), folN_length]
    simp
    omega
  rw [hl, ← show (if k < n then [(k : Int) + 1] else []) = [(k : Int) + 1] from if_pos hk, ← folN_pick k n]
  congr 1
  funext m
  have e1 : starI ((k : Int) + 1) (n : Int) = (k : Int) + 1 := by unfold starI; rw [if_neg (by omega)]
  have e2 : pieceB ((k : Int) + 1, (k : Int) + 1) = true := by unfold pieceB endB; simp; omega
  unfold hasB setl inB
  simp only [List.any_cons, List.any_nil, Bool.or_false, e1, e2, Int.min_self, Int.max_self, Bool.true_and]
  rw [decide_eq_true (show (1 : Int) ≤ (n : Int) by omega), Bool.true_and]
theorem find_one {V : PV} {k : Nat} (hk : k < V.rows.length) (hN : V.rows.length ≤ 1000000) : findL V [((k : Int) + 1, (k : Int) + 1)] false = [(uidsP V).getD k 0] ∧ findE V [((k : Int) + 1, (k : Int) + 1)] false = 0 := by
  have hb : badF V [((k : Int) + 1, (k : Int) + 1)] = false := by
    unfold badF takesB
    simp only [List.any_cons, List.any_nil, Bool.or_false, Int.min_self, Int.max_self]
    rw [if_neg (by omega), if_neg (by omega), decide_eq_true (by omega)]
    rfl
  unfold findL findE
  simp only [Bool.false_eq_true, if_false, hb]
  refine ⟨?_, trivial⟩
  rw [numL_one hN hk]
  show [(V.rows.getD ((k : Int) + 1 - 1).toNat ⟨0, false, false, none⟩).uid] = _
  rw [show ((k : Int) + 1 - 1).toNat = k by omega]
  unfold uidsP
  rw [List.getD_eq_getElem?_getD, List.getD_eq_getElem?_getD, List.getElem?_map, List.getElem?_eq_getElem hk]
  rfl
/-- append([]int{}, l...) -/
theorem copyI_run {X : World} {B : Nat} {v src : Value} {l : List Int} (hv : X.ownsRow B 3 1 v 0 []) (hs : Nms X src l) (hl : l.length ≤ 1000000) (hB : B ≤ X.heap.size) (hn : ∀ a c, src = .slice a l.length c → a = none → c = 0) :
    ∃ a c w', (Builtin.append_ #[30, 30] 30 #[v, src]).run Try.prog X = .ok (.slice a l.length c) w' ∧ w'.ownsRow B 3 1 (.slice a l.length c) l.length (ic l) ∧ X.grownBy w' v.ownBlock := by
  obtain ⟨i0, hi0, hz0, hz1, hz2⟩ := info_parts' Try.infoInt
  obtain ⟨ax, cs, rfl, hc⟩ := hs
  cases has : ax with
  | none =>
    have h0 : l = [] := by
      by_cases h : 0 < l.length
      · obtain ⟨g, off, e, _⟩ := hc h
        rw [has] at e
        cases e
      · exact List.eq_nil_of_length_eq_zero (by omega)
    subst h0
    have hc0 := hn ax cs rfl has
    subst hc0
    have hr := run_append_owned_none (P := Try.prog) X B 30 30 3 i0 1 Try.underlying30 hi0 v 0 [] hv
    obtain ⟨a, c, rfl⟩ := ownsRow_shape hv
    exact ⟨a, c, X, hr, hv, World.grownBy.refl _ _⟩
  | some ad =>
    obtain ⟨v', W3, hrun, hrow, hgr, _, hat⟩ := run_append_own_at (P := Try.prog) X B 30 30 3 i0 (.int .i64 0) 1 8 Try.underlying30 hi0 hz0 hz1 hz2 rfl (by decide) v 0 [] hv ad l.length cs (ic l) (by rw [ic_length]; omega) (by
      intro j u hj
      have hjl : j < l.length := by have := (List.getElem?_eq_some_iff.1 hj).1; rw [ic_length] at this; exact this
      obtain ⟨g, off, e, hb, hc⟩ := hc (by omega)
      rw [has] at e
      cases e
      rw [ic_at l j hjl] at hj
      rw [Addr.add_lit, hc j hjl]
      exact hj) (ic_one _) (by unfold maxLen; omega) (by omega) hB
    rw [Nat.zero_add, List.nil_append] at hrow
    obtain ⟨a, c, rfl⟩ := ownsRow_shape hrow
    exact ⟨a, c, W3, hrun, hrow, hgr⟩
end Go.Proofs.Ytiphbnmnoofpkaa

/- A step of a walk: what is copied, what is loaded, what is done. -/
namespace Go.Proofs.Ytiphbnmnoofpkaa
open Go.RowKit

def stZ : Array Value := #[.int .i64 0, .int .i64 0, .int .i64 0, .int .i64 0, .int .i64 0, .int .i64 0, .int .i64 0, .string ⟨#[]⟩, .slice none 0 0, .slice none 0 0, .slice none 0 0, .slice none 0 0, .int .i64 0, .int .i64 0, .int .i64 0, .int .i64 0, .int .i64 0, .int .i64 0, .int .i64 0, .string ⟨#[]⟩, .bool false, .int .i64 0, .int .i64 0, .slice none 0 0, .bool false, .int .i64 0]
theorem Try.sizeSt (s : ST) : (Try.prog.info? 41).map (·.size) = some (stL s).length := by kernel_rfl
theorem Try.sizeStA (s : ST) : (Try.prog.info? 41).map (·.size) = some (stL s).toArray.size := by kernel_rfl
theorem Try.sizeBx (b : BX) : (Try.prog.info? 24).map (·.size) = some (bxA b).size := by kernel_rfl
theorem Try.emptyI (w : World) : (Instr.buildSlice 30 0 #[]).run Try.prog w = .ok (.slice (some ⟨w.heap.size, 0, none⟩) 0 0) (w.alloc (.cells #[] 3)) := by kernel_rfl
theorem WK.ofNew {W w2 w3 : World} {P : Nat} {V : PV} {fp : List Nat} (hb : Below W.heap.size W w2) (h1 : VW P V fp w3) (h2 : Below w2.heap.size w2 w3) (h3 : ∀ c ∈ fp, w2.heap.size ≤ c) : WK W P V w3 :=
  ⟨fp, h1, hb.trans (h2.mono hb.size), fun b hb' => Nat.le_trans hb.size (h3 b hb')⟩
/-- Uids, and their copy. -/
theorem uids_copy {W X : World} {P : Nat} {V : PV} {N : Nat} (h : WK W P V X) (hk : PVok V N) (hN : N ≤ 1000000) :
    Calls Try.prog 10 #[.pointer (some ⟨P, 0, none⟩)] (X.alloc (.cells #[] 3)) fun e w' => ∃ a c a3 c3 W3, e = .returned (.slice a (uidsP V).length c) ∧ (Builtin.append_ #[30, 30] 30 #[.slice (some ⟨X.heap.size, 0, none⟩) 0 0, .slice a (uidsP V).length c]).run Try.prog w' = .ok (.slice a3 (uidsP V).length c3) W3 ∧ WKL W P V (.slice a3 (uidsP V).length c3) (uidsP V) W3 := by
  have hb1 : Below X.heap.size X (X.alloc (.cells #[] 3)) := (Below.refl _ _).alloc (Nat.le_refl _) _
  have hn1 : (X.alloc (.cells #[] 3)).heap[X.heap.size]? = some (.cells #[] 3 (0, 0)) := heap_new _ _
  have h1 := h.on hb1
  obtain ⟨fp, v1, v2, v3⟩ := h1
  refine (Uids_W v1 hk hN).mono ?_
  rintro e w' ⟨v', rfl, ho⟩
  obtain ⟨a, c, rfl⟩ := ownsRow_shape ho.row
  have hlen : (uidsP V).length ≤ 1000000 := by
    have := hk.len
    rw [uidsP_length]
    omega
  have hnw : w'.heap[X.heap.size]? = some (.cells #[] 3 (0, 0)) := by rw [ho.below.block _ (lt_of_heap hn1)]; exact hn1
  have hrow : w'.ownsRow X.heap.size 3 1 (.slice (some ⟨X.heap.size, 0, none⟩) 0 0) 0 [] :=
    ⟨rfl, .inr ⟨X.heap.size, 0, #[], rfl, Nat.le_refl _, hnw, Nat.le_refl _, by unfold maxLen; omega, rfl, rfl⟩⟩
  have hB : X.heap.size ≤ w'.heap.size := Nat.le_of_lt (lt_of_heap hnw)
  obtain ⟨a3, c3, W3, hr, hw3, hg⟩ := copyI_run hrow (nms_of ho.row) hlen hB (fun a' c' e1 e2 => by
    injection e1 with p1 p2 p3
    rcases ho.row.2 with ⟨e3, _⟩ | ⟨g, cap, cur, e3, _⟩
    · injection e3 with q1 q2 q3
      omega
    · injection e3 with q1 q2 q3
      rw [p1, e2] at q1
      cases q1)
  have hb3 : Below X.heap.size w' W3 := ⟨hg.os, hg.tape, hg.output, hg.size, fun b hb => hg.block b (by omega) (by simp [Value.ownBlock]; omega)⟩
  have hbX : Below X.heap.size X W3 := (hb1.trans (ho.below.mono hb1.size)).trans hb3
  obtain ⟨fp0, x1, x2, x3⟩ := h
  refine ⟨a, c, a3, c3, W3, rfl, hr, fp0, x1.on hbX, x2.trans (hbX.mono x2.size), x3, nms_of hw3, fun b hb hm => ?_⟩
  have y1 := x1.lt hm
  rcases hw3.2 with ⟨e3, _⟩ | ⟨g, cap, cur, e3, hgB, _⟩
  · injection e3 with q1 q2 q3
    subst q1
    cases hb
  · injection e3 with q1 q2 q3
    subst q1
    simp [Value.ownBlock] at hb
    omega
/-- Behind act: the view, the copy, the step. -/
structure AC (W : World) (P : Nat) (V : PV) (was : Value) (U : List Int) (xb : Nat) (s : ST) (X : World) : Prop where
  view : WK W P V X
  list : Nms X was U
  step : X.heap[xb]? = some (.cells (stL s).toArray 41 (0, 0))
theorem AC.on {W X Y : World} {P : Nat} {V : PV} {was : Value} {U : List Int} {xb : Nat} {s : ST} (h : AC W P V was U xb s X) (hb : Below X.heap.size X Y) : AC W P V was U xb s Y :=
  ⟨h.view.on hb, h.list.on hb, by rw [hb.block _ (lt_of_heap h.step)]; exact h.step⟩
theorem act_step {W X Y : World} {P : Nat} {V : PV} {was : Value} {U : List Int} {N : Nat} {s : ST} (h : WKL W P V was U X) (hY : (X.alloc (.cells stZ 41)).setRow X.heap.size (stL s).toArray = Y) (hk : PVok V N) (hN : N + 301 ≤ 1000000) (ho : StOK W s) (hs : StShort s) :
    Calls Try.prog 11 #[.pointer (some ⟨P, 0, none⟩), .agg (stL s).toArray] Y fun e w' => ∃ tv T, e = .returned tv ∧ Told w' tv T (actT V s) ∧ AC W P (actV V s) was U X.heap.size s w' := by
  obtain ⟨hbY, hYn⟩ := box_below hY
  obtain ⟨fp, x1, x2, v3, x4, v5⟩ := h
  have v1 := x1.on hbY
  have v2 := x2.trans (hbY.mono x2.size)
  have v4 := x4.on hbY
  have hoY := ho.on v2
  refine (act_any v1 hk hN s hoY hs (fun h0 b e hm => ?_) ⟨fun h0 b e hm => ?_, fun m hm hne b e hmm => ?_⟩).mono ?_
  · have := ho.ub h0 b e
    have := v3 b hm
    omega
  · have := ho.mb.1 h0 b e
    have := v3 b hm
    omega
  · have := ho.mb.2 m hm hne b e
    have := v3 b hmm
    omega
  · rintro e w' ⟨tv, T, rfl, ht, fp', q1, q2⟩
    obtain ⟨y1, y2⟩ := fo_below v2 v3 q2
    refine ⟨tv, T, rfl, ht, ⟨fp', q1, y1, y2⟩, v4.past q2 (fun _ => v5), ?_⟩
    rw [q2.keep (lt_of_heap hYn) (fun hm => by have := x1.lt hm; omega)]
    exact hYn
end Go.Proofs.Ytiphbnmnoofpkaa
