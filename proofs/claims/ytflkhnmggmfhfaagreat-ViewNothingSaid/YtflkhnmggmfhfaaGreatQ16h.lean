/- view: Uids, Seq, Gone, Recent; the small closures. -/
import Derived.Test.YtflkhnmggmfhfaaGreatQ16d
import Derived.Lib.SliceRun
import Derived.BigFrame
import Derived.Test.YtflkhnmggmfhfaaGreatZv
namespace Go.Proofs.YtflkhnmggmfhfaaGreat
open Go.RowKit

section
variable {P : Nat} {mk : Bool} {val : Int} {rv cv : Value} {R : List RE} {C : List Int} {w : World} {N : Nat}
set_option maxHeartbeats 400000 in
theorem some_any (P : Nat) (w : World) :
    Calls Tryz.prog 31 #[.pointer (some ⟨P, 0, none⟩)] w fun e w' => e = .returned (.pointer (some ⟨P, 0, none⟩)) ∧ w' = w := by
  go_enter Tryz.func31, Tryz.ntmps31
  go_wp2
  go_ret
  exact ⟨rfl, rfl⟩
set_option maxHeartbeats 400000 in
theorem uidsC_any (x : Int) (yg yr : Bool) (o : Option Addr) (X : World) : Calls Tryz.prog 33 #[.agg #[.int .i64 x, .bool yg, .bool yr, .pointer o]] X fun e w' => e = .returned (.bool true) ∧ Below X.heap.size X w' := by
  go_enter Tryz.func33, Tryz.ntmps33
  go_wp2
  go_ret
  exact ⟨rfl, (Below.refl _ _).alloc (Nat.le_refl _) _⟩
set_option maxHeartbeats 400000 in
theorem findC_any (x : Int) (yg yr : Bool) (o : Option Addr) (X : World) : Calls Tryz.prog 53 #[.agg #[.int .i64 x, .bool yg, .bool yr, .pointer o]] X fun e w' => e = .returned (.bool (!yg)) ∧ Below X.heap.size X w' := by
  go_enter Tryz.func53, Tryz.ntmps53
  go_wp2
  go_ret
  exact ⟨rfl, (Below.refl _ _).alloc (Nat.le_refl _) _⟩
set_option maxHeartbeats 400000 in
theorem newC_any (x : Int) (yg yr : Bool) (o : Option Addr) (X : World) : Calls Tryz.prog 63 #[.agg #[.int .i64 x, .bool yg, .bool yr, .pointer o]] X fun e w' => e = .returned (.bool yr) ∧ Below X.heap.size X w' := by
  go_enter Tryz.func63, Tryz.ntmps63
  go_wp2
  go_ret
  exact ⟨rfl, (Below.refl _ _).alloc (Nat.le_refl _) _⟩
theorem pickU_all (R : List RE) : pickU (fun _ => true) R = uidR R := by unfold pickU; rw [List.filter_eq_self.2 (fun _ _ => rfl)]
set_option maxHeartbeats 400000 in
theorem Uids_any (h : VAt mk P val rv cv R C w) (hR : R.length ≤ 1000000) :
    Calls Tryz.prog 7 #[.pointer (some ⟨P, 0, none⟩)] w fun e w' => ∃ v', e = .returned v' ∧ OwnI w.heap.size v' (uidR R) w w' := by
  have H := Lib.hid (uidsF_any 33 (enters_of Tryz.func33 (by kernel_rfl) rfl) (fun _ => true) h hR (fun r o X _ => uidsC_any _ _ _ _ _))
  rw [pickU_all] at H
  clear h
  go_enter Tryz.func7, Tryz.ntmps7
  go_wp2_with (first | (go_at_call 31; refine (some_any _ _).mono ?_; rintro e w' ⟨rfl, hw⟩; subst w') | (go_at_call 32; refine H.out.mono ?_; rintro e w1 ⟨v1, rfl, ho⟩; have HO := Lib.hid ho; clear ho))
  go_ret
  exact ⟨_, rfl, HO.out⟩
set_option maxHeartbeats 400000 in
theorem notGone_any (h : VAt mk P val rv cv R C w) (hR : R.length ≤ 1000000) :
    Calls Tryz.prog 32 #[.pointer (some ⟨P, 0, none⟩), .func (.func 53) #[] #[]] w fun e w' => ∃ v', e = .returned v' ∧ OwnI w.heap.size v' (pickU (fun r => !r.gone) R) w w' :=
  uidsF_any 53 (enters_of Tryz.func53 (by kernel_rfl) rfl) (fun r => !r.gone) h hR (fun r o X _ => findC_any _ _ _ _ _)
theorem recents_any (h : VAt mk P val rv cv R C w) (hR : R.length ≤ 1000000) :
    Calls Tryz.prog 32 #[.pointer (some ⟨P, 0, none⟩), .func (.func 63) #[] #[]] w fun e w' => ∃ v', e = .returned v' ∧ OwnI w.heap.size v' (pickU RE.rct R) w w' :=
  uidsF_any 63 (enters_of Tryz.func63 (by kernel_rfl) rfl) RE.rct h hR (fun r o X _ => newC_any _ _ _ _ _)
def seqI (U : List Int) (u : Int) : Int := if hitP U u = true then (ixP U u : Int) + 1 else 0
def seqE (U : List Int) (u : Int) : Int := if hitP U u = true then 0 else 160
set_option maxHeartbeats 400000 in
theorem Seq_any (h : VAt mk P val rv cv R C w) (hk : VOK R C N) (hN : N ≤ 1000000) (u : Int) :
    Calls Tryz.prog 25 #[.pointer (some ⟨P, 0, none⟩), .int .i64 u] w fun e w' => e = .returned (.tuple #[.int .i64 (seqI (uidR R) u), .int .i64 (seqE (uidR R) u)]) ∧ Below w.heap.size w w' := by
  have H := Lib.hid (place_any h hk hN u)
  have hix := ixP_le (uidR R) u
  rw [uidR_length] at hix
  have hl := hk.len
  unfold seqI seqE
  clear h hk
  cases hh : hitP (uidR R) u with
  | false =>
    rw [hh] at H
    clear hh
    simp only [Bool.false_eq_true, if_false]
    generalize ixP (uidR R) u = ix at *
    go_enter Tryz.func25, Tryz.ntmps25
    go_wp2_with (first | (go_at_call 31; refine (some_any _ _).mono ?_; rintro e w' ⟨rfl, hw⟩; subst w') | (go_at_call 60; refine H.out.mono ?_; rintro e w1 ⟨rfl, hb⟩))
    go_ret2
    exact ⟨rfl, hb⟩
  | true =>
    rw [hh] at H
    clear hh
    simp only [if_true]
    generalize ixP (uidR R) u = ix at *
    go_enter Tryz.func25, Tryz.ntmps25
    go_wp2_with (first | (go_at_call 31; refine (some_any _ _).mono ?_; rintro e w' ⟨rfl, hw⟩; subst w') | (go_at_call 60; refine H.out.mono ?_; rintro e w1 ⟨rfl, hb⟩))
    go_ret2
    exact ⟨rfl, hb⟩
theorem fld1 (x : Int) (yg yr : Bool) (o : Option Addr) (w : World) : (Instr.field 82 (.agg #[.int .i64 x, .bool yg, .bool yr, .pointer o]) 1).run Tryz.prog w = .ok (.bool yg) w := by kernel_rfl
theorem fld2 (x : Int) (yg yr : Bool) (o : Option Addr) (w : World) : (Instr.field 82 (.agg #[.int .i64 x, .bool yg, .bool yr, .pointer o]) 2).run Tryz.prog w = .ok (.bool yr) w := by kernel_rfl
set_option maxHeartbeats 400000 in
theorem Gone_any (h : VAt mk P val rv cv R C w) (hk : VOK R C N) (hN : N ≤ 1000000) (u : Int) :
    Calls Tryz.prog 26 #[.pointer (some ⟨P, 0, none⟩), .int .i64 u] w fun e w' => e = .returned (.bool (atR R u).gone) ∧ Below w.heap.size w w' := by
  have H := Lib.hid (at_any h hk hN u)
  clear h hk
  have q1 := fld1
  have q2 := fld2
  obtain ⟨yo, hyo⟩ : ∃ yo, (atR R u).ptr = .pointer yo := ⟨_, rfl⟩
  rw [hyo] at H
  clear hyo
  generalize (atR R u).uid = x at *
  generalize (atR R u).gone = yg at *
  generalize (atR R u).rct = yr at *
  go_enter Tryz.func26, Tryz.ntmps26
  go_wp2_with (first | (go_at_call 31; refine (some_any _ _).mono ?_; rintro e w' ⟨rfl, hw⟩; subst w') | (go_at_call 61; refine H.out.mono ?_; rintro e w1 ⟨rfl, hb⟩))
  go_ret
  exact ⟨rfl, hb⟩
set_option maxHeartbeats 400000 in
theorem Recent_any (h : VAt mk P val rv cv R C w) (hk : VOK R C N) (hN : N ≤ 1000000) (u : Int) :
    Calls Tryz.prog 28 #[.pointer (some ⟨P, 0, none⟩), .int .i64 u] w fun e w' => e = .returned (.bool (atR R u).rct) ∧ Below w.heap.size w w' := by
  have H := Lib.hid (at_any h hk hN u)
  clear h hk
  have q1 := fld1
  have q2 := fld2
  obtain ⟨yo, hyo⟩ : ∃ yo, (atR R u).ptr = .pointer yo := ⟨_, rfl⟩
  rw [hyo] at H
  clear hyo
  generalize (atR R u).uid = x at *
  generalize (atR R u).gone = yg at *
  generalize (atR R u).rct = yr at *
  go_enter Tryz.func28, Tryz.ntmps28
  go_wp2_with (first | (go_at_call 31; refine (some_any _ _).mono ?_; rintro e w' ⟨rfl, hw⟩; subst w') | (go_at_call 61; refine H.out.mono ?_; rintro e w1 ⟨rfl, hb⟩))
  go_ret
  exact ⟨rfl, hb⟩
end
end Go.Proofs.YtflkhnmggmfhfaaGreat

/- view: the search among numbers; one of them taken out. -/
namespace Go.Proofs.YtflkhnmggmfhfaaGreat
open Go.RowKit

set_option maxHeartbeats 400000 in
theorem less_any (a b : Int) (w : World) : Calls Tryz.prog 86 #[.int .i64 a, .int .i64 b] w fun e w' => e = .returned (.bool (decide (a < b))) ∧ w' = w := by
  by_cases h : a < b
  · go_enter Tryz.func86, Tryz.ntmps86
    go_wp2_with (go_at_call 85; refine (isNaN_any _ _).mono ?_; rintro e w' ⟨rfl, rfl⟩)
    go_ret
    exact ⟨ret_bool (by simp [h]), rfl⟩
  · go_enter Tryz.func86, Tryz.ntmps86
    go_wp2_with (go_at_call 85; refine (isNaN_any _ _).mono ?_; rintro e w' ⟨rfl, rfl⟩)
    go_ret
    exact ⟨ret_bool (by simp), rfl⟩
set_option maxHeartbeats 400000 in
theorem sNaN_any (x : Int) (w : World) : Calls Tryz.prog 87 #[.int .i64 x] w fun e w' => e = .returned (.bool false) ∧ w' = w := by
  have h : (x != x) = false := by simp
  go_enter Tryz.func87, Tryz.ntmps87
  go_wp2
  go_ret
  exact ⟨rfl, rfl⟩
set_option maxRecDepth 100000 in
set_option maxHeartbeats 4000000 in
theorem isearch_any (v : Value) (l : List Int) (m u : Int) (w : World) (hr : Nms w v l) (hl : l.length ≤ 1000000) (hc : riseF m l) :
    Calls Tryz.prog 78 #[v, .int .i64 u] w fun e w' => e = .returned (.tuple #[.int .i64 (ixP l u : Nat), .bool (hitP l u)]) ∧ w' = w := by
  obtain ⟨ao, cap, hv, hcs⟩ := hr
  subst hv
  have HCS := Lib.hid hcs
  have HI := Lib.hid (fun i => ixP_eq l u i)
  have HM := Lib.hid (fun i j => riseF_getD hc i j)
  have HH : Hid (hitP l u = decide (ixP l u < l.length ∧ l.getD (ixP l u) 0 = u)) := Lib.hid rfl
  clear hcs hc
  generalize hitP l u = ht at *
  generalize ixP l u = ix at *
  go_enter Tryz.func78, Tryz.ntmps78
  go_wp2_with fail
  go_loopg [7, 8] l.length (fun kx s9 s10 wr => ∃ lo hi : Nat, s9 = .int .i64 lo ∧ s10 = .int .i64 hi ∧ lo ≤ hi ∧ hi ≤ l.length ∧ hi - lo ≤ kx ∧ wr = w ∧ Hid ((∀ t, t < lo → l.getD t 0 < u) ∧ (∀ t, hi ≤ t → t < l.length → u ≤ l.getD t 0)))
  case atStart => exact ⟨0, l.length, rfl, rfl, Nat.zero_le _, Nat.le_refl _, by omega, rfl, Lib.hid ⟨fun t ht => absurd ht (Nat.not_lt_zero _), fun t h1 h2 => by omega⟩⟩
  case round =>
    obtain ⟨lo, hi, rfl, rfl, hlh, hin, hg, rfl, I⟩ := hrel
    by_cases hlt : lo < hi
    · obtain ⟨b, off, hao, hbs, hc⟩ := HCS.out (by omega)
      subst hao
      have c1 := hc ((lo + hi) / 2) (by omega)
      obtain ⟨y, hy⟩ : ∃ y, y = l.getD ((lo + hi) / 2) 0 := ⟨_, rfl⟩
      have Y := Lib.hid hy
      rw [← hy] at c1
      clear hc hy
      have HS := Lib.hid (less_any y u)
      by_cases hyx : y < u
      · rw [decide_eq_true hyx] at HS
        go_wp2_with (go_at_call 86; refine (HS.out _).mono ?_; rintro e w' ⟨rfl, hw⟩; subst w')
        go_roundg (hi - ((lo + hi) / 2 + 1))
        case measure => omega
        case rel =>
          refine ⟨(lo + hi) / 2 + 1, hi, by rw [show ((lo : Int) + (hi : Int)) / 2 + 1 = (((lo + hi) / 2 + 1 : Nat) : Int) by omega], rfl, by omega, hin, Nat.le_refl _, rfl, Lib.hid ⟨fun t ht => ?_, I.out.2⟩⟩
          by_cases e : t = (lo + hi) / 2
          · subst e; rw [← Y.out]; exact hyx
          · have a := HM.out t ((lo + hi) / 2) (by omega) (by omega)
            rw [← Y.out] at a
            omega
      · rw [decide_eq_false hyx] at HS
        go_wp2_with (go_at_call 86; refine (HS.out _).mono ?_; rintro e w' ⟨rfl, hw⟩; subst w')
        go_roundg ((lo + hi) / 2 - lo)
        case measure => omega
        case rel =>
          refine ⟨lo, (lo + hi) / 2, rfl, by rw [show ((lo : Int) + (hi : Int)) / 2 = (((lo + hi) / 2 : Nat) : Int) by omega], by omega, by omega, Nat.le_refl _, rfl, Lib.hid ⟨I.out.1, fun t ht htn => ?_⟩⟩
          by_cases e : t = (lo + hi) / 2
          · subst e; rw [← Y.out]; omega
          · have a := HM.out ((lo + hi) / 2) t (by omega) htn
            rw [← Y.out] at a
            omega
    · obtain rfl : hi = lo := by omega
      have hix : ix = hi := HI.out hi hin I.out.1 I.out.2
      subst hix
      by_cases hn : ix < l.length
      · obtain ⟨b, off, hao, hbs, hc⟩ := HCS.out (by omega)
        subst hao
        have c1 := hc ix hn
        have HT : Hid (ht = decide (l.getD ix 0 = u)) := Lib.hid (by rw [HH.out]; simp [hn])
        clear hc HH
        generalize l.getD ix 0 = x at *
        by_cases hxu : x = u
        · have HT2 : Hid (ht = true) := Lib.hid (by rw [HT.out]; simp [hxu])
          have hq : (x == u) = true := by simp [hxu]
          clear HT hxu
          go_wp2_with fail
          go_ret2
          exact ⟨by rw [HT2.out]; rfl, rfl⟩
        · have HT2 : Hid (ht = false) := Lib.hid (by rw [HT.out]; simp [hxu])
          have hq : (x == u) = false := by simp [hxu]
          clear HT hxu
          go_wp2_with (go_at_call 87; refine (sNaN_any _ _).mono ?_; rintro e w' ⟨rfl, hw⟩; subst w')
          go_ret2
          exact ⟨by rw [HT2.out]; rfl, rfl⟩
      · have HRR : Hid (ht = false) := Lib.hid (by rw [HH.out]; simp [hn])
        go_wp2
        go_ret2
        exact ⟨by rw [HRR.out]; rfl, rfl⟩
end Go.Proofs.YtflkhnmggmfhfaaGreat

/- view: one of the numbers is taken out; a row turns. -/
namespace Go.Proofs.YtflkhnmggmfhfaaGreat
open Go.RowKit

theorem step_append_run {ops : Array Oper} {o : Oper} {a : Act} {K : Act → World → Prop} {Q : Exit → Act → World → Prop} {E : Prop} {w : World} (hgd : o.guard = none) (s x : Operand) (ts : Array TypeId)
    (ho : o.op = .call { callee := .builtin .append, args := #[s, x], argTypes := ts }) (ty : TypeId) (hty : o.type = ty) (u v : Value) (hs : a.eval s = u) (hx : a.eval x = v) (v' : Value) (w' : World)
    (hr : (Builtin.append_ ts ty #[u, v]).run Tryz.prog w = .ok v' w') (h : K (a.put o.dst v') w') : if Region.wanted o (yielded ops a.tmps) = true then Oper.wp Tryz.prog o a w K Q else E := by
  have hw : Region.wanted o (yielded ops a.tmps) = true := by simp [Region.wanted, hgd]
  rw [if_pos hw]
  subst hty
  unfold Oper.wp execOp
  simp only [ho, resolve, invoke, builtin, Sem.run_bind, Sem.run_pure, Result.andThen_ok, List.map_toArray, List.map_cons, List.map_nil, hs, hx, hr]
  exact h
theorem ic_take (C : List Int) (n : Nat) : (ic C).take n = ic (C.take n) := by simp [ic, List.map_take]
theorem ic_drop (C : List Int) (n : Nat) : (ic C).drop n = ic (C.drop n) := by simp [ic, List.map_drop]
theorem zeroI (w : World) : (zeroValue 3).run Tryz.prog w = .ok (.int .i64 0) w := by kernel_rfl
set_option maxRecDepth 100000 in
set_option maxHeartbeats 2000000 in
theorem delete_any (v : Value) (C : List Int) (i : Nat) (w : World) (h : w.ownsRow 0 3 1 v C.length (ic C)) (hi : i < C.length) (hl : C.length ≤ 1000000) :
    Calls Tryz.prog 79 #[v, .int .i64 (i : Int), .int .i64 ((i + 1 : Nat) : Int)] w fun e w' => ∃ v', e = .returned v' ∧ w'.ownsRow 0 3 1 v' (C.take i ++ C.drop (i + 1)).length (ic (C.take i ++ C.drop (i + 1))) ∧ w.grownBy w' v.ownBlock ∧ v'.ownBlock = v.ownBlock := by
  rcases h.2 with ⟨_, h0⟩ | ⟨g, cap, cur, rfl, hb, hg, hnc, hcm, hcs, htake⟩
  · omega
  obtain ⟨m, hm⟩ : ∃ m, C.length = m + 1 := ⟨C.length - 1, by omega⟩
  obtain ⟨i0, hi0, hz0, hz1, hz2⟩ := info_parts' Tryz.infoInt
  have hpre : w.drew.ownsRow 0 3 1 (.slice (some ⟨g, 0, none⟩) i cap) i (ic (C.take i)) := by
    refine ⟨by simp [ic]; omega, .inr ⟨g, cap, cur, rfl, hb, hg, by omega, hcm, hcs, ?_⟩⟩
    rw [← ic_take, ← htake, List.take_take, show min i (C.length * 1) = i * 1 by omega]
  obtain ⟨o2, c2, ho2, hform⟩ : ∃ o2 c2, (o2 = i + 1 ∨ C.length = i + 1) ∧ ((i + 1 < cap ∧ o2 = i + 1 ∧ c2 = cap - (i + 1)) ∨ (i + 1 = cap ∧ o2 = 0 ∧ c2 = 0)) := by
    by_cases hq : i + 1 < cap
    · exact ⟨i + 1, cap - (i + 1), .inl rfl, .inl ⟨hq, rfl, rfl⟩⟩
    · exact ⟨0, 0, .inr (by omega), .inr ⟨by omega, rfl, rfl⟩⟩
  obtain ⟨w1, hrun, hrow, hgr⟩ := run_append_fits (P := Tryz.prog) w.drew 0 26 26 3 i0 1 Tryz.underlying26 hi0 hz1 g i cap (ic (C.take i)) hpre ⟨g, o2, none⟩ (m - i) c2 (ic (C.drop (i + 1))) (by rw [ic_length, List.length_drop]; omega) (by
      intro j u hj
      have hjl : j < (ic (C.drop (i + 1))).length := (List.getElem?_eq_some_iff.1 hj).1
      rw [ic_length, List.length_drop] at hjl
      have ho3 : o2 = i + 1 := by omega
      subst ho3
      rw [← ic_drop, List.getElem?_drop] at hj
      have := h.cells (g := g) rfl (i + 1 + j) u hj
      rw [Addr.add_lit, Nat.zero_add] at this
      rw [Addr.add_lit]
      exact this) (ic_one _) (by omega)
  have him : i + (m - i) = m := by omega
  rw [him, ← ic_append] at hrow
  rw [him] at hrun
  have hfz : w1.frozen? ⟨g, m, none⟩ = false := hrow.frozenAt m
  have hcell : (w1.cell? ⟨g, m, none⟩).isSome = true := by
    rcases hrow.2 with ⟨e, _⟩ | ⟨g', cap', cur', e, _, hg', _, _, hcs', _⟩
    · cases e
    · cases e
      rw [cell_of hg' m, Array.getElem?_eq_getElem (by omega)]
      rfl
  have hcl : ∀ ty, (Builtin.clear_ #[26] ty #[.slice (some ⟨g, m, none⟩) 1 (cap - m)]).run Tryz.prog w1 = .ok (.tuple #[]) (w1.setCell ⟨g, m, none⟩ (.int .i64 0)) := fun ty =>
    Lib.run_clear_slice w1 26 3 ty (.int .i64 0) Tryz.underlying26 zeroI rfl rfl g m 1 (cap - m) (by omega) (fun j hj => by
      have : j = 0 := by omega
      subst this; exact hcell) (fun j hj => by
      have : j = 0 := by omega
      subst this; exact hfz)
  obtain ⟨hs, hgs⟩ := hrow.stored m (.int .i64 0)
  have hlen : (C.take i ++ C.drop (i + 1)).length = m := by simp only [List.length_append, List.length_take, List.length_drop]; omega
  have HF : Hid ((w1.setCell ⟨g, m, none⟩ (.int .i64 0)).ownsRow 0 3 1 (.slice (some ⟨g, 0, none⟩) m cap) (C.take i ++ C.drop (i + 1)).length (ic (C.take i ++ C.drop (i + 1))) ∧ w.grownBy (w1.setCell ⟨g, m, none⟩ (.int .i64 0)) (some g)) := Lib.hid (by
    refine ⟨?_, ⟨hgs.os.trans hgr.os, hgs.tape.trans hgr.tape, hgs.output.trans hgr.output, Nat.le_trans hgr.size hgs.size, fun k hk hne => ?_⟩⟩
    · rw [hlen]
      rw [List.set_eq_of_length_le (by rw [ic_length, hlen]; exact Nat.le_refl _)] at hs
      exact hs
    · rw [hgs.block k (Nat.lt_of_lt_of_le hk hgr.size) hne, hgr.block k hk hne]
      rfl)
  have HRun := Lib.hid hrun
  obtain ⟨j, hj⟩ : ∃ j, j = i + 1 := ⟨_, rfl⟩
  obtain ⟨n, hn⟩ : ∃ n, n = C.length := ⟨_, rfl⟩
  rw [← hj] at ⊢ hform HF
  rw [← hn] at ⊢
  rw [show m - i = n - j by omega] at HRun
  rw [show (1 : Nat) = n - m by omega] at hcl
  have hne : ((i : Int) == (j : Int)) = false := by rw [beq_eq_false_iff_ne]; omega
  have z1 : j ≤ n := by omega
  have z2 : i ≤ j := by omega
  have z3 : n ≤ cap := by omega
  have z4 : m ≤ n := by omega
  have z5 : i ≤ cap := by omega
  have z6 : j ≤ cap := by omega
  have z7 : m ≤ cap := by omega
  have z8 : n ≤ 1000000 := by omega
  have z9 : i < n := by omega
  have za : m < cap := by omega
  have zb : n ≤ j + (n - j) := by omega
  have zc : cap = j → n - j = 0 := fun e => by omega
  clear h hg hb hcs htake hpre hrow hgr hcell hfz hs hgs hlen hrun hm hi0 hz0 hz1 hz2 hcm hnc hn hj hi hl him ho2 zb
  rcases hform with ⟨hq, rfl, rfl⟩ | ⟨hq, rfl, rfl⟩
  · clear zc
    have zq : ¬ cap = o2 := by omega
    go_enter Tryz.func79, Tryz.ntmps79
    go_wp2_with fail
    --R DelA--
    refine wp_region_N 6 (fun X => X = w.drew) (by kernel_rfl) ?_
    refine wpAnyN_take (i := 0) (oi := { dst := some 20, op := Go.Op.move (Go.Operand.tmp 0), type := 26, pos := "slices.go:232", after := #[], guard := none }) (oL := { dst := some 26, op := Go.Op.call { callee := Go.Callee.builtin Go.Builtin.append, args := #[Go.Operand.tmp 22, Go.Operand.tmp 25], argTypes := #[26, 26] }, type := 26, pos := "slices.go:232", after := #[{ on := 2, ground := Go.Ground.data }, { on := 5, ground := Go.Ground.data }], guard := none }) (v := .slice (some ⟨g, 0, none⟩) n cap) rfl rfl (by kernel_rfl) (by kernel_rfl) (by kernel_rfl) (by kernel_rfl) (fun _ _ _ h => h) (Or.inl ⟨by kernel_rfl, ?_⟩) rfl ?_
    · (intro X hX; subst hX <;> (go_simp; try (with_reducible rfl)))
    (try simp only [Act.put, List.setIfInBounds_toArray, List.set_cons_zero, List.set_cons_succ])
    refine wpAnyN_take (i := 1) (oi := { dst := some 21, op := Go.Op.move (Go.Operand.tmp 1), type := 3, pos := "slices.go:232", after := #[], guard := none }) (oL := { dst := some 26, op := Go.Op.call { callee := Go.Callee.builtin Go.Builtin.append, args := #[Go.Operand.tmp 22, Go.Operand.tmp 25], argTypes := #[26, 26] }, type := 26, pos := "slices.go:232", after := #[{ on := 2, ground := Go.Ground.data }, { on := 5, ground := Go.Ground.data }], guard := none }) (v := .int .i64 (i : Int)) rfl rfl (by kernel_rfl) (by kernel_rfl) (by kernel_rfl) (by kernel_rfl) (fun _ _ _ h => h) (Or.inl ⟨by kernel_rfl, ?_⟩) rfl ?_
    · (intro X hX; subst hX <;> (go_simp; try (with_reducible rfl)))
    (try simp only [Act.put, List.setIfInBounds_toArray, List.set_cons_zero, List.set_cons_succ])
    refine wpAnyN_take (i := 2) (oi := { dst := some 22, op := Go.Op.slice 26 (Go.Operand.tmp 20) none (some (Go.Operand.tmp 21)) none, type := 26, pos := "slices.go:232", after := #[{ on := 0, ground := Go.Ground.data }, { on := 1, ground := Go.Ground.data }], guard := none }) (oL := { dst := some 26, op := Go.Op.call { callee := Go.Callee.builtin Go.Builtin.append, args := #[Go.Operand.tmp 22, Go.Operand.tmp 25], argTypes := #[26, 26] }, type := 26, pos := "slices.go:232", after := #[{ on := 2, ground := Go.Ground.data }, { on := 5, ground := Go.Ground.data }], guard := none }) (v := .slice (some ⟨g, 0, none⟩) i cap) rfl rfl (by kernel_rfl) (by kernel_rfl) (by kernel_rfl) (by kernel_rfl) (fun _ _ _ h => h) (Or.inl ⟨by kernel_rfl, ?_⟩) rfl ?_
    · (intro X hX; subst hX <;> (go_simp; try (with_reducible rfl)))
    (try simp only [Act.put, List.setIfInBounds_toArray, List.set_cons_zero, List.set_cons_succ])
    refine wpAnyN_take (i := 3) (oi := { dst := some 23, op := Go.Op.move (Go.Operand.tmp 0), type := 26, pos := "slices.go:232", after := #[], guard := none }) (oL := { dst := some 26, op := Go.Op.call { callee := Go.Callee.builtin Go.Builtin.append, args := #[Go.Operand.tmp 22, Go.Operand.tmp 25], argTypes := #[26, 26] }, type := 26, pos := "slices.go:232", after := #[{ on := 2, ground := Go.Ground.data }, { on := 5, ground := Go.Ground.data }], guard := none }) (v := .slice (some ⟨g, 0, none⟩) n cap) rfl rfl (by kernel_rfl) (by kernel_rfl) (by kernel_rfl) (by kernel_rfl) (fun _ _ _ h => h) (Or.inl ⟨by kernel_rfl, ?_⟩) rfl ?_
    · (intro X hX; subst hX <;> (go_simp; try (with_reducible rfl)))
    (try simp only [Act.put, List.setIfInBounds_toArray, List.set_cons_zero, List.set_cons_succ])
    refine wpAnyN_take (i := 4) (oi := { dst := some 24, op := Go.Op.move (Go.Operand.tmp 2), type := 3, pos := "slices.go:232", after := #[], guard := none }) (oL := { dst := some 26, op := Go.Op.call { callee := Go.Callee.builtin Go.Builtin.append, args := #[Go.Operand.tmp 22, Go.Operand.tmp 25], argTypes := #[26, 26] }, type := 26, pos := "slices.go:232", after := #[{ on := 2, ground := Go.Ground.data }, { on := 5, ground := Go.Ground.data }], guard := none }) (v := .int .i64 (o2 : Int)) rfl rfl (by kernel_rfl) (by kernel_rfl) (by kernel_rfl) (by kernel_rfl) (fun _ _ _ h => h) (Or.inl ⟨by kernel_rfl, ?_⟩) rfl ?_
    · (intro X hX; subst hX <;> (go_simp; try (with_reducible rfl)))
    (try simp only [Act.put, List.setIfInBounds_toArray, List.set_cons_zero, List.set_cons_succ])
    refine wpAnyN_take (i := 5) (oi := { dst := some 25, op := Go.Op.slice 26 (Go.Operand.tmp 23) (some (Go.Operand.tmp 24)) none none, type := 26, pos := "slices.go:232", after := #[{ on := 3, ground := Go.Ground.data }, { on := 4, ground := Go.Ground.data }], guard := none }) (oL := { dst := some 26, op := Go.Op.call { callee := Go.Callee.builtin Go.Builtin.append, args := #[Go.Operand.tmp 22, Go.Operand.tmp 25], argTypes := #[26, 26] }, type := 26, pos := "slices.go:232", after := #[{ on := 2, ground := Go.Ground.data }, { on := 5, ground := Go.Ground.data }], guard := none }) (v := .slice (some ⟨g, o2, none⟩) (n - o2) (cap - o2)) rfl rfl (by kernel_rfl) (by kernel_rfl) (by kernel_rfl) (by kernel_rfl) (fun _ _ _ h => h) (Or.inl ⟨by kernel_rfl, ?_⟩) rfl ?_
    · (intro X hX; subst hX <;> (go_simp; try (with_reducible rfl)))
    (try simp only [Act.put, List.setIfInBounds_toArray, List.set_cons_zero, List.set_cons_succ])
    refine wpAnyN_one (i := 6) (o := { dst := some 26, op := Go.Op.call { callee := Go.Callee.builtin Go.Builtin.append, args := #[Go.Operand.tmp 22, Go.Operand.tmp 25], argTypes := #[26, 26] }, type := 26, pos := "slices.go:232", after := #[{ on := 2, ground := Go.Ground.data }, { on := 5, ground := Go.Ground.data }], guard := none }) (by kernel_rfl) rfl (fun K hK => ?_)
    refine step_append_run (u := .slice (some ⟨g, 0, none⟩) i cap) (v := .slice (some ⟨g, o2, none⟩) (n - o2) (cap - o2)) rfl _ _ _ rfl 26 rfl rfl rfl _ _ HRun.out ?_
    refine hK.out _ _ (fun e => absurd (e.symm.trans (by kernel_rfl) : false = true) Bool.false_ne_true) ?_
    clear hK K
    (try simp only [Act.put, List.setIfInBounds_toArray, List.set_cons_zero, List.set_cons_succ])
    refine wpAnyN_of_H (S' := fun _ => True) _ _ _ _ (by kernel_rfl) ?_
    refine wpAnyH_take (i := 7) (oi := { dst := some 0, op := Go.Op.assign (Go.Operand.tmp 26), type := 26, pos := "slices.go:232", after := #[{ on := 6, ground := Go.Ground.data }, { on := 6, ground := Go.Ground.chain }, { on := 0, ground := Go.Ground.phase }, { on := 1, ground := Go.Ground.phase }, { on := 2, ground := Go.Ground.phase }, { on := 3, ground := Go.Ground.phase }, { on := 4, ground := Go.Ground.phase }, { on := 5, ground := Go.Ground.phase }, { on := 6, ground := Go.Ground.phase }], guard := none }) (v := .slice (some ⟨g, 0, none⟩) m cap) rfl (by kernel_rfl) (by kernel_rfl) (by kernel_rfl) (fun _ _ _ h => h) (Or.inl ⟨by kernel_rfl, ?_⟩) trivial ?_
    · (intro X hX; go_simp; try (with_reducible rfl))
    (try simp only [Act.put, List.setIfInBounds_toArray, List.set_cons_zero])
    refine wpAnyH_done (by kernel_rfl) ?_ _
    --E DelA--
    all_goals
      go_wp2_with (simp only [hcl])
      go_ret
      exact ⟨_, rfl, HF.out.1, HF.out.2, rfl⟩
  · rw [zc hq.symm] at HRun
    have hnj : n = j := by have := zc hq.symm; omega
    subst hnj
    subst hq
    clear zc
    go_enter Tryz.func79, Tryz.ntmps79
    go_wp2_with fail
    --R DelB--
    refine wp_region_N 6 (fun X => X = w.drew) (by kernel_rfl) ?_
    refine wpAnyN_take (i := 0) (oi := { dst := some 20, op := Go.Op.move (Go.Operand.tmp 0), type := 26, pos := "slices.go:232", after := #[], guard := none }) (oL := { dst := some 26, op := Go.Op.call { callee := Go.Callee.builtin Go.Builtin.append, args := #[Go.Operand.tmp 22, Go.Operand.tmp 25], argTypes := #[26, 26] }, type := 26, pos := "slices.go:232", after := #[{ on := 2, ground := Go.Ground.data }, { on := 5, ground := Go.Ground.data }], guard := none }) (v := .slice (some ⟨g, 0, none⟩) n n) rfl rfl (by kernel_rfl) (by kernel_rfl) (by kernel_rfl) (by kernel_rfl) (fun _ _ _ h => h) (Or.inl ⟨by kernel_rfl, ?_⟩) rfl ?_
    · (intro X hX; subst hX <;> (go_simp; try (with_reducible rfl)))
    (try simp only [Act.put, List.setIfInBounds_toArray, List.set_cons_zero, List.set_cons_succ])
    refine wpAnyN_take (i := 1) (oi := { dst := some 21, op := Go.Op.move (Go.Operand.tmp 1), type := 3, pos := "slices.go:232", after := #[], guard := none }) (oL := { dst := some 26, op := Go.Op.call { callee := Go.Callee.builtin Go.Builtin.append, args := #[Go.Operand.tmp 22, Go.Operand.tmp 25], argTypes := #[26, 26] }, type := 26, pos := "slices.go:232", after := #[{ on := 2, ground := Go.Ground.data }, { on := 5, ground := Go.Ground.data }], guard := none }) (v := .int .i64 (i : Int)) rfl rfl (by kernel_rfl) (by kernel_rfl) (by kernel_rfl) (by kernel_rfl) (fun _ _ _ h => h) (Or.inl ⟨by kernel_rfl, ?_⟩) rfl ?_
    · (intro X hX; subst hX <;> (go_simp; try (with_reducible rfl)))
    (try simp only [Act.put, List.setIfInBounds_toArray, List.set_cons_zero, List.set_cons_succ])
    refine wpAnyN_take (i := 2) (oi := { dst := some 22, op := Go.Op.slice 26 (Go.Operand.tmp 20) none (some (Go.Operand.tmp 21)) none, type := 26, pos := "slices.go:232", after := #[{ on := 0, ground := Go.Ground.data }, { on := 1, ground := Go.Ground.data }], guard := none }) (oL := { dst := some 26, op := Go.Op.call { callee := Go.Callee.builtin Go.Builtin.append, args := #[Go.Operand.tmp 22, Go.Operand.tmp 25], argTypes := #[26, 26] }, type := 26, pos := "slices.go:232", after := #[{ on := 2, ground := Go.Ground.data }, { on := 5, ground := Go.Ground.data }], guard := none }) (v := .slice (some ⟨g, 0, none⟩) i n) rfl rfl (by kernel_rfl) (by kernel_rfl) (by kernel_rfl) (by kernel_rfl) (fun _ _ _ h => h) (Or.inl ⟨by kernel_rfl, ?_⟩) rfl ?_
    · (intro X hX; subst hX <;> (go_simp; try (with_reducible rfl)))
    (try simp only [Act.put, List.setIfInBounds_toArray, List.set_cons_zero, List.set_cons_succ])
    refine wpAnyN_take (i := 3) (oi := { dst := some 23, op := Go.Op.move (Go.Operand.tmp 0), type := 26, pos := "slices.go:232", after := #[], guard := none }) (oL := { dst := some 26, op := Go.Op.call { callee := Go.Callee.builtin Go.Builtin.append, args := #[Go.Operand.tmp 22, Go.Operand.tmp 25], argTypes := #[26, 26] }, type := 26, pos := "slices.go:232", after := #[{ on := 2, ground := Go.Ground.data }, { on := 5, ground := Go.Ground.data }], guard := none }) (v := .slice (some ⟨g, 0, none⟩) n n) rfl rfl (by kernel_rfl) (by kernel_rfl) (by kernel_rfl) (by kernel_rfl) (fun _ _ _ h => h) (Or.inl ⟨by kernel_rfl, ?_⟩) rfl ?_
    · (intro X hX; subst hX <;> (go_simp; try (with_reducible rfl)))
    (try simp only [Act.put, List.setIfInBounds_toArray, List.set_cons_zero, List.set_cons_succ])
    refine wpAnyN_take (i := 4) (oi := { dst := some 24, op := Go.Op.move (Go.Operand.tmp 2), type := 3, pos := "slices.go:232", after := #[], guard := none }) (oL := { dst := some 26, op := Go.Op.call { callee := Go.Callee.builtin Go.Builtin.append, args := #[Go.Operand.tmp 22, Go.Operand.tmp 25], argTypes := #[26, 26] }, type := 26, pos := "slices.go:232", after := #[{ on := 2, ground := Go.Ground.data }, { on := 5, ground := Go.Ground.data }], guard := none }) (v := .int .i64 (n : Int)) rfl rfl (by kernel_rfl) (by kernel_rfl) (by kernel_rfl) (by kernel_rfl) (fun _ _ _ h => h) (Or.inl ⟨by kernel_rfl, ?_⟩) rfl ?_
    · (intro X hX; subst hX <;> (go_simp; try (with_reducible rfl)))
    (try simp only [Act.put, List.setIfInBounds_toArray, List.set_cons_zero, List.set_cons_succ])
    refine wpAnyN_take (i := 5) (oi := { dst := some 25, op := Go.Op.slice 26 (Go.Operand.tmp 23) (some (Go.Operand.tmp 24)) none none, type := 26, pos := "slices.go:232", after := #[{ on := 3, ground := Go.Ground.data }, { on := 4, ground := Go.Ground.data }], guard := none }) (oL := { dst := some 26, op := Go.Op.call { callee := Go.Callee.builtin Go.Builtin.append, args := #[Go.Operand.tmp 22, Go.Operand.tmp 25], argTypes := #[26, 26] }, type := 26, pos := "slices.go:232", after := #[{ on := 2, ground := Go.Ground.data }, { on := 5, ground := Go.Ground.data }], guard := none }) (v := .slice (some ⟨g, 0, none⟩) (0) (0)) rfl rfl (by kernel_rfl) (by kernel_rfl) (by kernel_rfl) (by kernel_rfl) (fun _ _ _ h => h) (Or.inl ⟨by kernel_rfl, ?_⟩) rfl ?_
    · (intro X hX; subst hX <;> (go_simp; try (with_reducible rfl)))
    (try simp only [Act.put, List.setIfInBounds_toArray, List.set_cons_zero, List.set_cons_succ])
    refine wpAnyN_one (i := 6) (o := { dst := some 26, op := Go.Op.call { callee := Go.Callee.builtin Go.Builtin.append, args := #[Go.Operand.tmp 22, Go.Operand.tmp 25], argTypes := #[26, 26] }, type := 26, pos := "slices.go:232", after := #[{ on := 2, ground := Go.Ground.data }, { on := 5, ground := Go.Ground.data }], guard := none }) (by kernel_rfl) rfl (fun K hK => ?_)
    refine step_append_run (u := .slice (some ⟨g, 0, none⟩) i n) (v := .slice (some ⟨g, 0, none⟩) (0) (0)) rfl _ _ _ rfl 26 rfl rfl rfl _ _ HRun.out ?_
    refine hK.out _ _ (fun e => absurd (e.symm.trans (by kernel_rfl) : false = true) Bool.false_ne_true) ?_
    clear hK K
    (try simp only [Act.put, List.setIfInBounds_toArray, List.set_cons_zero, List.set_cons_succ])
    refine wpAnyN_of_H (S' := fun _ => True) _ _ _ _ (by kernel_rfl) ?_
    refine wpAnyH_take (i := 7) (oi := { dst := some 0, op := Go.Op.assign (Go.Operand.tmp 26), type := 26, pos := "slices.go:232", after := #[{ on := 6, ground := Go.Ground.data }, { on := 6, ground := Go.Ground.chain }, { on := 0, ground := Go.Ground.phase }, { on := 1, ground := Go.Ground.phase }, { on := 2, ground := Go.Ground.phase }, { on := 3, ground := Go.Ground.phase }, { on := 4, ground := Go.Ground.phase }, { on := 5, ground := Go.Ground.phase }, { on := 6, ground := Go.Ground.phase }], guard := none }) (v := .slice (some ⟨g, 0, none⟩) m n) rfl (by kernel_rfl) (by kernel_rfl) (by kernel_rfl) (fun _ _ _ h => h) (Or.inl ⟨by kernel_rfl, ?_⟩) trivial ?_
    · (intro X hX; go_simp; try (with_reducible rfl))
    (try simp only [Act.put, List.setIfInBounds_toArray, List.set_cons_zero])
    refine wpAnyH_done (by kernel_rfl) ?_ _
    --E DelB--
    all_goals
      go_wp2_with (simp only [hcl])
      go_ret
      exact ⟨_, rfl, HF.out.1, HF.out.2, rfl⟩
end Go.Proofs.YtflkhnmggmfhfaaGreat

/- view: a row goes, a row turns; a number that was coming is taken out. -/
namespace Go.Proofs.YtflkhnmggmfhfaaGreat
open Go.RowKit

def goE (r : RE) : RE := { r with gone := true, tn := none }
def turnE (t : TE) (r : RE) : RE := { r with tn := some t }
theorem rwC_cons (q : RE) (s : List RE) : rwC (q :: s) = .int .i64 q.uid :: .bool q.gone :: .bool q.rct :: q.ptr :: rwC s := by simp [rwC, RE.enc]
theorem rwC_go (R : List RE) (i : Nat) (hi : i < R.length) : ((rwC R).set (i * 4 + 1) (.bool true)).set (i * 4 + 3) (.pointer none) = rwC (R.set i (goE (R.getD i RE0))) := by
  induction R generalizing i with
  | nil => simp at hi
  | cons p t ih =>
    cases i with
    | zero => rw [rwC_cons]; show _ = rwC (goE p :: t); rw [rwC_cons]; rfl
    | succ i =>
      have := ih i (by simpa using hi)
      rw [rwC_cons, show (i + 1) * 4 = i * 4 + 1 + 1 + 1 + 1 by omega]
      simp only [List.set_cons_succ, List.getD_cons_succ]
      rw [this, rwC_cons]
theorem rwC_turn (R : List RE) (i : Nat) (te : TE) (hi : i < R.length) : (rwC R).set (i * 4 + 3) (.pointer (some ⟨te.blk, 0, none⟩)) = rwC (R.set i (turnE te (R.getD i RE0))) := by
  induction R generalizing i with
  | nil => simp at hi
  | cons p t ih =>
    cases i with
    | zero => rw [rwC_cons]; show _ = rwC (turnE te p :: t); rw [rwC_cons]; rfl
    | succ i =>
      have := ih i (by simpa using hi)
      rw [rwC_cons, show (i + 1) * 4 = i * 4 + 1 + 1 + 1 + 1 by omega]
      simp only [List.set_cons_succ, List.getD_cons_succ]
      rw [this, rwC_cons]
theorem mem_set' {R : List RE} {i : Nat} {r x : RE} (h : x ∈ R.set i r) : x ∈ R ∨ x = r := by
  rcases List.mem_or_eq_of_mem_set h with h | h
  · exact .inl h
  · exact .inr h
theorem getD_mem' {R : List RE} {i : Nat} (hi : i < R.length) : R.getD i RE0 ∈ R := by
  rw [List.getD_eq_getElem?_getD, List.getElem?_eq_getElem hi]
  exact List.getElem_mem hi
section
variable {P : Nat} {mk : Bool} {val : Int} {cv : Value} {R : List RE} {C : List Int} {w : World} {g cap : Nat}
theorem VAt.row_at {rv : Value} (h : VAt mk P val rv cv R C w) {i : Nat} (hi : i < R.length) : ∃ g cap, rv = .slice (some ⟨g, 0, none⟩) R.length cap ∧ w.cell? ⟨g, i * 4, none⟩ = some (.int .i64 (R.getD i RE0).uid) ∧ w.cell? ⟨g, i * 4 + 1, none⟩ = some (.bool (R.getD i RE0).gone) ∧ w.cell? ⟨g, i * 4 + 2, none⟩ = some (.bool (R.getD i RE0).rct) ∧ w.cell? ⟨g, i * 4 + 3, none⟩ = some (R.getD i RE0).ptr ∧ ∀ j, w.frozen? ⟨g, j, none⟩ = false := by
  have hr := h.rows
  rcases hr.2 with ⟨rfl, h0⟩ | ⟨g, cap, cur, rfl, _⟩
  · omega
  · have := rwC_at R i hi
    exact ⟨g, cap, rfl, (hr.cellAt _ (by omega)).trans this.1, (hr.cellAt _ (by omega)).trans this.2.1, (hr.cellAt _ (by omega)).trans this.2.2.1, (hr.cellAt _ (by omega)).trans this.2.2.2, fun j => hr.frozenAt j⟩
/-- A row has gone. -/
theorem VAt.goR (h : VAt mk P val (.slice (some ⟨g, 0, none⟩) R.length cap) cv R C w) {i : Nat} (hi : i < R.length) :
    VAt mk P val (.slice (some ⟨g, 0, none⟩) R.length cap) cv (R.set i (goE (R.getD i RE0))) C ((w.setCell ⟨g, i * 4 + 1, none⟩ (.bool true)).setCell ⟨g, i * 4 + 3, none⟩ (.pointer none)) ∧
      FO (fpV P (.slice (some ⟨g, 0, none⟩) R.length cap) cv R) (fpV P (.slice (some ⟨g, 0, none⟩) R.length cap) cv (R.set i (goE (R.getD i RE0)))) w ((w.setCell ⟨g, i * 4 + 1, none⟩ (.bool true)).setCell ⟨g, i * 4 + 3, none⟩ (.pointer none)) := by
  obtain ⟨s1, g1⟩ := h.rows.stored (i * 4 + 1) (.bool true)
  obtain ⟨s2, g2⟩ := s1.stored (i * 4 + 3) (.pointer none)
  rw [rwC_go R i hi] at s2
  have keep : ∀ b, b ≠ g → ((w.setCell ⟨g, i * 4 + 1, none⟩ (.bool true)).setCell ⟨g, i * 4 + 3, none⟩ (.pointer none)).heap[b]? = w.heap[b]? := fun b hb => by
    rw [Below.heap_setCell _ _ _ _ hb, Below.heap_setCell _ _ _ _ hb]
  have hgo : (Value.slice (some ⟨g, 0, none⟩) R.length cap).ownBlock = some g := rfl
  refine ⟨⟨?_, ?_, ?_, ?_⟩, ?_, ?_⟩
  · rw [keep P (fun e => h.pr (e ▸ hgo))]; exact h.self
  · rw [List.length_set]; exact s2
  · exact ownsRow_same h.com (fun b e => keep b (fun e' => h.rc hgo (e' ▸ e)))
  · intro r hr t ht
    rcases mem_set' hr with hr | rfl
    · exact (h.turns r hr t ht).hold (fun b hb => keep b (fun e' => (h.tt hr ht hb).2.1 (e' ▸ hgo)))
    · cases ht
  · exact Stays.setCell (p := ⟨g, i * 4 + 3, none⟩) (Stays.setCell (p := ⟨g, i * 4 + 1, none⟩) (Stays.refl _ _) (.inl (mem_fpV_r hgo)) _) (.inl (mem_fpV_r hgo)) _
  · intro b hb
    rcases mem_fpV.1 hb with rfl | hb | hb | ⟨r, hr, hb⟩
    · exact .inl mem_fpV_p
    · exact .inl (mem_fpV_r hb)
    · exact .inl (mem_fpV_c hb)
    · rcases mem_set' hr with hr | rfl
      · exact .inl (mem_fpV_t hr hb)
      · rw [blks_no rfl] at hb; cases hb
/-- Something waits of a row; it lies in new blocks. -/
theorem VAt.turnR {w1 : World} (h : VAt mk P val (.slice (some ⟨g, 0, none⟩) R.length cap) cv R C w) {i : Nat} (hi : i < R.length) (hb1 : Below w.heap.size w w1) (t : TE) (ht1 : TurnAt w1 t) (hnew : ∀ b, b ∈ t.blks → w.heap.size ≤ b) :
    VAt mk P val (.slice (some ⟨g, 0, none⟩) R.length cap) cv (R.set i (turnE t (R.getD i RE0))) C (w1.setCell ⟨g, i * 4 + 3, none⟩ (.pointer (some ⟨t.blk, 0, none⟩))) ∧
      FO (fpV P (.slice (some ⟨g, 0, none⟩) R.length cap) cv R) (fpV P (.slice (some ⟨g, 0, none⟩) R.length cap) cv (R.set i (turnE t (R.getD i RE0)))) w (w1.setCell ⟨g, i * 4 + 3, none⟩ (.pointer (some ⟨t.blk, 0, none⟩))) := by
  have h1 := h.on hb1
  obtain ⟨s1, g1⟩ := h1.rows.stored (i * 4 + 3) (.pointer (some ⟨t.blk, 0, none⟩))
  rw [rwC_turn R i t hi] at s1
  have hgl : g < w.heap.size := (h.rows.lt g rfl).2
  have keep : ∀ b, b ≠ g → (w1.setCell ⟨g, i * 4 + 3, none⟩ (.pointer (some ⟨t.blk, 0, none⟩))).heap[b]? = w1.heap[b]? := fun b hb => by
    rw [Below.heap_setCell _ _ _ _ hb]
  have hgo : (Value.slice (some ⟨g, 0, none⟩) R.length cap).ownBlock = some g := rfl
  refine ⟨⟨?_, ?_, ?_, ?_⟩, ?_, ?_⟩
  · rw [keep P (fun e => h1.pr (e ▸ hgo))]; exact h1.self
  · rw [List.length_set]; exact s1
  · exact ownsRow_same h1.com (fun b e => keep b (fun e' => h1.rc hgo (e' ▸ e)))
  · intro r hr t' ht
    rcases mem_set' hr with hr | rfl
    · exact (h1.turns r hr t' ht).hold (fun b hb => keep b (fun e' => (h1.tt hr ht hb).2.1 (e' ▸ hgo)))
    · have : t = t' := by simpa [turnE] using ht
      subst this
      exact ht1.hold (fun b hb => keep b (fun e' => by have := hnew b hb; omega))
  · exact Stays.setCell (p := ⟨g, i * 4 + 3, none⟩) (Stays.ofBelow hb1) (.inl (mem_fpV_r hgo)) _
  · intro b hb
    rcases mem_fpV.1 hb with rfl | hb | hb | ⟨r, hr, hb⟩
    · exact .inl mem_fpV_p
    · exact .inl (mem_fpV_r hb)
    · exact .inl (mem_fpV_c hb)
    · rcases mem_set' hr with hr | rfl
      · exact .inl (mem_fpV_t hr hb)
      · rw [blks_tn (t := t) rfl] at hb; exact .inr (hnew b hb)
/-- coming is another row that the call made, in its own block or a new one. -/
theorem VAt.newC {rv cv' : Value} {C' : List Int} {w1 : World} (h : VAt mk P val rv cv R C w) (hg1 : w.grownBy w1 cv.ownBlock) (hrow : w1.ownsRow 0 3 1 cv' C'.length (ic C')) (hb : ∀ b, cv'.ownBlock = some b → cv.ownBlock = some b ∨ w.heap.size ≤ b) :
    w1.heap[P]? = some (selfV mk val rv cv) ∧ VAt mk P val rv cv' R C' (w1.setCell ⟨P, 3, none⟩ cv') ∧ FO (fpV P rv cv R) (fpV P rv cv' R) w (w1.setCell ⟨P, 3, none⟩ cv') := by
  have hbl := lt_of_heap h.self
  have hs1 : w1.heap[P]? = some (selfV mk val rv cv) := by rw [hg1.block P hbl (fun e => h.pc e.symm)]; exact h.self
  have hset : ∀ b, b ≠ P → (w1.setCell ⟨P, 3, none⟩ cv').heap[b]? = w1.heap[b]? := fun b hb => Below.heap_setCell _ _ _ _ hb
  have keep : ∀ b, b < w.heap.size → b ≠ P → cv.ownBlock ≠ some b → (w1.setCell ⟨P, 3, none⟩ cv').heap[b]? = w.heap[b]? := fun b hb hp hc => by
    rw [hset b hp, hg1.block b hb (fun e => hc e.symm)]
  refine ⟨hs1, ⟨?_, ?_, ?_, ?_⟩, ?_, ?_⟩
  · unfold selfV at hs1
    rw [heap_setCell_at _ hs1]
    rfl
  · exact ownsRow_same h.rows (fun b e => keep b (h.rows.lt b e).2 (fun e' => h.pr (e' ▸ e)) (h.rc e))
  · exact ownsRow_same hrow (fun b e => hset b (fun e' => by
      subst e'
      rcases hb _ e with e2 | e2
      · exact h.pc e2
      · omega))
  · intro r hr t ht
    refine (h.turns r hr t ht).hold (fun b hb => ?_)
    have q := h.tt hr ht hb
    exact keep b ((h.turns r hr t ht).lt hb) q.1 q.2.2
  · exact Stays.setCell (p := ⟨P, 3, none⟩) (Stays.ofGrown hg1 (fun b e => mem_fpV_c e)) (.inl mem_fpV_p) _
  · intro b hb'
    rcases mem_fpV.1 hb' with rfl | hb' | hb' | ⟨r, hr, hb'⟩
    · exact .inl mem_fpV_p
    · exact .inl (mem_fpV_r hb')
    · rcases hb b hb' with e | e
      · exact .inl (mem_fpV_c e)
      · exact .inr e
    · exact .inl (mem_fpV_t hr hb')
end
end Go.Proofs.YtflkhnmggmfhfaaGreat
