/- The document's view: Seq, Gone, Recent, Uids, top. -/
import Derived.Test.YtflkhnmggmfhfaaGreatR16a
import Derived.Deep.DeepCutAuto
namespace Go.Proofs.YtflkhnmggmfhfaaGreat
open Go.RowKit

section
variable {P : Nat} {nn : Bool} {val : Int} {rv cv : Value} {R : List RR} {C : List Int} {w : World}
def seqZ (z : Int) : Int := if z < 0 then 0 else z + 1
def seqX (z : Int) : Int := if z < 0 then 160 else 0
set_option maxHeartbeats 1000000 in
theorem rSeq_any (h : RV nn P val rv cv R C w) (u : Int) (hl : R.length ≤ 1000000) :
    Calls Tryz.prog 24 #[.pointer (some ⟨P, 0, none⟩), .int .i64 u] w fun e w' => e = .returned (.tuple #[.int .i64 (seqZ (fxI (rrU R) u)), .int .i64 (seqX (fxI (rrU R) u))]) ∧ w' = w := by
  have HF := Lib.hid (rfind_any h u hl)
  rcases fx_cases (rrU R) u with ⟨hz, _⟩ | ⟨k, hk, hz, _⟩
  · rw [hz] at HF ⊢
    clear hz h
    go_enter Tryz.func24, Tryz.ntmps24
    go_wp2_with (go_at_call 59; refine HF.out.mono ?_; rintro e w' ⟨rfl, hw⟩; subst w')
    go_ret2
    exact ⟨rfl, rfl⟩
  · rw [hz] at HF ⊢
    have hk2 : k < 1000000 := by rw [rrU_length] at hk; omega
    have hk0 : ¬ (k : Int) < 0 := by omega
    have e1 : seqZ (k : Int) = (k : Int) + 1 := by unfold seqZ; exact if_neg hk0
    have e2 : seqX (k : Int) = 0 := by unfold seqX; exact if_neg hk0
    have hkw : IntKind.i64.wrap ((k : Int) + 1) = (k : Int) + 1 := by simp only [IntKind.wrap, IntKind.signed, IntKind.bits]; simp; omega
    rw [e1, e2]
    clear hz h hk e1 e2
    go_enter Tryz.func24, Tryz.ntmps24
    go_wp2_with (go_at_call 59; refine HF.out.mono ?_; rintro e w' ⟨rfl, hw⟩; subst w')
    go_ret2
    exact ⟨rfl, rfl⟩
def goneZ (R : List RR) (z : Int) : Bool := if z < 0 then false else ((R[z.toNat]?).map RR.gone).getD false
def rctZ (R : List RR) (z : Int) : Bool := if z < 0 then false else ((R[z.toNat]?).map RR.rct).getD false
set_option maxHeartbeats 1000000 in
theorem rGone_any (h : RV nn P val rv cv R C w) (u : Int) (hl : R.length ≤ 1000000) :
    Calls Tryz.prog 27 #[.pointer (some ⟨P, 0, none⟩), .int .i64 u] w fun e w' => e = .returned (.bool (goneZ R (fxI (rrU R) u))) ∧ w' = w := by
  have HF := Lib.hid (rfind_any h u hl)
  rcases fx_cases (rrU R) u with ⟨hz, _⟩ | ⟨k, hk, hz, _⟩
  · rw [hz] at HF ⊢
    clear hz h
    go_enter Tryz.func27, Tryz.ntmps27
    go_wp2_with (go_at_call 59; refine HF.out.mono ?_; rintro e w' ⟨rfl, hw⟩; subst w')
    go_ret
    exact ⟨rfl, rfl⟩
  · rw [hz] at HF ⊢
    rw [rrU_length] at hk
    obtain ⟨x, hx⟩ : ∃ x, R[k]? = some x := ⟨R[k], List.getElem?_eq_getElem hk⟩
    obtain ⟨g, c, rfl, y1, _⟩ := h.flag hx
    obtain ⟨_, _, c2, _⟩ := h.cells
    have e1 : goneZ R (k : Int) = x.gone := by unfold goneZ; rw [if_neg (by omega), show ((k : Int)).toNat = k by omega, hx]; rfl
    have hkl : (k : Int) < (R.length : Int) := by omega
    rw [e1]
    clear hz h e1 hx
    generalize x.gone = gb at *
    go_enter Tryz.func27, Tryz.ntmps27
    go_wp2_with (go_at_call 59; refine HF.out.mono ?_; rintro e w' ⟨rfl, hw⟩; subst w')
    go_ret
    exact ⟨rfl, rfl⟩
set_option maxHeartbeats 1000000 in
theorem rRecent_any (h : RV nn P val rv cv R C w) (u : Int) (hl : R.length ≤ 1000000) :
    Calls Tryz.prog 29 #[.pointer (some ⟨P, 0, none⟩), .int .i64 u] w fun e w' => e = .returned (.bool (rctZ R (fxI (rrU R) u))) ∧ w' = w := by
  have HF := Lib.hid (rfind_any h u hl)
  rcases fx_cases (rrU R) u with ⟨hz, _⟩ | ⟨k, hk, hz, _⟩
  · rw [hz] at HF ⊢
    clear hz h
    go_enter Tryz.func29, Tryz.ntmps29
    go_wp2_with (go_at_call 59; refine HF.out.mono ?_; rintro e w' ⟨rfl, hw⟩; subst w')
    go_ret
    exact ⟨rfl, rfl⟩
  · rw [hz] at HF ⊢
    rw [rrU_length] at hk
    obtain ⟨x, hx⟩ : ∃ x, R[k]? = some x := ⟨R[k], List.getElem?_eq_getElem hk⟩
    obtain ⟨g, c, rfl, _, y1⟩ := h.flag hx
    obtain ⟨_, _, c2, _⟩ := h.cells
    have e1 : rctZ R (k : Int) = x.rct := by unfold rctZ; rw [if_neg (by omega), show ((k : Int)).toNat = k by omega, hx]; rfl
    have hkl : (k : Int) < (R.length : Int) := by omega
    rw [e1]
    clear hz h e1 hx
    generalize x.rct = gb at *
    go_enter Tryz.func29, Tryz.ntmps29
    go_wp2_with (go_at_call 59; refine HF.out.mono ?_; rintro e w' ⟨rfl, hw⟩; subst w')
    go_ret
    exact ⟨rfl, rfl⟩
set_option maxRecDepth 100000 in
set_option maxHeartbeats 1000000 in
theorem rUids_any (h : RV nn P val rv cv R C w) (hl : R.length ≤ 1000000) :
    Calls Tryz.prog 30 #[.pointer (some ⟨P, 0, none⟩)] w fun e w' => ∃ v', e = .returned v' ∧ OwnI w.heap.size v' (rrU R) w w' := by
  obtain ⟨a, c, rfl, hx⟩ := h.row
  have HX := Lib.hid hx
  have HV := Lib.hid h
  have hU := rrU_length R
  have HU := Lib.hid hU
  clear hx h hU
  go_enter Tryz.func30, Tryz.ntmps30
  go_wp2_with fail
  go_loopw [3, 4] (fun lv i wr => ∃ (k : Nat) (lv' : Value) (X : World), X = wr ∧ lv' = lv ∧ k ≤ R.length ∧ i = .int .i64 k ∧ OwnI w.heap.size lv' ((rrU R).take k) w X) (fun _ i _ => R.length - (intOf i).toNat)
  case atStart => exact ⟨0, _, _, rfl, rfl, Nat.zero_le _, rfl, OwnI.nil (Below.refl _ _) (Nat.le_refl _)⟩
  case round =>
    obtain ⟨k, lv', X, hX, hlv, hk, rfl, ho⟩ := hrel
    subst hX hlv
    obtain ⟨_, _, c2, _⟩ := (HV.out.on ho.below).cells
    by_cases hlt : k < R.length
    · have hlti : (k : Int) < (R.length : Int) := by omega
      obtain ⟨a2, c3, e2, hx2⟩ := (HV.out.on ho.below).row
      obtain ⟨rfl, rfl⟩ : a2 = a ∧ c3 = c := by injection e2 with p1 p2 p3; exact ⟨p1.symm, p3.symm⟩
      clear e2
      obtain ⟨g, rfl, hc⟩ := hx2 (by omega)
      have k1 := hc k hlt
      have HO := Lib.hid ho
      have HLl : Hid (((rrU R).take k).length + 1 ≤ 17592186044416) := Lib.hid (by have := List.length_take_le k (rrU R); omega)
      have HT : Hid ((rrU R).take (k + 1) = (rrU R).take k ++ [(rrU R).getD k 0]) := Lib.hid (take_snocI _ _ (by rw [HU.out]; exact hlt))
      clear hx2 hc ho
      generalize (rrU R).getD k 0 = x at *
      go_wp2_with (at_builtin; refine appI rfl _ _ rfl x HO.out rfl rfl HLl.out ?_; intro v7 w7 ho7; have HO7 := Lib.hid ho7; clear ho7)
      go_roundw
      case rel => exact ⟨k + 1, _, _, rfl, rfl, by omega, by go_num, by rw [HT.out]; exact HO7.out⟩
      case measure => simp [intOf]; omega
    · obtain rfl : k = R.length := by omega
      have HO : Hid (OwnI w.heap.size lv' (rrU R) w X) := Lib.hid (by rw [show (rrU R).take R.length = rrU R by rw [← HU.out, List.take_length]] at ho; exact ho)
      clear ho
      go_wp2_with fail
      go_ret
      exact ⟨_, rfl, HO.out⟩
set_option maxRecDepth 100000 in
set_option maxHeartbeats 2000000 in
theorem rtop_any (h : RV nn P val rv cv R C w) (hl : R.length + C.length ≤ 1000000) (hr : riseF 0 (rrU R ++ C)) :
    Calls Tryz.prog 65 #[.pointer (some ⟨P, 0, none⟩)] w fun e w' => e = .returned (.int .i64 (lastD (rrU R ++ C) 0)) ∧ w' = w := by
  obtain ⟨a, c, rfl, hx⟩ := h.row
  obtain ⟨ac, cc, rfl, hxc⟩ := nms_of h.com
  obtain ⟨_, _, c2, c3⟩ := h.cells
  have HX := Lib.hid hx
  have HXc := Lib.hid hxc
  have HR := Lib.hid hr
  have HUl : Hid ((rrU R).length = R.length) := Lib.hid (rrU_length R)
  have HNx : Hid (∀ k, k < R.length → lastD ((rrU R).take k) 0 < (rrU R).getD k 0 ∧ lastD ((rrU R).take (k + 1)) 0 = (rrU R).getD k 0) := Lib.hid (fun k hk => by
    have hk' : k < (rrU R).length := by rw [HUl.out]; exact hk
    have h1 := ((riseF_append _ _ _).1 hr).1
    have h2 : riseF 0 ((rrU R).take k ++ [(rrU R).getD k 0]) := by
      rw [← take_snocI _ _ hk']
      exact riseF_sub h1 (List.take_sublist _ _)
    exact ⟨((riseF_append _ _ _).1 h2).2.1, by rw [take_snocI _ _ hk', lastD_snoc]⟩)
  have HNc : Hid (∀ k, k < C.length → lastD (rrU R ++ C.take k) 0 < C.getD k 0 ∧ lastD (rrU R ++ C.take (k + 1)) 0 = C.getD k 0) := Lib.hid (fun k hk => by
    have h2 : riseF 0 ((rrU R ++ C.take k) ++ [C.getD k 0]) := by
      rw [List.append_assoc, ← take_snocI _ _ hk]
      exact riseF_sub hr (List.Sublist.append (List.Sublist.refl _) (List.take_sublist _ _))
    exact ⟨((riseF_append _ _ _).1 h2).2.1, by rw [take_snocI _ _ hk, ← List.append_assoc, lastD_snoc]⟩)
  clear hx hxc h hr
  go_enter Tryz.func65, Tryz.ntmps65
  go_wp2_with fail
  go_loopw [3, 4] (fun n i wr => ∃ k : Nat, k ≤ R.length ∧ i = .int .i64 k ∧ n = .int .i64 (lastD ((rrU R).take k) 0) ∧ wr = w) (fun _ i _ => R.length - (intOf i).toNat)
  case atStart => exact ⟨0, Nat.zero_le _, rfl, rfl, rfl⟩
  case round =>
    obtain ⟨k, hk, rfl, rfl, rfl⟩ := hrel
    by_cases hlt : k < R.length
    · have hlti : (k : Int) < (R.length : Int) := by omega
      obtain ⟨g, rfl, hc⟩ := HX.out (by omega)
      have k1 := hc k hlt
      obtain ⟨hnx, hnn⟩ := HNx.out k hlt
      have HNn := Lib.hid hnn
      have HMx := Lib.hid hnx
      clear hc hnn
      generalize (rrU R).getD k 0 = x at *
      generalize lastD ((rrU R).take k) 0 = n at *
      have hn1 : ¬ x ≤ n := by omega
      have hn2 : ¬ x < n := by omega
      have hn3 : n ≤ x := by omega
      go_wp2_with fail
      go_roundw
      case rel => exact ⟨k + 1, by omega, by go_num, by rw [HNn.out, Int.max_eq_right (Int.le_of_lt HMx.out)], (by first | rfl | trivial)⟩
      case measure => simp [intOf]; omega
    · obtain rfl : k = R.length := by omega
      have hU0 : lastD ((rrU R).take R.length) 0 = lastD (rrU R ++ C.take 0) 0 := by rw [← HUl.out, List.take_length, List.take_zero, List.append_nil]
      rw [hU0]
      have HU0 := Lib.hid hU0
      clear hU0
      go_upto_region 7 with fail
      go_loopw [3, 5] (fun n i wr2 => ∃ k : Nat, k ≤ C.length ∧ i = .int .i64 k ∧ n = .int .i64 (lastD (rrU R ++ C.take k) 0) ∧ wr2 = wr) (fun _ i _ => C.length - (intOf i).toNat)
      case atStart => exact ⟨0, Nat.zero_le _, rfl, rfl, rfl⟩
      case round =>
        obtain ⟨k, hk2, rfl, rfl, rfl⟩ := hrel
        by_cases hlt2 : k < C.length
        · have hlti2 : (k : Int) < (C.length : Int) := by omega
          obtain ⟨g2, o2, rfl, _, hc2⟩ := HXc.out (by omega)
          have k2 := hc2 k hlt2
          obtain ⟨hnx, hnn⟩ := HNc.out k hlt2
          have HNn := Lib.hid hnn
          have HMx := Lib.hid hnx
          clear hc2 hnn
          generalize C.getD k 0 = x at *
          generalize lastD (rrU R ++ C.take k) 0 = n at *
          have hn1 : ¬ x ≤ n := by omega
          have hn2 : ¬ x < n := by omega
          have hn3 : n ≤ x := by omega
          go_wp2_with fail
          go_roundw
          case rel => exact ⟨k + 1, by omega, by go_num, by rw [HNn.out, Int.max_eq_right (Int.le_of_lt HMx.out)], (by first | rfl | trivial)⟩
          case measure => simp [intOf]; omega
        · obtain rfl : k = C.length := by omega
          go_wp2_with fail
          go_ret
          exact ⟨by rw [List.take_length]; rfl, rfl⟩
end
end Go.Proofs.YtflkhnmggmfhfaaGreat

/- The document's view: its blocks; what is coming grows. -/
namespace Go.Proofs.YtflkhnmggmfhfaaGreat
open Go.RowKit

def RR.blks (r : RR) : List Nat := if r.waits = true then r.fv.ownBlock.toList else []
def fpR (P : Nat) (rv cv : Value) (R : List RR) : List Nat := P :: (rv.ownBlock.toList ++ (cv.ownBlock.toList ++ R.flatMap RR.blks))
theorem mem_fpR {P b : Nat} {rv cv : Value} {R : List RR} : b ∈ fpR P rv cv R ↔ b = P ∨ rv.ownBlock = some b ∨ cv.ownBlock = some b ∨ ∃ r ∈ R, b ∈ r.blks := by
  simp only [fpR, List.mem_cons, List.mem_append, List.mem_flatMap, Option.mem_toList]
theorem blks_yes {r : RR} (h : r.waits = true) {b : Nat} : b ∈ r.blks ↔ r.fv.ownBlock = some b := by simp [RR.blks, h]
theorem blks_waits {r : RR} {b : Nat} (h : b ∈ r.blks) : r.waits = true ∧ r.fv.ownBlock = some b := by
  by_cases hw : r.waits = true
  · exact ⟨hw, (blks_yes hw).1 h⟩
  · simp [RR.blks, hw] at h
section
variable {P : Nat} {nn : Bool} {val : Int} {rv cv : Value} {R : List RR} {C : List Int} {w w' : World}
theorem RV.hold (h : RV nn P val rv cv R C w) (hs : ∀ b, b ∈ fpR P rv cv R → w'.heap[b]? = w.heap[b]?) : RV nn P val rv cv R C w' :=
  ⟨by rw [hs P (mem_fpR.2 (.inl rfl))]; exact h.self, ownsRow_same h.rows (fun b e => hs b (mem_fpR.2 (.inr (.inl e)))), ownsRow_same h.com (fun b e => hs b (mem_fpR.2 (.inr (.inr (.inl e))))), fun r hr hw => ownsRow_same (h.fls r hr hw) (fun b e => hs b (mem_fpR.2 (.inr (.inr (.inr ⟨r, hr, (blks_yes hw).2 e⟩)))))⟩
theorem RV.lt (h : RV nn P val rv cv R C w) {b : Nat} (hb : b ∈ fpR P rv cv R) : b < w.heap.size := by
  rcases mem_fpR.1 hb with rfl | hb | hb | ⟨r, hr, hb⟩
  · exact lt_of_heap h.self
  · exact (h.rows.lt b hb).2
  · exact (h.com.lt b hb).2
  · obtain ⟨hw, e⟩ := blks_waits hb
    exact ((h.fls r hr hw).lt b e).2
theorem RV.pr (h : RV nn P val rv cv R C w) : rv.ownBlock ≠ some P := fun e => by
  obtain ⟨cs, hc⟩ := row_kind h.rows e
  exact kind_ne hc h.self (by decide) rfl
theorem RV.pc (h : RV nn P val rv cv R C w) : cv.ownBlock ≠ some P := fun e => by
  obtain ⟨cs, hc⟩ := row_kind h.com e
  exact kind_ne hc h.self (by decide) rfl
theorem RV.rc (h : RV nn P val rv cv R C w) {b : Nat} (e : rv.ownBlock = some b) : cv.ownBlock ≠ some b := fun e2 => by
  obtain ⟨cs, hc⟩ := row_kind h.rows e
  obtain ⟨cs2, hc2⟩ := row_kind h.com e2
  exact kind_ne hc hc2 (by decide) rfl
theorem RV.tt (h : RV nn P val rv cv R C w) {r : RR} (hr : r ∈ R) (hw : r.waits = true) {b : Nat} (hb : r.fv.ownBlock = some b) : b ≠ P ∧ rv.ownBlock ≠ some b ∧ cv.ownBlock ≠ some b := by
  obtain ⟨cs, hc⟩ := row_kind (h.fls r hr hw) hb
  refine ⟨kind_ne hc h.self (by decide), fun e => ?_, fun e => ?_⟩
  · obtain ⟨cs2, hc2⟩ := row_kind h.rows e
    exact kind_ne hc hc2 (by decide) rfl
  · obtain ⟨cs2, hc2⟩ := row_kind h.com e
    exact kind_ne hc hc2 (by decide) rfl
theorem RV.frozen (h : RV nn P val rv cv R C w) : w.frozen? ⟨P, 2, none⟩ = false ∧ w.frozen? ⟨P, 3, none⟩ = false := ⟨frozen_of h.self 2, frozen_of h.self 3⟩
/-- v.Coming = append(v.Coming, u). -/
theorem RV.addC (h : RV nn P val rv cv R C w) (u : Int) (hl : C.length + 1 ≤ 4294967296) :
    ∃ a c W1, (Builtin.append_ #[26, 26] 26 #[cv, .slice (some ⟨w.heap.size, 0, none⟩) 1 1]).run Tryz.prog (w.alloc (.cells #[.int .i64 u] 3)) = .ok (.slice a (C.length + 1) c) W1 ∧ W1.heap[P]? = some (.cells #[.bool nn, .int .i64 val, rv, cv] 39 (0, 0)) ∧
      RV nn P val rv (.slice a (C.length + 1) c) R (C ++ [u]) (W1.setCell ⟨P, 3, none⟩ (.slice a (C.length + 1) c)) ∧ FO (fpR P rv cv R) (fpR P rv (.slice a (C.length + 1) c) R) w (W1.setCell ⟨P, 3, none⟩ (.slice a (C.length + 1) c)) := by
  obtain ⟨a, c, W1, hrun, hrow, hg, hown⟩ := row_app (P := Tryz.prog) 26 3 (.int .i64 0) 1 8 Tryz.underlying26 Tryz.infoInt rfl (by decide) h.com #[.int .i64 u] rfl (by intro x hx; simp at hx; subst hx; rfl) hl (by omega)
  have hbl := lt_of_heap h.self
  have hs1 : W1.heap[P]? = some (.cells #[.bool nn, .int .i64 val, rv, cv] 39 (0, 0)) := by rw [hg.block P hbl (fun e => h.pc e.symm)]; exact h.self
  have hset : ∀ b, b ≠ P → (W1.setCell ⟨P, 3, none⟩ (.slice a (C.length + 1) c)).heap[b]? = W1.heap[b]? := fun b hb => Below.heap_setCell _ _ _ _ hb
  have keep : ∀ b, b < w.heap.size → b ≠ P → cv.ownBlock ≠ some b → (W1.setCell ⟨P, 3, none⟩ (.slice a (C.length + 1) c)).heap[b]? = w.heap[b]? := fun b hb hp hc => by
    rw [hset b hp, hg.block b hb (fun e => hc e.symm)]
  refine ⟨a, c, W1, hrun, hs1, ⟨?_, ?_, ?_, ?_⟩, ?_, ?_⟩
  · rw [heap_setCell_at _ hs1]
    rfl
  · exact ownsRow_same h.rows (fun b e => keep b (h.rows.lt b e).2 (fun e' => h.pr (e' ▸ e)) (h.rc e))
  · have := ownsRow_same hrow (w' := W1.setCell ⟨P, 3, none⟩ (.slice a (C.length + 1) c)) (fun b e => hset b (fun e' => by
      subst e'
      rcases hown _ e with e2 | e2
      · exact h.pc e2
      · omega))
    rw [List.length_append, ic_append]
    exact this
  · intro r hr hw
    refine ownsRow_same (h.fls r hr hw) (fun b hb => ?_)
    have q := h.tt hr hw hb
    exact keep b ((h.fls r hr hw).lt b hb).2 q.1 q.2.2
  · exact Stays.setCell (p := ⟨P, 3, none⟩) (Stays.ofGrown hg (fun b e => mem_fpR.2 (.inr (.inr (.inl e))))) (.inl (mem_fpR.2 (.inl rfl))) _
  · intro b hb
    rcases mem_fpR.1 hb with rfl | hb | hb | ⟨r, hr, hb⟩
    · exact .inl (mem_fpR.2 (.inl rfl))
    · exact .inl (mem_fpR.2 (.inr (.inl hb)))
    · rcases hown b hb with e | e
      · exact .inl (mem_fpR.2 (.inr (.inr (.inl e))))
      · exact .inr e
    · exact .inl (mem_fpR.2 (.inr (.inr (.inr ⟨r, hr, hb⟩))))
end
end Go.Proofs.YtflkhnmggmfhfaaGreat

/- The document's view: comes. -/
namespace Go.Proofs.YtflkhnmggmfhfaaGreat
open Go.RowKit

theorem fol_atR : ∀ (n : Nat) (f : Int) (i : Nat), (i < (fol f n).length ↔ i < n ∧ f + i < 4294967295) ∧ (i < (fol f n).length → (fol f n).getD i 0 = f + i)
  | 0, f, i => by simp [fol]
  | n + 1, f, i => by
    unfold fol
    split
    · rename_i hf
      cases i with
      | zero => simp; omega
      | succ i =>
        obtain ⟨q1, q2⟩ := fol_atR n (f + 1) i
        refine ⟨?_, fun h => ?_⟩
        · rw [List.length_cons, Nat.add_lt_add_iff_right, q1]
          push_cast
          constructor <;> rintro ⟨a, b⟩ <;> constructor <;> omega
        · rw [List.getD_cons_succ, q2 (by simpa using h)]
          push_cast
          omega
    · rename_i hf
      simp
      intro hi
      omega
theorem lastD_posR {U : List Int} (h : riseF 0 U) : 0 ≤ lastD U 0 := by
  by_cases hU : U = []
  · rw [hU]; exact Int.le_refl _
  · obtain ⟨a, x, rfl⟩ : ∃ a x, U = a ++ [x] := ⟨U.dropLast, U.getLast hU, (List.dropLast_concat_getLast hU).symm⟩
    rw [lastD_snoc]
    have := riseF_gt h (x := x) (by simp)
    omega
/-- What a step leaves of the document's view. -/
def RO (nn : Bool) (P : Nat) (val : Int) (R' : List RR) (C' : List Int) (fp : List Nat) (w w' : World) : Prop := ∃ rv' cv', RV nn P val rv' cv' R' C' w' ∧ FO fp (fpR P rv' cv' R') w w'
theorem come1_rise {U C : List Int} (h : riseF 0 (U ++ C)) (u : Int) : riseF 0 (U ++ come1 U C u) := by
  unfold come1
  split
  · rename_i hu
    rw [← List.append_assoc, riseF_append]
    refine ⟨h, ?_, trivial⟩
    rw [lastD_append]
    exact hu.1
  · exact h
theorem comesC_rise {U : List Int} : ∀ (us : List Int) {C : List Int}, riseF 0 (U ++ C) → riseF 0 (U ++ comesC U C us)
  | [], _, h => h
  | u :: us, _, h => comesC_rise us (come1_rise h u)
section
variable {P : Nat} {nn : Bool} {val : Int} {rv cv : Value} {R : List RR} {C : List Int} {w : World}
theorem RO.refl (h : RV nn P val rv cv R C w) : RO nn P val R C (fpR P rv cv R) w w := ⟨rv, cv, h, FO.refl _ _⟩
set_option maxRecDepth 100000 in
set_option maxHeartbeats 2000000 in
theorem rcomes_any (h : RV nn P val rv cv R C w) (first : Int) (n : Nat) (hl : R.length + C.length + n ≤ 1000000) (hr : riseF 0 (rrU R ++ C)) (lo : -9223372036854775808 ≤ first) (hi : first ≤ 9223372036854775807) :
    Calls Tryz.prog 41 #[.pointer (some ⟨P, 0, none⟩), .int .i64 first, .int .i64 (n : Int)] w fun e w' => e = .returned (.tuple #[]) ∧ RO nn P val R (comesC (rrU R) C (fol first n)) (fpR P rv cv R) w w' := by
  obtain ⟨F, hF⟩ : ∃ F, fol first n = F := ⟨_, rfl⟩
  have hFl : F.length ≤ n := by rw [← hF]; exact fol_length n first
  have HF : Hid (∀ i : Nat, (i < F.length ↔ i < n ∧ first + i < 4294967295) ∧ (i < F.length → F.getD i 0 = first + i)) := Lib.hid (fun i => by rw [← hF]; exact fol_atR n first i)
  have H0 := Lib.hid (RO.refl h)
  have HR := Lib.hid hr
  rw [hF]
  clear h hF hr
  go_enter Tryz.func41, Tryz.ntmps41
  go_wp2
  go_loopw [1, 6] (fun f i wr => ∃ k : Nat, k ≤ F.length ∧ i = .int .i64 k ∧ f = .int .i64 (first + (k : Int)) ∧ RO nn P val R (comesC (rrU R) C (F.take k)) (fpR P rv cv R) w wr) (fun _ i _ => F.length - (intOf i).toNat)
  case atStart => exact ⟨0, Nat.zero_le _, rfl, by simp, H0.out⟩
  case round =>
    obtain ⟨k, hk, rfl, rfl, hO⟩ := hrel
    obtain ⟨u, hu⟩ : ∃ u : Int, first + (k : Int) = u := ⟨_, rfl⟩
    rw [hu]
    by_cases hlt : k < F.length
    · obtain ⟨q1, q2⟩ := (HF.out k).1.1 hlt
      have hFu : F.getD k 0 = u := by rw [(HF.out k).2 hlt]; exact hu
      rw [hu] at q2
      have hki : (k : Int) < (n : Int) := by omega
      obtain ⟨rv1, cv1, h1, f1⟩ := hO
      have hst : F.take (k + 1) = F.take k ++ [u] := by rw [take_snocI F k hlt, hFu]
      have hcl := comesC_len (rrU R) (F.take k) C
      rw [List.length_take] at hcl
      have hcl2 : R.length + (comesC (rrU R) C (F.take k)).length ≤ 1000000 := by omega
      have HG := Lib.hid (rtop_any h1 hcl2 (comesC_rise (F.take k) HR.out))
      rw [lastD_append] at HG
      have HS : Hid (comesC (rrU R) C (F.take (k + 1)) = come1 (rrU R) (comesC (rrU R) C (F.take k)) u) := Lib.hid (by rw [hst, comesC_snoc])
      have HE : Hid (come1 (rrU R) (comesC (rrU R) C (F.take k)) u = if topC (rrU R) (comesC (rrU R) C (F.take k)) < u ∧ u < 4294967295 then comesC (rrU R) C (F.take k) ++ [u] else comesC (rrU R) C (F.take k)) := Lib.hid rfl
      have HTp : Hid (0 ≤ lastD (comesC (rrU R) C (F.take k)) (lastD (rrU R) 0)) := Lib.hid (by
        have := lastD_posR (comesC_rise (F.take k) HR.out)
        rw [lastD_append] at this
        exact this)
      obtain ⟨a4, k4, W4, r4, s4, h4, f4⟩ := h1.addC u (by omega)
      obtain ⟨_, _, _, c3⟩ := h1.cells
      have d3 := cell_of s4 3
      have g3 := frozen_of s4 3
      have HO1 : Hid (RO nn P val R (comesC (rrU R) C (F.take k)) (fpR P rv cv R) w wr) := Lib.hid ⟨rv1, cv1, h1, f1⟩
      have HO4 : Hid (RO nn P val R (comesC (rrU R) C (F.take k) ++ [u]) (fpR P rv cv R) w (W4.setCell ⟨P, 3, none⟩ (.slice a4 ((comesC (rrU R) C (F.take k)).length + 1) k4))) := Lib.hid ⟨_, _, h4, f1.trans f4⟩
      have R4 := Lib.hid r4
      have huw : IntKind.i64.wrap (u + 1) = u + 1 := by simp only [IntKind.wrap, IntKind.signed, IntKind.bits]; simp; omega
      have HUu : Hid (u + 1 = first + ((k + 1 : Nat) : Int)) := Lib.hid (by rw [← hu]; push_cast; omega)
      have HKl := Lib.hid hlt
      clear hst hcl h1 f1 r4 s4 h4 f4 hFu
      change Hid (_ = if lastD (comesC (rrU R) C (F.take k)) (lastD (rrU R) 0) < u ∧ u < 4294967295 then _ else _) at HE
      generalize comesC (rrU R) C (F.take k) = D at *
      generalize lastD D (lastD (rrU R) 0) = tp at *
      generalize come1 (rrU R) D u = D2 at *
      generalize D.length = nD at *
      by_cases h1u : 1 ≤ u
      · by_cases h5 : tp < u
        · have HFd : Hid (D2 = D ++ [u]) := Lib.hid (by rw [HE.out, if_pos ⟨h5, q2⟩])
          go_wp2_with (first | (go_at_call 65; refine HG.out.mono ?_; rintro e w' ⟨rfl, hw⟩; subst w') | (at_builtin; refine append_by_run (u := cv1) (v := .slice (some ⟨wr.heap.size, 0, none⟩) 1 1) rfl _ _ _ rfl 26 rfl rfl rfl _ _ R4.out ?_))
          go_roundw
          case rel => exact ⟨k + 1, by have := HKl.out; omega, by go_num, by rw [HUu.out], by rw [HS.out, HFd.out]; exact HO4.out⟩
          case measure => (have := HKl.out; simp [intOf]; omega)
        · have HFd : Hid (D2 = D) := Lib.hid (by rw [HE.out, if_neg (fun h => h5 h.1)])
          go_wp2_with (go_at_call 65; refine HG.out.mono ?_; rintro e w' ⟨rfl, hw⟩; subst w')
          go_roundw
          case rel => exact ⟨k + 1, by have := HKl.out; omega, by go_num, by rw [HUu.out], by rw [HS.out, HFd.out]; exact HO1.out⟩
          case measure => (have := HKl.out; simp [intOf]; omega)
      · have HFd : Hid (D2 = D) := Lib.hid (by rw [HE.out, if_neg (fun h => by have := HTp.out; omega)])
        go_wp2_with fail
        go_roundw
        case rel => exact ⟨k + 1, by have := HKl.out; omega, by go_num, by rw [HUu.out], by rw [HS.out, HFd.out]; exact HO1.out⟩
        case measure => (have := HKl.out; simp [intOf]; omega)
    · obtain rfl : k = F.length := by omega
      rw [List.take_of_length_le (Nat.le_refl _)] at hO
      have HO := Lib.hid hO
      clear hO
      by_cases hkn : F.length < n
      · have hki : (F.length : Int) < (n : Int) := by omega
        have hum : ¬ u < 4294967295 := fun q => by
          have := (HF.out F.length).1.2 ⟨hkn, by rw [hu]; exact q⟩
          omega
        go_wp2
        first | refine bodyPost_end (results_none rfl _ _ _) rfl ?_ | refine bodyPost_ret (results_none rfl _ _ _) rfl ?_
        exact ⟨rfl, HO.out⟩
      · have hki : ¬ (F.length : Int) < (n : Int) := by omega
        go_wp2
        first | refine bodyPost_end (results_none rfl _ _ _) rfl ?_ | refine bodyPost_ret (results_none rfl _ _ _) rfl ?_
        exact ⟨rfl, HO.out⟩
end
end Go.Proofs.YtflkhnmggmfhfaaGreat

/- The document's view: its rows written over; its lists taken anew. -/
namespace Go.Proofs.YtflkhnmggmfhfaaGreat
open Go.RowKit

/-- Every row's flags are a list. -/
def ShR (R : List RR) : Prop := ∀ r ∈ R, ∃ a n c, r.fv = .slice a n c
theorem ShR.map {R : List RR} {f : RR → RR} (hf : ∀ r ∈ R, ∃ a n c, (f r).fv = .slice a n c) : ShR (R.map f) := fun r hr => by
  obtain ⟨x, hx, rfl⟩ := List.mem_map.1 hr
  exact hf x hx
theorem ShR.set {R : List RR} {k : Nat} {x : RR} (h : ShR R) (hx : ∃ a n c, x.fv = .slice a n c) : ShR (R.set k x) := fun r hr => by
  rcases List.mem_or_eq_of_mem_set hr with hr | rfl
  · exact h r hr
  · exact hx
def RR0 : RR := ⟨0, 0, false, false, false, .slice none 0 0, []⟩
def rgoE (r : RR) : RR := ⟨r.uid, 0, true, r.rct, false, .slice none 0 0, []⟩
def rturnE (n : Int) (fv : Value) (fl : List ByteArray) (r : RR) : RR := ⟨r.uid, n, r.gone, r.rct, true, fv, fl⟩
def rcalmE (r : RR) : RR := ⟨r.uid, 0, r.gone, r.rct, false, .slice none 0 0, []⟩
def atUR (u : Int) (f : RR → RR) (r : RR) : RR := if r.uid = u then f r else r
theorem atUR_uid {u : Int} {f : RR → RR} (hf : ∀ r, (f r).uid = r.uid) (r : RR) : (atUR u f r).uid = r.uid := by unfold atUR; split <;> simp [hf]
theorem rrU_map {f : RR → RR} (hf : ∀ r, (f r).uid = r.uid) (R : List RR) : rrU (R.map f) = rrU R := by
  unfold rrU; rw [List.map_map]; exact List.map_congr_left fun r _ => hf r
theorem rmap_no {u : Int} {f : RR → RR} : ∀ {R : List RR}, u ∉ rrU R → R.map (atUR u f) = R
  | [], _ => rfl
  | r :: R, h => by
    have h1 : r.uid ≠ u := fun e => h (by simp [rrU, e])
    rw [List.map_cons, rmap_no (fun x => h (by simp only [rrU, List.map_cons, List.mem_cons]; exact .inr x))]
    unfold atUR
    rw [if_neg h1]
theorem rmap_hit {u : Int} {f : RR → RR} : ∀ {R : List RR} {m : Int} {k : Nat} {x : RR}, riseF m (rrU R) → R[k]? = some x → x.uid = u → R.set k (f x) = R.map (atUR u f)
  | [], _, _, _, _, h, _ => by simp at h
  | r :: R, m, 0, x, ⟨_, b⟩, h, e => by
    simp at h
    subst h
    show f r :: R = atUR u f r :: R.map (atUR u f)
    rw [rmap_no (fun hx => by have := riseF_gt b hx; omega)]
    unfold atUR
    rw [if_pos e]
  | r :: R, m, k + 1, x, ⟨_, b⟩, h, e => by
    have hx : R[k]? = some x := by simpa using h
    show r :: R.set k (f x) = atUR u f r :: R.map (atUR u f)
    rw [rmap_hit b hx e]
    have : r.uid ≠ u := fun q => by
      have h1 : x.uid ∈ rrU R := List.mem_map_of_mem (List.mem_of_getElem? hx)
      have := riseF_gt b h1
      omega
    unfold atUR
    rw [if_neg this]
theorem rrC_put : ∀ (R : List RR) (k i : Nat) (x x' : RR) (u : Value), R[k]? = some x → i < 6 → x.enc.set i u = x'.enc → (rrC R).set (k * 6 + i) u = rrC (R.set k x')
  | [], k, i, x, x', u, h, _, _ => by simp at h
  | t :: R, 0, i, x, x', u, h, hi, he => by
    simp at h
    subst h
    show (t.enc ++ rrC R).set (0 * 6 + i) u = x'.enc ++ rrC R
    rw [Nat.zero_mul, Nat.zero_add, List.set_append_left _ _ (by simp [RR.enc]; omega), he]
  | t :: R, k + 1, i, x, x', u, h, hi, he => by
    show (t.enc ++ rrC R).set ((k + 1) * 6 + i) u = t.enc ++ rrC (R.set k x')
    rw [List.set_append_right _ _ (by simp [RR.enc]; omega), show (k + 1) * 6 + i - t.enc.length = k * 6 + i by simp [RR.enc]; omega, rrC_put R k i x x' u (by simpa using h) hi he]
theorem rrC_append (a b : List RR) : rrC (a ++ b) = rrC a ++ rrC b := by simp [rrC]
theorem mem_setR {R : List RR} {i : Nat} {r x : RR} (h : x ∈ R.set i r) : x ∈ R ∨ x = r := by
  rcases List.mem_or_eq_of_mem_set h with h | h
  · exact .inl h
  · exact .inr h
theorem rrU_at {R : List RR} {k : Nat} {x : RR} (h : R[k]? = some x) : (rrU R).getD k 0 = x.uid := by
  unfold rrU
  rw [List.getD_eq_getElem?_getD, List.getElem?_map, h]
  rfl
theorem rget {R : List RR} {k : Nat} (h : k < R.length) : ∃ x, R[k]? = some x := ⟨R[k], List.getElem?_eq_getElem h⟩
theorem ownI_outR {B : Nat} {v : Value} {l : List Int} {W w : World} (h : OwnI B v l W w) : ∀ b, v.ownBlock = some b → B ≤ b ∧ b < w.heap.size := by
  intro b e
  rcases h.row.2 with ⟨e3, _⟩ | ⟨g, cap, cur, e3, hB, hg, _⟩
  · rw [e3] at e
    cases e
  · rw [e3] at e
    simp [Value.ownBlock] at e
    have := lt_of_heap hg
    omega
theorem ownI_rowR {B : Nat} {v : Value} {l : List Int} {W w : World} (h : OwnI B v l W w) : w.ownsRow 0 3 1 v l.length (ic l) := ownsRow_base h.row (Nat.zero_le _)
section
variable {P : Nat} {nn : Bool} {val : Int} {cv : Value} {R : List RR} {C : List Int} {w : World} {g cap : Nat}
structure RRAt (w : World) (g k : Nat) (x : RR) : Prop where
  c0 : w.cell? ⟨g, k * 6, none⟩ = some (.int .i64 x.uid)
  c1 : w.cell? ⟨g, k * 6 + 1, none⟩ = some (.int .i64 x.mod)
  c2 : w.cell? ⟨g, k * 6 + 2, none⟩ = some (.bool x.gone)
  c3 : w.cell? ⟨g, k * 6 + 3, none⟩ = some (.bool x.rct)
  c4 : w.cell? ⟨g, k * 6 + 4, none⟩ = some (.bool x.waits)
  c5 : w.cell? ⟨g, k * 6 + 5, none⟩ = some x.fv
  fz : ∀ j, w.frozen? ⟨g, j, none⟩ = false
theorem rowsAt {rv : Value} {B : Nat} (hr : w.ownsRow B 102 6 rv R.length (rrC R)) {k : Nat} {x : RR} (hx : R[k]? = some x) : ∃ g cap, rv = .slice (some ⟨g, 0, none⟩) R.length cap ∧ g < w.heap.size ∧ RRAt w g k x := by
  have hk : k < R.length := (List.getElem?_eq_some_iff.1 hx).1
  rcases hr.2 with ⟨e, h0⟩ | ⟨g, cap, cur, e, hB, hg, rest⟩
  · omega
  · subst e
    have hh : ∀ i, i < 6 → w.cell? ⟨g, k * 6 + i, none⟩ = x.enc[i]? := fun i hi => by rw [hr.cellAt (k * 6 + i) (by omega), rrC_at R k i x hx hi]
    exact ⟨g, cap, rfl, lt_of_heap hg, hh 0 (by omega), hh 1 (by omega), hh 2 (by omega), hh 3 (by omega), hh 4 (by omega), hh 5 (by omega), fun j => hr.frozenAt j⟩
theorem RV.row_at {rv : Value} (h : RV nn P val rv cv R C w) {k : Nat} {x : RR} (hx : R[k]? = some x) : ∃ g cap, rv = .slice (some ⟨g, 0, none⟩) R.length cap ∧ g < w.heap.size ∧ RRAt w g k x := rowsAt h.rows hx
/-- A row is written over. -/
theorem RV.upd {w1 w2 : World} {k : Nat} {x' : RR} (h : RV nn P val (.slice (some ⟨g, 0, none⟩) R.length cap) cv R C w) (hb1 : Below w.heap.size w w1) (hs : w2.ownsRow 0 102 6 (.slice (some ⟨g, 0, none⟩) R.length cap) R.length (rrC (R.set k x'))) (hst : Stays [g] w1 w2)
    (hfl : x'.waits = true → w2.ownsRow 0 9 1 x'.fv x'.fl.length (tcs x'.fl) ∧ ∀ b, x'.fv.ownBlock = some b → w.heap.size ≤ b) :
    RV nn P val (.slice (some ⟨g, 0, none⟩) R.length cap) cv (R.set k x') C w2 ∧ FO (fpR P (.slice (some ⟨g, 0, none⟩) R.length cap) cv R) (fpR P (.slice (some ⟨g, 0, none⟩) R.length cap) cv (R.set k x')) w w2 := by
  have h1 := h.on hb1
  have hgo : (Value.slice (some ⟨g, 0, none⟩) R.length cap).ownBlock = some g := rfl
  have hgl : g < w.heap.size := (h.rows.lt g hgo).2
  have keep : ∀ b, b < w1.heap.size → b ≠ g → w2.heap[b]? = w1.heap[b]? := fun b hb hn => hst.block b hb (by simpa using hn)
  refine ⟨⟨?_, ?_, ?_, ?_⟩, ?_, ?_⟩
  · rw [keep P (lt_of_heap h1.self) (fun e => h1.pr (e ▸ hgo))]; exact h1.self
  · rw [List.length_set]; exact hs
  · exact ownsRow_same h1.com (fun b e => keep b (h1.com.lt b e).2 (fun e' => h1.rc hgo (by rw [e, e'])))
  · intro r hr hw
    rcases mem_setR hr with hr | rfl
    · exact ownsRow_same (h1.fls r hr hw) (fun b e => keep b ((h1.fls r hr hw).lt b e).2 (fun e' => (h1.tt hr hw e).2.1 (by rw [hgo, e'])))
    · exact (hfl hw).1
  · exact (Stays.ofBelow hb1).trans hst (fun b hb => by
      simp at hb
      subst hb
      exact .inl (mem_fpR.2 (.inr (.inl hgo))))
  · intro b hb
    rcases mem_fpR.1 hb with rfl | hb | hb | ⟨r, hr, hb⟩
    · exact .inl (mem_fpR.2 (.inl rfl))
    · exact .inl (mem_fpR.2 (.inr (.inl hb)))
    · exact .inl (mem_fpR.2 (.inr (.inr (.inl hb))))
    · rcases mem_setR hr with hr | e1
      · exact .inl (mem_fpR.2 (.inr (.inr (.inr ⟨r, hr, hb⟩))))
      · subst r
        obtain ⟨hw, e⟩ := blks_waits hb
        exact .inr ((hfl hw).2 b e)
/-- Coming is another list. -/
theorem RV.newC {rv cv' : Value} {C' : List Int} {w1 : World} (h : RV nn P val rv cv R C w) (ho : OwnI w.heap.size cv' C' w w1) :
    RV nn P val rv cv' R C' (w1.setCell ⟨P, 3, none⟩ cv') ∧ FO (fpR P rv cv R) (fpR P rv cv' R) w (w1.setCell ⟨P, 3, none⟩ cv') := by
  have h1 := h.on ho.below
  have hset : ∀ b, b ≠ P → (w1.setCell ⟨P, 3, none⟩ cv').heap[b]? = w1.heap[b]? := fun b hb => Below.heap_setCell _ _ _ _ hb
  have hown := ownI_outR ho
  refine ⟨⟨?_, ?_, ?_, ?_⟩, ?_, ?_⟩
  · rw [heap_setCell_at _ h1.self]
    rfl
  · exact ownsRow_same h1.rows (fun b e => hset b (fun e' => h1.pr (e' ▸ e)))
  · exact ownsRow_same (ownI_rowR ho) (fun b e => hset b (fun e' => by
      subst e'
      have := (hown _ e).1
      have := lt_of_heap h.self
      omega))
  · intro r hr hw
    exact ownsRow_same (h1.fls r hr hw) (fun b e => hset b (h1.tt hr hw e).1)
  · exact Stays.setCell (p := ⟨P, 3, none⟩) (Stays.ofBelow ho.below) (.inl (mem_fpR.2 (.inl rfl))) _
  · intro b hb
    rcases mem_fpR.1 hb with rfl | hb | hb | ⟨r, hr, hb⟩
    · exact .inl (mem_fpR.2 (.inl rfl))
    · exact .inl (mem_fpR.2 (.inr (.inl hb)))
    · exact .inr (hown b hb).1
    · exact .inl (mem_fpR.2 (.inr (.inr (.inr ⟨r, hr, hb⟩))))
end
end Go.Proofs.YtflkhnmggmfhfaaGreat
