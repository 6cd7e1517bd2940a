/- view: where a row stands; its rows as lists. -/
import Derived.Test.YtflkhnmggmfhfaaGreatQ16b
import Derived.Lib.Walk
import Derived.Deep.LoopGhost
namespace Go.Proofs.YtflkhnmggmfhfaaGreat
open Go.RowKit

def ixP : List Int → Int → Nat
  | [], _ => 0
  | x :: r, u => if x < u then ixP r u + 1 else 0
theorem ixP_le : ∀ (l : List Int) (u : Int), ixP l u ≤ l.length
  | [], _ => Nat.le_refl _
  | x :: r, u => by
    unfold ixP
    have := ixP_le r u
    split <;> simp <;> omega
theorem ixP_eq : ∀ (l : List Int) (u : Int) (i : Nat), i ≤ l.length → (∀ t, t < i → l.getD t 0 < u) → (∀ t, i ≤ t → t < l.length → u ≤ l.getD t 0) → ixP l u = i
  | [], u, i, h, _, _ => by simp at h; subst h; rfl
  | x :: r, u, 0, _, _, h2 => by
    have := h2 0 (Nat.le_refl _) (by simp)
    simp only [List.getD_cons_zero] at this
    unfold ixP
    rw [if_neg (by omega)]
  | x :: r, u, i + 1, h, h1, h2 => by
    have h0 := h1 0 (by omega)
    simp only [List.getD_cons_zero] at h0
    unfold ixP
    rw [if_pos h0, ixP_eq r u i (by simpa using h) (fun t ht => by have := h1 (t + 1) (by omega); simpa only [List.getD_cons_succ] using this) (fun t ht htl => by have := h2 (t + 1) (by omega) (by simp; omega); simpa only [List.getD_cons_succ] using this)]
def hitP (l : List Int) (u : Int) : Bool := decide (ixP l u < l.length ∧ l.getD (ixP l u) 0 = u)
theorem hitP_mem {l : List Int} {u : Int} (h : hitP l u = true) : u ∈ l := by
  unfold hitP at h
  rw [decide_eq_true_iff] at h
  rw [← h.2, List.getD_eq_getElem?_getD, List.getElem?_eq_getElem h.1]
  exact List.getElem_mem h.1
theorem ixP_mem : ∀ {l : List Int} {m u : Int}, riseF m l → u ∈ l → ixP l u < l.length ∧ l.getD (ixP l u) 0 = u
  | x :: r, m, u, ⟨a, b⟩, h => by
    rcases List.mem_cons.1 h with rfl | h
    · unfold ixP
      rw [if_neg (by omega)]
      simp
    · have hx := riseF_gt b h
      have := ixP_mem b h
      unfold ixP
      rw [if_pos hx]
      simp only [List.length_cons, List.getD_cons_succ]
      exact ⟨by omega, this.2⟩
theorem hitP_iff {l : List Int} {m u : Int} (hr : riseF m l) : hitP l u = true ↔ u ∈ l := by
  refine ⟨hitP_mem, fun h => ?_⟩
  unfold hitP
  rw [decide_eq_true_iff]
  exact ixP_mem hr h

/-- v is a list of rows, R, in memory. -/
def Rws (w : World) (v : Value) (R : List RE) : Prop :=
  ∃ a c, v = .slice a R.length c ∧ (0 < R.length → ∃ g off, a = some ⟨g, off, none⟩ ∧ g < w.heap.size ∧ ∀ i, i < R.length → w.cell? ⟨g, off + i * 4, none⟩ = some (.int .i64 (R.getD i RE0).uid) ∧ w.cell? ⟨g, off + i * 4 + 1, none⟩ = some (.bool (R.getD i RE0).gone) ∧ w.cell? ⟨g, off + i * 4 + 2, none⟩ = some (.bool (R.getD i RE0).rct) ∧ w.cell? ⟨g, off + i * 4 + 3, none⟩ = some (R.getD i RE0).ptr)
theorem Rws.on {w w' : World} {v : Value} {R : List RE} (h : Rws w v R) (hb : Below w.heap.size w w') : Rws w' v R := by
  obtain ⟨a, c, rfl, h⟩ := h
  refine ⟨a, c, rfl, fun hl => ?_⟩
  obtain ⟨g, off, e, hg, hc⟩ := h hl
  refine ⟨g, off, e, Nat.lt_of_lt_of_le hg hb.size, fun i hi => ?_⟩
  rw [hb.cell (p := ⟨g, off + i * 4, none⟩) hg, hb.cell (p := ⟨g, off + i * 4 + 1, none⟩) hg, hb.cell (p := ⟨g, off + i * 4 + 2, none⟩) hg, hb.cell (p := ⟨g, off + i * 4 + 3, none⟩) hg]
  exact hc i hi
theorem rws_of {w : World} {v : Value} {R : List RE} {B : Nat} (h : w.ownsRow B 82 4 v R.length (rwC R)) : Rws w v R := by
  rcases h.2 with ⟨rfl, h0⟩ | ⟨g, cap, cur, rfl, hB, hg, rest⟩
  · exact ⟨none, 0, by rw [h0], fun hl => by omega⟩
  · refine ⟨_, cap, rfl, fun _ => ⟨g, 0, rfl, lt_of_heap hg, fun i hi => ?_⟩⟩
    have := rwC_at R i hi
    have e : ∀ j u, (rwC R)[j]? = some u → w.cell? ⟨g, 0 + j, none⟩ = some u := fun j u hj => by
      have c1 := h.cells (g := g) rfl j u hj
      rw [Addr.add_lit] at c1
      exact c1
    exact ⟨e _ _ this.1, e (i * 4 + 1) _ this.2.1, e (i * 4 + 2) _ this.2.2.1, e (i * 4 + 3) _ this.2.2.2⟩
def uidR (R : List RE) : List Int := R.map RE.uid
theorem uidR_at (R : List RE) (i : Nat) : (uidR R).getD i 0 = (R.getD i RE0).uid := by
  unfold uidR
  rw [List.getD_eq_getElem?_getD, List.getElem?_map, List.getD_eq_getElem?_getD]
  cases R[i]? <;> rfl
theorem uidR_length (R : List RE) : (uidR R).length = R.length := by simp [uidR]

set_option maxHeartbeats 400000 in
theorem placeC_any (r : RE) (u : Int) (w : World) :
    Calls Tryz.prog 75 #[.agg #[.int .i64 r.uid, .bool r.gone, .bool r.rct, r.ptr], .int .i64 u] w fun e w' => e = .returned (.int .i64 (cmpI r.uid u)) ∧ Below w.heap.size w w' := by
  have H := Lib.hid (compare_any r.uid u)
  generalize cmpI r.uid u = q at *
  generalize r.uid = x at *
  generalize r.gone = y at *
  generalize r.rct = z at *
  generalize hp : r.ptr = p at *
  go_enter Tryz.func75, Tryz.ntmps75
  go_wp2_with (go_at_call 76; refine (H.out _).mono ?_; rintro e w1 ⟨rfl, rfl⟩)
  go_ret
  exact ⟨rfl, (Below.refl _ _).alloc (Nat.le_refl _) _⟩
theorem cmpI_neg (a b : Int) : cmpI a b < 0 ↔ a < b := by
  unfold cmpI
  split
  · omega
  split <;> omega
theorem cmpI_zero (a b : Int) : (cmpI a b == 0) = decide (a = b) := by
  unfold cmpI
  by_cases h1 : a < b
  · rw [if_pos h1]; simp; omega
  · rw [if_neg h1]
    by_cases h2 : b < a
    · rw [if_pos h2]; simp; omega
    · rw [if_neg h2]; simp; omega
end Go.Proofs.YtflkhnmggmfhfaaGreat

/- view: the search among rows; place, at, greatest, some. -/
namespace Go.Proofs.YtflkhnmggmfhfaaGreat
open Go.RowKit

set_option maxRecDepth 100000 in
set_option maxHeartbeats 4000000 in
theorem rsearch_any (v : Value) (R : List RE) (u : Int) (w : World) (hr : Rws w v R) (hl : R.length ≤ 1000000) (hc : riseF 0 (uidR R)) :
    Calls Tryz.prog 74 #[v, .int .i64 u, .func (.func 75) #[] #[]] w fun e w' => e = .returned (.tuple #[.int .i64 (ixP (uidR R) u : Nat), .bool (hitP (uidR R) u)]) ∧ Below w.heap.size w w' := by
  obtain ⟨ao, cap, hv, hcs⟩ := hr
  subst hv
  have HCS := Lib.hid hcs
  have HI : Hid (∀ i, i ≤ R.length → (∀ t, t < i → (R.getD t RE0).uid < u) → (∀ t, i ≤ t → t < R.length → u ≤ (R.getD t RE0).uid) → ixP (uidR R) u = i) := Lib.hid (fun i h1 h2 h3 => ixP_eq _ _ _ (by rw [uidR_length]; exact h1) (fun t ht => by rw [uidR_at]; exact h2 t ht) (fun t ht htl => by rw [uidR_at]; exact h3 t ht (by rw [uidR_length] at htl; exact htl)))
  have HM : Hid (∀ i j, i < j → j < R.length → (R.getD i RE0).uid < (R.getD j RE0).uid) := Lib.hid (fun i j h1 h2 => by have := riseF_getD hc i j h1 (by rw [uidR_length]; exact h2); rw [uidR_at, uidR_at] at this; exact this)
  have HH : Hid (hitP (uidR R) u = decide (ixP (uidR R) u < R.length ∧ (R.getD (ixP (uidR R) u) RE0).uid = u)) := Lib.hid (by unfold hitP; rw [uidR_length, uidR_at])
  clear hcs hc
  generalize hitP (uidR R) u = ht at *
  generalize ixP (uidR R) u = ix at *
  go_enter Tryz.func74, Tryz.ntmps74
  go_wp2_with fail
  go_loopg [9, 10] R.length (fun kx s9 s10 wr => ∃ lo hi : Nat, s9 = .int .i64 lo ∧ s10 = .int .i64 hi ∧ lo ≤ hi ∧ hi ≤ R.length ∧ hi - lo ≤ kx ∧ Below w.heap.size w wr ∧ Hid ((∀ t, t < lo → (R.getD t RE0).uid < u) ∧ (∀ t, hi ≤ t → t < R.length → u ≤ (R.getD t RE0).uid)))
  case atStart => exact ⟨0, R.length, rfl, rfl, Nat.zero_le _, Nat.le_refl _, by omega, Below.refl _ _, Lib.hid ⟨fun t ht => absurd ht (Nat.not_lt_zero _), fun t h1 h2 => by omega⟩⟩
  case round =>
    obtain ⟨lo, hi, rfl, rfl, hlh, hin, hg, hbw, I⟩ := hrel
    have hbl := hbw.size
    by_cases hlt : lo < hi
    · obtain ⟨b, off, hao, hbs, hc⟩ := HCS.out (by omega)
      subst hao
      obtain ⟨c1, c2, c3, c4⟩ := hc ((lo + hi) / 2) (by omega)
      rw [← hbw.cell (p := ⟨b, off + (lo + hi) / 2 * 4, none⟩) hbs] at c1
      rw [← hbw.cell (p := ⟨b, off + (lo + hi) / 2 * 4 + 1, none⟩) hbs] at c2
      rw [← hbw.cell (p := ⟨b, off + (lo + hi) / 2 * 4 + 2, none⟩) hbs] at c3
      rw [← hbw.cell (p := ⟨b, off + (lo + hi) / 2 * 4 + 3, none⟩) hbs] at c4
      have HS := Lib.hid (placeC_any (R.getD ((lo + hi) / 2) RE0) u)
      have HN := Lib.hid (cmpI_neg (R.getD ((lo + hi) / 2) RE0).uid u)
      obtain ⟨y, hy⟩ : ∃ y, y = (R.getD ((lo + hi) / 2) RE0).uid := ⟨_, rfl⟩
      have Y := Lib.hid hy
      rw [← hy] at c1 HS HN
      clear hc hy
      generalize (R.getD ((lo + hi) / 2) RE0).gone = yg at c2 HS
      generalize (R.getD ((lo + hi) / 2) RE0).rct = yr at c3 HS
      generalize (R.getD ((lo + hi) / 2) RE0).ptr = yp at c4 HS
      generalize cmpI y u = q at *
      by_cases hyx : y < u
      · have hq : q < 0 := HN.out.2 hyx
        go_wp2_with (go_at_call 75; refine (HS.out _).mono ?_; rintro e w' ⟨rfl, hb'⟩)
        go_roundg (hi - ((lo + hi) / 2 + 1))
        case measure => omega
        case rel =>
          refine ⟨(lo + hi) / 2 + 1, hi, by rw [show ((lo : Int) + (hi : Int)) / 2 + 1 = (((lo + hi) / 2 + 1 : Nat) : Int) by omega], rfl, by omega, hin, Nat.le_refl _, hbw.trans (hb'.mono hbl), Lib.hid ⟨fun t ht => ?_, I.out.2⟩⟩
          by_cases e : t = (lo + hi) / 2
          · subst e; rw [← Y.out]; exact hyx
          · have a := HM.out t ((lo + hi) / 2) (by omega) (by omega)
            rw [← Y.out] at a
            omega
      · have hq : ¬ q < 0 := fun h => hyx (HN.out.1 h)
        go_wp2_with (go_at_call 75; refine (HS.out _).mono ?_; rintro e w' ⟨rfl, hb'⟩)
        go_roundg ((lo + hi) / 2 - lo)
        case measure => omega
        case rel =>
          refine ⟨lo, (lo + hi) / 2, rfl, by rw [show ((lo : Int) + (hi : Int)) / 2 = (((lo + hi) / 2 : Nat) : Int) by omega], by omega, by omega, Nat.le_refl _, hbw.trans (hb'.mono hbl), Lib.hid ⟨I.out.1, fun t ht htn => ?_⟩⟩
          by_cases e : t = (lo + hi) / 2
          · subst e; rw [← Y.out]; omega
          · have a := HM.out ((lo + hi) / 2) t (by omega) htn
            rw [← Y.out] at a
            omega
    · obtain rfl : hi = lo := by omega
      have hix : ix = hi := HI.out hi hin I.out.1 I.out.2
      subst hix
      by_cases hn : ix < R.length
      · obtain ⟨b, off, hao, hbs, hc⟩ := HCS.out (by omega)
        subst hao
        obtain ⟨c1, c2, c3, c4⟩ := hc ix hn
        rw [← hbw.cell (p := ⟨b, off + ix * 4, none⟩) hbs] at c1
        rw [← hbw.cell (p := ⟨b, off + ix * 4 + 1, none⟩) hbs] at c2
        rw [← hbw.cell (p := ⟨b, off + ix * 4 + 2, none⟩) hbs] at c3
        rw [← hbw.cell (p := ⟨b, off + ix * 4 + 3, none⟩) hbs] at c4
        have HS := Lib.hid (placeC_any (R.getD ix RE0) u)
        have HZ := Lib.hid (cmpI_zero (R.getD ix RE0).uid u)
        have HT : Hid (ht = decide ((R.getD ix RE0).uid = u)) := Lib.hid (by rw [HH.out]; simp [hn])
        clear hc HH
        generalize (R.getD ix RE0).uid = x at *
        generalize (R.getD ix RE0).gone = yg at *
        generalize (R.getD ix RE0).rct = yr at *
        generalize (R.getD ix RE0).ptr = yp at *
        generalize cmpI x u = q at *
        rw [← HT.out] at HZ
        clear HT
        cases ht with
        | true =>
          have hq : (q == 0) = true := HZ.out
          go_wp2_with (go_at_call 75; refine (HS.out _).mono ?_; rintro e w' ⟨rfl, hb'⟩)
          go_ret2
          exact ⟨rfl, hbw.trans (hb'.mono hbl)⟩
        | false =>
          have hq : (q == 0) = false := HZ.out
          go_wp2_with (go_at_call 75; refine (HS.out _).mono ?_; rintro e w' ⟨rfl, hb'⟩)
          go_ret2
          exact ⟨rfl, hbw.trans (hb'.mono hbl)⟩
      · have HRR : Hid (ht = false) := Lib.hid (by rw [HH.out]; simp [hn])
        go_wp2
        go_ret2
        exact ⟨by rw [HRR.out]; rfl, hbw⟩

/-- What is always asked of a view. -/
structure VOK (R : List RE) (C : List Int) (N : Nat) : Prop where
  rise : riseF 0 (uidR R ++ C)
  top : ∀ x ∈ uidR R ++ C, x < 4294967295
  len : R.length + C.length ≤ N
theorem VOK.rows {R : List RE} {C : List Int} {N : Nat} (h : VOK R C N) : riseF 0 (uidR R) := ((riseF_append _ _ _).1 h.rise).1
section
variable {P : Nat} {mk : Bool} {val : Int} {rv cv : Value} {R : List RE} {C : List Int} {w : World} {N : Nat}
set_option maxHeartbeats 400000 in
theorem place_any (h : VAt mk P val rv cv R C w) (hk : VOK R C N) (hN : N ≤ 1000000) (u : Int) :
    Calls Tryz.prog 60 #[.pointer (some ⟨P, 0, none⟩), .int .i64 u] w fun e w' => e = .returned (.tuple #[.int .i64 (ixP (uidR R) u : Nat), .bool (hitP (uidR R) u)]) ∧ Below w.heap.size w w' := by
  have H := Lib.hid (rsearch_any rv R u w (rws_of h.rows) (by have := hk.len; omega) hk.rows)
  have c2 := h.cells.c2
  clear h hk
  generalize hitP (uidR R) u = ht at *
  generalize ixP (uidR R) u = ix at *
  go_enter Tryz.func60, Tryz.ntmps60
  go_wp2_with fail
  refine H.out.mono ?_
  rintro e w' ⟨rfl, hb'⟩
  go_wp2_with fail
  go_ret2
  exact ⟨rfl, hb'⟩
def atR (R : List RE) (u : Int) : RE := if hitP (uidR R) u = true then R.getD (ixP (uidR R) u) RE0 else RE0
set_option maxHeartbeats 1000000 in
theorem at_any (h : VAt mk P val rv cv R C w) (hk : VOK R C N) (hN : N ≤ 1000000) (u : Int) :
    Calls Tryz.prog 61 #[.pointer (some ⟨P, 0, none⟩), .int .i64 u] w fun e w' => e = .returned (.agg #[.int .i64 (atR R u).uid, .bool (atR R u).gone, .bool (atR R u).rct, (atR R u).ptr]) ∧ Below w.heap.size w w' := by
  have hb1 : Below w.heap.size w (w.alloc (.cells #[.int .i64 0, .bool false, .bool false, .pointer none] 82)) := (Below.refl _ _).alloc (Nat.le_refl _) _
  have h1 := h.on hb1
  have H := Lib.hid (place_any h1 hk hN u)
  have hn : (w.alloc (.cells #[.int .i64 0, .bool false, .bool false, .pointer none] 82)).heap[w.heap.size]? = some (.cells #[.int .i64 0, .bool false, .bool false, .pointer none] 82 (0, 0)) := heap_alloc_new w _
  have hz : w.heap.size < (w.alloc (.cells #[.int .i64 0, .bool false, .bool false, .pointer none] 82)).heap.size := by simp
  have HB1 := Lib.hid hb1
  have HR : Hid (∀ w2, Below (w.alloc (.cells #[.int .i64 0, .bool false, .bool false, .pointer none] 82)).heap.size (w.alloc (.cells #[.int .i64 0, .bool false, .bool false, .pointer none] 82)) w2 → w2.heap[w.heap.size]? = some (.cells #[.int .i64 0, .bool false, .bool false, .pointer none] 82 (0, 0))) := Lib.hid (fun w2 hb => by rw [hb.block _ hz]; exact hn)
  have HBB : Hid (∀ w2, Below (w.alloc (.cells #[.int .i64 0, .bool false, .bool false, .pointer none] 82)).heap.size (w.alloc (.cells #[.int .i64 0, .bool false, .bool false, .pointer none] 82)) w2 → Below w.heap.size w w2) := Lib.hid (fun w2 hb => hb1.trans (hb.mono (by simp)))
  clear hb1 hn
  unfold atR
  cases hh : hitP (uidR R) u with
  | false =>
    rw [hh] at H
    clear h hk h1
    generalize ixP (uidR R) u = ix at *
    simp only [Bool.false_eq_true, if_false]
    go_enter Tryz.func61, Tryz.ntmps61
    go_wp2_with (go_at_call 60; refine H.out.mono ?_; rintro e w' ⟨rfl, hb'⟩; have hr := HR.out _ hb'; have r0 := cell_of hr 0; have r1 := cell_of hr 1; have r2 := cell_of hr 2; have r3 := cell_of hr 3; have f0 := frozen_of hr 0; have f1 := frozen_of hr 1; have f2 := frozen_of hr 2; have f3 := frozen_of hr 3; have HB2 := Lib.hid (HBB.out _ hb'); simp only [List.getElem?_toArray, List.getElem?_cons_zero, List.getElem?_cons_succ] at r0 r1 r2 r3; clear hb' hr)
    refine bodyPost_ret (v := .agg #[.int .i64 RE0.uid, .bool RE0.gone, .bool RE0.rct, RE0.ptr]) (by simp [results, Tryz.results61, go_sem, r0, r1, r2, r3, RE0, RE.ptr]) rfl ⟨rfl, ?_⟩
    repeat (first | exact HB2.out | refine Below.setCell ?_ (by simp) _)
  | true =>
    have hix : ixP (uidR R) u < R.length := by
      unfold hitP at hh
      rw [decide_eq_true_iff, uidR_length] at hh
      exact hh.1
    have hR : R.length ≤ 1000000 := by have := hk.len; omega
    rw [hh] at H
    have c2 := h1.cells.c2
    obtain ⟨a, c, hv, hcs⟩ := rws_of h1.rows
    obtain ⟨g, off, rfl, hg, hc⟩ := hcs (by omega)
    subst hv
    obtain ⟨c4, c5, c6, c7⟩ := hc _ hix
    have hP : P < (w.alloc (.cells #[.int .i64 0, .bool false, .bool false, .pointer none] 82)).heap.size := lt_of_heap h1.self
    have hgn : g ≠ w.heap.size := by
      intro e
      have := (h.rows.lt g rfl).2
      omega
    clear h hk hcs hc hh h1
    simp only [if_true]
    obtain ⟨yo, hyo⟩ : ∃ yo, (R.getD (ixP (uidR R) u) RE0).ptr = .pointer yo := ⟨_, rfl⟩
    rw [hyo] at c7 ⊢
    clear hyo
    generalize (R.getD (ixP (uidR R) u) RE0).uid = x at *
    generalize (R.getD (ixP (uidR R) u) RE0).gone = yg at *
    generalize (R.getD (ixP (uidR R) u) RE0).rct = yr at *
    generalize ixP (uidR R) u = ix at *
    generalize R.length = n at *
    go_enter Tryz.func61, Tryz.ntmps61
    go_wp2_with (go_at_call 60; refine H.out.mono ?_; rintro e w' ⟨rfl, hb'⟩; rw [← hb'.cell (p := ⟨P, 2, none⟩) hP] at c2; rw [← hb'.cell (p := ⟨g, off + ix * 4, none⟩) hg] at c4; rw [← hb'.cell (p := ⟨g, off + ix * 4 + 1, none⟩) hg] at c5; rw [← hb'.cell (p := ⟨g, off + ix * 4 + 2, none⟩) hg] at c6; rw [← hb'.cell (p := ⟨g, off + ix * 4 + 3, none⟩) hg] at c7; have hr := HR.out _ hb'; have r0 := cell_of hr 0; have r1 := cell_of hr 1; have r2 := cell_of hr 2; have r3 := cell_of hr 3; have f0 := frozen_of hr 0; have f1 := frozen_of hr 1; have f2 := frozen_of hr 2; have f3 := frozen_of hr 3; have HB2 := Lib.hid (HBB.out _ hb'); simp only [List.getElem?_toArray, List.getElem?_cons_zero, List.getElem?_cons_succ] at r0 r1 r2 r3; clear hb' hr)
    refine bodyPost_ret (v := .agg #[.int .i64 x, .bool yg, .bool yr, .pointer yo]) (by simp [results, Tryz.results61, go_sem, r0, r1, r2, r3]) rfl ⟨rfl, ?_⟩
    repeat (first | exact HB2.out | refine Below.setCell ?_ (by simp) _)
end
end Go.Proofs.YtflkhnmggmfhfaaGreat

/- view: greatest, come, settle. -/
namespace Go.Proofs.YtflkhnmggmfhfaaGreat
open Go.RowKit

/-- v is a list of numbers, l, in memory. -/
def Nms (w : World) (v : Value) (l : List Int) : Prop :=
  ∃ a c, v = .slice a l.length c ∧ (0 < l.length → ∃ g off, a = some ⟨g, off, none⟩ ∧ g < w.heap.size ∧ ∀ i, i < l.length → w.cell? ⟨g, off + i, none⟩ = some (.int .i64 (l.getD i 0)))
theorem Nms.hold {w w' : World} {v : Value} {l : List Int} (h : Nms w v l) (hz : w.heap.size ≤ w'.heap.size) (hs : 0 < l.length → ∀ b, v.ownBlock = some b → b < w.heap.size → w'.heap[b]? = w.heap[b]?) : Nms w' v l := by
  obtain ⟨a, c, rfl, h⟩ := h
  refine ⟨a, c, rfl, fun hl => ?_⟩
  obtain ⟨g, off, rfl, hg, hc⟩ := h hl
  refine ⟨g, off, rfl, by omega, fun i hi => ?_⟩
  rw [World.cell?_of_block (a := ⟨g, off + i, none⟩) (hs hl g rfl hg)]
  exact hc i hi
theorem Nms.on {w w' : World} {v : Value} {l : List Int} (h : Nms w v l) (hb : Below w.heap.size w w') : Nms w' v l := h.hold hb.size (fun _ b _ hl => hb.block b hl)
theorem nms_of {w : World} {v : Value} {l : List Int} {B : Nat} (h : w.ownsRow B 3 1 v l.length (ic l)) : Nms w v l := by
  rcases h.2 with ⟨rfl, h0⟩ | ⟨g, cap, cur, rfl, hB, hg, rest⟩
  · exact ⟨none, 0, by rw [h0], fun hl => by omega⟩
  · refine ⟨_, cap, rfl, fun _ => ⟨g, 0, rfl, lt_of_heap hg, fun i hi => ?_⟩⟩
    have c1 := h.cells (g := g) rfl i _ (ic_at l i hi)
    rw [Addr.add_lit] at c1
    exact c1
theorem Nms.ofInts {w : World} {v : Value} {l : List Int} (h : Ints w v l) : Nms w v l := by
  rcases h with ⟨rfl, ao, cap, rfl, _⟩ | ⟨b, off, cap, rfl, _, hb, hc⟩
  · exact ⟨ao, cap, rfl, fun h => by simp at h⟩
  · exact ⟨_, cap, rfl, fun _ => ⟨b, off, rfl, hb, hc⟩⟩
theorem FO.keep {f f' : List Nat} {w w' : World} (h : FO f f' w w') {b : Nat} (hb : b < w.heap.size) (hn : b ∉ f) : w'.heap[b]? = w.heap[b]? := h.1.block b hb hn
theorem FO.out {f f' : List Nat} {w w' : World} (h : FO f f' w w') {b : Nat} (hb : b < w.heap.size) (hn : b ∉ f) : b ∉ f' := fun e => by
  rcases h.2 b e with e' | e'
  · exact hn e'
  · omega
theorem Nms.past {f f' : List Nat} {w w' : World} {v : Value} {l : List Int} (h : Nms w v l) (hf : FO f f' w w') (hn : 0 < l.length → ∀ b, v.ownBlock = some b → b ∉ f) : Nms w' v l := h.hold hf.1.size (fun h0 b e hl => hf.keep hl (hn h0 b e))

def topC (U C : List Int) : Int := lastD C (lastD U 0)
def come1 (U C : List Int) (u : Int) : List Int := if topC U C < u ∧ u < 4294967295 then C ++ [u] else C
def comesC (U C us : List Int) : List Int := us.foldl (come1 U) C
theorem come1_len (U C : List Int) (u : Int) : (come1 U C u).length ≤ C.length + 1 := by unfold come1; split <;> simp
theorem comesC_len (U : List Int) : ∀ (us C : List Int), (comesC U C us).length ≤ C.length + us.length
  | [], C => Nat.le_refl _
  | u :: us, C => by
    have h1 := comesC_len U us (come1 U C u)
    have h2 := come1_len U C u
    show (comesC U (come1 U C u) us).length ≤ _
    simp only [List.length_cons]; omega
theorem comesC_snoc (U C us : List Int) (u : Int) : comesC U C (us ++ [u]) = come1 U (comesC U C us) u := by simp [comesC]
theorem comeP_C (V : PV) (u : Int) : comeP V u = { V with com := come1 (uidsP V) V.com u } := by
  unfold comeP come1 topP topC
  split <;> rfl
theorem comesP_C : ∀ (us : List Int) (V : PV), comesP V us = { V with com := comesC (uidsP V) V.com us }
  | [], V => rfl
  | u :: us, V => by
    show comesP (comeP V u) us = _
    rw [comesP_C us (comeP V u), comeP_C]
    rfl
/-- What a step leaves of a view's memory. -/
def VO (mk : Bool) (P : Nat) (val : Int) (R' : List RE) (C' : List Int) (fp : List Nat) (w w' : World) : Prop := ∃ rv' cv', VAt mk P val rv' cv' R' C' w' ∧ FO fp (fpV P rv' cv' R') w w'
section
variable {P : Nat} {mk : Bool} {val : Int} {rv cv : Value} {R : List RE} {C : List Int} {w : World} {N : Nat}
theorem VO.refl (h : VAt mk P val rv cv R C w) : VO mk P val R C (fpV P rv cv R) w w := ⟨rv, cv, h, FO.refl _ _⟩
theorem VO.on {fp : List Nat} {w1 w' : World} (h : VO mk P val R C fp w w1) (hb : Below w1.heap.size w1 w') : VO mk P val R C fp w w' := by
  obtain ⟨rv', cv', h1, h2⟩ := h
  exact ⟨rv', cv', h1.on hb, h2.trans (FO.below hb)⟩
theorem VO.trans {fp : List Nat} {R2 : List RE} {C2 : List Int} {w1 w' : World} (h : VO mk P val R C fp w w1) (k : ∀ rv1 cv1, VAt mk P val rv1 cv1 R C w1 → VO mk P val R2 C2 (fpV P rv1 cv1 R) w1 w') : VO mk P val R2 C2 fp w w' := by
  obtain ⟨rv', cv', h1, h2⟩ := h
  obtain ⟨rv2, cv2, k1, k2⟩ := k rv' cv' h1
  exact ⟨rv2, cv2, k1, h2.trans k2⟩
set_option maxHeartbeats 1000000 in
theorem greatest_any (h : VAt mk P val rv cv R C w) (hR : R.length ≤ 1000000) (hC : C.length ≤ 1000000) :
    Calls Tryz.prog 77 #[.pointer (some ⟨P, 0, none⟩)] w fun e w' => e = .returned (.int .i64 (topC (uidR R) C)) ∧ w' = w := by
  have c2 := h.cells.c2
  have c3 := h.cells.c3
  obtain ⟨a3, k3, hv3, hcs3⟩ := nms_of h.com
  obtain ⟨a2, k2, hv2, hcs2⟩ := rws_of h.rows
  subst hv3 hv2
  by_cases hc : C = []
  · subst hc
    by_cases hr : R = []
    · subst hr
      clear h hcs3 hcs2
      go_enter Tryz.func77, Tryz.ntmps77
      go_wp2
      go_ret
      exact ⟨rfl, rfl⟩
    · have hp : 0 < R.length := List.length_pos_iff.2 hr
      obtain ⟨g, off, rfl, _, hcc⟩ := hcs2 hp
      obtain ⟨m, hm⟩ : ∃ m, R.length = m + 1 := ⟨R.length - 1, by omega⟩
      have c1 := (hcc m (by omega)).1
      have HE : Hid (topC (uidR R) [] = (R.getD m RE0).uid) := Lib.hid (by
        show lastD (uidR R) 0 = _
        rw [lastD_getD _ _ (by simpa [uidR] using hr), uidR_length, hm, Nat.add_sub_cancel, uidR_at])
      clear h hcs3 hcs2 hcc hr hp
      rw [hm] at c2 hR
      generalize topC (uidR R) [] = tp at *
      generalize (R.getD m RE0).uid = x at *
      have hm1 : ((m : Int) + 1) - 1 = m := by omega
      have hmz : (0 : Int) < (m : Int) + 1 := by omega
      go_enter Tryz.func77, Tryz.ntmps77
      go_wp2
      go_ret
      exact ⟨ret_int HE.out.symm, rfl⟩
  · have hp : 0 < C.length := List.length_pos_iff.2 hc
    obtain ⟨g, off, rfl, _, hcc⟩ := hcs3 hp
    obtain ⟨m, hm⟩ : ∃ m, C.length = m + 1 := ⟨C.length - 1, by omega⟩
    have c1 := hcc m (by omega)
    have HE : Hid (topC (uidR R) C = C.getD m 0) := Lib.hid (by
      show lastD C _ = _
      rw [lastD_getD _ _ hc, hm, Nat.add_sub_cancel])
    clear h hcs3 hcs2 hcc hc hp
    rw [hm] at c3 hC
    generalize topC (uidR R) C = tp at *
    generalize C.getD m 0 = x at *
    have hm1 : ((m : Int) + 1) - 1 = m := by omega
    have hmz : (0 : Int) < (m : Int) + 1 := by omega
    go_enter Tryz.func77, Tryz.ntmps77
    go_wp2
    go_ret
    exact ⟨ret_int HE.out.symm, rfl⟩
set_option maxRecDepth 100000 in
set_option maxHeartbeats 2000000 in
theorem come_any (h : VAt mk P val rv cv R C w) (v : Value) (us : List Int) (hv : Nms w v us) (hn : 0 < us.length → ∀ b, v.ownBlock = some b → b ∉ fpV P rv cv R) (hR : R.length ≤ 1000000) (hC : C.length + us.length ≤ 1000000) :
    Calls Tryz.prog 64 #[.pointer (some ⟨P, 0, none⟩), v] w fun e w' => e = .returned (.tuple #[]) ∧ VO mk P val R (comesC (uidR R) C us) (fpV P rv cv R) w w' := by
  obtain ⟨av, kv, hve, hvs⟩ := hv
  subst hve
  have HV := Lib.hid hvs
  have HN := Lib.hid hn
  have H0 := Lib.hid (VO.refl h)
  have hUs : us.length ≤ 1000000 := by omega
  clear h hvs hn
  go_enter Tryz.func64, Tryz.ntmps64
  go_wp2
  go_loopw [8] (fun i wr => ∃ k : Nat, k ≤ us.length ∧ i = .int .i64 k ∧ VO mk P val R (comesC (uidR R) C (us.take k)) (fpV P rv cv R) w wr) (fun i _ => us.length - (intOf i).toNat)
  case atStart => exact ⟨0, Nat.zero_le _, rfl, H0.out⟩
  case round =>
    obtain ⟨k, hk, rfl, hO⟩ := hrel
    by_cases hlt : k < us.length
    · have hlti : (k : Int) < (us.length : Int) := by omega
      obtain ⟨g, off, rfl, hg, hcc⟩ := HV.out (by omega)
      obtain ⟨rv1, cv1, h1, f1⟩ := hO
      have ck := hcc k hlt
      rw [← World.cell?_of_block (a := ⟨g, off + k, none⟩) (f1.keep hg (HN.out (by omega) g rfl))] at ck
      have hst : us.take (k + 1) = us.take k ++ [us.getD k 0] := take_snocI us k hlt
      have hcl := comesC_len (uidR R) (us.take k) C
      rw [List.length_take] at hcl
      have hcl2 : (comesC (uidR R) C (us.take k)).length ≤ 1000000 := by omega
      have HG := Lib.hid (greatest_any h1 hR hcl2)
      have HS : Hid (comesC (uidR R) C (us.take (k + 1)) = come1 (uidR R) (comesC (uidR R) C (us.take k)) (us.getD k 0)) := Lib.hid (by rw [hst, comesC_snoc])
      have HE : Hid (come1 (uidR R) (comesC (uidR R) C (us.take k)) (us.getD k 0) = if topC (uidR R) (comesC (uidR R) C (us.take k)) < us.getD k 0 ∧ us.getD k 0 < 4294967295 then comesC (uidR R) C (us.take k) ++ [us.getD k 0] else comesC (uidR R) C (us.take k)) := Lib.hid rfl
      obtain ⟨a4, k4, W4, r4, s4, h4, f4⟩ := h1.addC (us.getD k 0) (by omega)
      have c3 := h1.cells.c3
      have d3 := (selfV_cells s4).c3
      have g3 := (selfV_cells s4).f3
      have HO1 : Hid (VO mk P val R (comesC (uidR R) C (us.take k)) (fpV P rv cv R) w wr) := Lib.hid ⟨rv1, cv1, h1, f1⟩
      have HO4 : Hid (VO mk P val R (comesC (uidR R) C (us.take k) ++ [us.getD k 0]) (fpV P rv cv R) w (W4.setCell ⟨P, 3, none⟩ (.slice a4 ((comesC (uidR R) C (us.take k)).length + 1) k4))) := Lib.hid ⟨_, _, h4, f1.trans f4⟩
      have R4 := Lib.hid r4
      clear hst hcl h1 f1 r4 s4 h4 f4 hcc
      generalize us.getD k 0 = u at *
      generalize comesC (uidR R) C (us.take k) = D at *
      generalize topC (uidR R) D = tp at *
      generalize come1 (uidR R) D u = D2 at *
      generalize D.length = nD at *
      by_cases h5 : tp < u
      · by_cases h6 : u < 4294967295
        · have HF : Hid (D2 = D ++ [u]) := Lib.hid (by rw [HE.out, if_pos ⟨h5, h6⟩])
          go_wp2_with (first | (go_at_call 77; refine HG.out.mono ?_; rintro e w' ⟨rfl, hw⟩; subst w') | (at_builtin; refine append_by_run (u := cv1) (v := .slice (some ⟨wr.heap.size, 0, none⟩) 1 1) rfl _ _ _ rfl 26 rfl rfl rfl _ _ R4.out ?_))
          go_roundw
          case rel => exact ⟨k + 1, by omega, by go_num, by rw [HS.out, HF.out]; exact HO4.out⟩
          case measure => simp [intOf]; omega
        · have HF : Hid (D2 = D) := Lib.hid (by rw [HE.out, if_neg (fun h => h6 h.2)])
          go_wp2_with (go_at_call 77; refine HG.out.mono ?_; rintro e w' ⟨rfl, hw⟩; subst w')
          go_roundw
          case rel => exact ⟨k + 1, by omega, by go_num, by rw [HS.out, HF.out]; exact HO1.out⟩
          case measure => simp [intOf]; omega
      · have HF : Hid (D2 = D) := Lib.hid (by rw [HE.out, if_neg (fun h => h5 h.1)])
        go_wp2_with (go_at_call 77; refine HG.out.mono ?_; rintro e w' ⟨rfl, hw⟩; subst w')
        go_roundw
        case rel => exact ⟨k + 1, by omega, by go_num, by rw [HS.out, HF.out]; exact HO1.out⟩
        case measure => simp [intOf]; omega
    · obtain rfl : k = us.length := by omega
      rw [List.take_of_length_le (Nat.le_refl _)] at hO
      have HO := Lib.hid hO
      clear hO
      go_wp2
      first | refine bodyPost_end (results_none rfl _ _ _) rfl ?_ | refine bodyPost_ret (results_none rfl _ _ _) rfl ?_
      exact ⟨rfl, HO.out⟩
end
end Go.Proofs.YtflkhnmggmfhfaaGreat

/- view: settle, following, uids. -/
namespace Go.Proofs.YtflkhnmggmfhfaaGreat
open Go.RowKit

def nrE (recent u : Int) : RE := ⟨u, false, decide (recent ≤ u), none⟩
theorem nrE_pl (recent u : Int) : (nrE recent u).pl = newR recent u := rfl
def folN (f : Int) (k : Nat) : List Int := (List.range k).map fun (i : Nat) => f + (i : Int)
theorem folN_length (f : Int) (k : Nat) : (folN f k).length = k := by simp [folN]
theorem folN_succ (f : Int) (k : Nat) : folN f (k + 1) = folN f k ++ [f + k] := by simp [folN, List.range_succ]
theorem folN_cons (f : Int) (k : Nat) : folN f (k + 1) = f :: folN (f + 1) k := by
  simp only [folN, List.range_succ_eq_map, List.map_cons, List.map_map]
  congr 1
  · simp
  · apply List.map_congr_left
    intro i _
    simp only [Function.comp]
    omega
theorem fol_eq : ∀ (c k : Nat) (f : Int), k ≤ c → (∀ i : Nat, i < k → f + i < 4294967295) → (k = c ∨ ¬ f + k < 4294967295) → fol f c = folN f k
  | 0, k, f, h, _, _ => by
    have : k = 0 := by omega
    subst this
    rfl
  | c + 1, 0, f, _, _, h => by
    have h1 : ¬ f < 4294967295 := by
      rcases h with h | h
      · omega
      · simpa using h
    show (if f < 4294967295 then f :: fol (f + 1) c else []) = []
    rw [if_neg h1]
  | c + 1, k + 1, f, h, h2, h3 => by
    have h1 : f < 4294967295 := by have := h2 0 (by omega); simpa using this
    show (if f < 4294967295 then f :: fol (f + 1) c else []) = _
    rw [if_pos h1, folN_cons, fol_eq c k (f + 1) (by omega) (fun i hi => by have := h2 (i + 1) (by omega); push_cast at this; omega) (by
      rcases h3 with h3 | h3
      · left; omega
      · right; push_cast at h3; omega)]
section
variable {P : Nat} {mk : Bool} {val : Int} {rv cv : Value} {R : List RE} {C : List Int} {w : World} {N : Nat}
set_option maxRecDepth 100000 in
set_option maxHeartbeats 2000000 in
theorem settle_any (h : VAt mk P val rv cv R C w) (recent : Int) (hN : R.length + C.length ≤ 1000000) :
    Calls Tryz.prog 62 #[.pointer (some ⟨P, 0, none⟩), .int .i64 recent] w fun e w' => e = .returned (.tuple #[]) ∧ VO mk P val (R ++ C.map (nrE recent)) [] (fpV P rv cv R) w w' := by
  obtain ⟨av, kv, hve, hvs⟩ := nms_of h.com
  subst hve
  have c3 := h.cells.c3
  have H0 := Lib.hid h
  clear h hvs
  go_enter Tryz.func62, Tryz.ntmps62
  go_wp2
  go_loopw [11] (fun i wr => ∃ k : Nat, k ≤ C.length ∧ i = .int .i64 k ∧ ∃ rv1, VAt mk P val rv1 (.slice av C.length kv) (R ++ (C.take k).map (nrE recent)) C wr ∧ FO (fpV P rv (.slice av C.length kv) R) (fpV P rv1 (.slice av C.length kv) (R ++ (C.take k).map (nrE recent))) w wr) (fun i _ => C.length - (intOf i).toNat)
  case atStart => exact ⟨0, Nat.zero_le _, rfl, rv, by simpa using H0.out, by simpa using FO.refl _ _⟩
  case round =>
    clear c3
    obtain ⟨k, hk, rfl, rv1, h1, f1⟩ := hrel
    by_cases hlt : k < C.length
    · have hlti : (k : Int) < (C.length : Int) := by omega
      have hst : (C.take (k + 1)).map (nrE recent) = (C.take k).map (nrE recent) ++ [nrE recent (C.getD k 0)] := by rw [take_snocI C k hlt, List.map_append]; rfl
      have hll : (R ++ (C.take k).map (nrE recent)).length ≤ 1000000 := by simp only [List.length_append, List.length_map, List.length_take]; omega
      obtain ⟨av2, kv2, hve2, hvs2⟩ := nms_of h1.com
      obtain ⟨g, off, hg0, hg, hcc⟩ := hvs2 (by omega)
      cases hve2
      subst hg0
      have ck := hcc k hlt
      obtain ⟨a4, k4, W4, r4, s4, h4, f4⟩ := h1.addR (nrE recent (C.getD k 0)) rfl (by omega)
      have c2 := h1.cells.c2
      have d2 := (selfV_cells s4).c2
      have g2 := (selfV_cells s4).f2
      rw [List.append_assoc, ← hst] at h4 f4
      have HO4 := Lib.hid h4
      have HF4 := Lib.hid (f1.trans f4)
      have r5 : (Builtin.append_ #[25, 25] 25 #[rv1, .slice (some ⟨wr.heap.size, 0, none⟩) 1 1]).run Tryz.prog (wr.alloc (.cells #[.int .i64 (C.getD k 0), .bool false, .bool (decide (recent ≤ C.getD k 0)), .pointer none] 82)) = .ok (.slice a4 ((R ++ (C.take k).map (nrE recent)).length + 1) k4) W4 := r4
      have R4 := Lib.hid r5
      clear hst h1 f1 r4 r5 s4 h4 f4 hcc hvs2
      generalize C.getD k 0 = u at *
      generalize (R ++ (C.take k).map (nrE recent)).length = nD at *
      by_cases h5 : recent ≤ u
      · rw [decide_eq_true h5] at R4
        go_wp2_with (at_builtin; refine append_by_run (u := rv1) (v := .slice (some ⟨wr.heap.size, 0, none⟩) 1 1) rfl _ _ _ rfl 25 rfl rfl rfl _ _ R4.out ?_)
        go_roundw
        case rel => exact ⟨k + 1, by omega, by go_num, _, HO4.out, HF4.out⟩
        case measure => simp [intOf]; omega
      · rw [decide_eq_false h5] at R4
        go_wp2_with (at_builtin; refine append_by_run (u := rv1) (v := .slice (some ⟨wr.heap.size, 0, none⟩) 1 1) rfl _ _ _ rfl 25 rfl rfl rfl _ _ R4.out ?_)
        go_roundw
        case rel => exact ⟨k + 1, by omega, by go_num, _, HO4.out, HF4.out⟩
        case measure => simp [intOf]; omega
    · obtain rfl : k = C.length := by omega
      rw [List.take_of_length_le (Nat.le_refl _)] at h1 f1
      obtain ⟨h2, f2⟩ := h1.noC
      have c3 := h1.cells.c3
      have g3 := h1.cells.f3
      have HO : Hid (VO mk P val (R ++ C.map (nrE recent)) [] (fpV P rv (.slice av C.length kv) R) w (wr.setCell ⟨P, 3, none⟩ (.slice none 0 0))) := Lib.hid ⟨_, _, h2, f1.trans f2⟩
      clear h1 f1 h2 f2
      go_wp2
      first | refine bodyPost_end (results_none rfl _ _ _) rfl ?_ | refine bodyPost_ret (results_none rfl _ _ _) rfl ?_
      exact ⟨rfl, HO.out⟩
end
set_option maxRecDepth 100000 in
set_option maxHeartbeats 2000000 in
theorem following_any (f : Int) (c : Nat) (w : World) (hf : -9223372036854775808 ≤ f) (hc : c ≤ 1000000) :
    Calls Tryz.prog 68 #[.int .i64 f, .int .i64 (c : Int)] w fun e w' => ∃ v', e = .returned v' ∧ OwnI w.heap.size v' (fol f c) w w' := by
  have HFE := Lib.hid (fol_eq c)
  go_enter Tryz.func68, Tryz.ntmps68
  go_wp2
  go_loopw [5, 6] (fun v5 n wr => ∃ k : Nat, k ≤ c ∧ n = .int .i64 (f + k) ∧ OwnI w.heap.size v5 (folN f k) w wr ∧ Hid (∀ i : Nat, i < k → f + i < 4294967295)) (fun v5 _ _ => c - (match v5 with | .slice _ n _ => n | _ => 0))
  case atStart => exact ⟨0, Nat.zero_le _, by simp, OwnI.nil (Below.refl _ _) (Nat.le_refl _), Lib.hid (fun i hi => by omega)⟩
  case round =>
    obtain ⟨k, hk, rfl, hO, HK⟩ := hrel
    have hrow := hO.row
    rw [folN_length] at hrow
    obtain ⟨a5, k5, hv5⟩ := ownsRow_shape hrow
    subst hv5
    have HO := Lib.hid hO
    clear hO hrow
    by_cases h1 : k < c
    · have h1i : (k : Int) < (c : Int) := by omega
      by_cases h2 : f + (k : Int) < 4294967295
      · have hb1 : -9223372036854775808 ≤ f + (k : Int) := by omega
        have HS := Lib.hid (folN_succ f k)
        have HE : Hid (f + (k : Int) + 1 = f + ((k + 1 : Nat) : Int)) := Lib.hid (by omega)
        have HK2 : Hid (∀ i : Nat, i < k + 1 → f + i < 4294967295) := Lib.hid (fun i hi => by
          by_cases e : i = k
          · subst e; exact h2
          · exact HK.out i (by omega))
        have HL : Hid ((folN f k).length + 1 ≤ 17592186044416) := Lib.hid (by rw [folN_length]; omega)
        generalize f + (k : Int) = x at *
        go_wp2_with (at_builtin; refine appI rfl _ _ rfl x HO.out rfl rfl HL.out ?_; intro v3 w3 ho3; have HO3 := Lib.hid ho3; clear ho3)
        go_roundw
        case rel => exact ⟨k + 1, by omega, by rw [HE.out], by rw [HS.out]; exact HO3.out, HK2⟩
        case measure =>
          have h7 := HO3.out.row
          rw [List.length_append, folN_length] at h7
          obtain ⟨a7, k7, hv7⟩ := ownsRow_shape h7
          subst hv7
          simp
          omega
      · have HR := Lib.hid (HFE.out k f hk HK.out (.inr (by omega)))
        go_wp2_with fail
        go_ret
        exact ⟨_, rfl, by rw [HR.out]; exact HO.out⟩
    · have h1i : ¬ (k : Int) < (c : Int) := by omega
      have HR := Lib.hid (HFE.out k f hk HK.out (.inl (by omega)))
      go_wp2_with fail
      go_ret
      exact ⟨_, rfl, by rw [HR.out]; exact HO.out⟩
theorem take_snocE (R : List RE) (k : Nat) (hk : k < R.length) : R.take (k + 1) = R.take k ++ [R.getD k RE0] := by
  rw [List.take_succ_eq_append_getElem hk]; simp [hk]
def pickU (p : RE → Bool) (R : List RE) : List Int := uidR (R.filter p)
theorem pickU_snoc (p : RE → Bool) (R : List RE) (r : RE) : pickU p (R ++ [r]) = pickU p R ++ (if p r = true then [r.uid] else []) := by
  unfold pickU uidR
  rw [List.filter_append, List.map_append]
  congr 1
  by_cases h : p r = true
  · rw [if_pos h, List.filter_cons_of_pos h]; rfl
  · rw [if_neg h, List.filter_cons_of_neg h]; rfl
theorem pickU_length (p : RE → Bool) (R : List RE) : (pickU p R).length ≤ R.length := by
  unfold pickU; rw [uidR_length]; exact List.length_filter_le _ _
section
variable {P : Nat} {mk : Bool} {val : Int} {rv cv : Value} {R : List RE} {C : List Int} {w : World} {N : Nat}
set_option maxRecDepth 100000 in
set_option maxHeartbeats 2000000 in
theorem uidsF_any (g : Nat) (eg : ∀ args w, (callFunc g args).run Tryz.prog w = .ok (.enter g args) w) (p : RE → Bool) (h : VAt mk P val rv cv R C w) (hR : R.length ≤ 1000000)
    (hp : ∀ (r : RE) (o : Option Addr) (X : World), r.ptr = .pointer o → Calls Tryz.prog g #[.agg #[.int .i64 r.uid, .bool r.gone, .bool r.rct, .pointer o]] X fun e w' => e = .returned (.bool (p r)) ∧ Below X.heap.size X w') :
    Calls Tryz.prog 32 #[.pointer (some ⟨P, 0, none⟩), .func (.func g) #[] #[]] w fun e w' => ∃ v', e = .returned v' ∧ OwnI w.heap.size v' (pickU p R) w w' := by
  have c2 := h.cells.c2
  obtain ⟨a2, k2, hv2, hcs2⟩ := rws_of h.rows
  subst hv2
  have HC := Lib.hid hcs2
  have HP := Lib.hid hp
  have HEg := Lib.hid eg
  clear h hcs2 hp
  go_enter Tryz.func32, Tryz.ntmps32
  go_wp2
  go_loopw [5, 13] (fun v5 i wr => ∃ k : Nat, k ≤ R.length ∧ i = .int .i64 k ∧ OwnI w.heap.size v5 (pickU p (R.take k)) w wr) (fun _ i _ => R.length - (intOf i).toNat)
  case atStart => exact ⟨0, Nat.zero_le _, rfl, OwnI.nil (Below.refl _ _) (Nat.le_refl _)⟩
  case round =>
    clear c2
    obtain ⟨k, hk, rfl, hO⟩ := hrel
    by_cases hlt : k < R.length
    · have hlti : (k : Int) < (R.length : Int) := by omega
      obtain ⟨b, off, rfl, hb, hcc⟩ := HC.out (by omega)
      obtain ⟨c4, c5, c6, c7⟩ := hcc k hlt
      rw [← hO.below.cell (p := ⟨b, off + k * 4, none⟩) hb] at c4
      rw [← hO.below.cell (p := ⟨b, off + k * 4 + 1, none⟩) hb] at c5
      rw [← hO.below.cell (p := ⟨b, off + k * 4 + 2, none⟩) hb] at c6
      rw [← hO.below.cell (p := ⟨b, off + k * 4 + 3, none⟩) hb] at c7
      have HS : Hid (pickU p (R.take (k + 1)) = pickU p (R.take k) ++ (if p (R.getD k RE0) = true then [(R.getD k RE0).uid] else [])) := Lib.hid (by rw [take_snocE R k hlt, pickU_snoc])
      have hpl := pickU_length p (R.take k)
      rw [List.length_take] at hpl
      obtain ⟨yo, hyo⟩ : ∃ yo, (R.getD k RE0).ptr = .pointer yo := ⟨_, rfl⟩
      have HPk := Lib.hid (fun X => HP.out (R.getD k RE0) yo X hyo)
      rw [hyo] at c7
      have HO := Lib.hid hO
      clear hcc hyo hO
      generalize (R.getD k RE0).uid = x at *
      generalize (R.getD k RE0).gone = yg at *
      generalize (R.getD k RE0).rct = yr at *
      generalize p (R.getD k RE0) = pp at *
      generalize pickU p (R.take k) = D at *
      have HZ : Hid (∀ w2, Below (wr.alloc (.cells #[.int .i64 x, .bool yg, .bool yr, .pointer yo] 82)).heap.size (wr.alloc (.cells #[.int .i64 x, .bool yg, .bool yr, .pointer yo] 82)) w2 → w2.cell? ⟨wr.heap.size, 0, none⟩ = some (.int .i64 x)) := Lib.hid (fun w2 hb2 => by
        have hn : (wr.alloc (.cells #[.int .i64 x, .bool yg, .bool yr, .pointer yo] 82)).heap[wr.heap.size]? = some (.cells #[.int .i64 x, .bool yg, .bool yr, .pointer yo] 82 (0, 0)) := heap_alloc_new wr _
        rw [hb2.cell (p := ⟨wr.heap.size, 0, none⟩) (by simp), cell_of hn 0]
        rfl)
      cases pp with
      | true =>
        go_wp2_with (first | (go_at_fn g; refine (HPk.out _).mono ?_; rintro e w2 ⟨rfl, hb2⟩; have HO2 := Lib.hid ((HO.out.alloc (.cells #[.int .i64 x, .bool yg, .bool yr, .pointer yo] 82)).on hb2); have cz := HZ.out _ hb2; clear hb2) | (at_builtin; refine appI rfl _ _ rfl x HO2.out rfl rfl (by omega) ?_; intro v3 w3 ho3; have HO3 := Lib.hid ho3; clear ho3))
        go_roundw
        case rel => exact ⟨k + 1, by omega, by go_num, by rw [HS.out]; exact HO3.out⟩
        case measure => simp [intOf]; omega
      | false =>
        go_wp2_with (go_at_fn g; refine (HPk.out _).mono ?_; rintro e w2 ⟨rfl, hb2⟩; have HO2 := Lib.hid ((HO.out.alloc (.cells #[.int .i64 x, .bool yg, .bool yr, .pointer yo] 82)).on hb2); clear hb2)
        go_roundw
        case rel => exact ⟨k + 1, by omega, by go_num, by rw [HS.out]; simpa using HO2.out⟩
        case measure => simp [intOf]; omega
    · obtain rfl : k = R.length := by omega
      rw [List.take_of_length_le (Nat.le_refl _)] at hO
      have HO := Lib.hid hO
      clear hO
      go_wp2
      go_ret
      exact ⟨_, rfl, HO.out⟩
end
end Go.Proofs.YtflkhnmggmfhfaaGreat
