/- view: where a row stands; its rows as lists. -/
import Derived.Test.YtiphbnmnoofpkaaQ16b
import Derived.Lib.Walk
import Derived.Deep.LoopGhost
namespace Go.Proofs.Ytiphbnmnoofpkaa
open Go.RowKit

def ixP : List Int → Int → Nat
  | [], _ => 0
  | x :: r, u => if x < u then ixP r u + 1 else 0
theorem ixP_le : ∀ (l : List Int) (u : Int), ixP l u ≤ l.length
  | [], _ => Nat.le_refl _
  | x :: r, u => by
    unfold ixP
    have := ixP_le r u
    split <;> simp <;> omega
theorem ixP_eq : ∀ (l : List Int) (u : Int) (i : Nat), i ≤ l.length → (∀ t, t < i → l.getD t 0 < u) → (∀ t, i ≤ t → t < l.length → u ≤ l.getD t 0) → ixP l u = i
  | [], u, i, h, _, _ => by simp at h; subst h; rfl
  | x :: r, u, 0, _, _, h2 => by
    have := h2 0 (Nat.le_refl _) (by simp)
    simp only [List.getD_cons_zero] at this
    unfold ixP
    rw [if_neg (by omega)]
  | x :: r, u, i + 1, h, h1, h2 => by
    have h0 := h1 0 (by omega)
    simp only [List.getD_cons_zero] at h0
    unfold ixP
    rw [if_pos h0, ixP_eq r u i (by simpa using h) (fun t ht => by have := h1 (t + 1) (by omega); simpa only [List.getD_cons_succ] using this) (fun t ht htl => by have := h2 (t + 1) (by omega) (by simp; omega); simpa only [List.getD_cons_succ] using this)]
def hitP (l : List Int) (u : Int) : Bool := decide (ixP l u < l.length ∧ l.getD (ixP l u) 0 = u)
theorem hitP_mem {l : List Int} {u : Int} (h : hitP l u = true) : u ∈ l := by
  unfold hitP at h
  rw [decide_eq_true_iff] at h
  rw [← h.2, List.getD_eq_getElem?_getD, List.getElem?_eq_getElem h.1]
  exact List.getElem_mem h.1
theorem ixP_mem : ∀ {l : List Int} {m u : Int}, riseF m l → u ∈ l → ixP l u < l.length ∧ l.getD (ixP l u) 0 = u
  | x :: r, m, u, ⟨a, b⟩, h => by
    rcases List.mem_cons.1 h with rfl | h
    · unfold ixP
      rw [if_neg (by omega)]
      simp
    · have hx := riseF_gt b h
      have := ixP_mem b h
      unfold ixP
      rw [if_pos hx]
      simp only [List.length_cons, List.getD_cons_succ]
      exact ⟨by omega, this.2⟩
theorem hitP_iff {l : List Int} {m u : Int} (hr : riseF m l) : hitP l u = true ↔ u ∈ l := by
  refine ⟨hitP_mem, fun h => ?_⟩
  unfold hitP
  rw [decide_eq_true_iff]
  exact ixP_mem hr h

/-- v is a list of rows, R, in memory. -/
def Rws (w : World) (v : Value) (R : List RE) : Prop :=
  ∃ a c, v = .slice a R.length c ∧ (0 < R.length → ∃ g off, a = some ⟨g, off, none⟩ ∧ g < w.heap.size ∧ ∀ i, i < R.length → w.cell? ⟨g, off + i * 4, none⟩ = some (.int .i64 (R.getD i RE0).uid) ∧ w.cell? ⟨g, off + i * 4 + 1, none⟩ = some (.bool (R.getD i RE0).gone) ∧ w.cell? ⟨g, off + i * 4 + 2, none⟩ = some (.bool (R.getD i RE0).rct) ∧ w.cell? ⟨g, off + i * 4 + 3, none⟩ = some (R.getD i RE0).ptr)
theorem Rws.on {w w' : World} {v : Value} {R : List RE} (h : Rws w v R) (hb : Below w.heap.size w w') : Rws w' v R := by
  obtain ⟨a, c, rfl, h⟩ := h
  refine ⟨a, c, rfl, fun hl => ?_⟩
  obtain ⟨g, off, e, hg, hc⟩ := h hl
  refine ⟨g, off, e, Nat.lt_of_lt_of_le hg hb.size, fun i hi => ?_⟩
  rw [hb.cell (p := ⟨g, off + i * 4, none⟩) hg, hb.cell (p := ⟨g, off + i * 4 + 1, none⟩) hg, hb.cell (p := ⟨g, off + i * 4 + 2, none⟩) hg, hb.cell (p := ⟨g, off + i * 4 + 3, none⟩) hg]
  exact hc i hi
theorem rws_of {w : World} {v : Value} {R : List RE} {B : Nat} (h : w.ownsRow B 75 4 v R.length (rwC R)) : Rws w v R := by
  rcases h.2 with ⟨rfl, h0⟩ | ⟨g, cap, cur, rfl, hB, hg, rest⟩
  · exact ⟨none, 0, by rw [h0], fun hl => by omega⟩
  · refine ⟨_, cap, rfl, fun _ => ⟨g, 0, rfl, lt_of_heap hg, fun i hi => ?_⟩⟩
    have := rwC_at R i hi
    have e : ∀ j u, (rwC R)[j]? = some u → w.cell? ⟨g, 0 + j, none⟩ = some u := fun j u hj => by
      have c1 := h.cells (g := g) rfl j u hj
      rw [Addr.add_lit] at c1
      exact c1
    exact ⟨e _ _ this.1, e (i * 4 + 1) _ this.2.1, e (i * 4 + 2) _ this.2.2.1, e (i * 4 + 3) _ this.2.2.2⟩
def uidR (R : List RE) : List Int := R.map RE.uid
theorem uidR_at (R : List RE) (i : Nat) : (uidR R).getD i 0 = (R.getD i RE0).uid := by
  unfold uidR
  rw [List.getD_eq_getElem?_getD, List.getElem?_map, List.getD_eq_getElem?_getD]
  cases R[i]? <;> rfl
theorem uidR_length (R : List RE) : (uidR R).length = R.length := by simp [uidR]

set_option maxHeartbeats 400000 in
theorem placeC_any (r : RE) (u : Int) (w : World) :
    Calls Try.prog 48 #[.agg #[.int .i64 r.uid, .bool r.gone, .bool r.rct, r.ptr], .int .i64 u] w fun e w' => e = .returned (.int .i64 (cmpI r.uid u)) ∧ Below w.heap.size w w' := by
  have H := Lib.hid (compare_any r.uid u)
  generalize cmpI r.uid u = q at *
  generalize r.uid = x at *
  generalize r.gone = y at *
  generalize r.rct = z at *
  generalize hp : r.ptr = p at *
  go_enter Try.func48, Try.ntmps48
  go_wp2_with (go_at_call 49; refine (H.out _).mono ?_; rintro e w1 ⟨rfl, rfl⟩)
  go_ret
  exact ⟨rfl, (Below.refl _ _).alloc (Nat.le_refl _) _⟩
theorem cmpI_neg (a b : Int) : cmpI a b < 0 ↔ a < b := by
  unfold cmpI
  split
  · omega
  split <;> omega
theorem cmpI_zero (a b : Int) : (cmpI a b == 0) = decide (a = b) := by
  unfold cmpI
  by_cases h1 : a < b
  · rw [if_pos h1]; simp; omega
  · rw [if_neg h1]
    by_cases h2 : b < a
    · rw [if_pos h2]; simp; omega
    · rw [if_neg h2]; simp; omega
end Go.Proofs.Ytiphbnmnoofpkaa

/- view: the search among rows; place, at, greatest, some. -/
namespace Go.Proofs.Ytiphbnmnoofpkaa
open Go.RowKit

set_option maxRecDepth 100000 in
set_option maxHeartbeats 4000000 in
theorem rsearch_any (v : Value) (R : List RE) (u : Int) (w : World) (hr : Rws w v R) (hl : R.length ≤ 1000000) (hc : riseF 0 (uidR R)) :
    Calls Try.prog 47 #[v, .int .i64 u, .func (.func 48) #[] #[]] w fun e w' => e = .returned (.tuple #[.int .i64 (ixP (uidR R) u : Nat), .bool (hitP (uidR R) u)]) ∧ Below w.heap.size w w' := by
  obtain ⟨ao, cap, hv, hcs⟩ := hr
  subst hv
  have HCS := Lib.hid hcs
  have HI : Hid (∀ i, i ≤ R.length → (∀ t, t < i → (R.getD t RE0).uid < u) → (∀ t, i ≤ t → t < R.length → u ≤ (R.getD t RE0).uid) → ixP (uidR R) u = i) := Lib.hid (fun i h1 h2 h3 => ixP_eq _ _ _ (by rw [uidR_length]; exact h1) (fun t ht => by rw [uidR_at]; exact h2 t ht) (fun t ht htl => by rw [uidR_at]; exact h3 t ht (by rw [uidR_length] at htl; exact htl)))
  have HM : Hid (∀ i j, i < j → j < R.length → (R.getD i RE0).uid < (R.getD j RE0).uid) := Lib.hid (fun i j h1 h2 => by have := riseF_getD hc i j h1 (by rw [uidR_length]; exact h2); rw [uidR_at, uidR_at] at this; exact this)
  have HH : Hid (hitP (uidR R) u = decide (ixP (uidR R) u < R.length ∧ (R.getD (ixP (uidR R) u) RE0).uid = u)) := Lib.hid (by unfold hitP; rw [uidR_length, uidR_at])
  clear hcs hc
  generalize hitP (uidR R) u = ht at *
  generalize ixP (uidR R) u = ix at *
  go_enter Try.func47, Try.ntmps47
  go_wp2_with fail
  go_loopg [9, 10] R.length (fun kx s9 s10 wr => ∃ lo hi : Nat, s9 = .int .i64 lo ∧ s10 = .int .i64 hi ∧ lo ≤ hi ∧ hi ≤ R.length ∧ hi - lo ≤ kx ∧ Below w.heap.size w wr ∧ Hid ((∀ t, t < lo → (R.getD t RE0).uid < u) ∧ (∀ t, hi ≤ t → t < R.length → u ≤ (R.getD t RE0).uid)))
  case atStart => exact ⟨0, R.length, rfl, rfl, Nat.zero_le _, Nat.le_refl _, by omega, Below.refl _ _, Lib.hid ⟨fun t ht => absurd ht (Nat.not_lt_zero _), fun t h1 h2 => by omega⟩⟩
  case round =>
    obtain ⟨lo, hi, rfl, rfl, hlh, hin, hg, hbw, I⟩ := hrel
    have hbl := hbw.size
    by_cases hlt : lo < hi
    · obtain ⟨b, off, hao, hbs, hc⟩ := HCS.out (by omega)
      subst hao
      obtain ⟨c1, c2, c3, c4⟩ := hc ((lo + hi) / 2) (by omega)
      rw [← hbw.cell (p := ⟨b, off + (lo + hi) / 2 * 4, none⟩) hbs] at c1
      rw [← hbw.cell (p := ⟨b, off + (lo + hi) / 2 * 4 + 1, none⟩) hbs] at c2
      rw [← hbw.cell (p := ⟨b, off + (lo + hi) / 2 * 4 + 2, none⟩) hbs] at c3
      rw [← hbw.cell (p := ⟨b, off + (lo + hi) / 2 * 4 + 3, none⟩) hbs] at c4
      have HS := Lib.hid (placeC_any (R.getD ((lo + hi) / 2) RE0) u)
      have HN := Lib.hid (cmpI_neg (R.getD ((lo + hi) / 2) RE0).uid u)
      obtain ⟨y, hy⟩ : ∃ y, y = (R.getD ((lo + hi) / 2) RE0).uid := ⟨_, rfl⟩
      have Y := Lib.hid hy
      rw [← hy] at c1 HS HN
      clear hc hy
      generalize (R.getD ((lo + hi) / 2) RE0).gone = yg at c2 HS
      generalize (R.getD ((lo + hi) / 2) RE0).rct = yr at c3 HS
      generalize (R.getD ((lo + hi) / 2) RE0).ptr = yp at c4 HS
      generalize cmpI y u = q at *
      by_cases hyx : y < u
      · have hq : q < 0 := HN.out.2 hyx
        go_wp2_with (go_at_call 48; refine (HS.out _).mono ?_; rintro e w' ⟨rfl, hb'⟩)
        go_roundg (hi - ((lo + hi) / 2 + 1))
        case measure => omega
        case rel =>
          refine ⟨(lo + hi) / 2 + 1, hi, by rw [show ((lo : Int) + (hi : Int)) / 2 + 1 = (((lo + hi) / 2 + 1 : Nat) : Int) by omega], rfl, by omega, hin, Nat.le_refl _, hbw.trans (hb'.mono hbl), Lib.hid ⟨fun t ht => ?_, I.out.2⟩⟩
          by_cases e : t = (lo + hi) / 2
          · subst e; rw [← Y.out]; exact hyx
          · have a := HM.out t ((lo + hi) / 2) (by omega) (by omega)
            rw [← Y.out] at a
            omega
      · have hq : ¬ q < 0 := fun h => hyx (HN.out.1 h)
        go_wp2_with (go_at_call 48; refine (HS.out _).mono ?_; rintro e w' ⟨rfl, hb'⟩)
        go_roundg ((lo + hi) / 2 - lo)
        case measure => omega
        case rel =>
          refine ⟨lo, (lo + hi) / 2, rfl, by rw [show ((lo : Int) + (hi : Int)) / 2 = (((lo + hi) / 2 : Nat) : Int) by omega], by omega, by omega, Nat.le_refl _, hbw.trans (hb'.mono hbl), Lib.hid ⟨I.out.1, fun t ht htn => ?_⟩⟩
          by_cases e : t = (lo + hi) / 2
          · subst e; rw [← Y.out]; omega
          · have a := HM.out ((lo + hi) / 2) t (by omega) htn
            rw [← Y.out] at a
            omega
    · obtain rfl : hi = lo := by omega
      have hix : ix = hi := HI.out hi hin I.out.1 I.out.2
      subst hix
      by_cases hn : ix < R.length
      · obtain ⟨b, off, hao, hbs, hc⟩ := HCS.out (by omega)
        subst hao
        obtain ⟨c1, c2, c3, c4⟩ := hc ix hn
        rw [← hbw.cell (p := ⟨b, off + ix * 4, none⟩) hbs] at c1
        rw [← hbw.cell (p := ⟨b, off + ix * 4 + 1, none⟩) hbs] at c2
        rw [← hbw.cell (p := ⟨b, off + ix * 4 + 2, none⟩) hbs] at c3
        rw [← hbw.cell (p := ⟨b, off + ix * 4 + 3, none⟩) hbs] at c4
        have HS := Lib.hid (placeC_any (R.getD ix RE0) u)
        have HZ := Lib.hid (cmpI_zero (R.getD ix RE0).uid u)
        have HT : Hid (ht = decide ((R.getD ix RE0).uid = u)) := Lib.hid (by rw [HH.out]; simp [hn])
        clear hc HH
        generalize (R.getD ix RE0).uid = x at *
        generalize (R.getD ix RE0).gone = yg at *
        generalize (R.getD ix RE0).rct = yr at *
        generalize (R.getD ix RE0).ptr = yp at *
        generalize cmpI x u = q at *
        rw [← HT.out] at HZ
        clear HT
        cases ht with
        | true =>
          have hq : (q == 0) = true := HZ.out
          go_wp2_with (go_at_call 48; refine (HS.out _).mono ?_; rintro e w' ⟨rfl, hb'⟩)
          go_ret2
          exact ⟨rfl, hbw.trans (hb'.mono hbl)⟩
        | false =>
          have hq : (q == 0) = false := HZ.out
          go_wp2_with (go_at_call 48; refine (HS.out _).mono ?_; rintro e w' ⟨rfl, hb'⟩)
          go_ret2
          exact ⟨rfl, hbw.trans (hb'.mono hbl)⟩
      · have HRR : Hid (ht = false) := Lib.hid (by rw [HH.out]; simp [hn])
        go_wp2
        go_ret2
        exact ⟨by rw [HRR.out]; rfl, hbw⟩

/-- What is always asked of a view. -/
structure VOK (R : List RE) (C : List Int) (N : Nat) : Prop where
  rise : riseF 0 (uidR R ++ C)
  top : ∀ x ∈ uidR R ++ C, x < 4294967295
  len : R.length + C.length ≤ N
theorem VOK.rows {R : List RE} {C : List Int} {N : Nat} (h : VOK R C N) : riseF 0 (uidR R) := ((riseF_append _ _ _).1 h.rise).1
section
variable {P : Nat} {val : Int} {rv cv : Value} {R : List RE} {C : List Int} {w : World} {N : Nat}
set_option maxHeartbeats 400000 in
theorem place_any (h : VAt P val rv cv R C w) (hk : VOK R C N) (hN : N ≤ 1000000) (u : Int) :
    Calls Try.prog 29 #[.pointer (some ⟨P, 0, none⟩), .int .i64 u] w fun e w' => e = .returned (.tuple #[.int .i64 (ixP (uidR R) u : Nat), .bool (hitP (uidR R) u)]) ∧ Below w.heap.size w w' := by
  have H := Lib.hid (rsearch_any rv R u w (rws_of h.rows) (by have := hk.len; omega) hk.rows)
  have c2 := h.cells.c2
  clear h hk
  generalize hitP (uidR R) u = ht at *
  generalize ixP (uidR R) u = ix at *
  go_enter Try.func29, Try.ntmps29
  go_wp2_with fail
  refine H.out.mono ?_
  rintro e w' ⟨rfl, hb'⟩
  go_wp2_with fail
  go_ret2
  exact ⟨rfl, hb'⟩
def atR (R : List RE) (u : Int) : RE := if hitP (uidR R) u = true then R.getD (ixP (uidR R) u) RE0 else RE0
set_option maxHeartbeats 1000000 in
theorem at_any (h : VAt P val rv cv R C w) (hk : VOK R C N) (hN : N ≤ 1000000) (u : Int) :
    Calls Try.prog 39 #[.pointer (some ⟨P, 0, none⟩), .int .i64 u] w fun e w' => e = .returned (.agg #[.int .i64 (atR R u).uid, .bool (atR R u).gone, .bool (atR R u).rct, (atR R u).ptr]) ∧ Below w.heap.size w w' := by
  have hb1 : Below w.heap.size w (w.alloc (.cells #[.int .i64 0, .bool false, .bool false, .pointer none] 75)) := (Below.refl _ _).alloc (Nat.le_refl _) _
  have h1 := h.on hb1
  have H := Lib.hid (place_any h1 hk hN u)
  have hn : (w.alloc (.cells #[.int .i64 0, .bool false, .bool false, .pointer none] 75)).heap[w.heap.size]? = some (.cells #[.int .i64 0, .bool false, .bool false, .pointer none] 75 (0, 0)) := heap_alloc_new w _
  have hz : w.heap.size < (w.alloc (.cells #[.int .i64 0, .bool false, .bool false, .pointer none] 75)).heap.size := by simp
  have HB1 := Lib.hid hb1
  have HR : Hid (∀ w2, Below (w.alloc (.cells #[.int .i64 0, .bool false, .bool false, .pointer none] 75)).heap.size (w.alloc (.cells #[.int .i64 0, .bool false, .bool false, .pointer none] 75)) w2 → w2.heap[w.heap.size]? = some (.cells #[.int .i64 0, .bool false, .bool false, .pointer none] 75 (0, 0))) := Lib.hid (fun w2 hb => by rw [hb.block _ hz]; exact hn)
  have HBB : Hid (∀ w2, Below (w.alloc (.cells #[.int .i64 0, .bool false, .bool false, .pointer none] 75)).heap.size (w.alloc (.cells #[.int .i64 0, .bool false, .bool false, .pointer none] 75)) w2 → Below w.heap.size w w2) := Lib.hid (fun w2 hb => hb1.trans (hb.mono (by simp)))
  clear hb1 hn
  unfold atR
  cases hh : hitP (uidR R) u with
  | false =>
    rw [hh] at H
    clear h hk h1
    generalize ixP (uidR R) u = ix at *
    simp only [Bool.false_eq_true, if_false]
    go_enter Try.func39, Try.ntmps39
    go_wp2_with (go_at_call 29; refine H.out.mono ?_; rintro e w' ⟨rfl, hb'⟩; have hr := HR.out _ hb'; have r0 := cell_of hr 0; have r1 := cell_of hr 1; have r2 := cell_of hr 2; have r3 := cell_of hr 3; have f0 := frozen_of hr 0; have f1 := frozen_of hr 1; have f2 := frozen_of hr 2; have f3 := frozen_of hr 3; have HB2 := Lib.hid (HBB.out _ hb'); simp only [List.getElem?_toArray, List.getElem?_cons_zero, List.getElem?_cons_succ] at r0 r1 r2 r3; clear hb' hr)
    refine bodyPost_ret (v := .agg #[.int .i64 RE0.uid, .bool RE0.gone, .bool RE0.rct, RE0.ptr]) (by simp [results, Try.results39, go_sem, r0, r1, r2, r3, RE0, RE.ptr]) rfl ⟨rfl, ?_⟩
    repeat (first | exact HB2.out | refine Below.setCell ?_ (by simp) _)
  | true =>
    have hix : ixP (uidR R) u < R.length := by
      unfold hitP at hh
      rw [decide_eq_true_iff, uidR_length] at hh
      exact hh.1
    have hR : R.length ≤ 1000000 := by have := hk.len; omega
    rw [hh] at H
    have c2 := h1.cells.c2
    obtain ⟨a, c, hv, hcs⟩ := rws_of h1.rows
    obtain ⟨g, off, rfl, hg, hc⟩ := hcs (by omega)
    subst hv
    obtain ⟨c4, c5, c6, c7⟩ := hc _ hix
    have hP : P < (w.alloc (.cells #[.int .i64 0, .bool false, .bool false, .pointer none] 75)).heap.size := lt_of_heap h1.self
    have hgn : g ≠ w.heap.size := by
      intro e
      have := (h.rows.lt g rfl).2
      omega
    clear h hk hcs hc hh h1
    simp only [if_true]
    obtain ⟨yo, hyo⟩ : ∃ yo, (R.getD (ixP (uidR R) u) RE0).ptr = .pointer yo := ⟨_, rfl⟩
    rw [hyo] at c7 ⊢
    clear hyo
    generalize (R.getD (ixP (uidR R) u) RE0).uid = x at *
    generalize (R.getD (ixP (uidR R) u) RE0).gone = yg at *
    generalize (R.getD (ixP (uidR R) u) RE0).rct = yr at *
    generalize ixP (uidR R) u = ix at *
    generalize R.length = n at *
    go_enter Try.func39, Try.ntmps39
    go_wp2_with (go_at_call 29; refine H.out.mono ?_; rintro e w' ⟨rfl, hb'⟩; rw [← hb'.cell (p := ⟨P, 2, none⟩) hP] at c2; rw [← hb'.cell (p := ⟨g, off + ix * 4, none⟩) hg] at c4; rw [← hb'.cell (p := ⟨g, off + ix * 4 + 1, none⟩) hg] at c5; rw [← hb'.cell (p := ⟨g, off + ix * 4 + 2, none⟩) hg] at c6; rw [← hb'.cell (p := ⟨g, off + ix * 4 + 3, none⟩) hg] at c7; have hr := HR.out _ hb'; have r0 := cell_of hr 0; have r1 := cell_of hr 1; have r2 := cell_of hr 2; have r3 := cell_of hr 3; have f0 := frozen_of hr 0; have f1 := frozen_of hr 1; have f2 := frozen_of hr 2; have f3 := frozen_of hr 3; have HB2 := Lib.hid (HBB.out _ hb'); simp only [List.getElem?_toArray, List.getElem?_cons_zero, List.getElem?_cons_succ] at r0 r1 r2 r3; clear hb' hr)
    refine bodyPost_ret (v := .agg #[.int .i64 x, .bool yg, .bool yr, .pointer yo]) (by simp [results, Try.results39, go_sem, r0, r1, r2, r3]) rfl ⟨rfl, ?_⟩
    repeat (first | exact HB2.out | refine Below.setCell ?_ (by simp) _)
end
end Go.Proofs.Ytiphbnmnoofpkaa
