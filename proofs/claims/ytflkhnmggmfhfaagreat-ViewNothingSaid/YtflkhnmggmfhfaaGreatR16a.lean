/- The document's view (postbagref16) in memory; what reads it. -/
import Derived.Test.YtflkhnmggmfhfaaGreatQ16l
namespace Go.Proofs.YtflkhnmggmfhfaaGreat
open Go.RowKit

/-- A row, as it lies in memory. -/
structure RR where
  uid : Int
  mod : Int
  gone : Bool
  rct : Bool
  waits : Bool
  fv : Value
  fl : List ByteArray
def RR.pl (r : RR) : PR := ⟨r.uid, r.gone, r.rct, if r.waits = true then some (r.mod, r.fl) else none⟩
def RR.enc (r : RR) : List Value := [.int .i64 r.uid, .int .i64 r.mod, .bool r.gone, .bool r.rct, .bool r.waits, r.fv]
def rrC (R : List RR) : List Value := R.flatMap RR.enc
def rrU (R : List RR) : List Int := R.map RR.uid
theorem rrU_length (R : List RR) : (rrU R).length = R.length := by simp [rrU]
theorem rrC_at : ∀ (R : List RR) (k i : Nat) (x : RR), R[k]? = some x → i < 6 → (rrC R)[k * 6 + i]? = (x.enc)[i]?
  | [], k, i, x, h, _ => by simp at h
  | t :: R, 0, i, x, h, hi => by
    simp at h
    subst h
    show (t.enc ++ rrC R)[0 * 6 + i]? = _
    rw [Nat.zero_mul, Nat.zero_add, List.getElem?_append_left (by simp [RR.enc]; omega)]
  | t :: R, k + 1, i, x, h, hi => by
    show (t.enc ++ rrC R)[(k + 1) * 6 + i]? = _
    rw [List.getElem?_append_right (by simp [RR.enc]; omega), show (k + 1) * 6 + i - t.enc.length = k * 6 + i by simp [RR.enc]; omega]
    exact rrC_at R k i x (by simpa using h) hi
/-- The document's view at block P. -/
structure RV (nn : Bool) (P : Nat) (val : Int) (rv cv : Value) (R : List RR) (C : List Int) (w : World) : Prop where
  self : w.heap[P]? = some (.cells #[.bool nn, .int .i64 val, rv, cv] 39 (0, 0))
  rows : w.ownsRow 0 102 6 rv R.length (rrC R)
  com : w.ownsRow 0 3 1 cv C.length (ic C)
  fls : ∀ r ∈ R, r.waits = true → w.ownsRow 0 9 1 r.fv r.fl.length (tcs r.fl)
section
variable {P : Nat} {nn : Bool} {val : Int} {rv cv : Value} {R : List RR} {C : List Int} {w w' : World}
theorem RV.cells (h : RV nn P val rv cv R C w) : w.cell? ⟨P, 0, none⟩ = some (.bool nn) ∧ w.cell? ⟨P, 1, none⟩ = some (.int .i64 val) ∧ w.cell? ⟨P, 2, none⟩ = some rv ∧ w.cell? ⟨P, 3, none⟩ = some cv :=
  ⟨cell_of h.self 0, cell_of h.self 1, cell_of h.self 2, cell_of h.self 3⟩
theorem RV.on (h : RV nn P val rv cv R C w) (hb : Below w.heap.size w w') : RV nn P val rv cv R C w' :=
  ⟨by rw [hb.block _ (lt_of_heap h.self)]; exact h.self, ownsRow_same h.rows (fun b e => hb.block b (h.rows.lt b e).2), ownsRow_same h.com (fun b e => hb.block b (h.com.lt b e).2), fun r hr hw => ownsRow_same (h.fls r hr hw) (fun b e => hb.block b ((h.fls r hr hw).lt b e).2)⟩
theorem RV.row (h : RV nn P val rv cv R C w) : ∃ a c, rv = .slice a R.length c ∧ (0 < R.length → ∃ g, a = some ⟨g, 0, none⟩ ∧ ∀ k, k < R.length → w.cell? ⟨g, k * 6, none⟩ = some (.int .i64 ((rrU R).getD k 0))) := by
  rcases h.rows.2 with ⟨e, h0⟩ | ⟨g, cap, cur, e, hB, hg, rest⟩
  · exact ⟨none, 0, by rw [e, h0], fun q => by omega⟩
  · refine ⟨some ⟨g, 0, none⟩, cap, e, fun _ => ⟨g, rfl, fun k hk => ?_⟩⟩
    obtain ⟨x, hx⟩ : ∃ x, R[k]? = some x := ⟨R[k], List.getElem?_eq_getElem hk⟩
    have hr := h.rows
    rw [e] at hr
    have := hr.cellAt (k * 6 + 0) (by omega)
    rw [rrC_at R k 0 x hx (by omega)] at this
    have hu : (rrU R).getD k 0 = x.uid := by
      unfold rrU
      rw [List.getD_eq_getElem?_getD, List.getElem?_map, hx]
      rfl
    rw [hu]
    exact this
theorem RV.flag (h : RV nn P val rv cv R C w) {k : Nat} {x : RR} (hx : R[k]? = some x) : ∃ g c, rv = .slice (some ⟨g, 0, none⟩) R.length c ∧ w.cell? ⟨g, k * 6 + 2, none⟩ = some (.bool x.gone) ∧ w.cell? ⟨g, k * 6 + 3, none⟩ = some (.bool x.rct) := by
  have hk : k < R.length := (List.getElem?_eq_some_iff.1 hx).1
  rcases h.rows.2 with ⟨e, h0⟩ | ⟨g, cap, cur, e, hB, hg, rest⟩
  · omega
  · have hr := h.rows
    rw [e] at hr
    have h2 := hr.cellAt (k * 6 + 2) (by omega)
    have h3 := hr.cellAt (k * 6 + 3) (by omega)
    rw [rrC_at R k 2 x hx (by omega)] at h2
    rw [rrC_at R k 3 x hx (by omega)] at h3
    exact ⟨g, cap, e, h2, h3⟩
end
/-- The first place of u, from n on; -1: none. -/
def fxF : List Int → Int → Nat → Int
  | [], _, _ => -1
  | x :: r, u, n => if x = u then (n : Int) else fxF r u (n + 1)
theorem fx_hit : ∀ (us : List Int) (u : Int) (n k : Nat), k < us.length → (∀ t, t < k → us.getD t 0 ≠ u) → us.getD k 0 = u → fxF us u n = ((n + k : Nat) : Int)
  | [], _, _, k, hk, _, _ => by simp at hk
  | x :: r, u, n, 0, _, _, h => by
    unfold fxF
    rw [if_pos (by simpa using h)]
    rfl
  | x :: r, u, n, k + 1, hk, ht, h => by
    unfold fxF
    rw [if_neg (by have := ht 0 (by omega); simpa using this), fx_hit r u (n + 1) k (by simpa using hk) (fun t h' => by have := ht (t + 1) (by omega); simpa using this) (by simpa using h)]
    congr 1
    omega
theorem fx_none : ∀ (us : List Int) (u : Int) (n : Nat), (∀ t, t < us.length → us.getD t 0 ≠ u) → fxF us u n = -1
  | [], _, _, _ => rfl
  | x :: r, u, n, ht => by
    unfold fxF
    rw [if_neg (by have := ht 0 (by simp); simpa using this), fx_none r u (n + 1) (fun t h' => by have := ht (t + 1) (by simpa using h'); simpa using this)]
def fxI (us : List Int) (u : Int) : Int := fxF us u 0
theorem fxI_hit {us : List Int} {u : Int} {k : Nat} (hk : k < us.length) (ht : ∀ t, t < k → us.getD t 0 ≠ u) (h : us.getD k 0 = u) : fxI us u = (k : Int) := by
  unfold fxI
  rw [fx_hit us u 0 k hk ht h, Nat.zero_add]
set_option maxRecDepth 100000 in
set_option maxHeartbeats 1000000 in
theorem rfind_any {P : Nat} {nn : Bool} {val : Int} {rv cv : Value} {R : List RR} {C : List Int} {w : World} (h : RV nn P val rv cv R C w) (u : Int) (hl : R.length ≤ 1000000) :
    Calls Tryz.prog 59 #[.pointer (some ⟨P, 0, none⟩), .int .i64 u] w fun e w' => e = .returned (.int .i64 (fxI (rrU R) u)) ∧ w' = w := by
  obtain ⟨a, c, rfl, hx⟩ := h.row
  obtain ⟨_, _, c2, _⟩ := h.cells
  have HX := Lib.hid hx
  have HY : Hid (∀ k, k < R.length → (∀ t, t < k → (rrU R).getD t 0 ≠ u) → (rrU R).getD k 0 = u → fxI (rrU R) u = (k : Int)) := Lib.hid (fun k hk ht e => fxI_hit (by rw [rrU_length]; exact hk) ht e)
  have HN : Hid ((∀ t, t < R.length → (rrU R).getD t 0 ≠ u) → fxI (rrU R) u = -1) := Lib.hid (fun ht => fx_none _ _ _ (fun t h' => ht t (by rw [rrU_length] at h'; exact h')))
  clear hx h
  generalize fxI (rrU R) u = z at *
  go_enter Tryz.func59, Tryz.ntmps59
  go_wp2_with fail
  go_loopw [5] (fun i wr => ∃ k : Nat, k ≤ R.length ∧ i = .int .i64 k ∧ wr = w ∧ Hid (∀ t, t < k → (rrU R).getD t 0 ≠ u)) (fun i _ => R.length - (intOf i).toNat)
  case atStart => exact ⟨0, Nat.zero_le _, rfl, rfl, Lib.hid (fun t ht => by omega)⟩
  case round =>
    obtain ⟨k, hk, rfl, rfl, HK⟩ := hrel
    by_cases hlt : k < R.length
    · have hlti : (k : Int) < (R.length : Int) := by omega
      obtain ⟨g, rfl, hc⟩ := HX.out (by omega)
      have k1 := hc k hlt
      have HYk := Lib.hid (HY.out k hlt HK.out)
      have HKk : Hid ((rrU R).getD k 0 ≠ u → ∀ t, t < k + 1 → (rrU R).getD t 0 ≠ u) := Lib.hid (fun e t ht => by
        by_cases et : t = k
        · rw [et]; exact e
        · exact HK.out t (by omega))
      clear hc
      generalize (rrU R).getD k 0 = x at *
      by_cases hxu : x = u
      · have hq : (x == u) = true := by simpa using hxu
        have HF : Hid (z = (k : Int)) := Lib.hid (HYk.out hxu)
        clear hxu HYk HKk
        go_wp2_with fail
        go_ret
        exact ⟨by rw [HF.out]; rfl, rfl⟩
      · have hq : (x == u) = false := by simpa using hxu
        have HKy := Lib.hid (HKk.out hxu)
        clear hxu HYk HKk
        go_wp2_with fail
        go_roundw
        case rel => exact ⟨k + 1, by omega, by go_num, (by first | rfl | trivial), HKy⟩
        case measure => simp [intOf]; omega
    · obtain rfl : k = R.length := by omega
      have HF : Hid (z = -1) := Lib.hid (HN.out HK.out)
      go_wp2_with fail
      go_ret
      exact ⟨by rw [HF.out]; rfl, rfl⟩
theorem fx_cases (us : List Int) (u : Int) : (fxI us u = -1 ∧ u ∉ us) ∨ ∃ k : Nat, k < us.length ∧ fxI us u = (k : Int) ∧ us.getD k 0 = u := by
  have key : ∀ (l : List Int) (n : Nat), (fxF l u n = -1 ∧ u ∉ l) ∨ ∃ k : Nat, k < l.length ∧ fxF l u n = ((n + k : Nat) : Int) ∧ l.getD k 0 = u := by
    intro l
    induction l with
    | nil => intro n; exact .inl ⟨rfl, by simp⟩
    | cons x r ih =>
      intro n
      unfold fxF
      by_cases hx : x = u
      · rw [if_pos hx]
        exact .inr ⟨0, by simp, rfl, by simpa using hx⟩
      · rw [if_neg hx]
        rcases ih (n + 1) with ⟨h1, h2⟩ | ⟨k, h1, h2, h3⟩
        · exact .inl ⟨h1, by simp [h2]; exact fun e => hx e.symm⟩
        · exact .inr ⟨k + 1, by simpa using h1, by rw [h2]; congr 1; omega, by simpa using h3⟩
  have := key us 0
  simp only [Nat.zero_add] at this
  exact this
end Go.Proofs.YtflkhnmggmfhfaaGreat
