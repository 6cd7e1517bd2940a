/- event: what differs in case alone stands once: slices.CompactFunc. -/
import Derived.Test.YtbncaiocmklgnaaGreatDoorV11d
import Derived.Lib.SliceRun
import Derived.Deep.RegionWith
import Derived.Deep.RegionHeld3
namespace Go.Proofs.YtbncaiocmklgnaaGreatDoor
open Go.RowKit Go.Sort

def sameT (x y : Tx) : Bool := same (L x.1) (L y.1)
/-- What stays of a row behind an element. -/
def goC (p : Tx) : List Tx → List Tx
  | [] => []
  | y :: t => if sameT y p = true then goC y t else y :: goC y t
def compactT : List Tx → List Tx
  | [] => []
  | x :: t => x :: goC x t
theorem drop_consT (l : List Tx) (m : Nat) (h : m < l.length) : l.drop m = l.toArray[m]! :: l.drop (m + 1) := by
  rw [List.drop_eq_getElem_cons h]
  simp [h]
theorem compact_pre (l : List Tx) (k : Nat) (hk : 1 ≤ k) (hl : k ≤ l.length) (h : ∀ j, 1 ≤ j → j < k → sameT l.toArray[j]! l.toArray[j - 1]! = false) :
    compactT l = l.take k ++ goC l.toArray[k - 1]! (l.drop k) := by
  induction k with
  | zero => omega
  | succ k ih =>
    cases k with
    | zero =>
      cases l with
      | nil => simp at hl
      | cons x t => simp [compactT]
    | succ k =>
      rw [ih (by omega) (by omega) (fun j h1 h2 => h j h1 (by omega)), drop_consT l (k + 1) (by omega)]
      have h2 := h (k + 1) (by omega) (by omega)
      simp only [Nat.add_sub_cancel] at h2 ⊢
      show _ ++ (if sameT l.toArray[k + 1]! l.toArray[k]! = true then goC l.toArray[k + 1]! (l.drop (k + 1 + 1)) else l.toArray[k + 1]! :: goC l.toArray[k + 1]! (l.drop (k + 1 + 1))) = _
      rw [h2, if_neg (by decide), List.take_succ_eq_append_getElem (i := k + 1) (by omega), List.append_assoc]
      have : l.toArray[k + 1]! = l[k + 1]'(by omega) := by simp [show k + 1 < l.length by omega]
      rw [this]
      rfl
theorem holds_on {w w' : World} {g : Nat} {d : Array Tx} (h : Holds encT w g 0 d) (hg : g < w.heap.size) (hb : Below w.heap.size w w') : Holds encT w' g 0 d := fun j hj =>
  ⟨by rw [hb.cell (p := ⟨g, 0 + j, none⟩) hg]; exact (h j hj).1, by rw [hb.frozen (p := ⟨g, 0 + j, none⟩) hg]; exact (h j hj).2⟩
theorem RowAt.on {B g : Nat} {l : List Tx} {W0 w w' : World} (h : RowAt B g l W0 w) (hb : Below w.heap.size w w') : RowAt B g l W0 w' :=
  ⟨holds_on h.holds h.lt hb, Nat.lt_of_lt_of_le h.lt hb.size, h.lo, h.below.trans (hb.mono (by have := h.lo; have := h.lt; omega))⟩
theorem RowAt.cell {B g : Nat} {l : List Tx} {W0 w : World} (h : RowAt B g l W0 w) (j : Nat) (hj : j < l.length) : w.cell? ⟨g, j, none⟩ = some (.string (l.toArray[j]!).1) ∧ w.frozen? ⟨g, j, none⟩ = false := by
  have := h.holds j (by simpa using hj)
  rw [Nat.zero_add] at this
  exact this
theorem holds_set {w : World} {g : Nat} {c : List Tx} (h : Holds encT w g 0 c.toArray) (i : Nat) (hi : i < c.length) (x : Tx) : Holds encT (w.setCell ⟨g, i, none⟩ (.string x.1)) g 0 (c.set i x).toArray := by
  intro j hj
  have hj' : j < c.length := by simpa using hj
  obtain ⟨h1, h2⟩ := h j (by simpa using hj')
  rw [Nat.zero_add] at h1 h2 ⊢
  refine ⟨?_, by simpa using h2⟩
  by_cases e : i = j
  · subst e
    rw [World.cell?_setCell_same _ _ _ h1]
    simp [hi, encT]
  · rw [World.cell?_setCell_other _ _ _ _ (by intro e'; simp only [Addr.mk.injEq] at e'; exact e e'.2.1), h1]
    simp [hj', e]
theorem same_any_T (x y : Tx) (w : World) : Calls Tryz.prog 26 #[.string x.1, .string y.1] w fun e w' => e = .returned (.bool (sameT x y)) ∧ Below w.heap.size w w' := Same_any x.1 y.1 w (by have := x.2; unfold maxLen; omega)
theorem sameS {wr X : World} {g a b : Nat} (x y : Tx) (hg : g < wr.heap.size) (h : X.cell? ⟨g, a, none⟩ = some (.string x.1) ∧ X.cell? ⟨g, b, none⟩ = some (.string y.1) ∧ Below wr.heap.size wr X) :
    Calls Tryz.prog 26 #[.string x.1, .string y.1] X fun e w' => e = .returned (.bool (sameT x y)) ∧ (w'.cell? ⟨g, a, none⟩ = some (.string x.1) ∧ w'.cell? ⟨g, b, none⟩ = some (.string y.1) ∧ Below wr.heap.size wr w') := by
  refine (same_any_T x y X).mono ?_
  rintro e w' ⟨rfl, hb⟩
  have hgX : g < X.heap.size := Nat.lt_of_lt_of_le hg h.2.2.size
  exact ⟨rfl, by rw [hb.cell (p := ⟨g, a, none⟩) hgX]; exact h.1, by rw [hb.cell (p := ⟨g, b, none⟩) hgX]; exact h.2.1, h.2.2.trans (hb.mono h.2.2.size)⟩
theorem goC_same {y p : Tx} {t : List Tx} (h : sameT y p = true) : goC p (y :: t) = goC y t := by
  show (if sameT y p = true then _ else _) = _
  rw [if_pos h]
theorem goC_diff {y p : Tx} {t : List Tx} (h : sameT y p = false) : goC p (y :: t) = y :: goC y t := by
  show (if sameT y p = true then _ else _) = _
  rw [h, if_neg (by decide)]
theorem below_cells {B g : Nat} (hB : B ≤ g) {W0 : World} : ∀ (vs : List Value) (o : Nat) (w : World), Below B W0 w → Below B W0 (w.setCells g o vs)
  | [], _, _, h => h
  | v :: vs, o, w, h => below_cells hB vs (o + 1) (w.setCell ⟨g, o, none⟩ v) (h.setCell (p := ⟨g, o, none⟩) hB v)
/-- The second loop: what is kept so far, and what is yet to come. -/
structure Comp (l : List Tx) (N ii c : Nat) (cur : List Tx) : Prop where
  len : cur.length = N
  lo : ii ≤ c
  kept : cur.take ii ++ goC l.toArray[c]! (l.drop (c + 1)) = compactT l
  high : ∀ j, c ≤ j → cur.toArray[j]! = l.toArray[j]!
theorem Comp.skip {l : List Tx} {N ii c : Nat} {cur : List Tx} (h : Comp l N ii c cur) (hc : c + 1 < l.length) (hs : sameT l.toArray[c + 1]! l.toArray[c]! = true) : Comp l N ii (c + 1) cur :=
  ⟨h.len, by have := h.lo; omega, by have := h.kept; rw [drop_consT l (c + 1) hc, goC_same hs] at this; exact this, fun j hj => h.high j (by omega)⟩
theorem Comp.put {l : List Tx} {N ii c : Nat} {cur : List Tx} (h : Comp l N ii c cur) (hN : N = l.length) (hc : c + 1 < l.length) (hs : sameT l.toArray[c + 1]! l.toArray[c]! = false) : Comp l N (ii + 1) (c + 1) (cur.set ii l.toArray[c + 1]!) := by
  have hlo := h.lo
  have hlen := h.len
  refine ⟨by simpa using hlen, by omega, ?_, fun j hj => ?_⟩
  · have := h.kept
    rw [drop_consT l (c + 1) hc, goC_diff hs] at this
    have hts : (cur.set ii l.toArray[c + 1]!).take ii = cur.take ii := by
      apply List.ext_getElem?
      intro k
      rw [List.getElem?_take, List.getElem?_take]
      by_cases hk : k < ii
      · rw [if_pos hk, if_pos hk, List.getElem?_set_ne (by omega)]
      · rw [if_neg hk, if_neg hk]
    rw [← this, List.take_succ_eq_append_getElem (by simp; omega), hts, List.getElem_set_self, List.append_assoc]
    rfl
  · rw [← h.high j (by omega)]
    simp only [List.getElem!_toArray]
    rw [List.getElem!_eq_getElem?_getD, List.getElem?_set_ne (by omega), ← List.getElem!_eq_getElem?_getD]
set_option maxHeartbeats 8000000 in
set_option maxRecDepth 100000 in
theorem compact_any {B g : Nat} {l : List Tx} {W0 w : World} (h : RowAt B g l W0 w) (hl : l.length ≤ 1000) (hl1 : 1 ≤ l.length) (cap : Nat) (hcap : l.length ≤ cap) :
    Calls Tryz.prog 25 #[.slice (some ⟨g, 0, none⟩) l.length cap, .func (.func 26) #[] #[]] w fun e w' => e = .returned (.slice (some ⟨g, 0, none⟩) (compactT l).length cap) ∧ RowAt B g (compactT l) W0 w' := by
  by_cases h2 : l.length < 2
  · have e : compactT l = l := by
      match l, hl1, h2 with
      | [x], _, _ => rfl
    rw [e]
    have HH := Lib.hid h
    have h2i : (l.length : Int) < 2 := by omega
    clear h e
    go_enter Tryz.func25, Tryz.ntmps25
    go_wp2
    go_ret
    exact ⟨rfl, HH.out⟩
  have h2i : ¬ (l.length : Int) < 2 := by omega
  obtain ⟨N, hN⟩ : ∃ N, N = l.length := ⟨_, rfl⟩
  have HH := Lib.hid h
  have HN := Lib.hid hN
  rw [← hN] at hl h2i hcap h2 ⊢
  clear h hN hl1
  go_enter Tryz.func25, Tryz.ntmps25
  go_wp2
  go_loopw [5] (fun s5 wr => ∃ k : Nat, 1 ≤ k ∧ k ≤ N ∧ s5 = .int .i64 k ∧ Hid (∀ j, 1 ≤ j → j < k → sameT l.toArray[j]! l.toArray[j - 1]! = false) ∧ RowAt B g l W0 wr) (fun i _ => N - (intOf i).toNat)
  case atStart => exact ⟨1, Nat.le_refl _, by omega, rfl, Lib.hid (fun j h1 h2 => absurd h2 (by omega)), HH.out⟩
  case round =>
    obtain ⟨k, hk1, hk, rfl, HA, hR⟩ := hrel
    obtain ⟨m, rfl⟩ : ∃ m, k = m + 1 := ⟨k - 1, by omega⟩
    by_cases hlt : m + 1 < N
    · have hkl : m + 1 < l.length := by rw [← HN.out]; exact hlt
      have hc1 := (hR.cell (m + 1) hkl).1
      have hc0 := (hR.cell m (by omega)).1
      have hm0 : (0 : Int) ≤ (m : Int) := by omega
      have hmn : m < N := by omega
      have hw3 : IntKind.i64.wrap (m : Int) = (m : Int) := by rw [IntKind.wrap_i64]; omega
      have hm1 : (m : Int) < (N : Int) := by omega
      have hk0 : (0 : Int) ≤ (m : Int) + 1 := by omega
      have hk2 : (m : Int) + 1 < (N : Int) := by omega
      have hkt : ((m : Int) + 1).toNat = m + 1 := by omega
      have hw1 : IntKind.i64.wrap ((m : Int) + 1 - 1) = (m : Int) := by rw [IntKind.wrap_i64]; omega
      have hw2 : IntKind.i64.wrap (((m + 1 : Nat) : Int) - 1) = (m : Int) := by rw [IntKind.wrap_i64]; omega
      have hgl := hR.lt
      have HR := Lib.hid hR
      clear hR
      cases hsm : sameT l.toArray[m + 1]! l.toArray[m]! with
      | true =>
        have HC := Lib.hid (fun X hX => sameS (X := X) (a := m + 1) (b := m) l.toArray[m + 1]! l.toArray[m]! hgl hX)
        rw [hsm] at HC
        have HCo : Hid (Comp l N (m + 1) (m + 1) l) := Lib.hid ⟨HN.out.symm, Nat.le_refl _, by
          rw [compact_pre l (m + 1) (by omega) (by omega) HA.out, drop_consT l (m + 1) hkl, Nat.add_sub_cancel, goC_same hsm], fun _ _ => rfl⟩
        clear hsm HA
        generalize (l.toArray[m + 1]!).1 = tk at *
        generalize (l.toArray[m]!).1 = tm at *
        go_wp2_with fail
        go_region_held3 (fun X => X.cell? ⟨g, m + 1, none⟩ = some (.string tk) ∧ X.cell? ⟨g, m, none⟩ = some (.string tm) ∧ Below wr.heap.size wr X) (first | exact ⟨hc1, hc0, (Below.refl _ _).drew⟩ | assumption) (first | (go_at_call 26; refine (HC.out _ ?_).mono ?_; assumption; rintro e w1 ⟨rfl, hs1⟩))
        simp only [Exit.then]
        have HR1 := Lib.hid (HR.out.on hs1.2.2)
        clear hs1 hc1 hc0 HC hgl HR
        have hsl : (m : Int) + 1 ≤ (N : Int) := by omega
        go_wp2_with fail
        obtain ⟨R, hRr⟩ : ∃ R, R = N - (m + 1) := ⟨_, rfl⟩
        obtain ⟨C, hCc⟩ : ∃ C, C = cap - (m + 1) := ⟨_, rfl⟩
        rw [← hRr, ← hCc]
        have HRr : Hid (m + 1 + R = N) := Lib.hid (by omega)
        clear hRr hCc
        go_loopw [5, 7] (fun s5 s7 wr => ∃ (ii q : Nat) (cur : List Tx), s5 = .int .i64 ii ∧ s7 = .int .i64 ((q + 1 : Nat) : Int) ∧ m + 1 + q + 1 ≤ N ∧ Hid (Comp l N ii (m + 1 + q) cur) ∧ RowAt B g cur W0 wr) (fun _ s7 _ => N - (intOf s7).toNat)
        case atStart => exact ⟨m + 1, 0, l, rfl, rfl, by omega, HCo, HR1.out⟩
        case round =>
          rename_i wr0 _ _ _
          obtain ⟨ii, q, cur, rfl, rfl, hq, HCm, hRc⟩ := hrel
          have hcl := HCm.out.len
          have hlo := HCm.out.lo
          have hgl := hRc.lt
          by_cases hlt2 : m + 1 + q + 1 < N
          · have hcy := (hRc.cell (m + 1 + q + 1) (by omega)).1
            have hcp := (hRc.cell (m + 1 + q) (by omega)).1
            obtain ⟨hci, hfi⟩ := hRc.cell ii (by omega)
            rw [HCm.out.high _ (by omega)] at hcy hcp
            have hRN := HRr.out
            have q0 : (0 : Int) ≤ (q : Int) := by omega
            have q1 : (q : Int) < (R : Int) := by omega
            have q2 : q < R := by omega
            have q3 : (0 : Int) ≤ (q : Int) + 1 := by omega
            have q4 : (q : Int) + 1 < (R : Int) := by omega
            have q5 : q + 1 < R := by omega
            have q6 : ((q : Int) + 1).toNat = q + 1 := by omega
            have q7 : IntKind.i64.wrap (q : Int) = (q : Int) := by rw [IntKind.wrap_i64]; omega
            have q8 : IntKind.i64.wrap ((q : Int) + 1 - 1) = (q : Int) := by rw [IntKind.wrap_i64]; omega
            clear hRN
            have HRc := Lib.hid hRc
            have hyl : m + 1 + q + 1 < l.length := by rw [← HN.out]; exact hlt2
            cases hsm : sameT l.toArray[m + 1 + q + 1]! l.toArray[m + 1 + q]! with
            | true =>
              have HC := Lib.hid (fun X hX => sameS (X := X) (a := m + 1 + q + 1) (b := m + 1 + q) l.toArray[m + 1 + q + 1]! l.toArray[m + 1 + q]! hgl hX)
              rw [hsm] at HC
              have HCm2 := Lib.hid (HCm.out.skip hyl hsm)
              clear hsm HCm hRc hci hfi
              generalize (l.toArray[m + 1 + q + 1]!).1 = ty at *
              generalize (l.toArray[m + 1 + q]!).1 = tp at *
              have hcy' : wr.cell? ⟨g, m + 1 + (q + 1), none⟩ = some (.string ty) := hcy
              clear hcy
              go_wp2_with fail
              go_region_held3 (fun X => X.cell? ⟨g, m + 1 + (q + 1), none⟩ = some (.string ty) ∧ X.cell? ⟨g, m + 1 + q, none⟩ = some (.string tp) ∧ Below wr.heap.size wr X) (first | exact ⟨hcy', hcp, (Below.refl _ _).drew⟩ | assumption) (first | (go_at_call 26; refine (HC.out _ ?_).mono ?_; assumption; rintro e w2 ⟨rfl, hs2⟩))
              simp only [Exit.then]
              have hR2 := HRc.out.on hs2.2.2
              have hcy2 := hs2.1
              have HR2 := Lib.hid hR2
              clear hs2 hcy' hcp HC hgl HRc hR2 hcy2
              go_wp2_with fail
              go_roundw
              case rel => exact ⟨ii, q + 1, cur, rfl, by go_num, by omega, HCm2, HR2.out⟩
              case measure => simp [intOf]; omega
            | false =>
              have HC := Lib.hid (fun X hX => sameS (X := X) (a := m + 1 + q + 1) (b := m + 1 + q) l.toArray[m + 1 + q + 1]! l.toArray[m + 1 + q]! hgl hX)
              rw [hsm] at HC
              have HCm2 := Lib.hid (HCm.out.put HN.out hyl hsm)
              have HSet := Lib.hid (fun (W : World) (hW : RowAt B g cur W0 W) => (⟨holds_set hW.holds ii (by omega) l.toArray[m + 1 + q + 1]!, by simpa using hW.lt, hW.lo, hW.below.setCell (p := ⟨g, ii, none⟩) hW.lo _⟩ : RowAt B g (cur.set ii l.toArray[m + 1 + q + 1]!) W0 (W.setCell ⟨g, ii, none⟩ (.string (l.toArray[m + 1 + q + 1]!).1))))
              have hii : ii < N := by omega
              have hii0 : (0 : Int) ≤ (ii : Int) := by omega
              have hii1 : (ii : Int) < (N : Int) := by omega
              have hii2 : (ii : Int) + 1 ≤ 2000 := by omega
              clear hsm HCm hRc hci hfi
              obtain ⟨z, hz⟩ : ∃ z, z = l.toArray[m + 1 + q + 1]! := ⟨_, rfl⟩
              rw [← hz] at HC hcy HCm2 HSet
              clear hz
              generalize (l.toArray[m + 1 + q]!).1 = tp at *
              obtain ⟨ty, hty⟩ : ∃ ty, ty = z.1 := ⟨_, rfl⟩
              rw [← hty] at HC hcy HSet
              clear hty
              have hcy' : wr.cell? ⟨g, m + 1 + (q + 1), none⟩ = some (.string ty) := hcy
              clear hcy
              go_wp2_with fail
              go_region_held3 (fun X => X.cell? ⟨g, m + 1 + (q + 1), none⟩ = some (.string ty) ∧ X.cell? ⟨g, m + 1 + q, none⟩ = some (.string tp) ∧ Below wr.heap.size wr X) (first | exact ⟨hcy', hcp, (Below.refl _ _).drew⟩ | assumption) (first | (go_at_call 26; refine (HC.out _ ?_).mono ?_; assumption; rintro e w2 ⟨rfl, hs2⟩))
              simp only [Exit.then]
              have hR2 := HRc.out.on hs2.2.2
              have hcy2 := hs2.1
              obtain ⟨hci2, hfi2⟩ := hR2.cell ii (by omega)
              have HR2 := Lib.hid hR2
              clear hs2 hcy' hcp HC hgl HRc hR2
              go_wp2_with fail
              go_roundw
              case rel => exact ⟨ii + 1, q + 1, cur.set ii z, by go_num, by go_num, by omega, HCm2, HSet.out _ HR2.out⟩
              case measure => simp [intOf]; omega
          · have hend : m + 1 + q + 1 = N := by omega
            have hRN := HRr.out
            have q4 : ¬ (q : Int) + 1 < (R : Int) := by omega
            have hcmp : cur.take ii = compactT l := by
              have := HCm.out.kept
              rw [List.drop_of_length_le (by rw [← HN.out]; omega)] at this
              simpa [goC] using this
            have hlen : (compactT l).length = ii := by rw [← hcmp, List.length_take]; omega
            have hcl2 : ∀ ty, (Builtin.clear_ #[22] ty #[.slice (some ⟨g, ii, none⟩) (N - ii) (cap - ii)]).run Tryz.prog wr = .ok (.tuple #[]) (wr.setCells g ii (List.replicate (N - ii) (.string ⟨#[]⟩))) :=
              fun ty => Lib.run_clear_slice wr _ _ ty (.string ⟨#[]⟩) Tryz.underlying22 (fun _ => by kernel_rfl) rfl rfl g ii _ _ (by omega) (fun j hj => by rw [(hRc.cell (ii + j) (by omega)).1]; rfl) (fun j hj => (hRc.cell (ii + j) (by omega)).2)
            have HFin : Hid (RowAt B g (compactT l) W0 (wr.setCells g ii (List.replicate (N - ii) (.string ⟨#[]⟩)))) := Lib.hid (by
              refine ⟨fun j hj => ?_, ?_, hRc.lo, below_cells hRc.lo _ _ _ hRc.below⟩
              · have hj' : j < ii := by rw [← hlen]; simpa using hj
                obtain ⟨e1, e2⟩ := hRc.holds j (by simp; omega)
                refine ⟨?_, by rw [World.frozen?_setCells]; exact e2⟩
                rw [World.cell?_setCells_out g _ _ _ _ (fun _ _ => .inl (by simp; omega)), e1]
                congr 1
                rw [← hcmp]
                simp [show j < cur.length by omega, hj']
              · have := (below_cells (Nat.le_refl g) (List.replicate (N - ii) (.string ⟨#[]⟩)) ii wr (Below.refl g wr)).size
                omega)
            have HLen := Lib.hid hlen
            have hii0 : (0 : Int) ≤ (ii : Int) := by omega
            have hii1 : (ii : Int) ≤ (N : Int) := by omega
            have hii3 : ii ≤ N := by omega
            have hii4 : (ii : Int) ≤ (cap : Int) := by omega
            clear hcmp hlen hRc HCm hRN
            go_wp2_with fail
            go_ret
            rw [HLen.out]
            exact ⟨rfl, HFin.out⟩
      | false =>
        have HC := Lib.hid (fun X hX => sameS (X := X) (a := m + 1) (b := m) l.toArray[m + 1]! l.toArray[m]! hgl hX)
        rw [hsm] at HC
        have HA2 : Hid (∀ j, 1 ≤ j → j < m + 2 → sameT l.toArray[j]! l.toArray[j - 1]! = false) := Lib.hid (fun j h1 h2 => by
          rcases Nat.lt_or_ge j (m + 1) with h | h
          · exact HA.out j h1 h
          · obtain rfl : j = m + 1 := by omega
            exact hsm)
        clear hsm HA
        generalize (l.toArray[m + 1]!).1 = tk at *
        generalize (l.toArray[m]!).1 = tm at *
        go_wp2_with fail
        go_region_held3 (fun X => X.cell? ⟨g, m + 1, none⟩ = some (.string tk) ∧ X.cell? ⟨g, m, none⟩ = some (.string tm) ∧ Below wr.heap.size wr X) (first | exact ⟨hc1, hc0, (Below.refl _ _).drew⟩ | assumption) (first | (go_at_call 26; refine (HC.out _ ?_).mono ?_; assumption; rintro e w1 ⟨rfl, hs1⟩))
        simp only [Exit.then]
        have HR1 := Lib.hid (HR.out.on hs1.2.2)
        clear hs1 hc1 hc0 HC hgl HR
        go_wp2_with fail
        go_roundw
        case rel => exact ⟨m + 2, by omega, by omega, by go_num, HA2, HR1.out⟩
        case measure => simp [intOf]; omega
    · obtain rfl : N = m + 1 := by omega
      have hfin : compactT l = l := by
        have := compact_pre l (m + 1) (by omega) (by rw [← HN.out]; exact Nat.le_refl _) HA.out
        rw [this, List.drop_of_length_le (by rw [← HN.out]; exact Nat.le_refl _), List.take_of_length_le (by rw [← HN.out]; exact Nat.le_refl _)]
        simp [goC]
      have HFin := Lib.hid hfin
      have HR := Lib.hid hR
      have hli : ¬ (m : Int) + 1 < (m : Int) + 1 := by omega
      clear hR hfin HA
      go_wp2_with fail
      go_ret
      rw [HFin.out, ← HN.out]
      exact ⟨rfl, HR.out⟩
end Go.Proofs.YtbncaiocmklgnaaGreatDoor
