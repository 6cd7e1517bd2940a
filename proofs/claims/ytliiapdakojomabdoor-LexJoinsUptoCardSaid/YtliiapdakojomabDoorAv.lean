/- lex: EqualFunc over words. -/
import Derived.Test.YtliiapdakojomabDoorAu
namespace Go.Proofs.YtliiapdakojomabDoor
open Go.RowKit

theorem Lies.on {w w' : World} {D : Nat → Prop} {a : Option Addr} {n c : Nat} {l : List Wd} (h : Lies w D a n c l) (hb : Below w.heap.size w w') : Lies w' D a n c l :=
  h.mono (fun g _ hlt => ⟨Nat.lt_of_lt_of_le hlt hb.size, fun i => cell_of_heap (hb.block g hlt) i⟩) (fun _ x => x)
/-- What lies at a place of a list. -/
theorem Lies.pick {w : World} {D : Nat → Prop} {a : Option Addr} {n c : Nat} {l : List Wd} (h : Lies w D a n c l) (i : Nat) (hi : i < l.length) : ∃ g off, a = some ⟨g, off, none⟩ ∧ l.length ≤ maxLen ∧ ∃ va vn vc, (w.cell? ⟨g, off + i * 4, none⟩ = some (.int .i64 (l.getD i wd0).kind) ∧ w.cell? ⟨g, off + i * 4 + 1, none⟩ = some (.string (l.getD i wd0).text) ∧ w.cell? ⟨g, off + i * 4 + 2, none⟩ = some (.slice va vn vc) ∧ w.cell? ⟨g, off + i * 4 + 3, none⟩ = some (.bool (l.getD i wd0).glued)) ∧ Lies w D va vn vc (l.getD i wd0).kids := by
  cases h with
  | nil => simp at hi
  | row g off cap l va vn vc hD hg hn hc hk => exact ⟨g, off, rfl, hn, va i, vn i, vc i, hc i hi, hk i hi⟩
/-- One round of comparing. -/
theorem eqL_all (l m : List Wd) (h : l.length = m.length) (hl : eqL (l.take l.length) (m.take l.length) = true) : eqL l m = true := by
  rw [List.take_length, h, List.take_length] at hl
  exact hl
set_option maxRecDepth 100000 in
set_option maxHeartbeats 4000000 in
theorem EqualFunc_step (l1 l2 : List Wd) (a1 a2 : Option Addr) (n1 c1 n2 c2 : Nat) (D1 D2 : Nat → Prop) (w : World) (h1 : Lies w D1 a1 n1 c1 l1) (h2 : Lies w D2 a2 n2 c2 l2)
    (ih : ∀ i, i < l1.length → ∀ (va vb : Option Addr) (vn vc wn wc : Nat), Lies w D1 va vn vc (l1.getD i wd0).kids → Lies w D2 vb wn wc (l2.getD i wd0).kids → ∀ W, Below w.heap.size w W → Calls Tryd.prog 38 #[.slice va vn vc, .slice vb wn wc, .func (.func 39) #[] #[]] W fun e w' => e = .returned (.bool (eqL (l1.getD i wd0).kids (l2.getD i wd0).kids)) ∧ Below W.heap.size W w') (W : World) (hW : Below w.heap.size w W) :
    Calls Tryd.prog 38 #[.slice a1 n1 c1, .slice a2 n2 c2, .func (.func 39) #[] #[]] W fun e w' => e = .returned (.bool (eqL l1 l2)) ∧ Below W.heap.size W w' := by
  obtain rfl := h1.len
  obtain rfl := h2.len
  by_cases hl : l1.length = l2.length
  · have hz : ((l1.length : Int) != (l2.length : Int)) = false := by rw [hl]; simp
    have H1 := Lib.hid h1
    have H2 := Lib.hid h2
    have HIH := Lib.hid ih
    have HL := Lib.hid hl
    have HW := Lib.hid hW
    clear h1 h2 ih hl hW
    go_enter Tryd.func38, Tryd.ntmps38
    go_wp2_with fail
    go_loopg [17] l1.length (fun gg s17 wr => ∃ (k : Nat) (X : World), X = wr ∧ k ≤ l1.length ∧ l1.length - k ≤ gg ∧ s17 = .int .i64 k ∧ Hid (Below W.heap.size W X) ∧ Hid (eqL (l1.take k) (l2.take k) = true))
    case atStart => exact ⟨0, _, rfl, Nat.zero_le _, by omega, rfl, Lib.hid (Below.refl _ _), Lib.hid (by simp [eqL])⟩
    case round =>
      obtain ⟨k, X, hX, hk, hgg, rfl, HB, HE⟩ := hrel
      subst hX
      by_cases hlt : k < l1.length
      · have hbX : Below w.heap.size w X := HW.out.trans (HB.out.mono HW.out.size)
        obtain ⟨g1, o1, rfl, hm1, va, vn, vc, ⟨p0, p1, p2, p3⟩, hk1⟩ := H1.out.pick k hlt
        obtain ⟨g2, o2, rfl, hm2, vb, wn, wc', ⟨r0, r1, r2, r3⟩, hk2⟩ := H2.out.pick k (by rw [← HL.out]; exact hlt)
        replace p0 := cellB p0 hbX
        replace p1 := cellB p1 hbX
        replace p2 := cellB p2 hbX
        replace p3 := cellB p3 hbX
        replace r0 := cellB r0 hbX
        replace r1 := cellB r1 hbX
        replace r2 := cellB r2 hbX
        replace r3 := cellB r3 hbX
        have hb2 : Below X.heap.size X ((X.alloc (.cells #[.int .i64 (l1.getD k wd0).kind, .string (l1.getD k wd0).text, .slice va vn vc, .bool (l1.getD k wd0).glued] 33)).alloc (.cells #[.int .i64 (l2.getD k wd0).kind, .string (l2.getD k wd0).text, .slice vb wn wc', .bool (l2.getD k wd0).glued] 33)) := ((Below.refl _ _).alloc (Nat.le_refl _) _).alloc (by simp) _
        have HS := Lib.hid (isSame_of (l1.getD k wd0) (l2.getD k wd0) va vb vn vc wn wc' ((X.alloc (.cells #[.int .i64 (l1.getD k wd0).kind, .string (l1.getD k wd0).text, .slice va vn vc, .bool (l1.getD k wd0).glued] 33)).alloc (.cells #[.int .i64 (l2.getD k wd0).kind, .string (l2.getD k wd0).text, .slice vb wn wc', .bool (l2.getD k wd0).glued] 33)) (fun W' hW' => HIH.out k hlt va vb vn vc wn wc' hk1 hk2 W' ((hbX.trans (hb2.mono hbX.size)).trans (hW'.mono (Nat.le_trans hbX.size hb2.size)))))
        have HT := Lib.hid (eqL_take k l1 l2 HL.out hlt HE.out)
        have HN := Lib.hid (eqL_no k l1 l2 HL.out hlt)
        have hkz : (k : Int) < (l1.length : Int) := by omega
        have hkz2 : (k : Int) < (l2.length : Int) := by have := HL.out; omega
        have hk0 : (0 : Int) ≤ (k : Int) := by omega
        have hml : l1.length ≤ 9223372036854775807 := by unfold maxLen at hm1; omega
        have HB2 := Lib.hid (HB.out.trans (hb2.mono HB.out.size))
        clear hm1 hm2 hbX hb2 hk1 hk2 HE HIH
        generalize eqW (l1.getD k wd0) (l2.getD k wd0) = ew at *
        generalize (l1.getD k wd0).kind = ck at *
        generalize (l1.getD k wd0).text = ct at *
        generalize (l1.getD k wd0).glued = cg at *
        generalize (l2.getD k wd0).kind = dk at *
        generalize (l2.getD k wd0).text = dt at *
        generalize (l2.getD k wd0).glued = dg at *
        have hA : Below X.heap.size X (X.alloc (.cells #[.int .i64 ck, .string ct, .slice va vn vc, .bool cg] 33)) := (Below.refl _ _).alloc (Nat.le_refl _) _
        replace r0 := cellB r0 hA
        replace r1 := cellB r1 hA
        replace r2 := cellB r2 hA
        replace r3 := cellB r3 hA
        clear hA
        go_wp2_with fail
        refine HS.out.mono ?_
        rintro e w3 ⟨rfl, hb3⟩
        have HB3 := Lib.hid (HB2.out.trans (hb3.mono HB2.out.size))
        clear hb3 HS p0 p1 p2 p3 r0 r1 r2 r3
        cases ew with
        | true =>
          go_wp2_with fail
          go_roundg (l1.length - (k + 1))
          case measure => omega
          case rel => exact ⟨k + 1, _, rfl, hlt, Nat.le_refl _, by go_num, HB3, Lib.hid HT.out⟩
        | false =>
          go_wp2_with fail
          go_ret
          exact ⟨ret_bool (HN.out trivial).symm, HB3.out⟩
      · have hke : k = l1.length := by omega
        have hkz : ¬ (k : Int) < (l1.length : Int) := by omega
        have HY : Hid (eqL l1 l2 = true) := Lib.hid (eqL_all l1 l2 HL.out (by rw [← hke]; exact HE.out))
        clear hke HE
        go_wp2_with fail
        go_ret
        exact ⟨ret_bool HY.out.symm, HB.out⟩
  · have hz : ((l1.length : Int) != (l2.length : Int)) = true := by rw [bne_iff_ne]; omega
    have HF := Lib.hid (eqL_len l1 l2 hl)
    clear ih h1 h2 hl
    go_enter Tryd.func38, Tryd.ntmps38
    go_wp2_with fail
    go_ret
    exact ⟨ret_bool HF.out.symm, Below.refl _ _⟩
theorem kids_lt (l : List Wd) (i : Nat) (hi : i < l.length) : SizeOf.sizeOf (l.getD i wd0).kids < SizeOf.sizeOf l := by
  have h1 : l.getD i wd0 = l[i] := by rw [List.getD_eq_getElem?_getD, List.getElem?_eq_getElem hi]; rfl
  rw [h1]
  have h2 := List.sizeOf_lt_of_mem (List.getElem_mem hi)
  have h3 : SizeOf.sizeOf l[i].kids < SizeOf.sizeOf l[i] := by
    cases l[i] with
    | mk k t r g => simp only [Wd.kids, Wd.mk.sizeOf_spec]; omega
  omega
/-- EqualFunc over words that lie in memory. -/
theorem EqualFunc_any (N : Nat) : ∀ (l1 l2 : List Wd), SizeOf.sizeOf l1 < N → ∀ (w : World) (D1 D2 : Nat → Prop) (a1 a2 : Option Addr) (n1 c1 n2 c2 : Nat), Lies w D1 a1 n1 c1 l1 → Lies w D2 a2 n2 c2 l2 → ∀ W, Below w.heap.size w W →
    Calls Tryd.prog 38 #[.slice a1 n1 c1, .slice a2 n2 c2, .func (.func 39) #[] #[]] W fun e w' => e = .returned (.bool (eqL l1 l2)) ∧ Below W.heap.size W w' := by
  induction N with
  | zero => intro l1 l2 h; omega
  | succ N ih =>
    intro l1 l2 hN w D1 D2 a1 a2 n1 c1 n2 c2 h1 h2 W hW
    exact EqualFunc_step l1 l2 a1 a2 n1 c1 n2 c2 D1 D2 w h1 h2 (fun i hi va vb vn vc wn wc' k1 k2 W' hW' => ih _ _ (by have := kids_lt l1 i hi; omega) w D1 D2 va vb vn vc wn wc' k1 k2 W' hW') W hW
end Go.Proofs.YtliiapdakojomabDoor
