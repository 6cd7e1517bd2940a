/- The reference: Print. -/
import Derived.Test.YtkclcjnfjielfabDoorYi
namespace Go.Proofs.YtkclcjnfjielfabDoor
open Go.RowKit

theorem belT {w X Y : World} (h : Below w.heap.size w X) (hb : Below X.heap.size X Y) : Below w.heap.size w Y := h.trans (hb.mono h.size)
theorem cellT {w X : World} {B i : Nat} {v : Value} (h : w.cell? ⟨B, i, none⟩ = some v) (hb : Below w.heap.size w X) : X.cell? ⟨B, i, none⟩ = some v := by
  rw [hb.cell (p := ⟨B, i, none⟩) (block_lt_of_cell h)]; exact h
def headK (l : List Rg) (k : Nat) : List UInt8 := if k = 0 then [] else textK l k ++ [44]
theorem textK_succ (l : List Rg) (k : Nat) : textK l (k + 1) = headK l k ++ pieceT (l.getD k (0, 0)) := rfl
theorem endT_pos {x : Int} (h0 : 0 ≤ x) : 0 < (endT x).length := by
  unfold endT
  split
  · simp
  · obtain ⟨u, rfl⟩ := Int.eq_ofNat_of_zero_le h0
    rw [Lib.itoa_nonneg]
    by_cases h : u < 10
    · rw [Lib.decDigits_one h]; simp
    · rw [dec_step u h]; simp
theorem pieceT_pos {p : Rg} (h : pieceB p = true) : 0 < (pieceT p).length := by
  have hb := (pieceB_iff p).1 h
  have := endT_pos hb.1
  unfold pieceT
  split
  · exact this
  · rw [List.length_append, List.length_append]; omega
/-- What is printed so far, and no text stays empty. -/
structure PrI (l : List Rg) (k : Nat) : Prop where
  ok : ∀ j, j < k → pieceB (l.getD j (0, 0)) = true
  len : (textK l k).length ≤ 22 * k
  pos : 0 < k → 0 < (textK l k).length
theorem PrI.zero (l : List Rg) : PrI l 0 := ⟨fun j hj => by omega, by simp [textK], fun h => by omega⟩
theorem PrI.head {l : List Rg} {k : Nat} (h : PrI l k) : (headK l k).length ≤ 22 * k + 1 := by
  have := h.len
  unfold headK
  split
  · simp
  · simp; omega
theorem PrI.next {l : List Rg} {k : Nat} (h : PrI l k) (hp : pieceB (l.getD k (0, 0)) = true) : PrI l (k + 1) := by
  have h1 := pieceT_len hp
  have h2 := pieceT_pos hp
  have h3 := h.head
  refine ⟨fun j hj => ?_, ?_, fun _ => ?_⟩
  · by_cases e : j = k
    · subst e; exact hp
    · exact h.ok j (by omega)
  · rw [textK_succ, List.length_append]
    omega
  · rw [textK_succ, List.length_append]; omega
theorem not_all {l : List Rg} {k : Nat} (hk : k < l.length) (h : pieceB (l.getD k (0, 0)) = false) : setB l = false := by
  unfold setB
  rw [Bool.and_eq_false_iff]
  right
  rw [List.all_eq_false]
  refine ⟨l.getD k (0, 0), ?_, by rw [h]; simp⟩
  rw [List.getD_eq_getElem?_getD, List.getElem?_eq_getElem hk]; exact List.getElem_mem hk
theorem all_ok {l : List Rg} (h : ∀ j, j < l.length → pieceB (l.getD j (0, 0)) = true) : l.all pieceB = true := by
  rw [List.all_eq_true]
  intro x hx
  obtain ⟨j, hj, rfl⟩ := List.mem_iff_getElem.1 hx
  have := h j hj
  rw [List.getD_eq_getElem?_getD, List.getElem?_eq_getElem hj] at this
  exact this
theorem pieceB_parts (p : Rg) : pieceB p = (endB p.1 && endB p.2) := rfl
theorem endB_le {x : Int} (h : endB x = true) : 0 ≤ x ∧ x ≤ 4294967295 := by unfold endB at h; simp at h; exact h
/-- One piece is printed behind a head. -/
theorem text_e (l : List Rg) (k : Nat) (h : (l.getD k (0, 0)).1 = (l.getD k (0, 0)).2) : S (textK l (k + 1)) = S (headK l k) ++ S (endT (l.getD k (0, 0)).1) := by
  rw [textK_succ, S_append, pieceT, if_pos h]
theorem text_n (l : List Rg) (k : Nat) (h : ¬ (l.getD k (0, 0)).1 = (l.getD k (0, 0)).2) : S (textK l (k + 1)) = ((S (headK l k) ++ S (endT (l.getD k (0, 0)).1)) ++ S [58]) ++ S (endT (l.getD k (0, 0)).2) := by
  rw [textK_succ, S_append, S_append, S_append, pieceT, if_neg h]
  simp
set_option maxRecDepth 100000 in
set_option maxHeartbeats 4000000 in
theorem refPrint_any (v : Value) (l : List Rg) (w : World) (hr : Rgs w v l) :
    Calls Tryd.prog 17 #[v] w fun e w' => e = .returned (.tuple #[.string (S (printT l)), .int .i64 (printE l)]) ∧ Below w.heap.size w w' := by
  obtain ⟨ao, cap, hv, hc⟩ := hr.shape
  have hll : l.length ≤ 8796093022208 := by
    rcases hr with ⟨rfl, _⟩ | ⟨_, _, _, _, h0, _⟩
    · simp
    · exact h0
  subst hv
  have HC := Lib.hid hc
  clear hc hr
  by_cases h64 : 64 < l.length
  · have h64z : (64 : Int) < (l.length : Int) := by omega
    have HR : Hid (printT l = [] ∧ printE l = 41) := Lib.hid ⟨by unfold printT; rw [if_pos h64], by unfold printE; rw [if_pos h64]⟩
    go_enter Tryd.func17, Tryd.ntmps17
    go_wp2_with fail
    go_ret2
    exact ⟨ret_str2 (by rw [HR.out.1]; rfl) HR.out.2.symm, Below.refl _ _⟩
  · have h64z : ¬ (64 : Int) < (l.length : Int) := by omega
    have HE0 : Hid (setB l = false → printT l = [] ∧ printE l = 40) := Lib.hid (fun h => ⟨by unfold printT; rw [if_neg h64, if_neg (by rw [h]; simp)], by unfold printE; rw [if_neg h64, if_neg (by rw [h]; simp)]⟩)
    have HE1 : Hid (setB l = true → printT l = textK l l.length ∧ printE l = 0) := Lib.hid (fun h => ⟨by unfold printT; rw [if_neg h64, if_pos h], by unfold printE; rw [if_neg h64, if_pos h]⟩)
    go_enter Tryd.func17, Tryd.ntmps17
    go_wp2_with fail
    go_loopg [4, 5, 6, 7] l.length (fun gg s4 s5 s6 s7 wr => ∃ (k : Nat) (T : ByteArray) (X : World), X = wr ∧ k ≤ l.length ∧ l.length - k ≤ gg ∧ s5 = .int .i64 k ∧ s4 = .string T ∧ Below w.heap.size w X ∧ Hid (T = S (textK l k)) ∧ Hid (PrI l k))
    case atStart => exact ⟨0, _, _, rfl, Nat.zero_le _, by omega, rfl, rfl, Below.refl _ _, Lib.hid rfl, Lib.hid (PrI.zero l)⟩
    case round =>
      obtain ⟨k, T, X, hX, hk, hgg, rfl, rfl, hbw, HT, HP⟩ := hrel
      subst hX
      have HBW := Lib.hid hbw
      clear hbw
      by_cases hlt : k < l.length
      · have hltz : (k : Int) < (l.length : Int) := by omega
        obtain ⟨b, off, hb, hs, hcc⟩ := HC.out (by omega)
        subst hb
        obtain ⟨c1, c2⟩ := hcc k hlt
        replace c1 := cellT c1 HBW.out
        replace c2 := cellT c2 HBW.out
        clear hcc
        have HSA := Lib.hid (refSound_any (l.getD k (0, 0)).1)
        have HSB := Lib.hid (refSound_any (l.getD k (0, 0)).2)
        have HPB := Lib.hid (pieceB_parts (l.getD k (0, 0)))
        have HNA := Lib.hid (not_all hlt)
        cases ha : endB (l.getD k (0, 0)).1 with
        | false =>
          rw [ha] at HSA HPB
          have HF := Lib.hid (HE0.out (HNA.out HPB.out))
          clear ha
          generalize (l.getD k (0, 0)).1 = x at *
          generalize (l.getD k (0, 0)).2 = y at *
          go_wp2_with (go_at_call 39; (first | (with_reducible refine (HSA.out _).mono ?_) | (with_reducible refine (HSB.out _).mono ?_)); rintro e w' ⟨rfl, hw'⟩; subst w')
          go_ret2
          exact ⟨ret_str2 (by rw [HF.out.1]; rfl) HF.out.2.symm, HBW.out⟩
        | true =>
          cases hbb : endB (l.getD k (0, 0)).2 with
          | false =>
            rw [ha, hbb] at HPB
            rw [ha] at HSA
            rw [hbb] at HSB
            have HF := Lib.hid (HE0.out (HNA.out HPB.out))
            clear ha hbb
            generalize (l.getD k (0, 0)).1 = x at *
            generalize (l.getD k (0, 0)).2 = y at *
            go_wp2_with (go_at_call 39; (first | (with_reducible refine (HSA.out _).mono ?_) | (with_reducible refine (HSB.out _).mono ?_)); rintro e w' ⟨rfl, hw'⟩; subst w')
            go_ret2
            exact ⟨ret_str2 (by rw [HF.out.1]; rfl) HF.out.2.symm, HBW.out⟩
          | true =>
            rw [ha, hbb] at HPB
            rw [ha] at HSA
            rw [hbb] at HSB
            have HPN := Lib.hid (HP.out.next HPB.out)
            have HWA := Lib.hid (fun Y => writtenI_any (l.getD k (0, 0)).1 Y (endB_le ha).1 (endB_le ha).2)
            have HWB := Lib.hid (fun Y => writtenI_any (l.getD k (0, 0)).2 Y (endB_le hbb).1 (endB_le hbb).2)
            have hA : (S (endT (l.getD k (0, 0)).1)).size ≤ 10 := endT_len (endB_le ha).1 (endB_le ha).2
            have hB : (S (endT (l.getD k (0, 0)).2)).size ≤ 10 := endT_len (endB_le hbb).1 (endB_le hbb).2
            have hT : T.size ≤ 1500 := by
              have h1 := HP.out.len
              have h2 := congrArg ByteArray.size HT.out
              rw [S_size] at h2
              omega
            have HTE := Lib.hid (text_e l k)
            have HTN := Lib.hid (text_n l k)
            clear ha hbb
            by_cases hk0 : k = 0
            · have hk0z : ¬ (0 : Int) < (k : Int) := by omega
              have HH : Hid (S (headK l k) = T) := Lib.hid (by rw [HT.out]; unfold headK; rw [if_pos hk0, hk0]; rfl)
              clear hk0
              rw [HH.out] at HTE HTN
              by_cases heq : (l.getD k (0, 0)).1 = (l.getD k (0, 0)).2
              · have HX := Lib.hid (HTE.out heq)
                have heb : ((l.getD k (0, 0)).1 != (l.getD k (0, 0)).2) = false := by rw [heq]; simp
                clear HTE HTN heq
                generalize (l.getD k (0, 0)).1 = x at *
                generalize (l.getD k (0, 0)).2 = y at *
                generalize S (endT x) = A at *
                go_wp2_with (first | (go_at_call 39; (first | (with_reducible refine (HSA.out _).mono ?_) | (with_reducible refine (HSB.out _).mono ?_)); rintro e w' ⟨rfl, hw'⟩; subst w') | (go_at_call 40; with_reducible refine (HWA.out _).mono ?_; rintro e w1 ⟨rfl, hb1⟩))
                go_roundg (l.length - (k + 1))
                case measure => omega
                case rel => exact ⟨k + 1, _, _, rfl, by omega, by omega, by go_num, rfl, belT HBW.out hb1, Lib.hid HX.out.symm, HPN⟩
              · have HX := Lib.hid (HTN.out heq)
                have heb : ((l.getD k (0, 0)).1 != (l.getD k (0, 0)).2) = true := by simpa using heq
                clear HTE HTN heq
                generalize (l.getD k (0, 0)).1 = x at *
                generalize (l.getD k (0, 0)).2 = y at *
                generalize S (endT x) = A at *
                generalize S (endT y) = B at *
                go_wp2_with (first | (go_at_call 39; (first | (with_reducible refine (HSA.out _).mono ?_) | (with_reducible refine (HSB.out _).mono ?_)); rintro e w' ⟨rfl, hw'⟩; subst w') | (go_at_call 40; (first | (with_reducible refine (HWA.out _).mono ?_; rintro e w1 ⟨rfl, hb1⟩) | (with_reducible refine (HWB.out _).mono ?_; rintro e w2 ⟨rfl, hb2⟩))))
                go_roundg (l.length - (k + 1))
                case measure => omega
                case rel => exact ⟨k + 1, _, _, rfl, by omega, by omega, by go_num, rfl, belT (belT HBW.out hb1) hb2, Lib.hid HX.out.symm, HPN⟩
            · have hk0z : (0 : Int) < (k : Int) := by omega
              have HH : Hid (S (headK l k) = T ++ ⟨#[44]⟩) := Lib.hid (by rw [HT.out]; unfold headK; rw [if_neg hk0, ← S_append]; rfl)
              rw [HH.out] at HTE HTN
              by_cases heq : (l.getD k (0, 0)).1 = (l.getD k (0, 0)).2
              · have HX := Lib.hid (HTE.out heq)
                have heb : ((l.getD k (0, 0)).1 != (l.getD k (0, 0)).2) = false := by rw [heq]; simp
                clear HTE HTN heq
                generalize (l.getD k (0, 0)).1 = x at *
                generalize (l.getD k (0, 0)).2 = y at *
                generalize S (endT x) = A at *
                go_wp2_with (first | (go_at_call 39; (first | (with_reducible refine (HSA.out _).mono ?_) | (with_reducible refine (HSB.out _).mono ?_)); rintro e w' ⟨rfl, hw'⟩; subst w') | (go_at_call 40; with_reducible refine (HWA.out _).mono ?_; rintro e w1 ⟨rfl, hb1⟩))
                go_roundg (l.length - (k + 1))
                case measure => omega
                case rel => exact ⟨k + 1, _, _, rfl, by omega, by omega, by go_num, rfl, belT HBW.out hb1, Lib.hid HX.out.symm, HPN⟩
              · have HX := Lib.hid (HTN.out heq)
                have heb : ((l.getD k (0, 0)).1 != (l.getD k (0, 0)).2) = true := by simpa using heq
                clear HTE HTN heq
                generalize (l.getD k (0, 0)).1 = x at *
                generalize (l.getD k (0, 0)).2 = y at *
                generalize S (endT x) = A at *
                generalize S (endT y) = B at *
                go_wp2_with (first | (go_at_call 39; (first | (with_reducible refine (HSA.out _).mono ?_) | (with_reducible refine (HSB.out _).mono ?_)); rintro e w' ⟨rfl, hw'⟩; subst w') | (go_at_call 40; (first | (with_reducible refine (HWA.out _).mono ?_; rintro e w1 ⟨rfl, hb1⟩) | (with_reducible refine (HWB.out _).mono ?_; rintro e w2 ⟨rfl, hb2⟩))))
                go_roundg (l.length - (k + 1))
                case measure => omega
                case rel => exact ⟨k + 1, _, _, rfl, by omega, by omega, by go_num, rfl, belT (belT HBW.out hb1) hb2, Lib.hid HX.out.symm, HPN⟩
      · have hltz : ¬ (k : Int) < (l.length : Int) := by omega
        have hkl : k = l.length := by omega
        subst hkl
        by_cases hl0 : l = []
        · subst hl0
          have HF := Lib.hid (HE0.out rfl)
          have hTe : T = ⟨#[]⟩ := HT.out
          subst hTe
          go_wp2_with fail
          go_ret2
          exact ⟨ret_str2 (by rw [HF.out.1]; rfl) HF.out.2.symm, HBW.out⟩
        · have hlp : 0 < l.length := List.length_pos_iff.2 hl0
          have HS : Hid (setB l = true) := Lib.hid (by unfold setB; rw [decide_eq_true hlp, all_ok HP.out.ok]; rfl)
          have HF := Lib.hid (HE1.out HS.out)
          have hTn : (T.toList == ([] : List UInt8)) = false := by
            rw [toList_L, HT.out, L_S]
            have := HP.out.pos hlp
            cases h : textK l l.length with
            | nil => rw [h] at this; simp at this
            | cons a b => rfl
          go_wp2_with fail
          go_ret2
          exact ⟨ret_str2 (by rw [HF.out.1]; exact HT.out) HF.out.2.symm, HBW.out⟩
end Go.Proofs.YtkclcjnfjielfabDoor
