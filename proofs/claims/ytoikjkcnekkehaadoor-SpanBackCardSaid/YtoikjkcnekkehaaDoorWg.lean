/- SpanBack: plain, sound, the walk. -/
import Derived.Test.YtoikjkcnekkehaaDoorWf
namespace Go.Proofs.YtoikjkcnekkehaaDoor
open Go.RowKit

theorem scn_back : ∀ (rest seg : List UInt8) (pd : Bool) (pc : Rg) (acc l : List Rg), (pd = true → 0 ≤ pc.1 ∧ pc.1 ≤ 4294967295) → scn rest seg pd pc acc = some l → ∃ l', l = acc ++ l' ∧ l'.all pieceB = true ∧ (textA l').length ≤ seg.length + rest.length + (if pd = true then (endT pc.1).length + 1 else 0)
  | [], seg, pd, pc, acc, l, _, h => by
    simp only [scn] at h
    injection h with h
    exact ⟨[], by simp [h], rfl, by simp [textA]⟩
  | c :: r, seg, pd, pc, acc, l, hpd, h => by
    by_cases h44 : c = 44
    · subst h44
      cases hev : endV seg with
      | none => rw [scn_none _ _ _ _ _ _ (.inl rfl) hev] at h; cases h
      | some e =>
        obtain ⟨p1, p2⟩ := pc
        rw [scn_comma _ _ pd p1 p2 acc e hev] at h
        obtain ⟨hs, e0, e1⟩ := endT_endV hev
        have ih := scn_back r [] false _ _ l (by intro hh; cases hh) h
        obtain ⟨l', hl, ha, ht⟩ := ih
        refine ⟨(if pd = true then p1 else e, e) :: l', by rw [hl]; simp, ?_, ?_⟩
        · rw [List.all_cons, ha, Bool.and_true, pieceB_iff]
          cases pd with
          | true => have := hpd rfl; exact ⟨this.1, this.2, e0, e1⟩
          | false => exact ⟨e0, e1, e0, e1⟩
        · have et : textA ((if pd = true then p1 else e, e) :: l') = pieceT (if pd = true then p1 else e, e) ++ (44 :: textA l') := by simp [textA]
          rw [et, List.length_append, List.length_cons, List.length_cons]
          simp only [List.length_nil, Bool.false_eq_true, if_false] at ht
          have hseg : seg.length = (endT e).length := by rw [← hs]
          cases pd with
          | true =>
            simp only [if_true]
            unfold pieceT
            split
            · rename_i hx
              have : p1 = e := hx
              rw [show ((p1, e) : Rg).1 = e from hx]
              omega
            · simp only [List.length_append, List.length_cons, List.length_nil]
              omega
          | false =>
            simp only [Bool.false_eq_true, if_false]
            unfold pieceT
            rw [if_pos rfl]
            show (endT e).length + _ ≤ _
            omega
    · by_cases h58 : c = 58
      · subst h58
        cases hev : endV seg with
        | none => rw [scn_none _ _ _ _ _ _ (.inr rfl) hev] at h; cases h
        | some e =>
          obtain ⟨p1, p2⟩ := pc
          obtain ⟨hs, e0, e1⟩ := endT_endV hev
          cases pd with
          | true => rw [scn_colon2 _ _ p1 p2 acc e hev] at h; cases h
          | false =>
            rw [scn_colon _ _ p1 p2 acc e hev] at h
            obtain ⟨l', hl, ha, ht⟩ := scn_back r [] true (e, e) acc l (fun _ => ⟨e0, e1⟩) h
            refine ⟨l', hl, ha, ?_⟩
            have hseg : seg.length = (endT e).length := by rw [← hs]
            simp only [List.length_nil, if_true, Bool.false_eq_true, if_false, List.length_cons] at ht ⊢
            omega
      · rw [scn_other _ _ _ _ _ _ h44 h58] at h
        obtain ⟨l', hl, ha, ht⟩ := scn_back r (seg ++ [c]) pd pc acc l hpd h
        refine ⟨l', hl, ha, ?_⟩
        simp only [List.length_append, List.length_cons, List.length_nil] at ht ⊢
        omega
theorem scn_pos : ∀ (s seg : List UInt8) (pd : Bool) (pc : Rg) (acc l : List Rg), scn (s ++ [44]) seg pd pc acc = some l → acc.length < l.length
  | [], seg, pd, pc, acc, l, h => by
    rw [List.nil_append] at h
    obtain ⟨p1, p2⟩ := pc
    cases hev : endV seg with
    | none => rw [scn_none _ _ _ _ _ _ (.inl rfl) hev] at h; cases h
    | some e =>
      rw [scn_comma _ _ pd p1 p2 acc e hev, scn] at h
      injection h with h
      rw [← h]; simp
  | c :: r, seg, pd, pc, acc, l, h => by
    rw [List.cons_append] at h
    obtain ⟨p1, p2⟩ := pc
    by_cases h44 : c = 44
    · subst h44
      cases hev : endV seg with
      | none => rw [scn_none _ _ _ _ _ _ (.inl rfl) hev] at h; cases h
      | some e =>
        rw [scn_comma _ _ pd p1 p2 acc e hev] at h
        have := scn_pos r _ _ _ _ l h
        rw [List.length_append] at this
        omega
    · by_cases h58 : c = 58
      · subst h58
        cases hev : endV seg with
        | none => rw [scn_none _ _ _ _ _ _ (.inr rfl) hev] at h; cases h
        | some e =>
          cases pd with
          | true => rw [scn_colon2 _ _ p1 p2 acc e hev] at h; cases h
          | false => rw [scn_colon _ _ p1 p2 acc e hev] at h; exact scn_pos r _ _ _ _ l h
      · rw [scn_other _ _ _ _ _ _ h44 h58] at h
        exact scn_pos r _ _ _ _ l h
theorem pcs_back {t : List UInt8} {l : List Rg} (h : pcs t = some l) : setB l = true ∧ (textK l l.length).length ≤ t.length := by
  unfold pcs at h
  have hp := scn_pos t [] false (0, 0) [] l h
  obtain ⟨l', hl, ha, ht⟩ := scn_back _ _ _ _ _ l (by intro hh; cases hh) h
  rw [List.nil_append] at hl
  subst hl
  have hpos : 0 < l.length := by simpa using hp
  refine ⟨by unfold setB; rw [decide_eq_true hpos, ha]; rfl, ?_⟩
  have := textK_textA l l.length (Nat.le_refl _) hpos
  rw [List.take_of_length_le (Nat.le_refl _)] at this
  rw [← this] at ht
  simp only [List.length_append, List.length_cons, List.length_nil, Bool.false_eq_true, if_false] at ht
  omega
def soundB (l : List Rg) : Bool := setB l && decide (l.length ≤ 64)
theorem printE_sound (l : List Rg) : (printE l = 0 ↔ soundB l = true) ∧ (printE l ≠ 0 → printT l = []) := by
  unfold printE printT soundB
  by_cases h64 : 64 < l.length
  · rw [if_pos h64, if_pos h64, decide_eq_false (by omega), Bool.and_false]
    simp
  · rw [if_neg h64, if_neg h64, decide_eq_true (by omega), Bool.and_true]
    by_cases hs : setB l = true
    · rw [if_pos hs, if_pos hs]; simp [hs]
    · rw [if_neg hs, if_neg hs]; simp [hs]
theorem print_parse (l : List Rg) (h : soundB l = true) : parseE (printT l) = 0 ∧ parseL (printT l) = l ∧ (printT l).length ≤ 1408 := by
  unfold soundB at h
  rw [Bool.and_eq_true, decide_eq_true_iff] at h
  have ht : printT l = textK l l.length := by unfold printT; rw [if_neg (by omega), if_pos h.1]
  have hall : l.all pieceB = true := by have := h.1; unfold setB at this; rw [Bool.and_eq_true] at this; exact this.2
  have hlen := textK_len l hall l.length (Nat.le_refl _)
  rw [ht]
  unfold parseE parseL
  rw [if_neg (by omega), if_neg (by omega), pcs_print l h.1]
  show (if 64 < l.length then (41 : Int) else 0) = 0 ∧ (if 64 < l.length then [] else l) = l ∧ _
  rw [if_neg (by omega), if_neg (by omega)]
  exact ⟨rfl, rfl, by omega⟩
theorem parse_not {t : List UInt8} (h : parseE t ≠ 0) : parseL t = [] := by
  unfold parseE at h
  unfold parseL
  split
  · rfl
  · rename_i h1
    rw [if_neg h1] at h
    cases hp : pcs t with
    | none => rfl
    | some s =>
      rw [hp] at h
      simp only at h ⊢
      split
      · rfl
      · rename_i h2
        rw [if_neg h2] at h
        exact absurd rfl h
theorem parse_print {t : List UInt8} (h : parseE t = 0) : soundB (parseL t) = true ∧ (printT (parseL t)).length ≤ t.length := by
  unfold parseE at h
  unfold parseL
  by_cases h1 : 4096 < t.length
  · rw [if_pos h1] at h; simp at h
  · rw [if_neg h1] at h ⊢
    cases hp : pcs t with
    | none => rw [hp] at h; simp at h
    | some s =>
      rw [hp] at h
      simp only at h ⊢
      by_cases h2 : 64 < s.length
      · rw [if_pos h2] at h; simp at h
      · rw [if_neg h2]
        obtain ⟨a, b⟩ := pcs_back hp
        refine ⟨by unfold soundB; rw [a, decide_eq_true (by omega)]; rfl, ?_⟩
        unfold printT
        rw [if_neg h2, if_pos a]
        exact b

theorem all_getD {l : List Rg} {p : Rg → Bool} (h : ∀ j, j < l.length → p (l.getD j (0, 0)) = true) : l.all p = true := by
  rw [List.all_eq_true]
  intro x hx
  obtain ⟨j, hj, rfl⟩ := List.mem_iff_getElem.1 hx
  have := h j hj
  rw [List.getD_eq_getElem?_getD, List.getElem?_eq_getElem hj] at this
  simpa using this
theorem all_not {l : List Rg} {p : Rg → Bool} (j : Nat) (hj : j < l.length) (h : p (l.getD j (0, 0)) = false) : l.all p = false := by
  rw [List.all_eq_false]
  refine ⟨_, List.getElem_mem hj, ?_⟩
  rw [List.getD_eq_getElem?_getD, List.getElem?_eq_getElem hj] at h
  simpa using h
set_option maxRecDepth 100000 in
set_option maxHeartbeats 2000000 in
theorem sound_any (v : Value) (l : List Rg) (w : World) (hr : Rgs w v l) (hl : l.length ≤ 1000000) :
    Calls Tryd.prog 13 #[v] w fun e w' => e = .returned (.bool (soundB l)) ∧ w' = w := by
  obtain ⟨ao, cap, hv, hcs⟩ := hr.shape
  subst hv
  have HC := Lib.hid hcs
  clear hr hcs
  go_enter Tryd.func13, Tryd.ntmps13
  go_wp2_with fail
  go_loopg [3] l.length (fun gg s3 wr => ∃ k : Nat, w = wr ∧ k ≤ l.length ∧ l.length - k ≤ gg ∧ s3 = .int .i64 k ∧ Hid (∀ j, j < k → pieceB (l.getD j (0, 0)) = true))
  case atStart => exact ⟨0, rfl, Nat.zero_le _, by omega, rfl, Lib.hid fun j hj => absurd hj (Nat.not_lt_zero _)⟩
  case round =>
    obtain ⟨k, hw, hk, hgg, rfl, I⟩ := hrel
    subst hw
    by_cases hlt : k < l.length
    · have hltz : (k : Int) < (l.length : Int) := by omega
      obtain ⟨b, off, hao, hbs, hc⟩ := HC.out (by omega)
      subst hao
      obtain ⟨c1, c2⟩ := hc k hlt
      have HP := Lib.hid (pieceB_iff (l.getD k (0, 0)))
      have HN : Hid (pieceB (l.getD k (0, 0)) = false → soundB l = false) := Lib.hid (fun h => by unfold soundB setB; rw [all_not k hlt h]; simp)
      clear hc
      generalize hpp : pieceB (l.getD k (0, 0)) = pb at *
      have HPP := Lib.hid hpp
      clear hpp
      generalize (l.getD k (0, 0)).1 = x at *
      generalize (l.getD k (0, 0)).2 = y at *
      by_cases x0 : x < 0
      · have HF : Hid (soundB l = false) := Lib.hid (HN.out (by cases pb; rfl; have := HP.out.1 rfl; omega))
        go_wp2_with fail
        go_ret
        exact ⟨ret_bool HF.out.symm, rfl⟩
      · by_cases y0 : y < 0
        · have HF : Hid (soundB l = false) := Lib.hid (HN.out (by cases pb; rfl; have := HP.out.1 rfl; omega))
          go_wp2_with fail
          go_ret
          exact ⟨ret_bool HF.out.symm, rfl⟩
        · by_cases x1 : 4294967295 < x
          · have HF : Hid (soundB l = false) := Lib.hid (HN.out (by cases pb; rfl; have := HP.out.1 rfl; omega))
            go_wp2_with fail
            go_ret
            exact ⟨ret_bool HF.out.symm, rfl⟩
          · by_cases y1 : 4294967295 < y
            · have HF : Hid (soundB l = false) := Lib.hid (HN.out (by cases pb; rfl; have := HP.out.1 rfl; omega))
              go_wp2_with fail
              go_ret
              exact ⟨ret_bool HF.out.symm, rfl⟩
            · have hpb := Lib.hid (HP.out.2 (by omega))
              go_wp2_with fail
              go_roundg (l.length - (k + 1))
              case measure => omega
              case rel =>
                refine ⟨k + 1, rfl, by omega, by omega, by go_num, Lib.hid fun j hj => ?_⟩
                by_cases e : j = k
                · subst e; rw [HPP.out]; exact hpb.out
                · exact I.out j (by omega)
    · have hltz : ¬ (k : Int) < (l.length : Int) := by omega
      have : k = l.length := by omega
      subst this
      have HS : Hid (soundB l = (decide (1 ≤ l.length) && decide (l.length ≤ 64))) := Lib.hid (by unfold soundB setB; rw [all_getD I.out, Bool.and_true]; rfl)
      by_cases h1 : 1 ≤ l.length
      · have h1z : (1 : Int) ≤ (l.length : Int) := by omega
        go_wp2_with fail
        go_ret
        refine ⟨ret_bool ?_, rfl⟩
        rw [HS.out, decide_eq_true h1, Bool.true_and, decide_eq_decide]
        omega
      · have h1z : ¬ (1 : Int) ≤ (l.length : Int) := by omega
        go_wp2_with fail
        go_ret
        refine ⟨ret_bool ?_, rfl⟩
        rw [HS.out, decide_eq_false h1, Bool.false_and]
end Go.Proofs.YtoikjkcnekkehaaDoor
