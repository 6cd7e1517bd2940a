/- The statement LexOrders: plain facts and the walk. -/
import Derived.Test.YtmpbbkjdfneklaaDoorXq
namespace Go.Proofs.YtmpbbkjdfneklaaDoor
open Go.RowKit

theorem astr_atom {l : List UInt8} (h : isAstr l = true) : isAtom l = true := by
  unfold isAstr at h; rw [Bool.and_eq_true] at h; exact h.1
theorem tagC_atom (c : UInt8) (h : tagC c = true) : atomC c = true := by unfold tagC at h; rw [Bool.and_eq_true] at h; exact h.1
theorem atomC_pat (c : UInt8) (h : atomC c = true) : patC c = true := by unfold patC; rw [h]; rfl
theorem tag_atom {l : List UInt8} (h : isTag l = true) : isAtom l = true := by
  unfold isTag at h; unfold isAtom
  rw [Bool.and_eq_true, Bool.and_eq_true] at h
  rw [h.1, Bool.true_and, List.all_eq_true]
  exact fun x hx => tagC_atom x (List.all_eq_true.1 h.2.2 x hx)
theorem key_atom {l : List UInt8} (h : isKey l = true) : isAtom l = true := by
  unfold isKey at h; rw [Bool.and_eq_true] at h; exact h.2
theorem atom_pat {l : List UInt8} (h : isAtom l = true) : isPat l = true := by
  unfold isAtom at h; unfold isPat
  rw [Bool.and_eq_true] at h
  rw [h.1, Bool.true_and, List.all_eq_true]
  exact fun x hx => atomC_pat x (List.all_eq_true.1 h.2 x hx)
theorem key_flag {l : List UInt8} (h : isKey l = true) : isFlag l = true := by unfold isFlag; rw [h]; simp
theorem flag_cons (l : List UInt8) : isFlag (92 :: l) = isAtom l := by
  show (true && isAtom l || isKey (92 :: l)) = isAtom l
  have : isKey (92 :: l) = false := by
    unfold isKey isAtom
    rw [List.all_cons, show atomC 92 = false from rfl]
    simp
  rw [this]; simp
theorem quoteL_len (l : List UInt8) : l.length < (quoteL l).length := by
  have : l.length ≤ (quoteB l).length := by
    unfold quoteB
    induction l with
    | nil => simp
    | cons a l ih =>
      rw [List.flatMap_cons, List.length_append, List.length_cons]
      have : 1 ≤ (q1 a).length := by unfold q1; split <;> simp
      omega
  unfold quoteL
  simp; omega
theorem strL_len (l : List UInt8) : l.length < (strL l).length := by
  unfold strL
  split
  · exact quoteL_len l
  · simp; omega
theorem put_same (s : ByteArray) : ((S (putL (L s))).toList == s.toList) = isAstr (L s) := by
  rw [toList_L, toList_L, L_S]
  unfold putL
  cases h : isAstr (L s) with
  | true => simp
  | false =>
    simp only [Bool.false_eq_true, if_false]
    rw [beq_eq_false_iff_ne]
    intro hh
    have := strL_len (L s)
    rw [hh] at this
    omega
set_option maxHeartbeats 4000000 in
theorem LexOrders_walk (s : ByteArray) (w : World) (he : Env w) (hs : s.size ≤ 1048576) :
    Calls Tryd.prog 3 #[.string s] w fun e w' => e = .returned (.bool true) ∧ Below w.heap.size w w' := by
  have H1 := Lib.hid (fun W => lIs1 s W (by omega))
  have H2 := Lib.hid (fun W => lIs2 s W (by omega))
  have H3 := Lib.hid (fun W => lIs3 s W (by omega))
  have H4 := Lib.hid (fun W => lIs4 s W (by omega))
  have H5 := Lib.hid (fun W => lIs5 s W (by omega))
  have H6 := Lib.hid (fun W => lIs6 s W (by omega))
  have H7 : Hid (∀ W, Calls Tryd.prog 7 #[.int .i64 4, .string (⟨#[92]⟩ ++ s)] W fun e w' => e = .returned (.bool (isAtom (L s))) ∧ w' = W) := Lib.hid (fun W => by
    have e : (⟨#[92]⟩ : ByteArray) ++ s = S (92 :: L s) := by
      show S [92] ++ S (L s) = _
      rw [S_app]; rfl
    rw [e]
    have := lIs4 (S (92 :: L s)) W (by rw [S_size, List.length_cons, L_length]; omega)
    rw [L_S, flag_cons] at this
    exact this)
  have H8 : Hid (∀ W, Calls Tryd.prog 7 #[.int .i64 3, .string ⟨#[116]⟩] W fun e w' => e = .returned (.bool true) ∧ w' = W) := Lib.hid (fun W => lIs3 ⟨#[116]⟩ W (by decide))
  have H9 : Hid (∀ W, Calls Tryd.prog 7 #[.int .i64 3, .string ⟨#[43]⟩] W fun e w' => e = .returned (.bool false) ∧ w' = W) := Lib.hid (fun W => lIs3 ⟨#[43]⟩ W (by decide))
  have H10 : Hid (∀ W, Calls Tryd.prog 7 #[.int .i64 2, .string ⟨#[110, 73, 108]⟩] W fun e w' => e = .returned (.bool false) ∧ Below W.heap.size W w') := Lib.hid (fun W => lIs2 ⟨#[110, 73, 108]⟩ W (by decide))
  have HP := Lib.hid (fun W hW => lPut_any s W hW hs)
  have hp := put_same s
  have HE := Lib.hid he
  have h12 := @astr_atom (L s)
  have h13 := @tag_atom (L s)
  have h15 := @key_atom (L s)
  have h16 := @atom_pat (L s)
  have h54 := @key_flag (L s)
  have hk : isKey (L s) = (decide (s.size ≤ 24) && isAtom (L s)) := rfl
  generalize S (putL (L s)) = P at *
  generalize isAtom (L s) = a at *
  generalize isAstr (L s) = b at *
  generalize isTag (L s) = t at *
  generalize isKey (L s) = k at *
  generalize isPat (L s) = p at *
  generalize isFlag (L s) = f at *
  clear he
  have hb : Below w.heap.size w w := Below.refl _ _
  cases a
  · obtain rfl : b = false := by
      cases b
      · rfl
      · exact absurd (h12 rfl) (by decide)
    obtain rfl : t = false := by
      cases t
      · rfl
      · exact absurd (h13 rfl) (by decide)
    obtain rfl : k = false := by
      cases k
      · rfl
      · exact absurd (h15 rfl) (by decide)
    clear h12 h13 h15 h16 h54 hk
    go_enter Tryd.func3, Tryd.ntmps3
    go_wp2_with (first | (go_at_call 8; refine (HP.out _ (HE.out.on hb)).mono ?_; rintro e w2 ⟨rfl, hb2⟩; replace hb := hb.trans (hb2.mono hb.size); clear hb2) | (go_at_call 7; first | (with_reducible refine (H1.out _).mono ?_; rintro e w2 ⟨rfl, rfl⟩) | (with_reducible refine (H2.out _).mono ?_; rintro e w2 ⟨rfl, hb2⟩; replace hb := hb.trans (hb2.mono hb.size); clear hb2) | (with_reducible refine (H3.out _).mono ?_; rintro e w2 ⟨rfl, rfl⟩) | (with_reducible refine (H7.out _).mono ?_; rintro e w2 ⟨rfl, rfl⟩) | (with_reducible refine (H4.out _).mono ?_; rintro e w2 ⟨rfl, rfl⟩) | (with_reducible refine (H5.out _).mono ?_; rintro e w2 ⟨rfl, rfl⟩) | (with_reducible refine (H6.out _).mono ?_; rintro e w2 ⟨rfl, rfl⟩) | (with_reducible refine (H8.out _).mono ?_; rintro e w2 ⟨rfl, rfl⟩) | (with_reducible refine (H9.out _).mono ?_; rintro e w2 ⟨rfl, rfl⟩) | (with_reducible refine (H10.out _).mono ?_; rintro e w2 ⟨rfl, hb2⟩; replace hb := hb.trans (hb2.mono hb.size); clear hb2)))
    go_ret
    exact ⟨rfl, hb⟩
  · obtain rfl : p = true := h16 rfl
    have hk2 : (k = true ∧ s.size ≤ 24 ∧ f = true) ∨ (k = false ∧ 24 < s.size) := by
      cases k
      · right
        refine ⟨rfl, ?_⟩
        rw [Bool.and_true] at hk
        have := of_decide_eq_false hk.symm
        omega
      · left
        rw [Bool.and_true] at hk
        exact ⟨rfl, of_decide_eq_true hk.symm, h54 rfl⟩
    clear h12 h13 h15 h16 h54 hk
    rcases hk2 with ⟨rfl, hl, rfl⟩ | ⟨rfl, hl⟩
    all_goals cases b
    all_goals cases t
    all_goals (
      go_enter Tryd.func3, Tryd.ntmps3
      go_wp2_with (first | (go_at_call 8; refine (HP.out _ (HE.out.on hb)).mono ?_; rintro e w2 ⟨rfl, hb2⟩; replace hb := hb.trans (hb2.mono hb.size); clear hb2) | (go_at_call 7; first | (with_reducible refine (H1.out _).mono ?_; rintro e w2 ⟨rfl, rfl⟩) | (with_reducible refine (H2.out _).mono ?_; rintro e w2 ⟨rfl, hb2⟩; replace hb := hb.trans (hb2.mono hb.size); clear hb2) | (with_reducible refine (H3.out _).mono ?_; rintro e w2 ⟨rfl, rfl⟩) | (with_reducible refine (H7.out _).mono ?_; rintro e w2 ⟨rfl, rfl⟩) | (with_reducible refine (H4.out _).mono ?_; rintro e w2 ⟨rfl, rfl⟩) | (with_reducible refine (H5.out _).mono ?_; rintro e w2 ⟨rfl, rfl⟩) | (with_reducible refine (H6.out _).mono ?_; rintro e w2 ⟨rfl, rfl⟩) | (with_reducible refine (H8.out _).mono ?_; rintro e w2 ⟨rfl, rfl⟩) | (with_reducible refine (H9.out _).mono ?_; rintro e w2 ⟨rfl, rfl⟩) | (with_reducible refine (H10.out _).mono ?_; rintro e w2 ⟨rfl, hb2⟩; replace hb := hb.trans (hb2.mono hb.size); clear hb2)))
      go_ret
      first | exact ⟨rfl, hb⟩ | exact ⟨ret_bool (by rw [decide_eq_false (by omega)]; rfl), hb⟩)
end Go.Proofs.YtmpbbkjdfneklaaDoor
