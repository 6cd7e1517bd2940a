/- The statement LexOneWord: one. -/
import Derived.Test.YtonfchpfhdoefabDoorBw
import Derived.Test.YtonfchpfhdoefabDoorCg
namespace Go.Proofs.YtonfchpfhdoefabDoor
open Go.RowKit

set_option maxRecDepth 100000 in
set_option maxHeartbeats 4000000 in
/-- What is sent is no literal. -/
theorem one_plain (sent s : ByteArray) (k : Int) (g : Bool) (w : World) (hs : sent.size ≤ 140737488355328) (hno : ∀ x ∈ L sent, x ≠ 13) (h1 : scanE (L sent) [] = 0) (h2 : scanW (L sent) [] = [.mk k s [] g]) :
    Calls Tryd.prog 16 #[.string sent, .string s] w fun e w' => e = .returned (.bool true) ∧ Below w.heap.size w w' := by
  have hll := L_length sent
  have HSC := Lib.hid (Scan_any sent (.slice none 0 0) [] w (.inl ⟨rfl, none, 0, rfl⟩) hs (fun i hi => by simp at hi))
  rw [h1, h2] at HSC
  have HN := Lib.hid num_any
  have HNO : Hid (∀ i, i < sent.size → ¬ ((bt (L sent) i).toNat : Int) = 13) := Lib.hid (fun i hi e => by
    have hm : bt (L sent) i ∈ L sent := by
      unfold bt
      rw [List.getElem?_eq_getElem (by omega)]
      exact List.getElem_mem _
    exact hno _ hm (UInt8.toNat_inj.1 (by have : (13 : UInt8).toNat = 13 := rfl; omega)))
  clear h1 h2 hno
  go_enter Tryd.func16, Tryd.ntmps16
  go_wp2_with fail
  go_loop [5, 6, 7] (fun a b c => a = .string sent ∧ b = .slice none 0 0 ∧ ∃ i : Nat, i ≤ sent.size ∧ c = .int .i64 (i : Int)) (fun _ _ c => sent.size - (intOf c).toNat)
  case atStart => exact ⟨rfl, rfl, 0, Nat.zero_le _, rfl⟩
  case round =>
    obtain ⟨rfl, rfl, i, hi, rfl⟩ := hrel
    by_cases hlt : i + 1 < sent.size
    · have hiz : (i : Int) + 1 < (sent.size : Int) := by omega
      have hi0 : (0 : Int) ≤ (i : Int) := by omega
      have hi1 : (i : Int) < (sent.size : Int) := by omega
      have ea := get_btx sent i (by omega)
      have hcz := HNO.out i (by omega)
      have h256 := bt_lt (L sent) i
      generalize bt (L sent) i = c at *
      go_wp2_with fail
      go_round
      case rel => exact ⟨rfl, rfl, i + 1, by omega, by go_num⟩
      case measure => simp [intOf]; omega
    · have hiz : ¬ (i : Int) + 1 < (sent.size : Int) := by omega
      go_upto_region 14 with (go_at_call 10; refine HSC.out.mono ?_; rintro e w1 ⟨a1, n1, c1, D1, rfl, hl1, hd1, hb1⟩)
      obtain ⟨g1, o1, rfl, hm1, va, vn, vc, ⟨p0, p1, p2, p3⟩, hk1⟩ := hl1.pick 0 (by simp)
      obtain rfl := hl1.len
      obtain rfl := hk1.len
      change w1.cell? ⟨g1, o1 + 0 * 4 + 1, none⟩ = some (.string s) at p1
      change w1.cell? ⟨g1, o1 + 0 * 4 + 2, none⟩ = some (.slice va 0 vc) at p2
      rw [Nat.zero_mul, Nat.add_zero] at p1 p2
      have hss : (s.toList == s.toList) = true := by simp
      clear p0 p3 hk1 hm1 hl1 hd1 HSC HNO
      go_wp2_with (go_at_call 11; refine (HN.out _ _).mono ?_; rintro e w' ⟨rfl, hw'⟩; rw [hw']; clear hw' w')
      go_ret
      exact ⟨rfl, hb1⟩
set_option maxRecDepth 100000 in
set_option maxHeartbeats 4000000 in
/-- What is sent is a literal. -/
theorem one_lit (A B : List UInt8) (s : ByteArray) (k : Int) (g : Bool) (w : World) (hA : A.length ≤ 1000000) (hB : B.length ≤ 1000000) (hno : ∀ x ∈ A, x ≠ 13) (ha : anced A = some (B.length, false)) (h1 : scanE A [S B] = 0) (h2 : scanW A [S B] = [.mk k s [] g]) :
    Calls Tryd.prog 16 #[.string (S (A ++ 13 :: 10 :: B)), .string s] w fun e w' => e = .returned (.bool true) ∧ Below w.heap.size w w' := by
  obtain ⟨sent, hsent⟩ : ∃ t, t = S (A ++ 13 :: 10 :: B) := ⟨_, rfl⟩
  have hL : L sent = A ++ 13 :: 10 :: B := by rw [hsent, L_S]
  have hsz : sent.size = A.length + 2 + B.length := by rw [← L_length, hL]; simp; omega
  rw [← hsent]
  have hx1 : sent.extract 0 A.length = S A := by rw [S_front, hL, List.take_left]
  have hx2 : sent.extract (A.length + 2) sent.size = S B := by
    rw [S_drop, hL, show A ++ 13 :: 10 :: B = (A ++ [13, 10]) ++ B by simp, show A.length + 2 = (A ++ [13, 10]).length by simp, List.drop_left]
  have hbs : (S B).size = B.length := S_size B
  have hA0 := (Below.refl w.heap.size w).alloc (Nat.le_refl _) (.cells #[.string (S B)] 9)
  have hst : Strs (w.alloc (.cells #[.string (S B)] 9)) (.slice (some ⟨w.heap.size, 0, none⟩) 1 1) [S B] := by
    have hb := heap_alloc_new w (.cells #[.string (S B)] 9)
    refine .inr ⟨w.heap.size, 0, 1, rfl, by simp, by simp, (Array.getElem?_eq_some_iff.1 hb).1, fun i hi => ?_⟩
    match i, hi with
    | 0, _ => exact cell_of_row _ _ 0 _ _ _ hb
    | (i + 1), h => exact absurd (show i + 1 < 1 from h) (by omega)
  have HSC := Lib.hid (Scan_any (S A) (.slice (some ⟨w.heap.size, 0, none⟩) 1 1) [S B] _ hst (by rw [S_size]; omega) (fun i hi => by
    match i, hi with
    | 0, _ => show (S B).size ≤ _; omega
    | (i + 1), h => exact absurd (show i + 1 < 1 from h) (by omega)))
  rw [L_S, h1, h2] at HSC
  have HAN := Lib.hid (fun W => Announced_any (S A) W (by rw [S_size]; omega))
  obtain ⟨e1, e2, e3⟩ := anc_yes ha
  rw [L_S, e1, e2, e3] at HAN
  have HN := Lib.hid num_any
  have HNO : Hid (∀ i, i < A.length → ¬ ((bt (L sent) i).toNat : Int) = 13) := Lib.hid (fun i hi e => by
    have hm : bt (L sent) i ∈ A := by
      unfold bt
      rw [hL, List.getElem?_append_left hi, List.getElem?_eq_getElem hi]
      exact List.getElem_mem _
    exact hno _ hm (UInt8.toNat_inj.1 (by have : (13 : UInt8).toNat = 13 := rfl; omega)))
  have H13 : Hid ((bt (L sent) A.length).toNat = 13 ∧ (bt (L sent) (A.length + 1)).toNat = 10) := Lib.hid (by
    unfold bt
    rw [hL, List.getElem?_append_right (Nat.le_refl _), List.getElem?_append_right (by omega)]
    simp)
  have hne : ((B.length : Int) != (B.length : Int)) = false := by simp
  have HA0 := Lib.hid hA0
  have HSZ := Lib.hid hsz
  clear h1 h2 hno ha e1 e2 e3 hst hA0 hL hsent hsz
  go_enter Tryd.func16, Tryd.ntmps16
  go_wp2_with fail
  go_loop [5, 6, 7] (fun a b c => a = .string sent ∧ b = .slice none 0 0 ∧ ∃ i : Nat, i ≤ A.length ∧ c = .int .i64 (i : Int)) (fun _ _ c => sent.size - (intOf c).toNat)
  case atStart => exact ⟨rfl, rfl, 0, Nat.zero_le _, rfl⟩
  case round =>
    obtain ⟨rfl, rfl, i, hi, rfl⟩ := hrel
    have hiz : (i : Int) + 1 < (sent.size : Int) := by have := HSZ.out; omega
    have hi0 : (0 : Int) ≤ (i : Int) := by omega
    have hi1 : (i : Int) < (sent.size : Int) := by omega
    have ea := get_btx sent i (by omega)
    have h256 := bt_lt (L sent) i
    by_cases hlt : i < A.length
    · have hcz := HNO.out i hlt
      clear hx1 hx2
      generalize bt (L sent) i = c at *
      go_wp2_with fail
      go_round
      case rel => exact ⟨rfl, rfl, i + 1, by omega, by go_num⟩
      case measure => simp [intOf]; omega
    · obtain rfl : i = A.length := by omega
      have ea2 := get_btx sent (A.length + 1) (by have := HSZ.out; omega)
      have hcz : ((bt (L sent) A.length).toNat : Int) = 13 := by rw [H13.out.1]; rfl
      have hcz2 : ((bt (L sent) (A.length + 1)).toNat : Int) = 10 := by rw [H13.out.2]; rfl
      have h256b := bt_lt (L sent) (A.length + 1)
      have hi2 : (A.length : Int) + 2 ≤ (sent.size : Int) := by have := HSZ.out; omega
      have hi3 : (A.length : Int) ≤ (sent.size : Int) := by omega
      clear HNO H13
      generalize bt (L sent) A.length = c at *
      generalize bt (L sent) (A.length + 1) = c2 at *
      go_upto_region 14 with (first | (go_at_call 13; refine (HAN.out _).mono ?_; rintro e w' ⟨rfl, hw'⟩; rw [hw']; clear hw' w') | (go_at_call 10; refine HSC.out.mono ?_; rintro e w1 ⟨a1, n1, c1, D1, rfl, hl1, hd1, hb1⟩))
      obtain ⟨g1, o1, rfl, hm1, va, vn, vc, ⟨p0, p1, p2, p3⟩, hk1⟩ := hl1.pick 0 (by simp)
      obtain rfl := hl1.len
      obtain rfl := hk1.len
      change w1.cell? ⟨g1, o1 + 0 * 4 + 1, none⟩ = some (.string s) at p1
      change w1.cell? ⟨g1, o1 + 0 * 4 + 2, none⟩ = some (.slice va 0 vc) at p2
      rw [Nat.zero_mul, Nat.add_zero] at p1 p2
      have hss : (s.toList == s.toList) = true := by simp
      clear p0 p3 hk1 hm1 hl1 hd1 HSC
      go_wp2_with (go_at_call 11; refine (HN.out _ _).mono ?_; rintro e w' ⟨rfl, hw'⟩; rw [hw']; clear hw' w')
      go_ret
      exact ⟨rfl, HA0.out.trans (hb1.mono HA0.out.size)⟩
end Go.Proofs.YtonfchpfhdoefabDoor

/- The statement LexOneWord: the walk. -/
namespace Go.Proofs.YtonfchpfhdoefabDoor
open Go.RowKit

theorem one_str (s : ByteArray) (w : World) (hs : s.size ≤ 2000) :
    Calls Tryd.prog 16 #[.string (S (strL (L s))), .string s] w fun e w' => e = .returned (.bool true) ∧ Below w.heap.size w w' := by
  have hll := L_length s
  have hSL : S (L s) = s := S_L s
  cases hq : (L s).all quotC with
  | true =>
    have e : strL (L s) = quoteL (L s) := by unfold strL; rw [hq]; rfl
    obtain ⟨h1, h2⟩ := scan_quote (L s) hq (by omega)
    rw [hSL] at h2
    have hl := quoteL_len (L s)
    rw [e]
    exact one_plain _ s 2 false w (by rw [S_size]; omega) (by rw [L_S]; exact quote_13 _ hq) (by rw [L_S]; exact h1) (by rw [L_S]; exact h2)
  | false =>
    have e : strL (L s) = annL s.size ++ 13 :: 10 :: L s := by
      unfold strL
      rw [hq, hll]
      simp
    obtain ⟨h1, h2⟩ := scan_lit s (by omega)
    have hd := dec_small 4 s.size (by omega)
    have hal : (annL s.size).length ≤ 100 := by unfold annL; simp; omega
    rw [e]
    refine one_lit (annL s.size) (L s) s 3 false w (by omega) (by omega) (annL_13 _) ?_ (by rw [hSL]; exact h1) (by rw [hSL]; exact h2)
    have := anced_ann [] s.size (by omega)
    rw [List.nil_append] at this
    rw [this, hll]
    rfl
theorem one_put (s : ByteArray) (w : World) (hs : s.size ≤ 2000) :
    Calls Tryd.prog 16 #[.string (S (putL (L s))), .string s] w fun e w' => e = .returned (.bool true) ∧ Below w.heap.size w w' := by
  have hll := L_length s
  cases hq : isAstr (L s) with
  | true =>
    have e : putL (L s) = L s := by unfold putL; rw [hq]; rfl
    obtain ⟨c, r, hcr, _, hw⟩ := astr_head hq
    obtain ⟨h1, h2⟩ := scan_atom (L s) (by rw [hcr]; simp) hw (by omega)
    rw [S_L s] at h2
    rw [e, S_L s]
    exact one_plain s s 1 false w (by omega) (wd_13 hw) h1 h2
  | false =>
    have e : putL (L s) = strL (L s) := by unfold putL; rw [hq]; rfl
    rw [e]
    exact one_str s w hs
theorem nilS : S (nstrL false (L ⟨#[]⟩)) = ⟨#[78, 73, 76]⟩ := by kernel_rfl
end Go.Proofs.YtonfchpfhdoefabDoor

/- The statement LexOneWord: the walk. -/
namespace Go.Proofs.YtonfchpfhdoefabDoor
open Go.RowKit

theorem S_one {a b : List UInt8} (h : S a = S b) : a = b := by rw [← L_S a, h, L_S]
theorem below_next {w a b : World} (h : Below w.heap.size w a) (h2 : Below a.heap.size a b) : Below w.heap.size w b := h.trans (h2.mono h.size)
set_option maxRecDepth 100000 in
set_option maxHeartbeats 4000000 in
theorem LexOneWord_walk (s t : ByteArray) (w : World) (he : Env w) (hs : s.size ≤ 140737488355328) (ht : t.size ≤ 140737488355328) :
    Calls Tryd.prog 4 #[.string s, .string t] w fun e w' => e = .returned (.bool true) ∧ Below w.heap.size w w' := by
  have HK := Lib.hid (known_any w he)
  have HE := Lib.hid he
  clear he
  by_cases h1 : s.size ≤ 2000
  · have h1z : ¬ (2000 : Int) < (s.size : Int) := by omega
    by_cases h2 : t.size ≤ 2000
    · have h2z : ¬ (2000 : Int) < (t.size : Int) := by omega
      have HS := Lib.hid (fun W hW => lString_any s W hW (by omega))
      have HP := Lib.hid (fun W hW => lPut_any s W hW (by omega))
      have HT := Lib.hid (fun W hW => lString_any t W hW (by omega))
      have HQ := Lib.hid (fun W hW => lPut_any t W hW (by omega))
      have HO := Lib.hid (fun W => one_str s W h1)
      have HU := Lib.hid (fun W => one_put s W h1)
      have HZ := Lib.hid (fun W hW => lNstring_any false ⟨#[]⟩ W hW (by decide))
      rw [nilS] at HZ
      have HY := Lib.hid (fun W hW => lNstring_any true s W hW (by omega))
      rw [show nstrL true (L s) = strL (L s) from rfl] at HY
      have hn : ((S (putL (L s))).toList == [78, 73, 76]) = false := by
        rw [toList_L, L_S, beq_eq_false_iff_ne]
        exact putL_nil (L s)
      have haa : ((S (strL (L s))).toList == (S (strL (L s))).toList) = true := by simp
      by_cases hst : s = t
      · subst hst
        have hpp : ((S (putL (L s))).toList == (S (putL (L s))).toList) = true := by simp
        have hss : (s.toList == s.toList) = true := by simp
        clear HT HQ h1 h2
        generalize S (strL (L s)) = a at *
        generalize S (putL (L s)) = b at *
        go_enter Tryd.func4, Tryd.ntmps4
        go_upto_region 6 with (go_at_call 9; refine HK.out.mono ?_; rintro e w1 ⟨rfl, hb1⟩)
        have he1 := Lib.hid (HE.out.on hb1)
        go_upto_region 7 with (go_at_call 14; refine (HS.out _ he1.out).mono ?_; rintro e w2 ⟨rfl, hb2⟩)
        have hb2' := hb1.trans (hb2.mono hb1.size)
        have he2 := Lib.hid (HE.out.on hb2')
        clear hb1 hb2 he1
        go_upto_region 8 with (go_at_call 15; refine (HP.out _ he2.out).mono ?_; rintro e w3 ⟨rfl, hb3⟩)
        have hb3' := hb2'.trans (hb3.mono hb2'.size)
        clear hb2' hb3 he2
        go_upto_region 10 with (go_at_call 16; first | (with_reducible refine (HO.out _).mono ?_; rintro e w4 ⟨rfl, hb4⟩) | (with_reducible refine (HU.out _).mono ?_; rintro e w5 ⟨rfl, hb5⟩))
        have hB5 := below_next (below_next hb3' hb4) hb5
        have HB5 := Lib.hid hB5
        clear hb3' hb4 hb5 hB5 HO HU
        go_wp2_with (first | (go_at_call 14; with_reducible refine (HS.out _ (HE.out.on HB5.out)).mono ?_; rintro e w6 ⟨rfl, hb6⟩) | (go_at_call 15; with_reducible refine (HP.out _ (HE.out.on (below_next HB5.out hb6))).mono ?_; rintro e w7 ⟨rfl, hb7⟩) | (go_at_call 17; first | (with_reducible refine (HZ.out _ (HE.out.on (below_next (below_next HB5.out hb6) hb7))).mono ?_; rintro e w8 ⟨rfl, hb8⟩) | (with_reducible refine (HY.out _ (HE.out.on (below_next (below_next (below_next HB5.out hb6) hb7) hb8))).mono ?_; rintro e w9 ⟨rfl, hb9⟩)))
        go_ret
        exact ⟨rfl, below_next (below_next (below_next (below_next HB5.out hb6) hb7) hb8) hb9⟩
      · have hta : ((S (strL (L t))).toList == (S (strL (L s))).toList) = false := by
          rw [txt_eq, decide_eq_false]
          intro e
          have := strL_inj (S_one e)
          exact hst (by rw [← S_L s, ← S_L t, this])
        have htb : ((S (putL (L t))).toList == (S (putL (L s))).toList) = false := by
          rw [txt_eq, decide_eq_false]
          intro e
          have := putL_inj (S_one e)
          exact hst (by rw [← S_L s, ← S_L t, this])
        clear h1 h2 hst
        generalize S (strL (L s)) = a at *
        generalize S (putL (L s)) = b at *
        generalize S (strL (L t)) = a2 at *
        generalize S (putL (L t)) = b2 at *
        go_enter Tryd.func4, Tryd.ntmps4
        go_upto_region 6 with (go_at_call 9; refine HK.out.mono ?_; rintro e w1 ⟨rfl, hb1⟩)
        have he1 := Lib.hid (HE.out.on hb1)
        go_upto_region 7 with (go_at_call 14; refine (HS.out _ he1.out).mono ?_; rintro e w2 ⟨rfl, hb2⟩)
        have hb2' := hb1.trans (hb2.mono hb1.size)
        have he2 := Lib.hid (HE.out.on hb2')
        clear hb1 hb2 he1
        go_upto_region 8 with (go_at_call 15; refine (HP.out _ he2.out).mono ?_; rintro e w3 ⟨rfl, hb3⟩)
        have hb3' := hb2'.trans (hb3.mono hb2'.size)
        clear hb2' hb3 he2
        go_upto_region 10 with (go_at_call 16; first | (with_reducible refine (HO.out _).mono ?_; rintro e w4 ⟨rfl, hb4⟩) | (with_reducible refine (HU.out _).mono ?_; rintro e w5 ⟨rfl, hb5⟩))
        have hB5 := below_next (below_next hb3' hb4) hb5
        have HB5 := Lib.hid hB5
        clear hb3' hb4 hb5 hB5 HO HU
        go_wp2_with (first | (go_at_call 14; with_reducible refine (HT.out _ (HE.out.on HB5.out)).mono ?_; rintro e w6 ⟨rfl, hb6⟩) | (go_at_call 15; with_reducible refine (HQ.out _ (HE.out.on (below_next HB5.out hb6))).mono ?_; rintro e w7 ⟨rfl, hb7⟩) | (go_at_call 17; first | (with_reducible refine (HZ.out _ (HE.out.on (below_next (below_next HB5.out hb6) hb7))).mono ?_; rintro e w8 ⟨rfl, hb8⟩) | (with_reducible refine (HY.out _ (HE.out.on (below_next (below_next (below_next HB5.out hb6) hb7) hb8))).mono ?_; rintro e w9 ⟨rfl, hb9⟩)))
        go_ret
        exact ⟨rfl, below_next (below_next (below_next (below_next HB5.out hb6) hb7) hb8) hb9⟩
    · have h2z : (2000 : Int) < (t.size : Int) := by omega
      go_enter Tryd.func4, Tryd.ntmps4
      go_wp2_with (go_at_call 9; refine HK.out.mono ?_; rintro e w1 ⟨rfl, hb1⟩)
      go_ret
      exact ⟨rfl, hb1⟩
  · have h1z : (2000 : Int) < (s.size : Int) := by omega
    go_enter Tryd.func4, Tryd.ntmps4
    go_wp2_with (go_at_call 9; refine HK.out.mono ?_; rintro e w1 ⟨rfl, hb1⟩)
    go_ret
    exact ⟨rfl, hb1⟩
end Go.Proofs.YtonfchpfhdoefabDoor
