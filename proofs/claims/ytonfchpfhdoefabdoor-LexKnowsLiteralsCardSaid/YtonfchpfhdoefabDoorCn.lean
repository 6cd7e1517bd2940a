/- The statement LexKnowsLiterals: the walk. -/
import Derived.Test.YtonfchpfhdoefabDoorCg
namespace Go.Proofs.YtonfchpfhdoefabDoor
open Go.RowKit

theorem below_nx {w a b : World} (h : Below w.heap.size w a) (h2 : Below a.heap.size a b) : Below w.heap.size w b := h.trans (h2.mono h.size)
theorem eqL_refl : ∀ (l : List Wd), eqL l l = true
  | [] => rfl
  | .mk k t r g :: l => by
    have h1 := eqL_refl r
    have h2 := eqL_refl l
    simp [eqL, eqW, h1, h2]
/-- Join of one literal. -/
theorem join_lit (t : ByteArray) (ht : t.size ≤ 16384) : joinE [.mk 3 t [] false] = 0 ∧ joinS [.mk 3 t [] false] = annL t.size := by
  have hj : jF [.mk 3 t [] false] = ⟨annL t.size, [t], 1⟩ := by
    have hs : (⟨[], [], 0⟩ : Jn).stops (.mk 3 t [] false) = false := by
      show (decide (512 < 0 + 1) || decide (16384 < t.size)) = false
      rw [decide_eq_false (by omega), decide_eq_false (by omega)]
      rfl
    unfold jF
    rw [jws_one _ _ _ _ hs]
    show jws false [] (jw _ _) = _
    simp only [jws, jw_parts]
    rfl
  obtain ⟨h1, h2⟩ := scan_lit t ht
  have hB : joinB [.mk 3 t [] false] = true := by
    unfold joinB
    rw [hj]
    show (decide (scanE (annL t.size) [t] = 0) && eqL (scanW (annL t.size) [t]) [.mk 3 t [] false]) = true
    rw [h1, h2, eqL_refl]
    rfl
  have hE : joinE [.mk 3 t [] false] = 0 := by
    unfold joinE
    rw [hB]
    rfl
  refine ⟨hE, ?_⟩
  unfold joinS
  rw [hE, hj]
  rfl
theorem lit_lies (w : World) (t : ByteArray) (off : Nat) : off = w.heap.size → Lies (w.alloc (.cells #[.int .i64 3, .string t, .slice none 0 0, .bool false] 33)) (fun g => g = w.heap.size) (some ⟨off, 0, none⟩) 1 1 [.mk 3 t [] false] := by
  rintro rfl
  have hb := heap_alloc_new w (.cells #[.int .i64 3, .string t, .slice none 0 0, .bool false] 33)
  refine Lies.row w.heap.size 0 1 [.mk 3 t [] false] (fun _ => none) (fun _ => 0) (fun _ => 0) rfl (Array.getElem?_eq_some_iff.1 hb).1 (by show 1 ≤ maxLen; decide) (fun i hi => ?_) (fun i hi => ?_)
  · match i, hi with
    | 0, _ => exact ⟨cell_of_row _ _ 0 _ _ _ hb, cell_of_row _ _ 1 _ _ _ hb, cell_of_row _ _ 2 _ _ _ hb, cell_of_row _ _ 3 _ _ _ hb⟩
    | (i + 1), h => exact absurd (show i + 1 < 1 from h) (by omega)
  · match i, hi with
    | 0, _ => exact .nil
    | (i + 1), h => exact absurd (show i + 1 < 1 from h) (by omega)
theorem scan_short {l : List UInt8} {lits : List ByteArray} (h : scanE l lits = 0) : l.length ≤ 4096 := by
  by_cases hl : 4096 < l.length
  · exfalso
    unfold scanE longB at h
    rw [decide_eq_true hl, Bool.true_or, Bool.true_or, if_pos rfl] at h
    exact absurd h (by decide)
  · omega
theorem out_ends {l : List UInt8} (h : qst l 0 = 0) : endsQ l = false ∧ endsQ (l ++ [32]) = false ∧ endsQ (l ++ [32, 34]) = true := by
  unfold endsQ
  rw [qst_append, qst_append, h]
  exact ⟨rfl, rfl, rfl⟩
/-- The three lines that are asked. -/
theorem three {l : List UInt8} (h : qst l 0 = 0) (n : Nat) (hn : n ≤ 999) : anced (l ++ [32] ++ annL n) = some (n, false) ∧ anced (l ++ [32, 34] ++ annL n) = none ∧ anced (l ++ (annL n).take ((annL n).length - 1) ++ [43, 125]) = some (n, true) := by
  obtain ⟨h1, h2, h3⟩ := out_ends h
  refine ⟨?_, ?_, ?_⟩
  · rw [anced_ann _ n (by omega), h2]; rfl
  · rw [anced_ann _ n (by omega), h3]; rfl
  · have e : l ++ (annL n).take ((annL n).length - 1) ++ [43, 125] = l ++ annT (Lib.decDigits n) true := by
      have e1 : annL n = (123 :: Lib.decDigits n) ++ [125] := by unfold annL; simp
      have e2 : (annL n).take ((annL n).length - 1) = 123 :: Lib.decDigits n := by
        have e3 : (annL n).length - 1 = (123 :: Lib.decDigits n).length := by rw [e1]; simp
        rw [e3, e1, List.take_left]
      rw [e2, List.append_assoc]
      unfold annT
      simp
    rw [e, anced_app l _ true (dec_all n) (dec_ne n), h1, dec_fold n (by omega)]
    rfl
/-- make([]byte, n). -/
theorem mkF {ops : Array Oper} {rest : List Oper} {o : Oper} {a : Act} {Q : Exit → Act → World → Prop} {w : World} (hg : o.guard = none) (l c : Operand) (hop : o.op = Op.makeSlice 31 l c)
    (C : Int) (n : Nat) (hC : C = (n : Int)) (hn : n ≤ 1099511627776) (hl : a.eval l = .int .i64 C) (hc : a.eval c = .int .i64 C)
    (hK : ∀ w', Own w.heap.size (.slice (some ⟨w.heap.size, 0, none⟩) n n) (List.replicate n 0) w w' → wpList Tryd.prog ops Q rest (a.put o.dst (.slice (some ⟨w.heap.size, 0, none⟩) n n)) w') :
    wpList Tryd.prog ops Q (o :: rest) a w := by
  obtain ⟨i0, hi, hz0, hz1, hz2⟩ := info_parts Tryd.infoByte
  refine wpList_make_full _ hg l c 31 hop w.heap.size 5 i0 (.int .u8 0) 1 Tryd.underlying31 hi hz0 hz1 .i64 .i64 C C n hl hc hC hC (by rw [hz2]; omega) (by unfold maxLen; omega) (Nat.le_refl _) ?_
  intro w' h1 h2
  refine hK w' ⟨?_, (Below.refl _ _).grown h2 (Nat.le_refl _) (fun k hk => by cases hk), h2.size⟩
  have e : (madeCells (Value.int .u8 0).cells (n * 1)).toList = bc (List.replicate n 0) := by
    rw [Nat.mul_one]
    rw [bc, List.map_replicate, List.eq_replicate_iff]
    refine ⟨by simp [madeCells], fun b hb => ?_⟩
    simp [madeCells, Value.cells, Nat.mod_one] at hb
    exact hb.2.symm
  rw [List.length_replicate, ← e]
  exact h1
set_option maxRecDepth 100000 in
set_option maxHeartbeats 4000000 in
theorem LexKnowsLiterals_walk (line : ByteArray) (v : Value) (lits : List ByteArray) (n : Int) (w : World) (he : Env w) (hl : Strs w v lits) (hs : line.size ≤ 140737488355328) (hz : ∀ i, i < lits.length → (lits.getD i ByteArray.empty).size ≤ 140737488355328) :
    Calls Tryd.prog 3 #[.string line, v, .int .i64 n] w fun e w' => e = .returned (.bool true) ∧ Below w.heap.size w w' := by
  have hll := L_length line
  have HK := Lib.hid (known_any w he)
  have HE := Lib.hid he
  have HSC := Lib.hid (fun W (hW : Below w.heap.size w W) => Scan_any line v lits W (hl.on hW) hs hz)
  have HN := Lib.hid num_any
  clear he hl hz
  go_enter Tryd.func3, Tryd.ntmps3
  go_upto_region 5 with (first | (go_at_call 9; refine HK.out.mono ?_; rintro e w1 ⟨rfl, hb1⟩) | (go_at_call 10; refine (HSC.out _ hb1).mono ?_; rintro e w2 ⟨a2, n2, c2, D2, rfl, hl2, hd2, hb2⟩))
  have HB2 := Lib.hid (below_nx hb1 hb2)
  clear hl2 hd2 hb1 hb2 HSC HK
  by_cases hgo : scanE (L line) lits = 0 ∧ 0 ≤ n ∧ n ≤ 999 ∧ line ≠ ⟨#[]⟩
  · obtain ⟨h1, h2, h3, h4⟩ := hgo
    obtain ⟨m, rfl⟩ : ∃ m : Nat, n = (m : Int) := ⟨n.toNat, by omega⟩
    have hq := scan_out h1
    have hsh := scan_short h1
    have hm : m ≤ 999 := by omega
    obtain ⟨t1, t2, t3⟩ := three hq m hm
    have hmz : ¬ (m : Int) < 0 := by omega
    have hmz2 : ¬ (999 : Int) < (m : Int) := by omega
    have hle : (line.toList == ([] : List UInt8)) = false := by
      rw [toList_L, beq_eq_false_iff_ne]
      intro e
      exact h4 (by rw [← S_L line, e]; rfl)
    rw [h1]
    clear h1 h3 h4 hq
    obtain ⟨t, ht⟩ : ∃ t, t = S (List.replicate m 0) := ⟨_, rfl⟩
    have hts : t.size = m := by rw [ht, S_size]; simp
    obtain ⟨j1, j2⟩ := join_lit t (by omega)
    rw [hts] at j2
    have HJ := Lib.hid (fun W hW => Join_any [.mk 3 t [] false] _ 1 1 _ _ (lit_lies W t _ rfl) hW)
    rw [j1, j2] at HJ
    have HT := Lib.hid ht
    clear ht hts j1 j2
    obtain ⟨k, hk⟩ : ∃ k, (annL m).length = k + 1 := ⟨(annL m).length - 1, by unfold annL; simp⟩
    have hk9 : k ≤ 10 := by
      have := dec_small 2 m (by omega)
      have e : (annL m).length = (Lib.decDigits m).length + 2 := by unfold annL; simp
      omega
    rw [hk, show k + 1 - 1 = k from rfl] at t3
    have hnb : (S (annL m)).size = k + 1 := by rw [S_size]; exact hk
    have hx : (S (annL m)).extract 0 k = S ((annL m).take k) := by rw [S_front, L_S]
    have hnk : (S ((annL m).take k)).size ≤ 10 := by rw [S_size, List.length_take]; omega
    have HA1 : Hid (∀ W, Calls Tryd.prog 13 #[.string (line ++ ⟨#[32]⟩ ++ S (annL m))] W fun e w' => e = .returned (.tuple #[.int .i64 m, .bool false, .bool true]) ∧ w' = W) := Lib.hid (fun W => by
      have e : line ++ ⟨#[32]⟩ ++ S (annL m) = S (L line ++ [32] ++ annL m) := by
        show line ++ S [32] ++ S (annL m) = _
        rw [← S_L line, S_app, S_app, L_S]
      have := Announced_any (S (L line ++ [32] ++ annL m)) W (by rw [S_size]; simp; omega)
      obtain ⟨e1, e2, e3⟩ := anc_yes t1
      rw [L_S, e1, e2, e3] at this
      rw [e]
      exact this)
    have HA2 : Hid (∀ W, Calls Tryd.prog 13 #[.string (line ++ ⟨#[32, 34]⟩ ++ S (annL m))] W fun e w' => e = .returned (.tuple #[.int .i64 0, .bool false, .bool false]) ∧ w' = W) := Lib.hid (fun W => by
      have e : line ++ ⟨#[32, 34]⟩ ++ S (annL m) = S (L line ++ [32, 34] ++ annL m) := by
        show line ++ S [32, 34] ++ S (annL m) = _
        rw [← S_L line, S_app, S_app, L_S]
      have := Announced_any (S (L line ++ [32, 34] ++ annL m)) W (by rw [S_size]; simp; omega)
      obtain ⟨e1, e2, e3⟩ := anc_no t2
      rw [L_S, e1, e2, e3] at this
      rw [e]
      exact this)
    have HA3 : Hid (∀ W, Calls Tryd.prog 13 #[.string (line ++ S ((annL m).take k) ++ ⟨#[43, 125]⟩)] W fun e w' => e = .returned (.tuple #[.int .i64 m, .bool true, .bool true]) ∧ w' = W) := Lib.hid (fun W => by
      have e : line ++ S ((annL m).take k) ++ ⟨#[43, 125]⟩ = S (L line ++ (annL m).take k ++ [43, 125]) := by
        show line ++ S ((annL m).take k) ++ S [43, 125] = _
        rw [← S_L line, S_app, S_app, L_S]
      have := Announced_any (S (L line ++ (annL m).take k ++ [43, 125])) W (by rw [S_size]; simp; omega)
      obtain ⟨e1, e2, e3⟩ := anc_yes t3
      rw [L_S, e1, e2, e3] at this
      rw [e]
      exact this)
    have hls : line.size ≤ 4096 := by omega
    clear t1 t2 t3 hk hsh hll
    generalize S (annL m) = nb at *
    generalize S ((annL m).take k) = nk at *
    go_upto_region 8 with (first | (at_make; refine mkF rfl _ _ rfl _ m rfl (by omega) rfl rfl ?_; intro w3 hown; have hcv := hown.back; have hb3 := hown.below; rw [← HT.out] at hcv; clear hown) | (go_at_call 11; refine (HN.out _ _).mono ?_; rintro e w' ⟨rfl, hw'⟩; rw [hw']; clear hw' w') | (go_at_call 12; refine (HJ.out _ (HE.out.on (below_nx (below_nx HB2.out hb3) ((Below.refl _ _).alloc (Nat.le_refl _) _)))).mono ?_; rintro e w4 ⟨vt, rfl, hs4, hb4⟩))
    have HB4 := Lib.hid (below_nx (below_nx (below_nx HB2.out hb3) ((Below.refl _ _).alloc (Nat.le_refl _) _)) hb4)
    clear hb3 hb4 hs4 hcv HB2 HJ HE
    go_upto_region 11 with (first | (go_at_call 11; refine (HN.out _ _).mono ?_; rintro e w' ⟨rfl, hw'⟩; rw [hw']; clear hw' w') | (go_at_call 13; refine (HA1.out _).mono ?_; rintro e w' ⟨rfl, hw'⟩; rw [hw']; clear hw' w'))
    go_upto_region 12 with (go_at_call 13; refine (HA2.out _).mono ?_; rintro e w' ⟨rfl, hw'⟩; rw [hw']; clear hw' w')
    go_wp2_with (go_at_call 13; refine (HA3.out _).mono ?_; rintro e w' ⟨rfl, hw'⟩; rw [hw']; clear hw' w')
    go_ret
    exact ⟨rfl, HB4.out⟩
  · have hcase : ¬ scanE (L line) lits = 0 ∨ (scanE (L line) lits = 0 ∧ n < 0) ∨ (scanE (L line) lits = 0 ∧ ¬ n < 0 ∧ 999 < n) ∨ (scanE (L line) lits = 0 ∧ ¬ n < 0 ∧ ¬ 999 < n ∧ line = ⟨#[]⟩) := by
      by_cases h1 : scanE (L line) lits = 0
      · by_cases h2 : n < 0
        · exact .inr (.inl ⟨h1, h2⟩)
        · by_cases h3 : 999 < n
          · exact .inr (.inr (.inl ⟨h1, h2, h3⟩))
          · refine .inr (.inr (.inr ⟨h1, h2, h3, ?_⟩))
            exact Classical.byContradiction (fun h4 => hgo ⟨h1, by omega, by omega, h4⟩)
      · exact .inl h1
    clear hgo
    rcases hcase with h1 | ⟨h1, h2⟩ | ⟨h1, h2, h3⟩ | ⟨h1, h2, h3, h4⟩
    · have hne : (scanE (L line) lits != 0) = true := by simpa using h1
      clear h1
      generalize scanE (L line) lits = ec at *
      go_wp2_with (go_at_call 11; refine (HN.out _ _).mono ?_; rintro e w' ⟨rfl, hw'⟩; rw [hw']; clear hw' w')
      go_ret
      exact ⟨rfl, HB2.out⟩
    · rw [h1]
      clear h1
      go_wp2_with (go_at_call 11; refine (HN.out _ _).mono ?_; rintro e w' ⟨rfl, hw'⟩; rw [hw']; clear hw' w')
      go_ret
      exact ⟨rfl, HB2.out⟩
    · rw [h1]
      clear h1
      go_wp2_with (go_at_call 11; refine (HN.out _ _).mono ?_; rintro e w' ⟨rfl, hw'⟩; rw [hw']; clear hw' w')
      go_ret
      exact ⟨rfl, HB2.out⟩
    · rw [h1]
      clear h1
      subst h4
      go_wp2_with (go_at_call 11; refine (HN.out _ _).mono ?_; rintro e w' ⟨rfl, hw'⟩; rw [hw']; clear hw' w')
      go_ret
      exact ⟨rfl, HB2.out⟩
end Go.Proofs.YtonfchpfhdoefabDoor
