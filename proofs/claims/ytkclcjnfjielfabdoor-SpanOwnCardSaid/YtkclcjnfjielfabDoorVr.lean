/- span: readPieces. -/
import Derived.Test.YtkclcjnfjielfabDoorVq
namespace Go.Proofs.YtkclcjnfjielfabDoor
open Go.RowKit

/-- What readPieces holds: the row, the piece's two cells. -/
structure RP (w : World) (v : Value) (acc : List Rg) (p1 p2 : Int) (X : World) : Prop where
  row : X.ownsRow (w.heap.size + 1) 63 2 v acc.length (rc acc)
  below : Below w.heap.size w X
  c1 : X.cell? ⟨w.heap.size, 0, none⟩ = some (.int .i64 p1)
  c2 : X.cell? ⟨w.heap.size, 1, none⟩ = some (.int .i64 p2)
  f1 : X.frozen? ⟨w.heap.size, 0, none⟩ = false
  f2 : X.frozen? ⟨w.heap.size, 1, none⟩ = false
  sz : w.heap.size + 1 ≤ X.heap.size
theorem RP.own {w X : World} {v : Value} {acc : List Rg} {p1 p2 : Int} (h : RP w v acc p1 p2 X) : OwnR (w.heap.size + 1) v acc X X := ⟨h.row, Below.refl _ _, h.sz⟩
theorem RP.app {w X Y : World} {v v' : Value} {acc acc' : List Rg} {p1 p2 : Int} (h : RP w v acc p1 p2 X) (ho : OwnR (w.heap.size + 1) v' acc' X Y) : RP w v' acc' p1 p2 Y :=
  ⟨ho.row, h.below.trans (ho.below.mono (by omega)), by rw [ho.below.cell (p := ⟨w.heap.size, 0, none⟩) (by show w.heap.size < w.heap.size + 1; omega)]; exact h.c1, by rw [ho.below.cell (p := ⟨w.heap.size, 1, none⟩) (by show w.heap.size < w.heap.size + 1; omega)]; exact h.c2, by rw [ho.below.frozen (p := ⟨w.heap.size, 0, none⟩) (by show w.heap.size < w.heap.size + 1; omega)]; exact h.f1, by rw [ho.below.frozen (p := ⟨w.heap.size, 1, none⟩) (by show w.heap.size < w.heap.size + 1; omega)]; exact h.f2, ho.base⟩
theorem RP.on {w X Y : World} {v : Value} {acc : List Rg} {p1 p2 : Int} (h : RP w v acc p1 p2 X) (hb : Below X.heap.size X Y) : RP w v acc p1 p2 Y := h.app (h.own.on hb)
theorem RP.set1 {w X : World} {v : Value} {acc : List Rg} {p1 p2 : Int} (h : RP w v acc p1 p2 X) (z : Int) : RP w v acc z p2 (X.setCell ⟨w.heap.size, 0, none⟩ (.int .i64 z)) := by
  refine ⟨⟨h.row.1, ?_⟩, h.below.setCell (Nat.le_refl _) _, World.cell?_setCell_same' _ _ _ (by rw [h.c1]; rfl), ?_, ?_, ?_, by simpa using h.sz⟩
  · rcases h.row.2 with hn | ⟨g, cap, cur, rfl, hB, hg, rest⟩
    · exact .inl hn
    · exact .inr ⟨g, cap, cur, rfl, hB, by rw [Below.heap_setCell _ _ _ _ (by show g ≠ w.heap.size; omega)]; exact hg, rest⟩
  · rw [World.cell?_setCell_other _ _ _ _ (by intro hh; cases hh)]; exact h.c2
  · rw [World.frozen?_setCell]; exact h.f1
  · rw [World.frozen?_setCell]; exact h.f2
theorem RP.set2 {w X : World} {v : Value} {acc : List Rg} {p1 p2 : Int} (h : RP w v acc p1 p2 X) (z : Int) : RP w v acc p1 z (X.setCell ⟨w.heap.size, 1, none⟩ (.int .i64 z)) := by
  refine ⟨⟨h.row.1, ?_⟩, h.below.setCell (Nat.le_refl _) _, ?_, World.cell?_setCell_same' _ _ _ (by rw [h.c2]; rfl), ?_, ?_, by simpa using h.sz⟩
  · rcases h.row.2 with hn | ⟨g, cap, cur, rfl, hB, hg, rest⟩
    · exact .inl hn
    · exact .inr ⟨g, cap, cur, rfl, hB, by rw [Below.heap_setCell _ _ _ _ (by show g ≠ w.heap.size; omega)]; exact hg, rest⟩
  · rw [World.cell?_setCell_other _ _ _ _ (by intro hh; cases hh)]; exact h.c1
  · rw [World.frozen?_setCell]; exact h.f1
  · rw [World.frozen?_setCell]; exact h.f2
theorem RP.done {w X : World} {v : Value} {acc : List Rg} {p1 p2 : Int} (h : RP w v acc p1 p2 X) : OwnR w.heap.size v acc w X := (h.own.mono (by omega)).shift h.below
theorem RP.env {w X : World} {v : Value} {acc : List Rg} {p1 p2 : Int} (h : RP w v acc p1 p2 X) (he : Env w) : Env X := he.on h.below
theorem ret_vb {v : Value} {a b : Bool} (h : a = b) : Ending.returned (.tuple #[v, .bool a]) = .returned (.tuple #[v, .bool b]) := by rw [h]

theorem drop_cons (T : List UInt8) (k : Nat) (hk : k < T.length) : T.drop k = bt T k :: T.drop (k + 1) := by
  rw [bt_getElem T k hk, List.drop_eq_getElem_cons hk]
theorem seg_snoc (T : List UInt8) (b k : Nat) (hb : b ≤ k) (hk : k < T.length) : (T.take (k + 1)).drop b = (T.take k).drop b ++ [bt T k] := by
  rw [take_snoc T k hk, List.drop_append_of_le_length (by rw [List.length_take]; omega)]
theorem extract_L (t : ByteArray) (b k : Nat) : L (t.extract b k) = ((L t).take k).drop b := by
  unfold L
  rw [ByteArray.data_extract, Array.toList_extract]
  simp [List.extract_eq_take_drop, List.drop_take]
theorem scn_comma (r seg : List UInt8) (pd : Bool) (p1 p2 : Int) (acc : List Rg) (e : Int) (h : endV seg = some e) : scn (44 :: r) seg pd (p1, p2) acc = scn r [] false (if pd = true then p1 else e, e) (acc ++ [(if pd = true then p1 else e, e)]) := by
  rw [scn, if_pos (.inl rfl), h]
  show (if pd = true ∧ (44 : UInt8) = 58 then none else _) = _
  rw [if_neg (by simp)]
  rfl
theorem scn_colon (r seg : List UInt8) (p1 p2 : Int) (acc : List Rg) (e : Int) (h : endV seg = some e) : scn (58 :: r) seg false (p1, p2) acc = scn r [] true (e, e) acc := by
  rw [scn, if_pos (.inr rfl), h]
  rfl
theorem scn_colon2 (r seg : List UInt8) (p1 p2 : Int) (acc : List Rg) (e : Int) (h : endV seg = some e) : scn (58 :: r) seg true (p1, p2) acc = none := by
  rw [scn, if_pos (.inr rfl), h]
  rfl
theorem scn_none (c : UInt8) (r seg : List UInt8) (pd : Bool) (pc : Rg) (acc : List Rg) (hc : c = 44 ∨ c = 58) (h : endV seg = none) : scn (c :: r) seg pd pc acc = none := by
  rw [scn, if_pos hc, h]
theorem scn_other (c : UInt8) (r seg : List UInt8) (pd : Bool) (pc : Rg) (acc : List Rg) (h1 : ¬ c = 44) (h2 : ¬ c = 58) : scn (c :: r) seg pd pc acc = scn r (seg ++ [c]) pd pc acc := by
  rw [scn, if_neg (by rintro (h | h); exact h1 h; exact h2 h)]
/-- How readPieces ends. -/
def rpV (R : Option (List Rg)) : List Rg := R.getD []

set_option maxRecDepth 100000 in
set_option maxHeartbeats 4000000 in
theorem readPieces_any (s : ByteArray) (w : World) (he : Env w) (hs : s.size ≤ 4096) :
    Calls Tryd.prog 56 #[.string s] w fun e w' => ∃ v', e = .returned (.tuple #[v', .bool (pcs (L s)).isSome]) ∧ OwnR w.heap.size v' (rpV (pcs (L s))) w w' := by
  have hT : (s ++ { data := #[44] } : ByteArray) = S (L s ++ [44]) := by rw [← S_append]; rfl
  have hlen : (L s ++ [44]).length ≤ 4097 := by simp [L_length]; omega
  have hlast : bt (L s ++ [44]) ((L s ++ [44]).length - 1) = 44 := by simp [bt]
  have hpos : 0 < (L s ++ [44]).length := by simp
  have HR : ∃ R, R = pcs (L s) := ⟨_, rfl⟩
  obtain ⟨R, hR⟩ := HR
  rw [← hR]
  unfold pcs at hR
  have HRR := Lib.hid hR
  clear hR
  obtain ⟨t, ht⟩ : ∃ t, t = S (L s ++ [44]) := ⟨_, rfl⟩
  have htL : L t = L s ++ [44] := by rw [ht]; rfl
  have hcat : (s ++ { data := #[44] } : ByteArray) = t := by rw [hT, ht]
  rw [← htL] at hlen hlast hpos HRR
  rw [L_length] at hlen hpos hlast
  have HLS := Lib.hid hlast
  have HV := Lib.hid he
  have hc0 : ¬ 9223372036854775807 < s.size + 1 := by omega
  clear hT ht htL hlast he
  go_enter Tryd.func56, Tryd.ntmps56
  go_wp2_with fail
  go_step3
  go_wp2_with fail
  go_step3
  go_wp2_with fail
  go_loopg [4, 6, 7] t.size (fun gg s4 s6 s7 wr => ∃ (bg : Nat) (v4 : Value) (pd : Bool) (p1 p2 : Int) (acc : List Rg), bg ≤ t.size ∧ t.size - bg ≤ gg ∧ s7 = .int .i64 bg ∧ v4 = s4 ∧ s6 = .bool pd ∧ acc.length ≤ bg ∧ RP w v4 acc p1 p2 wr ∧ Hid (R = scn ((L t).drop bg) [] pd (p1, p2) acc))
  case atStart => exact ⟨0, _, _, 0, 0, [], Nat.zero_le _, by omega, rfl, rfl, rfl, by simp, ⟨World.ownsRow_nil _ _ _ _, (Below.refl _ _).alloc (Nat.le_refl _) _, by simp, by simp, by simp, by simp, by simp⟩, HRR⟩
  case round =>
    obtain ⟨bg, v4, pd, p1, p2, acc, hbg, hgg, rfl, hv4, rfl, hacc, hrp, hR⟩ := hrel
    subst hv4
    have HP := Lib.hid hrp
    clear hrp
    by_cases hlt : bg < t.size
    · have hltz : (bg : Int) < (t.size : Int) := by omega
      go_wp2_with fail
      go_loopg [4, 6, 7, 8] t.size (fun gg s4 s6 s7 s8 wx => ∃ k : Nat, s4 = v4 ∧ s6 = .bool pd ∧ s7 = .int .i64 bg ∧ bg ≤ k ∧ k < t.size ∧ t.size - k ≤ gg ∧ s8 = .int .i64 k ∧ RP w v4 acc p1 p2 wx ∧ Hid (R = scn ((L t).drop k) (((L t).take k).drop bg) pd (p1, p2) acc))
      case atStart => exact ⟨bg, rfl, rfl, rfl, Nat.le_refl _, hlt, by omega, rfl, HP.out, by rw [show ((L t).take bg).drop bg = [] from List.drop_eq_nil_of_le (by rw [List.length_take]; omega)]; exact hR⟩
      case round =>
        clear HP hR
        obtain ⟨k, rfl, rfl, rfl, hbk, hk, hgg2, rfl, hrp, hR⟩ := hrel
        have HP := Lib.hid hrp
        clear hrp
        have hkz : (k : Int) < (t.size : Int) := by omega
        have hck : ((t[k]).toNat : Int) = ((bt (L t) k).toNat : Int) := by rw [bt_getElem (L t) k (by rw [L_length]; exact hk)]; rfl
        have hR2 : Hid (R = scn (bt (L t) k :: (L t).drop (k + 1)) (((L t).take k).drop bg) pd (p1, p2) acc) := Lib.hid (by rw [← drop_cons (L t) k (by rw [L_length]; exact hk)]; exact hR.out)
        have hsn := Lib.hid (seg_snoc (L t) bg k hbk (by rw [L_length]; exact hk))
        have hxt := Lib.hid (extract_L t bg k)
        have hls : Hid (¬ bt (L t) k = 44 → k + 1 < t.size) := Lib.hid (fun h => by
          rcases Nat.lt_or_ge (k + 1) t.size with h1 | h1
          · exact h1
          · exact absurd (by rw [show k = t.size - 1 by omega]; exact HLS.out) h)
        generalize bt (L t) k = c at *
        have u44 : (44 : UInt8).toNat = 44 := rfl
        have u58 : (58 : UInt8).toNat = 58 := rfl
        by_cases h44 : c = 44
        · subst h44
          have q1 : (((t[k]).toNat : Int) != 44) = false := by rw [hck]; rfl
          have q2 : (((t[k]).toNat : Int) == 44) = true := by rw [hck]; rfl
          have q3 : (((t[k]).toNat : Int) == 58) = false := by rw [hck]; rfl
          clear hck
          have HE := Lib.hid (readEnd_any (t.extract bg k) _ (HP.out.env HV.out) (by rw [ByteArray.size_extract]; omega))
          rw [hxt.out] at HE
          cases hev : endV (((L t).take k).drop bg) with
          | none =>
            rw [hev] at HE
            have hRN : Hid (R = none) := Lib.hid (by rw [hR2.out]; exact scn_none _ _ _ _ _ _ (.inl rfl) hev)
            clear hev
            go_wp2_with (go_at_call 67; refine HE.out.mono ?_; rintro e w1 ⟨rfl, hb1⟩)
            try rw [Exit.noGoto_ret]
            go_ret2
            exact ⟨_, ret_vb (by rw [hRN.out]; rfl), by rw [hRN.out]; exact OwnR.nil (HP.out.on hb1).below (HP.out.on hb1).below.size⟩
          | some ev =>
            rw [hev] at HE
            have hR3 := Lib.hid (hR2.out.trans (scn_comma _ _ pd p1 p2 acc ev hev))
            clear hev
            cases pd with
            | false =>
              replace hR3 : Hid (R = scn ((L t).drop (k + 1)) [] false (ev, ev) (acc ++ [(ev, ev)])) := hR3
              go_wp2_with (first | (go_at_call 67; refine HE.out.mono ?_; rintro e w1 ⟨rfl, hb1⟩; have hx1 := (HP.out.on hb1).c1; have hx2 := (HP.out.on hb1).c2; have hx3 := (HP.out.on hb1).f1; have hx4 := (HP.out.on hb1).f2) | (at_builtin; refine appP rfl _ _ rfl ev ev (((HP.out.on hb1).set1 ev).set2 ev).own rfl (by show Value.slice _ 1 1 = _; simp) (by omega) ?_))
              intro v6 w6 ho6
              have HO6 := Lib.hid ((((HP.out.on hb1).set1 ev).set2 ev).app ho6)
              clear ho6
              go_wp2_with fail
              go_roundg (t.size - (k + 1))
              case measure => omega
              case rel => exact ⟨k + 1, _, _, _, _, _, by omega, by omega, by go_num, rfl, rfl, by rw [List.length_append, List.length_singleton]; omega, HO6.out, hR3⟩
            | true =>
              replace hR3 : Hid (R = scn ((L t).drop (k + 1)) [] false (p1, ev) (acc ++ [(p1, ev)])) := hR3
              go_wp2_with (first | (go_at_call 67; refine HE.out.mono ?_; rintro e w1 ⟨rfl, hb1⟩; have hx1 := (HP.out.on hb1).c1; have hx2 := (HP.out.on hb1).c2; have hx3 := (HP.out.on hb1).f1; have hx4 := (HP.out.on hb1).f2) | (at_builtin; refine appP rfl _ _ rfl p1 ev ((HP.out.on hb1).set2 ev).own rfl (by show Value.slice _ 1 1 = _; simp) (by omega) ?_))
              intro v6 w6 ho6
              have HO6 := Lib.hid (((HP.out.on hb1).set2 ev).app ho6)
              clear ho6
              go_wp2_with fail
              go_roundg (t.size - (k + 1))
              case measure => omega
              case rel => exact ⟨k + 1, _, _, _, _, _, by omega, by omega, by go_num, rfl, rfl, by rw [List.length_append, List.length_singleton]; omega, HO6.out, hR3⟩
        · have n44 : ¬ ((t[k]).toNat : Int) = 44 := by
            rw [hck]; intro h; exact h44 (UInt8.toNat_inj.1 (by omega))
          have q1 : (((t[k]).toNat : Int) != 44) = true := by rw [bne_iff_ne]; exact n44
          have q2 : (((t[k]).toNat : Int) == 44) = false := by rw [beq_eq_false_iff_ne]; exact n44
          by_cases h58 : c = 58
          · subst h58
            have q3 : (((t[k]).toNat : Int) != 58) = false := by rw [hck]; rfl
            have q4 : (((t[k]).toNat : Int) == 58) = true := by rw [hck]; rfl
            clear hck n44 h44
            have HE := Lib.hid (readEnd_any (t.extract bg k) _ (HP.out.env HV.out) (by rw [ByteArray.size_extract]; omega))
            rw [hxt.out] at HE
            cases hev : endV (((L t).take k).drop bg) with
            | none =>
              rw [hev] at HE
              have hRN : Hid (R = none) := Lib.hid (by rw [hR2.out]; exact scn_none _ _ _ _ _ _ (.inr rfl) hev)
              clear hev
              go_wp2_with (go_at_call 67; refine HE.out.mono ?_; rintro e w1 ⟨rfl, hb1⟩)
              try rw [Exit.noGoto_ret]
              go_ret2
              exact ⟨_, ret_vb (by rw [hRN.out]; rfl), by rw [hRN.out]; exact OwnR.nil (HP.out.on hb1).below (HP.out.on hb1).below.size⟩
            | some ev =>
              rw [hev] at HE
              cases pd with
              | true =>
                have hRN : Hid (R = none) := Lib.hid (by rw [hR2.out]; exact scn_colon2 _ _ _ _ _ ev hev)
                clear hev
                go_wp2_with (go_at_call 67; refine HE.out.mono ?_; rintro e w1 ⟨rfl, hb1⟩)
                try rw [Exit.noGoto_ret]
                go_ret2
                exact ⟨_, ret_vb (by rw [hRN.out]; rfl), by rw [hRN.out]; exact OwnR.nil (HP.out.on hb1).below (HP.out.on hb1).below.size⟩
              | false =>
                have hR3 := Lib.hid (hR2.out.trans (scn_colon _ _ p1 p2 acc ev hev))
                clear hev
                go_wp2_with (go_at_call 67; refine HE.out.mono ?_; rintro e w1 ⟨rfl, hb1⟩; have hx1 := (HP.out.on hb1).c1; have hx2 := (HP.out.on hb1).c2; have hx3 := (HP.out.on hb1).f1; have hx4 := (HP.out.on hb1).f2)
                go_roundg (t.size - (k + 1))
                case measure => omega
                case rel => exact ⟨k + 1, _, _, _, _, _, by omega, by omega, by go_num, rfl, rfl, by omega, ((HP.out.on hb1).set1 ev).set2 ev, hR3⟩
          · have n58 : ¬ ((t[k]).toNat : Int) = 58 := by
              rw [hck]; intro h; exact h58 (UInt8.toNat_inj.1 (by omega))
            have q3 : (((t[k]).toNat : Int) != 58) = true := by rw [bne_iff_ne]; exact n58
            have hk2 := hls.out h44
            have hR3 := Lib.hid (hR2.out.trans (scn_other _ _ _ pd (p1, p2) acc h44 h58))
            rw [← hsn.out] at hR3
            clear hck n44 n58 h44 h58
            go_wp2_with fail
            go_roundg (t.size - (k + 1))
            case measure => omega
            case rel => exact ⟨k + 1, rfl, rfl, rfl, by omega, hk2, by omega, by go_num, HP.out, hR3⟩
    · have hltz : ¬ (bg : Int) < (t.size : Int) := by omega
      have : bg = t.size := by omega
      subst this
      have hRR : Hid (R = some acc) := Lib.hid (by rw [hR.out, List.drop_eq_nil_of_le (by rw [L_length]; exact Nat.le_refl _)]; rfl)
      go_wp2_with fail
      go_ret2
      exact ⟨_, ret_vb (by rw [hRR.out]; rfl), by rw [hRR.out]; exact HP.out.done⟩
end Go.Proofs.YtkclcjnfjielfabDoor
