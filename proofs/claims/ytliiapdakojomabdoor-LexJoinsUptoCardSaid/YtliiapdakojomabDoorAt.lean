/- lex: Scan. -/
import Derived.Test.YtliiapdakojomabDoorAs
import Derived.OwnWalk
import Derived.Deep.QuietTactic
import Derived.BigQuiet
namespace Go.Proofs.YtliiapdakojomabDoor
open Go.RowKit

theorem made_word : (madeCells #[.int .i64 0, .string ⟨#[]⟩, .slice none 0 0, .bool false] (1 * 4)).toList = wc [wc0] := by
  rw [zero_word]
  apply List.ext_getElem?
  intro j
  match j with
  | 0 => simp [madeCells]
  | 1 => simp [madeCells]
  | 2 => simp [madeCells]
  | 3 => simp [madeCells]
  | j + 4 => simp [madeCells]
/-- A scanner that begins. -/
theorem SmX.begins {w w1 : World} {line : ByteArray} {vl : Value} {lits : List ByteArray} (hl : Strs w vl lits) (hr : w1.ownsRow w.heap.size 33 4 (.slice (some ⟨w.heap.size, 0, none⟩) 1 1) 1 (wc [wc0])) (hg : w.grownBy w1 none) :
    SmX w.heap.size w1.heap.size line vl (Sc.new lits) w.heap.size 1 [wc0] (fun _ => False) w (w1.alloc (.cells #[.string line, .int .i64 0, vl, .int .i64 0, .slice (some ⟨w.heap.size, 0, none⟩) 1 1] 67)) := by
  have hlt := hr.lt w.heap.size rfl
  have hb1 : Below w.heap.size w w1 := (Below.refl _ _).grown hg (Nat.le_refl _) (fun k e => by cases e)
  have hb2 : Below w1.heap.size w1 (w1.alloc (.cells #[.string line, .int .i64 0, vl, .int .i64 0, .slice (some ⟨w.heap.size, 0, none⟩) 1 1] 67)) := (Below.refl _ _).alloc (Nat.le_refl _) _
  have hk0 : ∀ i, ([wc0] : List Wc).getD i wc0 = wc0 := fun i => by cases i <;> rfl
  refine ⟨heap_alloc_new w1 _, by omega, Nat.le_refl _, hl, hb1.trans (hb2.mono (by omega)), ⟨rfl, RowW.on (its := [wc0]) hr hb2, by omega, fun i hi => ?_, fun i _ g e => ?_, fun i j hi hj hij => ?_, fun g hg => hg.elim⟩⟩
  · obtain rfl : i = 0 := by simp [Sc.new] at hi; omega
    exact ⟨rfl, rfl, rfl, [], World.ownsRow_nil _ _ _ _, rfl, fun j hj => by simp [Sc.new] at hj⟩
  · rw [hk0] at e
    simp [wc0, Wc.kv, Value.ownBlock] at e
  · simp [Sc.new] at hi hj
    omega
set_option maxRecDepth 100000 in
set_option maxHeartbeats 4000000 in
theorem Scan_any (line : ByteArray) (vl : Value) (lits : List ByteArray) (w : World) (hl : Strs w vl lits) (hs : line.size ≤ 140737488355328) (hz : ∀ i, i < lits.length → (lits.getD i ByteArray.empty).size ≤ 140737488355328) :
    Calls Tryd.prog 10 #[.string line, vl] w fun e w' => ∃ a n c D, e = .returned (.tuple #[.slice a n c, .int .i64 (scanE (L line) lits)]) ∧ Lies w' D a n c (scanW (L line) lits) ∧ (∀ g, D g → w.heap.size ≤ g) ∧ Below w.heap.size w w' := by
  have HL := Lib.hid (isLong_any line vl lits w hl hs hz)
  obtain ⟨ao, k, cap, hv⟩ : ∃ ao k cap, vl = .slice ao k cap := by
    rcases hl with ⟨_, ao, cap, rfl⟩ | ⟨b, off, cap, rfl, _⟩
    · exact ⟨_, _, _, rfl⟩
    · exact ⟨_, _, _, rfl⟩
  have HSL := Lib.hid hl
  clear hl
  cases hlong : longB (L line) lits with
  | true =>
    rw [hlong] at HL
    have he : scanE (L line) lits = 2 := by unfold scanE; rw [hlong]; rfl
    have hw : scanW (L line) lits = [] := by unfold scanW; rw [hlong]; rfl
    rw [he, hw]
    clear he hw hlong
    subst hv
    go_enter Tryd.func10, Tryd.ntmps10
    go_wp2_with (go_at_call 35; refine HL.out.mono ?_; rintro e w1 ⟨rfl, rfl⟩)
    go_ret2
    exact ⟨none, 0, 0, fun _ => False, rfl, .nil, fun g h => h.elim, Below.refl _ _⟩
  | false =>
    rw [hlong] at HL
    obtain ⟨R, hR⟩ : ∃ R, (Sc.new lits).run (L line) (L line).length = R := ⟨_, rfl⟩
    have hRe : scanE (L line) lits = R.1 := by unfold scanE; rw [hlong, hR]; rfl
    have hRw : scanW (L line) lits = if R.1 = 0 then R.2 else [] := by unfold scanW; rw [hRe, hlong, hR]; rfl
    have HRE := Lib.hid hRe
    have HRW := Lib.hid hRw
    obtain ⟨i0, hi, hz0, hz1, hz2⟩ := info_parts Tryd.infoWord
    have HSC := Lib.hid (fun (P : Nat) (X : World) hX => scan_any (B := w.heap.size) (P := P) (line := line) (W0 := w) (w := X) (Sc.new lits) (L line).length R hX (SInv.new _ _) hs hR (by rw [L_length]; exact Nat.sub_le _ _))
    clear hRe hRw hR hlong
    subst hv
    go_enter Tryd.func10, Tryd.ntmps10
    go_wp2_with (first | (go_at_call 35; refine HL.out.mono ?_; rintro e w1 ⟨rfl, hw1⟩; rw [hw1]; clear hw1 w1) | (at_make; refine wpList_make_full _ rfl _ _ 24 rfl w.heap.size 33 i0 (.agg #[.int .i64 0, .string ⟨#[]⟩, .slice none 0 0, .bool false]) 4 Tryd.underlying24 hi hz0 hz1 _ _ _ _ 1 rfl rfl (by rfl) (by rfl) (by rw [hz2]; omega) (by unfold maxLen; omega) (Nat.le_refl _) ?_; intro w1 hr1 hg1))
    have hr2 : w1.ownsRow w.heap.size 33 4 (.slice (some ⟨w.heap.size, 0, none⟩) 1 1) 1 (wc [wc0]) := by rw [← made_word]; exact hr1
    refine (HSC.out w1.heap.size _ ⟨_, _, _, _, _, SmX.begins HSL.out hr2 hg1⟩).mono ?_
    rintro e w2 ⟨rfl, hbw, hfin⟩
    clear hr1 hr2 hg1 HSC HL hi hz0 hz1 hz2

    by_cases hR0 : R.1 = 0
    · obtain ⟨s, vl', ob, oc, fs, D, hsm, hu, hk⟩ := hfin hR0
      have hul : s.under.length = 0 := by rw [hu]; rfl
      have hsv := hsm.sv
      have hft := hsm.topFr
      have hrw := hsm.st.row.at 0 (by rw [hsm.len]; omega)
      rw [hul] at hsv hft
      obtain ⟨_, _, _, _, c4⟩ := hsv
      have t2 : w2.cell? ⟨ob, 2, none⟩ = some (.slice (fs.getD 0 wc0).ka (fs.getD 0 wc0).kn (fs.getD 0 wc0).kc) := hrw.2.2.1
      have hli := hft.ended.lies
      have hge : ∀ g, (fun g => D g ∨ (fs.getD 0 wc0).kv.ownBlock = some g) g → w.heap.size ≤ g := fun g hg => by
        rcases hg with hg | hg
        · exact (hsm.st.dd g hg).1
        · exact (hft.lt g hg).1
      have HLI : Hid (Lies w2 (fun g => D g ∨ (fs.getD 0 wc0).kv.ownBlock = some g) (fs.getD 0 wc0).ka (fs.getD 0 wc0).kn (fs.getD 0 wc0).kc (scanW (L line) lits)) := Lib.hid (by rw [HRW.out, if_pos hR0, ← hk]; exact hli)
      have HGE := Lib.hid hge
      rw [hR0] at HRE
      generalize (fun g => D g ∨ (fs.getD 0 wc0).kv.ownBlock = some g) = D' at *
      generalize (fs.getD 0 wc0).ka = ka at *
      generalize (fs.getD 0 wc0).kn = kn at *
      generalize (fs.getD 0 wc0).kc = kc at *
      clear hsm hft hrw hli hge hfin hk hu hul HRW
      rw [hR0]
      go_wp2_with fail
      go_ret2
      exact ⟨ka, kn, kc, D', by rw [HRE.out]; rfl, HLI.out, HGE.out, hbw⟩
    · have hne : (R.1 != 0) = true := by simpa using hR0
      clear hfin
      go_wp2_with fail
      go_ret2
      exact ⟨none, 0, 0, fun _ => False, by rw [HRE.out]; rfl, by rw [HRW.out, if_neg hR0]; exact .nil, fun g h => h.elim, hbw⟩
end Go.Proofs.YtliiapdakojomabDoor
