/- lex: Join. -/
import Derived.Test.YtliiapdakojomabDoorBo
import Derived.Deep.QuietTactic
namespace Go.Proofs.YtliiapdakojomabDoor
open Go.RowKit

mutual
theorem jws_lits : ∀ (first : Bool) (l : List Wd) (j : Jn), (∀ x ∈ j.lits, x.size ≤ 16384) → ∀ x ∈ (jws first l j).lits, x.size ≤ 16384
  | _, [], j, h => by simpa [jws] using h
  | first, d :: r, j, h => by
    cases hs : j.stops d with
    | true => rw [jws_stop _ _ _ _ hs]; exact h
    | false =>
      rw [jws_one _ _ _ _ hs]
      exact jws_lits false r _ (jw_lits d _ (stops_of hs).2 (by rw [(blank_of j first d).2.2]; exact h))
theorem jw_lits : ∀ (d : Wd) (j : Jn), d.text.size ≤ 16384 → (∀ x ∈ j.lits, x.size ≤ 16384) → ∀ x ∈ (jw d j).lits, x.size ≤ 16384
  | .mk k t l g, j, ht, h => by
    have ht : t.size ≤ 16384 := ht
    have p := jws_lits true l (j.put [40]) h
    have q := jws_lits true l (j.put [91]) h
    simp only [jw]
    split
    · exact h
    · split
      · exact h
      · split
        · intro x hx
          simp only [Jn.lit, List.mem_append, List.mem_singleton] at hx
          rcases hx with hx | rfl
          · exact h x hx
          · exact ht
        · split
          · exact p
          · split
            · exact q
            · exact h
end
/-- What Join writes; whether it answers that, and what it answers. -/
def jF (l : List Wd) : Jn := jws true l ⟨[], [], 0⟩
def joinB (l : List Wd) : Bool := decide (scanE (jF l).line (jF l).lits = 0) && eqL (scanW (jF l).line (jF l).lits) l
def joinE (l : List Wd) : Int := if 512 < l.length then 2 else if joinB l then 0 else 1
def joinS (l : List Wd) : List UInt8 := if joinE l = 0 then (jF l).line else []
def joinT (l : List Wd) : List ByteArray := if joinE l = 0 then (jF l).lits else []
theorem jF_small (l : List Wd) : (jF l).line.length ≤ 20480000 ∧ (jF l).lits.length ≤ 512 ∧ ∀ x ∈ (jF l).lits, x.size ≤ 16384 :=
  ⟨(jws_small l).1, (jws_small l).2, jws_lits true l _ (fun x hx => by cases hx)⟩
theorem getD_small {ss : List ByteArray} (h : ∀ x ∈ ss, x.size ≤ 16384) (i : Nat) (hi : i < ss.length) : (ss.getD i ByteArray.empty).size ≤ 140737488355328 := by
  rw [List.getD_eq_getElem?_getD, List.getElem?_eq_getElem hi]
  have := h _ (List.getElem_mem hi)
  simp only [Option.getD_some]
  omega
theorem row_back {B : Nat} {v : Value} {l : List UInt8} {w : World} (h : w.ownsRow B 5 1 v l.length (bc l)) : (convert 31 9 v).run Tryd.prog w = .ok (.string (S l)) w := by
  rcases h.2 with ⟨rfl, h0⟩ | ⟨g, cap, cur, rfl, _⟩
  · have : l = [] := List.eq_nil_of_length_eq_zero h0
    subst this
    rw [run_convert_bytes_string w _ _ _ _ _ _ Tryd.underlying31 Tryd.underlying5 Tryd.underlying9]
    rfl
  · exact run_convert_bytes_back w 31 9 5 ⟨g, 0, none⟩ cap l Tryd.underlying31 Tryd.underlying5 Tryd.underlying9 (fun j hj => h.cells (g := g) rfl j _ (by simp [bc, hj]))
/-- A row of texts that the call made, as a list of texts. -/
theorem row_strs {B : Nat} {v : Value} {ss : List ByteArray} {w : World} (h : w.ownsRow B 9 1 v ss.length (ss.map Value.string)) (hn : ss.length ≤ 512) : Strs w v ss := by
  rcases h.2 with ⟨rfl, h0⟩ | ⟨g, cap, cur, rfl, hB, hg, h1, rest⟩
  · exact .inl ⟨List.eq_nil_of_length_eq_zero h0, none, 0, rfl⟩
  · refine .inr ⟨g, 0, cap, rfl, by omega, by omega, (Array.getElem?_eq_some_iff.1 hg).1, fun i hi => ?_⟩
    have := h.cells (g := g) rfl i (.string (ss.getD i ByteArray.empty)) (by rw [List.getElem?_map, List.getD_eq_getElem?_getD, List.getElem?_eq_getElem hi]; rfl)
    rw [Addr.add_lit] at this
    exact this
theorem SmJ.start (w : World) : SmJ w.heap.size w.heap.size (.slice none 0 0) (.slice none 0 0) ⟨[], [], 0⟩ w (w.alloc (.cells #[.slice none 0 0, .slice none 0 0, .int .i64 0] 70)) := by
  refine ⟨heap_alloc_new w _, Nat.le_refl _, ⟨rfl, .inl ⟨rfl, rfl⟩⟩, ⟨rfl, .inl ⟨rfl, rfl⟩⟩, by simp [Value.ownBlock], by simp [Value.ownBlock], fun g hg => by simp [Value.ownBlock] at hg, (Below.refl _ _).alloc (Nat.le_refl _) _⟩
set_option maxRecDepth 100000 in
set_option maxHeartbeats 4000000 in
theorem Join_any (l : List Wd) (a : Option Addr) (n c : Nat) (D : Nat → Prop) (w : World) (hL : Lies w D a n c l) (he : Env w) :
    Calls Tryd.prog 12 #[.slice a n c] w fun e w' => ∃ vt, e = .returned (.tuple #[.string (S (joinS l)), vt, .int .i64 (joinE l)]) ∧ Strs w' vt (joinT l) ∧ Below w.heap.size w w' := by
  obtain rfl := hL.len
  by_cases hlong : 512 < l.length
  · have hz : (512 : Int) < (l.length : Int) := by omega
    have hE : joinE l = 2 := by unfold joinE; rw [if_pos hlong]
    have hS : joinS l = [] := by unfold joinS; rw [hE]; rfl
    have hT : joinT l = [] := by unfold joinT; rw [hE]; rfl
    rw [hE, hS, hT]
    clear hE hS hT hL hlong
    go_enter Tryd.func12, Tryd.ntmps12
    go_wp2_with fail
    go_ret3
    exact ⟨_, rfl, .inl ⟨rfl, none, 0, rfl⟩, Below.refl _ _⟩
  · have hz : ¬ (512 : Int) < (l.length : Int) := by omega
    have HW := Lib.hid (write_any (Nat.succ (SizeOf.sizeOf l)) l (Nat.lt_succ_self _) (B := w.heap.size) (P := w.heap.size) (Nat.le_refl _) he a l.length c D hL (SmJ.start w) Jok.zero)
    have HL := Lib.hid hL
    have HB := Lib.hid hlong
    clear hL he hlong
    go_enter Tryd.func12, Tryd.ntmps12
    go_upto_region 5 with (go_at_call 37; refine HW.out.mono ?_; rintro e w1 ⟨rfl, vl, vt, h1⟩)
    change SmJ w.heap.size w.heap.size vl vt (jF l) w w1 at h1
    have hsm := jF_small l
    have q0 := h1.cells.1
    have q1 := h1.cells.2.1
    have hcv := row_back h1.line
    have hst := row_strs h1.lits hsm.2.1
    have HSC := Lib.hid (Scan_any (S (jF l).line) vt (jF l).lits w1 hst (by rw [← L_length, L_S]; omega) (getD_small hsm.2.2))
    rw [L_S] at HSC
    have HST := Lib.hid hst
    have HB1 := Lib.hid h1.below
    have HJB : Hid (joinB l = (decide (scanE (jF l).line (jF l).lits = 0) && eqL (scanW (jF l).line (jF l).lits) l)) := Lib.hid rfl
    have HJE : Hid (joinE l = if joinB l then 0 else 1) := Lib.hid (by unfold joinE; rw [if_neg HB.out])
    have HJS : Hid (joinS l = if joinE l = 0 then (jF l).line else []) := Lib.hid rfl
    have HJT : Hid (joinT l = if joinE l = 0 then (jF l).lits else []) := Lib.hid rfl
    have hPlt : w.heap.size < w1.heap.size := h1.plt
    clear h1 hst hsm HW HB
    generalize (jF l).line = line at *
    generalize (jF l).lits = lits at *
    go_upto_region 7 with (go_at_call 10; refine HSC.out.mono ?_; rintro e w2 ⟨a2, n2, c2, D2, rfl, hl2, hd2, hb2⟩)
    have HEQ := Lib.hid (EqualFunc_any (Nat.succ (SizeOf.sizeOf (scanW line lits))) (scanW line lits) l (Nat.lt_succ_self _) w2 D2 D a2 a n2 c2 l.length c hl2 ((HL.out.on HB1.out).on hb2) w2 (Below.refl _ _))
    have HB2 := Lib.hid (HB1.out.trans (hb2.mono HB1.out.size))
    have HST2 := Lib.hid (HST.out.on hb2)
    have HQ1 : Hid (w2.cell? ⟨w.heap.size, 1, none⟩ = some vt ∧ w.heap.size < w2.heap.size) := Lib.hid ⟨cellB q1 hb2, Nat.lt_of_lt_of_le hPlt hb2.size⟩
    clear HSC HST HB1 q0 q1 hcv hl2 hd2 hb2 hPlt HL
    by_cases he : scanE line lits = 0
    · have hne : (scanE line lits != 0) = false := by rw [he]; rfl
      have HJB2 : Hid (joinB l = eqL (scanW line lits) l) := Lib.hid (by rw [HJB.out, decide_eq_true he, Bool.true_and])
      clear he HJB
      generalize scanE line lits = ec at *
      generalize eqL (scanW line lits) l = eb at *
      cases eb with
      | false =>
        have HE1 : Hid (joinE l = 1) := Lib.hid (by rw [HJE.out, HJB2.out]; rfl)
        have HE2 : Hid (joinS l = []) := Lib.hid (by rw [HJS.out, HE1.out]; rfl)
        have HE3 : Hid (joinT l = []) := Lib.hid (by rw [HJT.out, HE1.out]; rfl)
        clear HJE HJS HJT HJB2
        go_wp2_with (go_at_call 38; refine HEQ.out.mono ?_; rintro e w3 ⟨rfl, hb3⟩)
        go_ret3
        exact ⟨.slice none 0 0, by rw [HE1.out, HE2.out]; rfl, by rw [HE3.out]; exact .inl ⟨rfl, none, 0, rfl⟩, HB2.out.trans (hb3.mono HB2.out.size)⟩
      | true =>
        have HE1 : Hid (joinE l = 0) := Lib.hid (by rw [HJE.out, HJB2.out]; rfl)
        have HE2 : Hid (joinS l = line) := Lib.hid (by rw [HJS.out, HE1.out]; rfl)
        have HE3 : Hid (joinT l = lits) := Lib.hid (by rw [HJT.out, HE1.out]; rfl)
        clear HJE HJS HJT HJB2
        go_upto_region 9 with (go_at_call 38; refine HEQ.out.mono ?_; rintro e w3 ⟨rfl, hb3⟩)
        have q1 : w3.cell? ⟨w.heap.size, 1, none⟩ = some vt := cellB HQ1.out.1 hb3
        have HB3 := Lib.hid (HB2.out.trans (hb3.mono HB2.out.size))
        have HST3 := Lib.hid (HST2.out.on hb3)
        clear hb3 HEQ HB2 HST2 HQ1
        go_quiet (fail)
        go_wp2_with fail
        go_ret3
        exact ⟨vt, by rw [HE1.out, HE2.out]; rfl, by rw [HE3.out]; exact HST3.out.on (below_drewN (Below.refl _ _) _), below_drewN HB3.out _⟩
    · have hne : (scanE line lits != 0) = true := by simpa using he
      have HE1 : Hid (joinE l = 1) := Lib.hid (by rw [HJE.out, HJB.out, decide_eq_false he]; rfl)
      have HE2 : Hid (joinS l = []) := Lib.hid (by rw [HJS.out, HE1.out]; rfl)
      have HE3 : Hid (joinT l = []) := Lib.hid (by rw [HJT.out, HE1.out]; rfl)
      clear HJE HJS HJT HJB HEQ he
      generalize scanE line lits = ec at *
      go_wp2_with fail
      go_ret3
      exact ⟨.slice none 0 0, by rw [HE1.out, HE2.out]; rfl, by rw [HE3.out]; exact .inl ⟨rfl, none, 0, rfl⟩, HB2.out⟩
end Go.Proofs.YtliiapdakojomabDoor

/- lex: the answers that the document's examples fix, plain. -/
namespace Go.Proofs.YtliiapdakojomabDoor
open Go.RowKit

theorem k1E : scanE (L ⟨#[120, 32, 66, 79, 68, 89, 91, 97, 93, 60, 48, 62]⟩) [] = 0 := by decide +kernel
theorem k1W : scanW (L ⟨#[120, 32, 66, 79, 68, 89, 91, 97, 93, 60, 48, 62]⟩) [] = [.mk 1 (S [120]) [] false, .mk 1 (S [66, 79, 68, 89]) [] false, .mk 5 (S []) [.mk 1 (S [97]) [] false] true, .mk 1 (S [60, 48, 62]) [] true] := by rfl
theorem k2E : scanE (L ⟨#[97, 32]⟩) [] = 30 := by decide +kernel
def kWs : List Wd := [.mk 1 ⟨#[97]⟩ [] false, .mk 3 ⟨#[120, 121]⟩ [] false]
theorem k3J : jF kWs = ⟨[97, 32, 123, 50, 125], [⟨#[120, 121]⟩], 2⟩ := by kernel_rfl
theorem k3B : joinB kWs = true := by
  unfold joinB
  rw [k3J]
  decide +kernel
end Go.Proofs.YtliiapdakojomabDoor
