/- view: greatest, come, settle. -/
import Derived.Test.YtiphbnmnoofpkaaQ16d
namespace Go.Proofs.Ytiphbnmnoofpkaa
open Go.RowKit

/-- v is a list of numbers, l, in memory. -/
def Nms (w : World) (v : Value) (l : List Int) : Prop :=
  ∃ a c, v = .slice a l.length c ∧ (0 < l.length → ∃ g off, a = some ⟨g, off, none⟩ ∧ g < w.heap.size ∧ ∀ i, i < l.length → w.cell? ⟨g, off + i, none⟩ = some (.int .i64 (l.getD i 0)))
theorem Nms.hold {w w' : World} {v : Value} {l : List Int} (h : Nms w v l) (hz : w.heap.size ≤ w'.heap.size) (hs : 0 < l.length → ∀ b, v.ownBlock = some b → b < w.heap.size → w'.heap[b]? = w.heap[b]?) : Nms w' v l := by
  obtain ⟨a, c, rfl, h⟩ := h
  refine ⟨a, c, rfl, fun hl => ?_⟩
  obtain ⟨g, off, rfl, hg, hc⟩ := h hl
  refine ⟨g, off, rfl, by omega, fun i hi => ?_⟩
  rw [World.cell?_of_block (a := ⟨g, off + i, none⟩) (hs hl g rfl hg)]
  exact hc i hi
theorem Nms.on {w w' : World} {v : Value} {l : List Int} (h : Nms w v l) (hb : Below w.heap.size w w') : Nms w' v l := h.hold hb.size (fun _ b _ hl => hb.block b hl)
theorem nms_of {w : World} {v : Value} {l : List Int} {B : Nat} (h : w.ownsRow B 3 1 v l.length (ic l)) : Nms w v l := by
  rcases h.2 with ⟨rfl, h0⟩ | ⟨g, cap, cur, rfl, hB, hg, rest⟩
  · exact ⟨none, 0, by rw [h0], fun hl => by omega⟩
  · refine ⟨_, cap, rfl, fun _ => ⟨g, 0, rfl, lt_of_heap hg, fun i hi => ?_⟩⟩
    have c1 := h.cells (g := g) rfl i _ (ic_at l i hi)
    rw [Addr.add_lit] at c1
    exact c1
theorem Nms.ofInts {w : World} {v : Value} {l : List Int} (h : Ints w v l) : Nms w v l := by
  rcases h with ⟨rfl, ao, cap, rfl, _⟩ | ⟨b, off, cap, rfl, _, hb, hc⟩
  · exact ⟨ao, cap, rfl, fun h => by simp at h⟩
  · exact ⟨_, cap, rfl, fun _ => ⟨b, off, rfl, hb, hc⟩⟩
theorem FO.keep {f f' : List Nat} {w w' : World} (h : FO f f' w w') {b : Nat} (hb : b < w.heap.size) (hn : b ∉ f) : w'.heap[b]? = w.heap[b]? := h.1.block b hb hn
theorem FO.out {f f' : List Nat} {w w' : World} (h : FO f f' w w') {b : Nat} (hb : b < w.heap.size) (hn : b ∉ f) : b ∉ f' := fun e => by
  rcases h.2 b e with e' | e'
  · exact hn e'
  · omega
theorem Nms.past {f f' : List Nat} {w w' : World} {v : Value} {l : List Int} (h : Nms w v l) (hf : FO f f' w w') (hn : 0 < l.length → ∀ b, v.ownBlock = some b → b ∉ f) : Nms w' v l := h.hold hf.1.size (fun h0 b e hl => hf.keep hl (hn h0 b e))

def topC (U C : List Int) : Int := lastD C (lastD U 0)
def come1 (U C : List Int) (u : Int) : List Int := if topC U C < u ∧ u < 4294967295 then C ++ [u] else C
def comesC (U C us : List Int) : List Int := us.foldl (come1 U) C
theorem come1_len (U C : List Int) (u : Int) : (come1 U C u).length ≤ C.length + 1 := by unfold come1; split <;> simp
theorem comesC_len (U : List Int) : ∀ (us C : List Int), (comesC U C us).length ≤ C.length + us.length
  | [], C => Nat.le_refl _
  | u :: us, C => by
    have h1 := comesC_len U us (come1 U C u)
    have h2 := come1_len U C u
    show (comesC U (come1 U C u) us).length ≤ _
    simp only [List.length_cons]; omega
theorem comesC_snoc (U C us : List Int) (u : Int) : comesC U C (us ++ [u]) = come1 U (comesC U C us) u := by simp [comesC]
theorem comeP_C (V : PV) (u : Int) : comeP V u = { V with com := come1 (uidsP V) V.com u } := by
  unfold comeP come1 topP topC
  split <;> rfl
theorem comesP_C : ∀ (us : List Int) (V : PV), comesP V us = { V with com := comesC (uidsP V) V.com us }
  | [], V => rfl
  | u :: us, V => by
    show comesP (comeP V u) us = _
    rw [comesP_C us (comeP V u), comeP_C]
    rfl
/-- What a step leaves of a view's memory. -/
def VO (P : Nat) (val : Int) (R' : List RE) (C' : List Int) (fp : List Nat) (w w' : World) : Prop := ∃ rv' cv', VAt P val rv' cv' R' C' w' ∧ FO fp (fpV P rv' cv' R') w w'
section
variable {P : Nat} {val : Int} {rv cv : Value} {R : List RE} {C : List Int} {w : World} {N : Nat}
theorem VO.refl (h : VAt P val rv cv R C w) : VO P val R C (fpV P rv cv R) w w := ⟨rv, cv, h, FO.refl _ _⟩
theorem VO.on {fp : List Nat} {w1 w' : World} (h : VO P val R C fp w w1) (hb : Below w1.heap.size w1 w') : VO P val R C fp w w' := by
  obtain ⟨rv', cv', h1, h2⟩ := h
  exact ⟨rv', cv', h1.on hb, h2.trans (FO.below hb)⟩
theorem VO.trans {fp : List Nat} {R2 : List RE} {C2 : List Int} {w1 w' : World} (h : VO P val R C fp w w1) (k : ∀ rv1 cv1, VAt P val rv1 cv1 R C w1 → VO P val R2 C2 (fpV P rv1 cv1 R) w1 w') : VO P val R2 C2 fp w w' := by
  obtain ⟨rv', cv', h1, h2⟩ := h
  obtain ⟨rv2, cv2, k1, k2⟩ := k rv' cv' h1
  exact ⟨rv2, cv2, k1, h2.trans k2⟩
set_option maxHeartbeats 1000000 in
theorem greatest_any (h : VAt P val rv cv R C w) (hR : R.length ≤ 1000000) (hC : C.length ≤ 1000000) :
    Calls Try.prog 46 #[.pointer (some ⟨P, 0, none⟩)] w fun e w' => e = .returned (.int .i64 (topC (uidR R) C)) ∧ w' = w := by
  have c2 := h.cells.c2
  have c3 := h.cells.c3
  obtain ⟨a3, k3, hv3, hcs3⟩ := nms_of h.com
  obtain ⟨a2, k2, hv2, hcs2⟩ := rws_of h.rows
  subst hv3 hv2
  by_cases hc : C = []
  · subst hc
    by_cases hr : R = []
    · subst hr
      clear h hcs3 hcs2
      go_enter Try.func46, Try.ntmps46
      go_wp2
      go_ret
      exact ⟨rfl, rfl⟩
    · have hp : 0 < R.length := List.length_pos_iff.2 hr
      obtain ⟨g, off, rfl, _, hcc⟩ := hcs2 hp
      obtain ⟨m, hm⟩ : ∃ m, R.length = m + 1 := ⟨R.length - 1, by omega⟩
      have c1 := (hcc m (by omega)).1
      have HE : Hid (topC (uidR R) [] = (R.getD m RE0).uid) := Lib.hid (by
        show lastD (uidR R) 0 = _
        rw [lastD_getD _ _ (by simpa [uidR] using hr), uidR_length, hm, Nat.add_sub_cancel, uidR_at])
      clear h hcs3 hcs2 hcc hr hp
      rw [hm] at c2 hR
      generalize topC (uidR R) [] = tp at *
      generalize (R.getD m RE0).uid = x at *
      have hm1 : ((m : Int) + 1) - 1 = m := by omega
      have hmz : (0 : Int) < (m : Int) + 1 := by omega
      go_enter Try.func46, Try.ntmps46
      go_wp2
      go_ret
      exact ⟨ret_int HE.out.symm, rfl⟩
  · have hp : 0 < C.length := List.length_pos_iff.2 hc
    obtain ⟨g, off, rfl, _, hcc⟩ := hcs3 hp
    obtain ⟨m, hm⟩ : ∃ m, C.length = m + 1 := ⟨C.length - 1, by omega⟩
    have c1 := hcc m (by omega)
    have HE : Hid (topC (uidR R) C = C.getD m 0) := Lib.hid (by
      show lastD C _ = _
      rw [lastD_getD _ _ hc, hm, Nat.add_sub_cancel])
    clear h hcs3 hcs2 hcc hc hp
    rw [hm] at c3 hC
    generalize topC (uidR R) C = tp at *
    generalize C.getD m 0 = x at *
    have hm1 : ((m : Int) + 1) - 1 = m := by omega
    have hmz : (0 : Int) < (m : Int) + 1 := by omega
    go_enter Try.func46, Try.ntmps46
    go_wp2
    go_ret
    exact ⟨ret_int HE.out.symm, rfl⟩
set_option maxRecDepth 100000 in
set_option maxHeartbeats 2000000 in
theorem come_any (h : VAt P val rv cv R C w) (v : Value) (us : List Int) (hv : Nms w v us) (hn : 0 < us.length → ∀ b, v.ownBlock = some b → b ∉ fpV P rv cv R) (hR : R.length ≤ 1000000) (hC : C.length + us.length ≤ 1000000) :
    Calls Try.prog 22 #[.pointer (some ⟨P, 0, none⟩), v] w fun e w' => e = .returned (.tuple #[]) ∧ VO P val R (comesC (uidR R) C us) (fpV P rv cv R) w w' := by
  obtain ⟨av, kv, hve, hvs⟩ := hv
  subst hve
  have HV := Lib.hid hvs
  have HN := Lib.hid hn
  have H0 := Lib.hid (VO.refl h)
  have hUs : us.length ≤ 1000000 := by omega
  clear h hvs hn
  go_enter Try.func22, Try.ntmps22
  go_wp2
  go_loopw [8] (fun i wr => ∃ k : Nat, k ≤ us.length ∧ i = .int .i64 k ∧ VO P val R (comesC (uidR R) C (us.take k)) (fpV P rv cv R) w wr) (fun i _ => us.length - (intOf i).toNat)
  case atStart => exact ⟨0, Nat.zero_le _, rfl, H0.out⟩
  case round =>
    obtain ⟨k, hk, rfl, hO⟩ := hrel
    by_cases hlt : k < us.length
    · have hlti : (k : Int) < (us.length : Int) := by omega
      obtain ⟨g, off, rfl, hg, hcc⟩ := HV.out (by omega)
      obtain ⟨rv1, cv1, h1, f1⟩ := hO
      have ck := hcc k hlt
      rw [← World.cell?_of_block (a := ⟨g, off + k, none⟩) (f1.keep hg (HN.out (by omega) g rfl))] at ck
      have hst : us.take (k + 1) = us.take k ++ [us.getD k 0] := take_snocI us k hlt
      have hcl := comesC_len (uidR R) (us.take k) C
      rw [List.length_take] at hcl
      have hcl2 : (comesC (uidR R) C (us.take k)).length ≤ 1000000 := by omega
      have HG := Lib.hid (greatest_any h1 hR hcl2)
      have HS : Hid (comesC (uidR R) C (us.take (k + 1)) = come1 (uidR R) (comesC (uidR R) C (us.take k)) (us.getD k 0)) := Lib.hid (by rw [hst, comesC_snoc])
      have HE : Hid (come1 (uidR R) (comesC (uidR R) C (us.take k)) (us.getD k 0) = if topC (uidR R) (comesC (uidR R) C (us.take k)) < us.getD k 0 ∧ us.getD k 0 < 4294967295 then comesC (uidR R) C (us.take k) ++ [us.getD k 0] else comesC (uidR R) C (us.take k)) := Lib.hid rfl
      obtain ⟨a4, k4, W4, r4, s4, h4, f4⟩ := h1.addC (us.getD k 0) (by omega)
      have c3 := h1.cells.c3
      have d3 := (selfV_cells s4).c3
      have g3 := (selfV_cells s4).f3
      have HO1 : Hid (VO P val R (comesC (uidR R) C (us.take k)) (fpV P rv cv R) w wr) := Lib.hid ⟨rv1, cv1, h1, f1⟩
      have HO4 : Hid (VO P val R (comesC (uidR R) C (us.take k) ++ [us.getD k 0]) (fpV P rv cv R) w (W4.setCell ⟨P, 3, none⟩ (.slice a4 ((comesC (uidR R) C (us.take k)).length + 1) k4))) := Lib.hid ⟨_, _, h4, f1.trans f4⟩
      have R4 := Lib.hid r4
      clear hst hcl h1 f1 r4 s4 h4 f4 hcc
      generalize us.getD k 0 = u at *
      generalize comesC (uidR R) C (us.take k) = D at *
      generalize topC (uidR R) D = tp at *
      generalize come1 (uidR R) D u = D2 at *
      generalize D.length = nD at *
      by_cases h5 : tp < u
      · by_cases h6 : u < 4294967295
        · have HF : Hid (D2 = D ++ [u]) := Lib.hid (by rw [HE.out, if_pos ⟨h5, h6⟩])
          go_wp2_with (first | (go_at_call 46; refine HG.out.mono ?_; rintro e w' ⟨rfl, hw⟩; subst w') | (at_builtin; refine append_by_run (u := cv1) (v := .slice (some ⟨wr.heap.size, 0, none⟩) 1 1) rfl _ _ _ rfl 30 rfl rfl rfl _ _ R4.out ?_))
          go_roundw
          case rel => exact ⟨k + 1, by omega, by go_num, by rw [HS.out, HF.out]; exact HO4.out⟩
          case measure => simp [intOf]; omega
        · have HF : Hid (D2 = D) := Lib.hid (by rw [HE.out, if_neg (fun h => h6 h.2)])
          go_wp2_with (go_at_call 46; refine HG.out.mono ?_; rintro e w' ⟨rfl, hw⟩; subst w')
          go_roundw
          case rel => exact ⟨k + 1, by omega, by go_num, by rw [HS.out, HF.out]; exact HO1.out⟩
          case measure => simp [intOf]; omega
      · have HF : Hid (D2 = D) := Lib.hid (by rw [HE.out, if_neg (fun h => h5 h.1)])
        go_wp2_with (go_at_call 46; refine HG.out.mono ?_; rintro e w' ⟨rfl, hw⟩; subst w')
        go_roundw
        case rel => exact ⟨k + 1, by omega, by go_num, by rw [HS.out, HF.out]; exact HO1.out⟩
        case measure => simp [intOf]; omega
    · obtain rfl : k = us.length := by omega
      rw [List.take_of_length_le (Nat.le_refl _)] at hO
      have HO := Lib.hid hO
      clear hO
      go_wp2
      first | refine bodyPost_end (results_none rfl _ _ _) rfl ?_ | refine bodyPost_ret (results_none rfl _ _ _) rfl ?_
      exact ⟨rfl, HO.out⟩
end
end Go.Proofs.Ytiphbnmnoofpkaa
