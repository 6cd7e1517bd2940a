/- view: a view by what is plain of it; Hear. -/
import Derived.Test.YtiphbnmnoofpkaaQ16p
namespace Go.Proofs.Ytiphbnmnoofpkaa
open Go.RowKit

theorem uid_pl {R : List RE} {V : PV} (h : R.map RE.pl = V.rows) : uidR R = uidsP V := by
  unfold uidsP uidR
  rw [← h, List.map_map]
  rfl
theorem VOK.of {R : List RE} {V : PV} {N : Nat} (h : R.map RE.pl = V.rows) (hk : PVok V N) : VOK R V.com N :=
  ⟨by rw [uid_pl h]; exact hk.rise, by rw [uid_pl h]; exact hk.top, by
    have := hk.len
    have e := congrArg List.length h
    simp only [List.length_map] at e
    omega⟩
theorem VG.of {P : Nat} {V' : PV} {fp : List Nat} {w w' : World} {R' : List RE} {C' : List Int} {val : Int} (h : VO P val R' C' fp w w') (hv : val = V'.val) (hr : R'.map RE.pl = V'.rows) (hc : C' = V'.com) : VG P V' fp w w' := by
  obtain ⟨rv, cv, h1, h2⟩ := h
  subst hv hc
  exact ⟨_, ⟨rv, cv, R', h1, hr, rfl⟩, h2⟩
theorem lvR_pl : ∀ (us : List Int) (V : PV) (R : List RE), R.map RE.pl = V.rows → (lvR R us).map RE.pl = (leavesP V us).rows ∧ lvC V.com us = (leavesP V us).com
  | [], _, _, h => ⟨h, rfl⟩
  | u :: us, V, R, h => by
    have h1 : (R.map (atU u goE)).map RE.pl = (leave1 V u).rows := by
      show _ = V.rows.map (goR u)
      rw [← h, List.map_map, List.map_map]
      apply List.map_congr_left
      intro r _
      simp only [Function.comp]
      unfold atU goR
      by_cases e : r.uid = u
      · rw [if_pos e, if_pos (show r.pl.uid = u from e)]; rfl
      · rw [if_neg e, if_neg (show ¬ r.pl.uid = u from e)]
    exact lvR_pl us (leave1 V u) (R.map (atU u goE)) h1
theorem foldM_pl (n : Int) (own : Bool) : ∀ (ms : List ME) (V : PV), foldM n own ms V.rows = (marksP V n own (ms.map ME.pl)).rows ∧ (marksP V n own (ms.map ME.pl)).com = V.com ∧ (marksP V n own (ms.map ME.pl)).val = V.val
  | [], _ => ⟨rfl, rfl, rfl⟩
  | m :: ms, V => foldM_pl n own ms (mark1 n own V m.pl)

/-- What lies behind an event's lists. -/
structure EvAt (w : World) (e : EV) (us : List Int) (ms : List ME) : Prop where
  uids : Nms w e.vu us
  marks : MksAt w e.vm ms
  low : -9223372036854775808 ≤ e.fi
  ulen : us.length ≤ 300000
  mlen : ms.length ≤ 300000
structure EvOut (w : World) (fp : List Nat) (e : EV) (us : List Int) (ms : List ME) : Prop where
  uids : 0 < us.length → ∀ b, e.vu.ownBlock = some b → b < w.heap.size ∧ b ∉ fp
  marks : MksOut fp e.vm ms
def plE (e : EV) (us : List Int) (ms : List ME) : PEv := ⟨e.n, e.k, e.bx, e.tt, e.fi, us, ms.map ME.pl⟩
theorem EvAt.on {w w' : World} {e : EV} {us : List Int} {ms : List ME} (h : EvAt w e us ms) (hb : Below w.heap.size w w') : EvAt w' e us ms := ⟨h.uids.on hb, h.marks.on hb, h.low, h.ulen, h.mlen⟩
theorem EvOut.on {w w' : World} {fp : List Nat} {e : EV} {us : List Int} {ms : List ME} (h : EvOut w fp e us ms) (hz : w.heap.size ≤ w'.heap.size) : EvOut w' fp e us ms := ⟨fun h0 b hb => ⟨by have := (h.uids h0 b hb).1; omega, (h.uids h0 b hb).2⟩, h.marks⟩
/-- What the one function does that an event's kind asks for. -/
def hearF (k : Int) : Option Nat := if k = 4 then some 40 else if k = 5 then some 41 else if k = 6 then some 42 else if k = 7 then some 43 else if k = 8 then some 44 else if k = 9 then some 45 else none
theorem hear_fn {P : Nat} {V : PV} {fp : List Nat} {w : World} {N : Nat} (h : VW P V fp w) (hk : PVok V N) (e : EV) (own : Bool) (us : List Int) (ms : List ME) (hN : N + (1 + us.length) ≤ 1000000) (he : EvAt w e us ms) (ho : EvOut w fp e us ms) (f : Nat) (hf : hearF e.k = some f) :
    Calls Try.prog f #[.pointer (some ⟨P, 0, none⟩), .agg (evA e), .bool own] w fun r w' => r = .returned (.tuple #[]) ∧ VG P (hearP V (plE e us ms) own) fp w w' := by
  obtain ⟨rv, cv, R, hV, hpl, rfl⟩ := h
  have hko := VOK.of hpl hk
  have hul := uid_pl hpl
  have hlen := hko.len
  have hu := he.ulen
  have hml := he.mlen
  unfold hearF at hf
  by_cases k4 : e.k = 4
  · rw [if_pos k4] at hf
    cases hf
    refine (emptied_any hV hko (by omega) e own).mono ?_
    rintro r w' ⟨rfl, hO⟩
    refine ⟨rfl, VG.of hO (hearP_val _ _ _).symm ?_ ?_⟩
    · unfold hearP plE
      simp only [if_pos k4]
      split
      · rw [hul]; exact (lvR_pl (uidsP V) V R hpl).1
      · exact hpl
    · unfold hearP plE
      simp only [if_pos k4]
      split <;> rfl
  rw [if_neg k4] at hf
  by_cases k5 : e.k = 5
  · rw [if_pos k5] at hf
    cases hf
    refine (added_any hV (by omega) (by omega) e own).mono ?_
    rintro r w' ⟨rfl, hO⟩
    refine ⟨rfl, VG.of hO (hearP_val _ _ _).symm ?_ ?_⟩
    · unfold hearP plE
      simp only [if_neg k4, if_pos k5]
      split
      · rw [comeP_rows]; exact hpl
      · exact hpl
    · unfold hearP plE
      simp only [if_neg k4, if_pos k5]
      split
      · rw [comeP_C, hul]
      · rfl
  rw [if_neg k5] at hf
  by_cases k6 : e.k = 6
  · rw [if_pos k6] at hf
    cases hf
    refine (flagged_any hV hko (by omega) e own ms he.marks ho.marks (by omega)).mono ?_
    rintro r w' ⟨rfl, R', hO, hp, _⟩
    obtain ⟨f1, f2, _⟩ := foldM_pl e.n own ms V
    refine ⟨rfl, VG.of hO (hearP_val _ _ _).symm ?_ ?_⟩
    · rw [hp]
      unfold hearP plE
      simp only [if_neg k4, if_neg k5, if_pos k6]
      split
      · rw [hpl]; exact f1
      · exact hpl
    · unfold hearP plE
      simp only [if_neg k4, if_neg k5, if_pos k6]
      split
      · exact f2.symm
      · rfl
  rw [if_neg k6] at hf
  by_cases k7 : e.k = 7
  · rw [if_pos k7] at hf
    cases hf
    refine (expunged_any hV hko (by omega) e own us he.uids (fun h0 b hb => (ho.uids h0 b hb).2) (by omega)).mono ?_
    rintro r w' ⟨rfl, hO⟩
    refine ⟨rfl, VG.of hO (hearP_val _ _ _).symm ?_ ?_⟩
    · unfold hearP plE
      simp only [if_neg k4, if_neg k5, if_neg k6, if_pos k7]
      split
      · exact (lvR_pl us V R hpl).1
      · exact hpl
    · unfold hearP plE
      simp only [if_neg k4, if_neg k5, if_neg k6, if_pos k7]
      split
      · exact (lvR_pl us V R hpl).2
      · rfl
  rw [if_neg k7] at hf
  by_cases k8 : e.k = 8
  · rw [if_pos k8] at hf
    cases hf
    refine (copied_any hV e own us he.uids he.low (by omega) (by omega) (by omega)).mono ?_
    rintro r w' ⟨rfl, hO⟩
    refine ⟨rfl, VG.of hO (hearP_val _ _ _).symm ?_ ?_⟩
    · unfold hearP plE
      simp only [if_neg k4, if_neg k5, if_neg k6, if_neg k7, if_pos k8]
      split
      · rw [comesP_rows]; exact hpl
      · exact hpl
    · unfold hearP plE
      simp only [if_neg k4, if_neg k5, if_neg k6, if_neg k7, if_pos k8]
      split
      · rw [comesP_C, hul]
      · rfl
  rw [if_neg k8] at hf
  by_cases k9 : e.k = 9
  · rw [if_pos k9] at hf
    cases hf
    refine (moved_any hV hko e own us he.uids ho.uids he.low (by omega) (by omega)).mono ?_
    rintro r w' ⟨rfl, hO⟩
    have hpc : R.map RE.pl = (comesP V (fol e.fi us.length)).rows := by rw [comesP_rows]; exact hpl
    have hcc : comesC (uidR R) V.com (fol e.fi us.length) = (comesP V (fol e.fi us.length)).com := by rw [comesP_C, hul]
    refine ⟨rfl, VG.of hO (hearP_val _ _ _).symm ?_ ?_⟩
    · unfold hearP plE
      simp only [if_neg k4, if_neg k5, if_neg k6, if_neg k7, if_neg k8, if_pos k9]
      by_cases a1 : e.tt = V.val <;> by_cases a2 : e.bx = V.val <;> simp only [a1, a2, if_true, if_false]
      · exact (lvR_pl us _ R hpc).1
      · exact hpc
      · exact (lvR_pl us V R hpl).1
      · exact hpl
    · unfold hearP plE
      simp only [if_neg k4, if_neg k5, if_neg k6, if_neg k7, if_neg k8, if_pos k9]
      by_cases a1 : e.tt = V.val <;> by_cases a2 : e.bx = V.val <;> simp only [a1, a2, if_true, if_false]
      · rw [hcc]; exact (lvR_pl us _ R hpc).2
      · exact hcc
      · exact (lvR_pl us V R hpl).2
  rw [if_neg k9] at hf
  cases hf
end Go.Proofs.Ytiphbnmnoofpkaa
