/- The document's view by what is plain of it; its Hear. -/
import Derived.Test.YtmedpcldfpfpnaaGreatR16f
import Derived.Test.YtmedpcldfpfpnaaGreatR16h
namespace Go.Proofs.YtmedpcldfpfpnaaGreat
open Go.RowKit

/-- The document's view, by what is plain of it; fp: its blocks. -/
def RW (P : Nat) (V : PV) (fp : List Nat) (w : World) : Prop := ∃ rv cv R, RV P V.val rv cv R V.com w ∧ R.map RR.pl = V.rows ∧ fp = fpR P rv cv R ∧ ShR R
def RG (P : Nat) (V' : PV) (fp : List Nat) (w w' : World) : Prop := ∃ fp', RW P V' fp' w' ∧ FO fp fp' w w'
theorem RW.on {P : Nat} {V : PV} {fp : List Nat} {w w' : World} (h : RW P V fp w) (hb : Below w.heap.size w w') : RW P V fp w' := by
  obtain ⟨rv, cv, R, h1, h2, h3, h4⟩ := h
  exact ⟨rv, cv, R, h1.on hb, h2, h3, h4⟩
theorem RW.hold {P : Nat} {V : PV} {fp : List Nat} {w w' : World} (h : RW P V fp w) (hs : ∀ b, b ∈ fp → w'.heap[b]? = w.heap[b]?) : RW P V fp w' := by
  obtain ⟨rv, cv, R, h1, h2, rfl, h4⟩ := h
  exact ⟨rv, cv, R, h1.hold hs, h2, rfl, h4⟩
theorem RW.lt {P : Nat} {V : PV} {fp : List Nat} {w : World} (h : RW P V fp w) {b : Nat} (hb : b ∈ fp) : b < w.heap.size := by
  obtain ⟨rv, cv, R, h1, h2, rfl, h4⟩ := h
  exact h1.lt hb
theorem RG.of {P : Nat} {V' : PV} {fp : List Nat} {w w' : World} {R' : List RR} {C' : List Int} {val : Int} (h : RO P val R' C' fp w w') (hv : val = V'.val) (hr : R'.map RR.pl = V'.rows) (hc : C' = V'.com) (hs : ShR R') : RG P V' fp w w' := by
  obtain ⟨rv, cv, h1, h2⟩ := h
  subst hv hc
  exact ⟨_, ⟨rv, cv, R', h1, hr, rfl, hs⟩, h2⟩
theorem RG.on {P : Nat} {V : PV} {fp : List Nat} {w w1 w' : World} (h : RG P V fp w w1) (hb : Below w1.heap.size w1 w') : RG P V fp w w' := by
  obtain ⟨fp', h1, h2⟩ := h
  exact ⟨fp', h1.on hb, h2.trans (FO.below hb)⟩
theorem ruid_pl {R : List RR} {V : PV} (h : R.map RR.pl = V.rows) : rrU R = uidsP V := by
  unfold uidsP rrU
  rw [← h, List.map_map]
  rfl
theorem lvRR_pl : ∀ (us : List Int) (V : PV) (R : List RR), R.map RR.pl = V.rows → (lvRR R us).map RR.pl = (leavesP V us).rows ∧ lvC V.com us = (leavesP V us).com
  | [], _, _, h => ⟨h, rfl⟩
  | u :: us, V, R, h => by
    have h1 : (R.map (atUR u rgoE)).map RR.pl = (leave1 V u).rows := by
      show _ = V.rows.map (goR u)
      rw [← h, List.map_map, List.map_map]
      apply List.map_congr_left
      intro r _
      simp only [Function.comp]
      unfold atUR goR
      by_cases e : r.uid = u
      · rw [if_pos e, if_pos (show r.pl.uid = u from e)]; rfl
      · rw [if_neg e, if_neg (show ¬ r.pl.uid = u from e)]
    exact lvRR_pl us (leave1 V u) (R.map (atUR u rgoE)) h1
theorem rlen_pl {R : List RR} {V : PV} (h : R.map RR.pl = V.rows) : R.length = V.rows.length := by rw [← h, List.length_map]
section
variable {P : Nat} {V : PV} {fp : List Nat} {w : World} {N : Nat}
/-- comes, by what is plain. -/
theorem comes_RW (h : RW P V fp w) (hk : PVok V N) (first : Int) (n : Nat) (hN : N + n ≤ 1000000) (lo : -9223372036854775808 ≤ first) (hi : first ≤ 9223372036854775807) :
    Calls Tryz.prog 46 #[.pointer (some ⟨P, 0, none⟩), .int .i64 first, .int .i64 (n : Int)] w fun e w' => e = .returned (.tuple #[]) ∧ RG P (comesP V (fol first n)) fp w w' := by
  obtain ⟨rv, cv, R, h1, h2, rfl, h4⟩ := h
  have hl := hk.len
  have hrl := rlen_pl h2
  refine (rcomes_any h1 first n (by omega) (by rw [ruid_pl h2]; exact hk.rise) lo hi).mono ?_
  rintro e w' ⟨rfl, ho⟩
  refine ⟨rfl, RG.of ho (comesP_val _ _).symm ?_ ?_ h4⟩
  · rw [comesP_rows]; exact h2
  · rw [comesP_C, ruid_pl h2]
theorem goes_RW (h : RW P V fp w) (hk : PVok V N) (hN : N ≤ 1000000) (v : Value) (us : List Int) (hv : Nms w v us) (hn : 0 < us.length → ∀ b, v.ownBlock = some b → b ∉ fp) (hU : us.length ≤ 1000000) :
    Calls Tryz.prog 47 #[.pointer (some ⟨P, 0, none⟩), v] w fun e w' => e = .returned (.tuple #[]) ∧ RG P (leavesP V us) fp w w' := by
  obtain ⟨rv, cv, R, h1, h2, rfl, h4⟩ := h
  have hl := hk.len
  have hrl := rlen_pl h2
  refine (rgoes_any h1 (by rw [ruid_pl h2]; exact ((riseF_append _ _ _).1 hk.rise).1) (by omega) v us hv hn hU).mono ?_
  rintro e w' ⟨rfl, ho⟩
  obtain ⟨q1, q2⟩ := lvRR_pl us V R h2
  exact ⟨rfl, RG.of ho (leavesP_val _ _).symm q1 q2 (lvRR_sh us R h4)⟩
theorem turns_RW (h : RW P V fp w) (hk : PVok V N) (hN : N ≤ 1000000) (m : ME) (hm : FlAt w m) (hmo : m.fl ≠ [] → ∀ b, m.fv.ownBlock = some b → b ∉ fp) (hml : m.fl.length ≤ 1000000) (n : Int) (own : Bool) :
    Calls Tryz.prog 48 #[.pointer (some ⟨P, 0, none⟩), .agg #[.int .i64 m.uid, m.fv], .int .i64 n, .bool own] w fun e w' => e = .returned (.tuple #[]) ∧ RG P (mark1 n own V m.pl) fp w w' := by
  obtain ⟨rv, cv, R, h1, h2, rfl, h4⟩ := h
  have hl := hk.len
  have hrl := rlen_pl h2
  refine (rturns_any h1 h4 (by rw [ruid_pl h2]; exact ((riseF_append _ _ _).1 hk.rise).1) (by omega) m hm hmo hml n own).mono ?_
  rintro e w' ⟨rfl, R', hp, hs, ho⟩
  refine ⟨rfl, RG.of ho rfl ?_ rfl hs⟩
  rw [hp, h2]
  rfl
/-- Coming = nil. -/
theorem RW.noC (h : RW P V fp w) : ∃ cv, w.cell? ⟨P, 3, none⟩ = some cv ∧ w.frozen? ⟨P, 3, none⟩ = false ∧ RG P { V with com := [] } fp w (w.setCell ⟨P, 3, none⟩ (.slice none 0 0)) := by
  obtain ⟨rv, cv, R, h1, h2, rfl, h4⟩ := h
  obtain ⟨q1, q2⟩ := h1.newC (OwnI.nil (Below.refl _ _) (Nat.le_refl _))
  exact ⟨cv, h1.cells.2.2.2, h1.frozen.2, _, ⟨_, _, R, q1, h2, rfl, h4⟩, q2⟩
theorem Uids_RW (h : RW P V fp w) (hk : PVok V N) (hN : N ≤ 1000000) :
    Calls Tryz.prog 16 #[.pointer (some ⟨P, 0, none⟩)] w fun e w' => ∃ v', e = .returned v' ∧ OwnI w.heap.size v' (uidsP V) w w' := by
  obtain ⟨rv, cv, R, h1, h2, rfl, h4⟩ := h
  have hl := hk.len
  have hrl := rlen_pl h2
  rw [← ruid_pl h2]
  exact rUids_any h1 (by omega)
theorem RW.cells (h : RW P V fp w) : w.cell? ⟨P, 0, none⟩ = some (.bool false) ∧ w.cell? ⟨P, 1, none⟩ = some (.int .i64 V.val) := by
  obtain ⟨rv, cv, R, h1, h2, rfl, h4⟩ := h
  exact ⟨h1.cells.1, h1.cells.2.1⟩
end
theorem leaves_nil (V : PV) : ∀ us : List Int, { leavesP V us with com := [] } = leavesP { V with com := [] } us := by
  intro us
  induction us generalizing V with
  | nil => rfl
  | cons u us ih =>
    show { leavesP (leave1 V u) us with com := [] } = leavesP (leave1 { V with com := [] } u) us
    rw [ih]
    rfl
end Go.Proofs.YtmedpcldfpfpnaaGreat
