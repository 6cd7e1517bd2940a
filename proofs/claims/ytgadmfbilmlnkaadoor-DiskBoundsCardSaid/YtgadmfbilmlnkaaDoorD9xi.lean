/- A disk's names, sorted: their sizes, their order. -/
import Derived.Test.YtgadmfbilmlnkaaDoorD9xf
import Derived.Test.YtgadmfbilmlnkaaDoorD9ya
namespace Go.Proofs.YtgadmfbilmlnkaaDoor
open Go.RowKit Go.Lib

theorem Dk.names {A : Whys} {w0 w : World} {d : Nat} {S : DS} {P : List PF} {K : List (Nat × Obj)} (h : Dk A w0 d S P K w) : (P.map PF.name).Nodup := by
  obtain ⟨m, sv, clk, F, hD, rfl, _⟩ := h
  rw [List.map_map]
  exact hD.names
theorem Dk.fits {A : Whys} {w0 w : World} {d : Nat} {S : DS} {P : List PF} {K : List (Nat × Obj)} (h : Dk A w0 d S P K w) : usedP P ≤ S.quota := by
  obtain ⟨m, sv, clk, F, hD, rfl, _⟩ := h
  rw [← usedF_pl]
  exact hD.fits
theorem sizeP_mem {P : List PF} (hn : (P.map PF.name).Nodup) {p : PF} (hp : p ∈ P) : sizeP p.name P = (p.data.length : Int) := by
  have hf : P.find? (fun q => decide (q.name = p.name)) = some p := by
    induction P with
    | nil => cases hp
    | cons x P ih =>
      rw [List.map_cons, List.nodup_cons] at hn
      rcases List.mem_cons.1 hp with e | hp1
      · subst e
        simp
      · have hx : x.name ≠ p.name := fun e => hn.1 (by rw [e]; exact List.mem_map.2 ⟨p, hp1, rfl⟩)
        rw [List.find?_cons_of_neg (by simp [hx])]
        exact ih hn.2 hp1
  unfold sizeP
  rw [hf]
def sumI (l : List Int) : Int := l.foldr (· + ·) 0
theorem sumI_perm {a b : List Int} (h : a.Perm b) : sumI a = sumI b := by
  induction h with
  | nil => rfl
  | cons x _ ih => simp only [sumI, List.foldr_cons] at *; omega
  | swap x y l => simp only [sumI, List.foldr_cons]; omega
  | trans _ _ h1 h2 => rw [h1, h2]
theorem sumI_app (a b : List Int) : sumI (a ++ b) = sumI a + sumI b := by
  induction a with
  | nil => simp [sumI]
  | cons x a ih => simp only [sumI, List.cons_append, List.foldr_cons] at *; omega
theorem sumI_used (P : List PF) : sumI (P.map fun p => (p.data.length : Int)) = (usedP P : Int) := by
  induction P with
  | nil => rfl
  | cons x P ih =>
    have e : usedP (x :: P) = x.data.length + usedP P := by simp [usedP]
    rw [e]
    simp only [sumI, List.map_cons, List.foldr_cons] at *
    omega
/-- Size of all names, put together, is Used. -/
theorem sum_sizes {P : List PF} (hn : (P.map PF.name).Nodup) {Ts : List (List UInt8)} (hp : Ts.Perm (P.map fun p => L p.name)) : sumI (Ts.map fun t => sizeP (S t) P) = (usedP P : Int) := by
  rw [sumI_perm (hp.map _), List.map_map, ← sumI_used]
  congr 1
  refine List.map_congr_left (fun p hp => ?_)
  show sizeP (S (L p.name)) P = _
  rw [S_L]
  exact sizeP_mem hn hp
theorem L_inj {a b : ByteArray} (h : L a = L b) : a = b := by rw [← S_L a, ← S_L b, h]
theorem names_nodup {P : List PF} (hn : (P.map PF.name).Nodup) {Ts : List (List UInt8)} (hp : Ts.Perm (P.map fun p => L p.name)) : Ts.Nodup := by
  have h1 : (P.map fun p => L p.name).Nodup := by
    have : (P.map fun p => L p.name) = (P.map PF.name).map L := by rw [List.map_map]; rfl
    rw [this]
    exact List.Pairwise.map L (fun a b hab e => hab (L_inj e)) hn
  exact (hp.nodup_iff).2 h1
/-- They rise. -/
theorem names_rise {P : List PF} (hn : (P.map PF.name).Nodup) {Ts : List (List UInt8)} (hp : Ts.Perm (P.map fun p => L p.name)) (hs : Ts.Pairwise (fun x y => x ≤ y)) : Ts.Pairwise (fun x y => x < y) := by
  have h2 := names_nodup hn hp
  exact (List.Pairwise.and hs h2).imp (fun h => Std.lt_of_le_of_ne h.1 h.2)
/-- The same files: the same list. -/
theorem names_same {P : List PF} {Ts Us : List (List UInt8)} (hp : Ts.Perm (P.map fun p => L p.name)) (hq : Us.Perm (P.map fun p => L p.name)) (hs : Ts.Pairwise (fun x y => x ≤ y)) (ht : Us.Pairwise (fun x y => x ≤ y)) : Ts = Us :=
  List.Perm.eq_of_pairwise (fun _ _ _ _ h1 h2 => List.le_antisymm h1 h2) hs ht (hp.trans hq.symm)
end Go.Proofs.YtgadmfbilmlnkaaDoor
