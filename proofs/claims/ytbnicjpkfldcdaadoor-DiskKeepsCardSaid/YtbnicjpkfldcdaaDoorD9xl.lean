/- DiskBounds: rows of names that are kept; what a call leaves. -/
import Derived.Test.YtbnicjpkfldcdaaDoorD9xi
import Derived.Test.YtbnicjpkfldcdaaDoorD9fg
namespace Go.Proofs.YtbnicjpkfldcdaaDoor
open Go.RowKit Go.Lib

theorem drewB {B : Nat} {a w : World} (h : Below B a w) (n : Nat) : Below B a (w.drewN n) := ⟨h.os, h.tape, h.output, h.size, h.block⟩
/-- A row of texts whose block is kept. -/
def RowK (Ts : List (List UInt8)) (v : Value) (K : List (Nat × Obj)) : Prop :=
  ∃ a cap, v = .slice a Ts.length cap ∧ (Ts.length = 0 ∨ ∃ g o, a = some ⟨g, 0, none⟩ ∧ (g, o) ∈ K ∧ ∀ W : World, W.heap[g]? = some o → ∀ i, i < Ts.length → W.cell? ⟨g, i, none⟩ = some (.string (S (Ts.getD i []))))
/-- A row of texts in a world. -/
def RowIn (W : World) (Ts : List (List UInt8)) (v : Value) : Prop :=
  ∃ a cap, v = .slice a Ts.length cap ∧ (Ts.length = 0 ∨ ∃ g, a = some ⟨g, 0, none⟩ ∧ ∀ i, i < Ts.length → W.cell? ⟨g, i, none⟩ = some (.string (S (Ts.getD i []))))
theorem RowK.mem {Ts : List (List UInt8)} {v : Value} {K K' : List (Nat × Obj)} (h : RowK Ts v K) (hm : ∀ x, x ∈ K → x ∈ K') : RowK Ts v K' := by
  obtain ⟨a, cap, hv, h⟩ := h
  refine ⟨a, cap, hv, ?_⟩
  rcases h with h | ⟨g, o, ha, hg, hc⟩
  · exact .inl h
  · exact .inr ⟨g, o, ha, hm _ hg, hc⟩
theorem RowK.here {A : Whys} {w0 W : World} {d : Nat} {T : DS} {P : List PF} {Ts : List (List UInt8)} {v : Value} {K : List (Nat × Obj)} (h : RowK Ts v K) (hD : Dk A w0 d T P K W) : RowIn W Ts v := by
  obtain ⟨a, cap, hv, h⟩ := h
  refine ⟨a, cap, hv, ?_⟩
  rcases h with h | ⟨g, o, ha, hg, hc⟩
  · exact .inl h
  · exact .inr ⟨g, ha, hc W (hD.kept hg)⟩
theorem RowIn.on {W W' : World} {Ts : List (List UInt8)} {v : Value} (h : RowIn W Ts v) (hb : Below W.heap.size W W') : RowIn W' Ts v := by
  obtain ⟨a, cap, hv, h⟩ := h
  refine ⟨a, cap, hv, ?_⟩
  rcases h with h | ⟨g, ha, hc⟩
  · exact .inl h
  · refine .inr ⟨g, ha, fun i hi => ?_⟩
    have h1 := hc i hi
    rw [hb.cell (World.block_lt_of_cell? _ _ h1)]
    exact h1
theorem getD_some {Ts : List (List UInt8)} {i : Nat} (hi : i < Ts.length) : Ts[i]? = some (Ts.getD i []) := by
  rw [List.getD_eq_getElem?_getD, List.getElem?_eq_getElem hi]
  rfl
theorem NamesK {A : Whys} {w0 w : World} {d : Nat} {T : DS} {P : List PF} {K : List (Nat × Obj)} (h : Dk A w0 d T P K w) (hP : P.length ≤ 1000000) :
    Calls Tryd.prog 28 #[.pointer (some ⟨d, 0, none⟩)] w fun e w' => ∃ (v : Value) (Ts : List (List UInt8)) (K' : List (Nat × Obj)), e = .returned v ∧ Ts.Perm (P.map fun p => L p.name) ∧ Ts.Pairwise (fun x y => x ≤ y) ∧ Dk A w0 d T P K' w' ∧ RowK Ts v K' ∧ Below w.heap.size w w' ∧ ∀ x, x ∈ K → x ∈ K' := by
  refine (NamesD h hP).mono ?_
  rintro e w' ⟨v, Ts, rfl, hp, hs, hrow, hb⟩
  rcases hrow.2 with ⟨hnil, h0⟩ | ⟨g, cap, cur, hv, hbase, hblk, _⟩
  · exact ⟨v, Ts, K, rfl, hp, hs, h.up hb, ⟨none, 0, by rw [h0]; exact hnil, .inl h0⟩, hb, fun x hx => hx⟩
  · subst hv
    refine ⟨_, Ts, (g, _) :: K, rfl, hp, hs, h.keep hb hbase hblk, ⟨some ⟨g, 0, none⟩, cap, rfl, .inr ⟨g, _, rfl, List.mem_cons_self, fun W hW i hi => ?_⟩⟩, hb, fun x hx => List.mem_cons_of_mem _ hx⟩
    have hc := hrow.cells (g := g) rfl i (encStr (Ts.getD i [])) (by rw [List.getElem?_map, getD_some hi]; rfl)
    rw [Addr.add_lit, Nat.zero_add] at hc
    rw [World.cell?_of_block (hW.trans hblk.symm)]
    exact hc
/-- What one call of the script leaves. -/
structure Left (A : Whys) (w : World) (d q k : Nat) (P : List PF) (K : List (Nat × Obj)) (a : Value) (T : DS) (P2 : List PF) (K2 : List (Nat × Obj)) (X : World) : Prop where
  dk : Dk A w d T P2 K2 X
  quota : T.quota = q
  ok : T.ok
  steps : T.steps ≤ k + 1
  len : P2.length ≤ k + 1
  keep : ∀ x, x ∈ K → x ∈ K2
  err : a = .nilIface ∨ (∃ p, a = failV p) ∧ (T.runs = true → P2 = P)
theorem left_does {A : Whys} {w X : World} {d q k : Nat} {T : DS} {P : List PF} {K : List (Nat × Obj)} {r : Value} (h : DoneP A w d T P K r X) (hq : T.quota = q) (hok : T.ok) (hs : T.steps ≤ k) (hl : P.length ≤ k) : ∃ T2 P2 K2, Left A w d q k P K r T2 P2 K2 X := by
  obtain ⟨G, Gp, K', op, nm, code, hD, hE, _, h1, h2⟩ := h
  have hs2 := (DS.next_quota T).2
  have hl2 : (nextF T code P G Gp).length ≤ P.length + 1 := nextF_len h1 h2
  refine ⟨_, _, K', hD, (DS.next_quota T).1.trans hq, DS.next_ok hok, by omega, by omega, fun x hx => hE.mem hx, ?_⟩
  rcases hE with ⟨_, hr, _⟩ | ⟨hc, p, hr, _⟩
  · exact .inl hr
  · exact .inr ⟨⟨p, hr⟩, fun hrun => nextF_same hrun hc⟩
theorem left_none {A : Whys} {w X : World} {d q k : Nat} {T : DS} {P : List PF} {K : List (Nat × Obj)} (h : Dk A w d T P K X) (hq : T.quota = q) (hok : T.ok) (hs : T.steps ≤ k) (hl : P.length ≤ k) : Left A w d q k P K .nilIface T P K X :=
  ⟨h, hq, hok, by omega, by omega, fun _ hx => hx, .inl rfl⟩
theorem sumI_nonneg {l : List Int} (h : ∀ x, x ∈ l → 0 ≤ x) : 0 ≤ sumI l := by
  induction l with
  | nil => exact Int.le_refl _
  | cons x l ih =>
    have h1 := h x List.mem_cons_self
    have h2 := ih (fun y hy => h y (List.mem_cons_of_mem _ hy))
    simp only [sumI, List.foldr_cons] at *
    omega
/-- The sizes, one more. -/
theorem sizes_at {P : List PF} (hn : (P.map PF.name).Nodup) {Ts : List (List UInt8)} (hp : Ts.Perm (P.map fun p => L p.name)) (m : Nat) (hm : m < Ts.length) :
    ∃ z N : Nat, sizeP (S (Ts.getD m [])) P = (z : Int) ∧ sumI ((Ts.take m).map fun t => sizeP (S t) P) = (N : Int) ∧ sumI ((Ts.take (m + 1)).map fun t => sizeP (S t) P) = ((N + z : Nat) : Int) ∧ N + z ≤ usedP P := by
  have h0 : ∀ t, t ∈ Ts → 0 ≤ sizeP (S t) P := by
    intro t ht
    obtain ⟨p, hpm, rfl⟩ := List.mem_map.1 (hp.mem_iff.1 ht)
    rw [S_L, sizeP_mem hn hpm]
    omega
  have hall := sum_sizes hn hp
  have hnn : ∀ l : List (List UInt8), (∀ t, t ∈ l → t ∈ Ts) → 0 ≤ sumI (l.map fun t => sizeP (S t) P) := by
    intro l hl
    refine sumI_nonneg (fun x hx => ?_)
    obtain ⟨t, ht, rfl⟩ := List.mem_map.1 hx
    exact h0 t (hl t ht)
  have h1 := hnn (Ts.take m) (fun t ht => List.mem_of_mem_take ht)
  have h3 := hnn (Ts.drop (m + 1)) (fun t ht => List.mem_of_mem_drop ht)
  have hz := h0 (Ts.getD m []) (List.mem_of_getElem? (getD_some hm))
  have e1 : Ts.take (m + 1) = Ts.take m ++ [Ts.getD m []] := by rw [List.take_add_one, getD_some hm]; rfl
  have e2 : sumI ((Ts.take (m + 1)).map fun t => sizeP (S t) P) = sumI ((Ts.take m).map fun t => sizeP (S t) P) + sizeP (S (Ts.getD m [])) P := by
    rw [e1, List.map_append, sumI_app]
    simp [sumI]
  have e3 : sumI (Ts.map fun t => sizeP (S t) P) = sumI ((Ts.take (m + 1)).map fun t => sizeP (S t) P) + sumI ((Ts.drop (m + 1)).map fun t => sizeP (S t) P) := by
    rw [← sumI_app, ← List.map_append, List.take_append_drop]
  refine ⟨(sizeP (S (Ts.getD m [])) P).toNat, (sumI ((Ts.take m).map fun t => sizeP (S t) P)).toNat, by omega, by omega, by omega, by omega⟩
theorem rise_at {Ts : List (List UInt8)} (h : Ts.Pairwise (fun x y => x < y)) (m : Nat) (hm : m + 1 < Ts.length) : Op.bytesLess (S (Ts.getD m [])).toList (S (Ts.getD (m + 1) [])).toList = true := by
  rw [bytesLess_eq, toList_L, toList_L]
  have h1 := (List.pairwise_iff_getElem.1 h) m (m + 1) (by omega) hm (by omega)
  have g1 := getD_some (Ts := Ts) (i := m) (by omega)
  have g2 := getD_some (Ts := Ts) (i := m + 1) hm
  rw [List.getElem?_eq_getElem (by omega)] at g1 g2
  injection g1 with g1
  injection g2 with g2
  rw [g1, g2] at h1
  exact decide_eq_true h1
end Go.Proofs.YtbnicjpkfldcdaaDoor
