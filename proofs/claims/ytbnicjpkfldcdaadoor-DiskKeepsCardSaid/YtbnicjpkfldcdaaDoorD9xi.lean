/- A disk's names, sorted: their sizes, their order. -/
import Derived.Test.YtbnicjpkfldcdaaDoorD9xf
import Derived.Test.YtbnicjpkfldcdaaDoorD9ya
import Derived.Test.YtbnicjpkfldcdaaDoorD9zd
namespace Go.Proofs.YtbnicjpkfldcdaaDoor
open Go.RowKit Go.Lib

theorem Dk.names {A : Whys} {w0 w : World} {d : Nat} {S : DS} {P : List PF} {K : List (Nat × Obj)} (h : Dk A w0 d S P K w) : (P.map PF.name).Nodup := by
  obtain ⟨m, sv, clk, F, hD, rfl, _⟩ := h
  rw [List.map_map]
  exact hD.names
theorem Dk.fits {A : Whys} {w0 w : World} {d : Nat} {S : DS} {P : List PF} {K : List (Nat × Obj)} (h : Dk A w0 d S P K w) : usedP P ≤ S.quota := by
  obtain ⟨m, sv, clk, F, hD, rfl, _⟩ := h
  rw [← usedF_pl]
  exact hD.fits
theorem sizeP_mem {P : List PF} (hn : (P.map PF.name).Nodup) {p : PF} (hp : p ∈ P) : sizeP p.name P = (p.data.length : Int) := by
  have hf : P.find? (fun q => decide (q.name = p.name)) = some p := by
    induction P with
    | nil => cases hp
    | cons x P ih =>
      rw [List.map_cons, List.nodup_cons] at hn
      rcases List.mem_cons.1 hp with e | hp1
      · subst e
        simp
      · have hx : x.name ≠ p.name := fun e => hn.1 (by rw [e]; exact List.mem_map.2 ⟨p, hp1, rfl⟩)
        rw [List.find?_cons_of_neg (by simp [hx])]
        exact ih hn.2 hp1
  unfold sizeP
  rw [hf]
def sumI (l : List Int) : Int := l.foldr (· + ·) 0
theorem sumI_perm {a b : List Int} (h : a.Perm b) : sumI a = sumI b := by
  induction h with
  | nil => rfl
  | cons x _ ih => simp only [sumI, List.foldr_cons] at *; omega
  | swap x y l => simp only [sumI, List.foldr_cons]; omega
  | trans _ _ h1 h2 => rw [h1, h2]
theorem sumI_app (a b : List Int) : sumI (a ++ b) = sumI a + sumI b := by
  induction a with
  | nil => simp [sumI]
  | cons x a ih => simp only [sumI, List.cons_append, List.foldr_cons] at *; omega
theorem sumI_used (P : List PF) : sumI (P.map fun p => (p.data.length : Int)) = (usedP P : Int) := by
  induction P with
  | nil => rfl
  | cons x P ih =>
    have e : usedP (x :: P) = x.data.length + usedP P := by simp [usedP]
    rw [e]
    simp only [sumI, List.map_cons, List.foldr_cons] at *
    omega
/-- Size of all names, put together, is Used. -/
theorem sum_sizes {P : List PF} (hn : (P.map PF.name).Nodup) {Ts : List (List UInt8)} (hp : Ts.Perm (P.map fun p => L p.name)) : sumI (Ts.map fun t => sizeP (S t) P) = (usedP P : Int) := by
  rw [sumI_perm (hp.map _), List.map_map, ← sumI_used]
  congr 1
  refine List.map_congr_left (fun p hp => ?_)
  show sizeP (S (L p.name)) P = _
  rw [S_L]
  exact sizeP_mem hn hp
theorem L_inj {a b : ByteArray} (h : L a = L b) : a = b := by rw [← S_L a, ← S_L b, h]
theorem names_nodup {P : List PF} (hn : (P.map PF.name).Nodup) {Ts : List (List UInt8)} (hp : Ts.Perm (P.map fun p => L p.name)) : Ts.Nodup := by
  have h1 : (P.map fun p => L p.name).Nodup := by
    have : (P.map fun p => L p.name) = (P.map PF.name).map L := by rw [List.map_map]; rfl
    rw [this]
    exact List.Pairwise.map L (fun a b hab e => hab (L_inj e)) hn
  exact (hp.nodup_iff).2 h1
/-- They rise. -/
theorem names_rise {P : List PF} (hn : (P.map PF.name).Nodup) {Ts : List (List UInt8)} (hp : Ts.Perm (P.map fun p => L p.name)) (hs : Ts.Pairwise (fun x y => x ≤ y)) : Ts.Pairwise (fun x y => x < y) := by
  have h2 := names_nodup hn hp
  exact (List.Pairwise.and hs h2).imp (fun h => Std.lt_of_le_of_ne h.1 h.2)
/-- The same files: the same list. -/
theorem names_same {P : List PF} {Ts Us : List (List UInt8)} (hp : Ts.Perm (P.map fun p => L p.name)) (hq : Us.Perm (P.map fun p => L p.name)) (hs : Ts.Pairwise (fun x y => x ≤ y)) (ht : Us.Pairwise (fun x y => x ≤ y)) : Ts = Us :=
  List.Perm.eq_of_pairwise (fun _ _ _ _ h1 h2 => List.le_antisymm h1 h2) hs ht (hp.trans hq.symm)
end Go.Proofs.YtbnicjpkfldcdaaDoor

/- DiskBounds: a row that is kept beside a disk; plans that an int can hold; scripts with their stops. -/
namespace Go.Proofs.YtbnicjpkfldcdaaDoor
open Go.RowKit Go.Lib

theorem Dk.keep {A : Whys} {w0 w w' : World} {d : Nat} {S : DS} {P : List PF} {K : List (Nat × Obj)} (h : Dk A w0 d S P K w) (hb : Below w.heap.size w w') {g : Nat} {o : Obj} (hg : w.heap.size ≤ g) (ho : w'.heap[g]? = some o) : Dk A w0 d S P ((g, o) :: K) w' := by
  obtain ⟨m, sv, clk, F, hD, rfl, hb0, he, hK⟩ := h
  refine ⟨m, sv, clk, F, hD.below hb, rfl, hb0.trans (hb.mono hb0.size), he.below (hb.mono hb0.size), fun x hx => ?_⟩
  rcases List.mem_cons.1 hx with rfl | hx
  · exact ⟨ho, hD.far hg⟩
  · exact ⟨by rw [hb.block _ (lt_of_heap (hK x hx).1)]; exact (hK x hx).1, (hK x hx).2⟩
theorem Dk.kept {A : Whys} {w0 w : World} {d : Nat} {S : DS} {P : List PF} {K : List (Nat × Obj)} (h : Dk A w0 d S P K w) {x : Nat × Obj} (hx : x ∈ K) : w.heap[x.1]? = some x.2 := by
  obtain ⟨m, sv, clk, F, hD, rfl, hb0, he, hK⟩ := h
  exact (hK x hx).1
theorem ErrK.mem {A : Whys} {op nm : ByteArray} {step code : Int} {r : Value} {K K' : List (Nat × Obj)} (h : ErrK A op nm step code r K K') {x : Nat × Obj} (hx : x ∈ K) : x ∈ K' := by
  rcases h with ⟨_, _, rfl⟩ | ⟨_, p, _, rfl⟩
  · exact hx
  · exact List.mem_cons_of_mem _ hx
theorem DS.tick_ok {S : DS} (h : S.ok) : S.tick.ok := by
  unfold DS.tick
  cases hs : S.stops with
  | nil => exact h
  | cons s l =>
    obtain ⟨x, y, z⟩ := s
    have h0 := h (x, y, z) (by rw [hs]; simp)
    have hl : ∀ s, s ∈ l → inI s.1 ∧ inI s.2.1 ∧ inI s.2.2 := fun s hs' => h s (by rw [hs]; exact List.mem_cons_of_mem _ hs')
    simp only
    split
    · intro s hs'
      rcases List.mem_cons.1 hs' with rfl | hs'
      · refine ⟨?_, h0.2⟩
        have := h0.1
        unfold inI at this ⊢
        simp only at this ⊢
        omega
      · exact hl s hs'
    · exact hl
theorem DS.next_ok {S : DS} (h : S.ok) : S.next.ok := by
  unfold DS.next
  split
  · have : S.step.tick.ok := DS.tick_ok (S := S.step) h
    split
    · exact this
    · exact this
  · exact h
theorem DS.tick_quota (S : DS) : S.tick.quota = S.quota ∧ S.tick.steps = S.steps := by
  unfold DS.tick
  split
  · exact ⟨rfl, rfl⟩
  · split <;> exact ⟨rfl, rfl⟩
theorem DS.next_quota (S : DS) : S.next.quota = S.quota ∧ S.next.steps ≤ S.steps + 1 := by
  unfold DS.next
  have := DS.tick_quota S.step
  split
  · split
    · exact ⟨this.1, by rw [this.2]; exact Nat.le_refl _⟩
    · exact ⟨this.1, by show S.step.tick.steps ≤ _; rw [this.2]; exact Nat.le_refl _⟩
  · exact ⟨rfl, Nat.le_succ _⟩
theorem plan_in {S : DS} {l : List (Int × Int × Int)} (h : ∀ s, s ∈ l → inI s.1 ∧ inI s.2.1 ∧ inI s.2.2) : DS.ok { S with stops := planP l } := by
  intro s hs
  exact h s (List.mem_filter.1 hs).1
theorem StopsCame.on {w W : World} {a : Option Addr} {n c : Nat} {l : List (Int × Int × Int)} (h : StopsCame w a n c l) (hb : Below w.heap.size w W) : StopsCame W a n c l := by
  obtain ⟨h0, hc⟩ := h
  refine ⟨h0, ?_⟩
  rcases hc with hc | ⟨x, rfl, hc⟩
  · exact .inl hc
  · refine .inr ⟨x, rfl, fun j u hj => ?_⟩
    have h1 := hc j u hj
    rw [hb.cell (World.block_lt_of_cell? _ _ h1)]
    exact h1
/-- One call of a script, with its stops. -/
structure ActSt (W : World) (b o : Nat) (q : ActR) (l : List (Int × Int × Int)) : Prop where
  act : ActAt W b o q
  stops : StopsCame W q.sa q.sn q.sc l
  inl : ∀ s, s ∈ l → inI s.1 ∧ inI s.2.1 ∧ inI s.2.2
  sn : q.sn ≤ 5864062014634
  hdata : q.data.size ≤ 140737488355328
theorem ActSt.on {W W' : World} {b o : Nat} {q : ActR} {l : List (Int × Int × Int)} (h : ActSt W b o q l) (hl : b < W.heap.size) (hb : Below W.heap.size W W') : ActSt W' b o q l :=
  ⟨h.act.on (hb.block b hl), h.stops.on hb, h.inl, h.sn, h.hdata⟩
def ActsSt (W : World) (a : Option Addr) (n : Nat) : Prop := n ≤ 4611686018427387904 ∧ (0 < n → ∃ b o, a = some ⟨b, o, none⟩ ∧ b < W.heap.size ∧ ∀ i, i < n → ∃ q l, ActSt W b (o + i * 7) q l)
end Go.Proofs.YtbnicjpkfldcdaaDoor
