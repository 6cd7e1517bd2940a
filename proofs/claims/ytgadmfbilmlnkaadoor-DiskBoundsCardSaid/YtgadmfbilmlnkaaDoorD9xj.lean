/- DiskBounds: a row that is kept beside a disk; plans that an int can hold; scripts with their stops. -/
import Derived.Test.YtgadmfbilmlnkaaDoorD9xb
import Derived.Test.YtgadmfbilmlnkaaDoorD9xf
import Derived.Test.YtgadmfbilmlnkaaDoorD9xi
namespace Go.Proofs.YtgadmfbilmlnkaaDoor
open Go.RowKit Go.Lib

theorem Dk.keep {A : Whys} {w0 w w' : World} {d : Nat} {S : DS} {P : List PF} {K : List (Nat × Obj)} (h : Dk A w0 d S P K w) (hb : Below w.heap.size w w') {g : Nat} {o : Obj} (hg : w.heap.size ≤ g) (ho : w'.heap[g]? = some o) : Dk A w0 d S P ((g, o) :: K) w' := by
  obtain ⟨m, sv, clk, F, hD, rfl, hb0, he, hK⟩ := h
  refine ⟨m, sv, clk, F, hD.below hb, rfl, hb0.trans (hb.mono hb0.size), he.below (hb.mono hb0.size), fun x hx => ?_⟩
  rcases List.mem_cons.1 hx with rfl | hx
  · exact ⟨ho, hD.far hg⟩
  · exact ⟨by rw [hb.block _ (lt_of_heap (hK x hx).1)]; exact (hK x hx).1, (hK x hx).2⟩
theorem Dk.kept {A : Whys} {w0 w : World} {d : Nat} {S : DS} {P : List PF} {K : List (Nat × Obj)} (h : Dk A w0 d S P K w) {x : Nat × Obj} (hx : x ∈ K) : w.heap[x.1]? = some x.2 := by
  obtain ⟨m, sv, clk, F, hD, rfl, hb0, he, hK⟩ := h
  exact (hK x hx).1
theorem ErrK.mem {A : Whys} {op nm : ByteArray} {step code : Int} {r : Value} {K K' : List (Nat × Obj)} (h : ErrK A op nm step code r K K') {x : Nat × Obj} (hx : x ∈ K) : x ∈ K' := by
  rcases h with ⟨_, _, rfl⟩ | ⟨_, p, _, rfl⟩
  · exact hx
  · exact List.mem_cons_of_mem _ hx
theorem DS.tick_ok {S : DS} (h : S.ok) : S.tick.ok := by
  unfold DS.tick
  cases hs : S.stops with
  | nil => exact h
  | cons s l =>
    obtain ⟨x, y, z⟩ := s
    have h0 := h (x, y, z) (by rw [hs]; simp)
    have hl : ∀ s, s ∈ l → inI s.1 ∧ inI s.2.1 ∧ inI s.2.2 := fun s hs' => h s (by rw [hs]; exact List.mem_cons_of_mem _ hs')
    simp only
    split
    · intro s hs'
      rcases List.mem_cons.1 hs' with rfl | hs'
      · refine ⟨?_, h0.2⟩
        have := h0.1
        unfold inI at this ⊢
        simp only at this ⊢
        omega
      · exact hl s hs'
    · exact hl
theorem DS.next_ok {S : DS} (h : S.ok) : S.next.ok := by
  unfold DS.next
  split
  · have : S.step.tick.ok := DS.tick_ok (S := S.step) h
    split
    · exact this
    · exact this
  · exact h
theorem DS.tick_quota (S : DS) : S.tick.quota = S.quota ∧ S.tick.steps = S.steps := by
  unfold DS.tick
  split
  · exact ⟨rfl, rfl⟩
  · split <;> exact ⟨rfl, rfl⟩
theorem DS.next_quota (S : DS) : S.next.quota = S.quota ∧ S.next.steps ≤ S.steps + 1 := by
  unfold DS.next
  have := DS.tick_quota S.step
  split
  · split
    · exact ⟨this.1, by rw [this.2]; exact Nat.le_refl _⟩
    · exact ⟨this.1, by show S.step.tick.steps ≤ _; rw [this.2]; exact Nat.le_refl _⟩
  · exact ⟨rfl, Nat.le_succ _⟩
theorem plan_in {S : DS} {l : List (Int × Int × Int)} (h : ∀ s, s ∈ l → inI s.1 ∧ inI s.2.1 ∧ inI s.2.2) : DS.ok { S with stops := planP l } := by
  intro s hs
  exact h s (List.mem_filter.1 hs).1
theorem StopsCame.on {w W : World} {a : Option Addr} {n c : Nat} {l : List (Int × Int × Int)} (h : StopsCame w a n c l) (hb : Below w.heap.size w W) : StopsCame W a n c l := by
  obtain ⟨h0, hc⟩ := h
  refine ⟨h0, ?_⟩
  rcases hc with hc | ⟨x, rfl, hc⟩
  · exact .inl hc
  · refine .inr ⟨x, rfl, fun j u hj => ?_⟩
    have h1 := hc j u hj
    rw [hb.cell (World.block_lt_of_cell? _ _ h1)]
    exact h1
/-- One call of a script, with its stops. -/
structure ActSt (W : World) (b o : Nat) (q : ActR) (l : List (Int × Int × Int)) : Prop where
  act : ActAt W b o q
  stops : StopsCame W q.sa q.sn q.sc l
  inl : ∀ s, s ∈ l → inI s.1 ∧ inI s.2.1 ∧ inI s.2.2
  sn : q.sn ≤ 5864062014634
theorem ActSt.on {W W' : World} {b o : Nat} {q : ActR} {l : List (Int × Int × Int)} (h : ActSt W b o q l) (hl : b < W.heap.size) (hb : Below W.heap.size W W') : ActSt W' b o q l :=
  ⟨h.act.on (hb.block b hl), h.stops.on hb, h.inl, h.sn⟩
def ActsSt (W : World) (a : Option Addr) (n : Nat) : Prop := n ≤ 4611686018427387904 ∧ (0 < n → ∃ b o, a = some ⟨b, o, none⟩ ∧ b < W.heap.size ∧ ∀ i, i < n → ∃ q l, ActSt W b (o + i * 7) q l)
end Go.Proofs.YtgadmfbilmlnkaaDoor
