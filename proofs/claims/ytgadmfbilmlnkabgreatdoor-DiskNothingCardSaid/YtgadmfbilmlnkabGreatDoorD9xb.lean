/- DiskCounts: a script in memory, the plan, the walk. -/
import Derived.Test.YtgadmfbilmlnkabGreatDoorD9xa
import Derived.Test.YtgadmfbilmlnkabGreatDoorD9ze
namespace Go.Proofs.YtgadmfbilmlnkabGreatDoor
open Go.RowKit Go.Lib

/-- One call of a script, in memory. -/
structure ActAt (W : World) (b o : Nat) (q : ActR) : Prop where
  c0 : W.cell? ⟨b, o, none⟩ = some (.int .i64 q.kind)
  c1 : W.cell? ⟨b, o + 1, none⟩ = some (.int .i64 q.on)
  c2 : W.cell? ⟨b, o + 2, none⟩ = some (.string q.name)
  c3 : W.cell? ⟨b, o + 3, none⟩ = some (.string q.dest)
  c4 : W.cell? ⟨b, o + 4, none⟩ = some (.string q.data)
  c5 : W.cell? ⟨b, o + 5, none⟩ = some (.int .i64 q.n)
  c6 : W.cell? ⟨b, o + 6, none⟩ = some (.slice q.sa q.sn q.sc)
  hname : q.name.size ≤ 140737488355328
  hdest : q.dest.size ≤ 140737488355328
/-- A script. -/
def ActsAt (W : World) (a : Option Addr) (n : Nat) : Prop := n ≤ 4611686018427387904 ∧ (0 < n → ∃ b o, a = some ⟨b, o, none⟩ ∧ b < W.heap.size ∧ ∀ i, i < n → ∃ q, ActAt W b (o + i * 7) q)
theorem ActAt.on {W W' : World} {b o : Nat} {q : ActR} (h : ActAt W b o q) (he : W'.heap[b]? = W.heap[b]?) : ActAt W' b o q := by
  have hc : ∀ j, W'.cell? ⟨b, j, none⟩ = W.cell? ⟨b, j, none⟩ := fun j => World.cell?_of_block he
  exact ⟨by rw [hc]; exact h.c0, by rw [hc]; exact h.c1, by rw [hc]; exact h.c2, by rw [hc]; exact h.c3, by rw [hc]; exact h.c4, by rw [hc]; exact h.c5, by rw [hc]; exact h.c6, h.hname, h.hdest⟩

theorem and_15 (x : Int) : ∃ o : Nat, o ≤ 15 ∧ bits .and .i64 x 15 = (o : Int) := by
  have h1 : (BitVec.ofInt 64 x &&& BitVec.ofInt 64 15).toNat = (BitVec.ofInt 64 x).toNat % 16 := by
    rw [BitVec.toNat_and]
    have : (BitVec.ofInt 64 15).toNat = 2 ^ 4 - 1 := by decide
    rw [this, Nat.and_two_pow_sub_one_eq_mod]
  refine ⟨(BitVec.ofInt 64 x).toNat % 16, by omega, ?_⟩
  show IntKind.i64.wrap ((BitVec.ofInt 64 x &&& BitVec.ofInt 64 15).toNat : Int) = _
  rw [h1]
  have : (BitVec.ofInt 64 x).toNat % 16 < 16 := Nat.mod_lt _ (by decide)
  generalize (BitVec.ofInt 64 x).toNat % 16 = r at *
  simp only [IntKind.wrap, IntKind.signed, IntKind.bits]
  simp
  omega
theorem one_16 (x : Int) : ∃ o : Nat, 1 ≤ o ∧ o ≤ 16 ∧ wrap64 (1 + bits .and .i64 x 15) = (o : Int) := by
  obtain ⟨o, ho, e⟩ := and_15 x
  refine ⟨o + 1, by omega, by omega, ?_⟩
  rw [e]
  unfold wrap64
  omega
/-- What is left of the plan behind s stops, t operations after the last of them. -/
def planL (p q s t : Nat) : List (Int × Int × Int) := if s = 0 then [((p : Int) - t, 0, 0), ((q : Int), 0, 0)] else if s = 1 then [((q : Int) - t, 0, 0)] else []
def dueL (p q s t : Nat) : Prop := (s = 0 ∧ t + 1 = p) ∨ (s = 1 ∧ t + 1 = q)
theorem in0 : inI 0 := by unfold inI; decide
theorem plan_ok (p q s t n : Nat) (hp : p ≤ 16) (hq : q ≤ 16) (ht : t ≤ 150) (r : Bool) : DS.ok ⟨5000, n, r, planL p q s t⟩ := by
  intro x hx
  have hi : ∀ a b : Nat, a ≤ 16 → b ≤ 150 → inI ((a : Int) - b) := fun a b h1 h2 => by unfold inI; omega
  have hq' : inI (q : Int) := by unfold inI; omega
  unfold planL at hx
  simp only at hx
  split at hx
  · simp at hx
    rcases hx with rfl | rfl
    · exact ⟨hi p t hp ht, in0, in0⟩
    · exact ⟨hq', in0, in0⟩
  · split at hx
    · simp at hx
      subst hx
      exact ⟨hi q t hq ht, in0, in0⟩
    · cases hx
theorem plan_quiet (p q s t n : Nat) (h0 : s = 0 → t < p) (h1 : s = 1 → t < q) (hd : ¬ dueL p q s t) (code : Int) :
    DS.next ⟨5000, n, true, planL p q s t⟩ = ⟨5000, n + 1, true, planL p q s (t + 1)⟩ ∧ errC ⟨5000, n, true, planL p q s t⟩ code = code := by
  unfold dueL at hd
  by_cases e0 : s = 0
  · subst e0
    have : (1 : Int) < (p : Int) - t := by have := h0 rfl; omega
    have e2 : (p : Int) - t - 1 = (p : Int) - ((t + 1 : Nat) : Int) := by omega
    constructor
    · simp [DS.next, DS.due, DS.tick, DS.step, planL, this, e2]
    · simp [errC, DS.due, planL, this]
  · by_cases e1 : s = 1
    · subst e1
      have : (1 : Int) < (q : Int) - t := by have := h1 rfl; omega
      have e2 : (q : Int) - t - 1 = (q : Int) - ((t + 1 : Nat) : Int) := by omega
      constructor
      · simp [DS.next, DS.due, DS.tick, DS.step, planL, this, e2]
      · simp [errC, DS.due, planL, this]
    · constructor
      · simp [DS.next, DS.due, DS.tick, DS.step, planL, e0, e1]
      · simp [errC, DS.due, planL, e0, e1]
theorem plan_due (p q s t n : Nat) (hd : dueL p q s t) (code : Int) :
    DS.next ⟨5000, n, true, planL p q s t⟩ = ⟨5000, n + 1, false, planL p q (s + 1) 0⟩ ∧ errC ⟨5000, n, true, planL p q s t⟩ code = 93 := by
  have hx : ¬ (1 : Int) < (t : Int) + 1 - t := by omega
  rcases hd with ⟨rfl, rfl⟩ | ⟨rfl, rfl⟩
  · constructor
    · simp [DS.next, DS.due, DS.tick, DS.step, planL, hx]
    · simp [errC, DS.due, planL, hx]
  · constructor
    · simp [DS.next, DS.due, DS.tick, DS.step, planL, hx]
    · simp [errC, DS.due, planL, hx]
theorem at_apart {A : Whys} {B : Nat} {w : World} (h : Env A B w) {code : Int} (hc : code ≠ 93) : A.at code ≠ A.at 93 := by
  have ha := h.apart
  simp only [List.nodup_cons, List.mem_cons, List.not_mem_nil, or_false, not_or] at ha
  obtain ⟨⟨_, _, nd, _⟩, ⟨_, md, _⟩, ⟨qd, _⟩, dr, _⟩ := ha
  have e93 : A.at 93 = A.d := rfl
  rw [e93]
  unfold Whys.at
  split
  · exact nd
  split
  · exact md
  split
  · exact qd
  exact fun e => dr e.symm
/-- errors.Is of what an operation answered. -/
theorem isK {A : Whys} {w0 w : World} {d : Nat} {S : DS} {P : List PF} {K K' : List (Nat × Obj)} {op nm : ByteArray} {step code : Int} {r : Value} (h : Dk A w0 d S P K' w) (hE : ErrK A op nm step code r K K') (hv : Bool) (hb : hv = decide (code = 93)) :
    Calls Tryz.prog 13 #[r, whyV (A.at 93)] w fun e w' => e = .returned (.bool hv) ∧ w' = w := by
  subst hb
  rcases hE with ⟨rfl, rfl, rfl⟩ | ⟨hc, p, rfl, rfl⟩
  · exact is_nil _ _
  · have h1 := IsD h (List.mem_cons_self) 93
    have e : decide (A.at code = A.at 93) = decide (code = 93) := by
      by_cases hcc : code = 93
      · subst hcc; simp
      · rw [decide_eq_false (at_apart h.env hcc), decide_eq_false hcc]
    rw [e] at h1
    exact h1
end Go.Proofs.YtgadmfbilmlnkabGreatDoor
