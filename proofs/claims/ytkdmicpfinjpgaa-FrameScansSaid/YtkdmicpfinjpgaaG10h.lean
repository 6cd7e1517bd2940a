/- frame: what FrameScans hands to the scan. -/
import Derived.Test.YtkdmicpfinjpgaaG10e
import Derived.Deep.RegionHeld3
namespace Go.Proofs.Ytkdmicpfinjpgaa
open Go.RowKit

/-- What lies in memory when FrameScans goes through a text: written in w0, read ever after. -/
structure Fw (bits bi bj bw bp bx bm gi cnt cap i j : Nat) (Q : Nat → Addr) (ss : Nat → ByteArray) (vW vP vX vM : Value) (w0 : World) : Prop where
  its : w0.cell? ⟨bits, 0, none⟩ = some (.slice (some ⟨gi, 0, none⟩) cnt cap)
  hi : w0.cell? ⟨bi, 0, none⟩ = some (.int .i64 (i : Int))
  hj : w0.cell? ⟨bj, 0, none⟩ = some (.int .i64 (j : Int))
  hw : w0.cell? ⟨bw, 0, none⟩ = some vW
  hp : w0.cell? ⟨bp, 0, none⟩ = some vP
  hx : w0.cell? ⟨bx, 0, none⟩ = some vX
  hm : w0.cell? ⟨bm, 0, none⟩ = some vM
  fs : ∀ t, t < cnt → w0.cell? ⟨gi, t, none⟩ = some (.func (.func 25) #[] #[.pointer (some (Q t))])
  qs : ∀ t, t < cnt → w0.cell? (Q t) = some (.string (ss t))
  bl : bits < w0.heap.size ∧ bi < w0.heap.size ∧ bj < w0.heap.size ∧ bw < w0.heap.size ∧ bp < w0.heap.size ∧ bx < w0.heap.size ∧ bm < w0.heap.size ∧ gi < w0.heap.size ∧ ∀ t, t < cnt → (Q t).block < w0.heap.size
  sW : Wp vW vP (scan (L (ss i)) 0 0) w0
  sX : Wp vX vM (scan (L (ss j)) 0 0) w0
theorem Fw.on {bits bi bj bw bp bx bm gi cnt cap i j : Nat} {Q : Nat → Addr} {ss : Nat → ByteArray} {vW vP vX vM : Value} {w0 w1 : World} (h : Fw bits bi bj bw bp bx bm gi cnt cap i j Q ss vW vP vX vM w0) (hb : Below w0.heap.size w0 w1) : Fw bits bi bj bw bp bx bm gi cnt cap i j Q ss vW vP vX vM w1 := by
  obtain ⟨b1, b2, b3, b4, b5, b6, b7, b8, b9⟩ := h.bl
  have hs := hb.size
  exact ⟨(hb.cell (p := ⟨bits, 0, none⟩) b1).trans h.its, (hb.cell (p := ⟨bi, 0, none⟩) b2).trans h.hi, (hb.cell (p := ⟨bj, 0, none⟩) b3).trans h.hj, (hb.cell (p := ⟨bw, 0, none⟩) b4).trans h.hw, (hb.cell (p := ⟨bp, 0, none⟩) b5).trans h.hp, (hb.cell (p := ⟨bx, 0, none⟩) b6).trans h.hx, (hb.cell (p := ⟨bm, 0, none⟩) b7).trans h.hm,
    fun t ht => (hb.cell (p := ⟨gi, t, none⟩) b8).trans (h.fs t ht), fun t ht => (hb.cell (b9 t ht)).trans (h.qs t ht), ⟨by omega, by omega, by omega, by omega, by omega, by omega, by omega, by omega, fun t ht => by have := b9 t ht; omega⟩, h.sW.on hb, h.sX.on hb⟩
/-- The count and the flag, in blocks N and N + 1. -/
structure Ls (N k : Nat) (W : World) : Prop where
  c0 : W.cell? ⟨N, 0, none⟩ = some (.int .i64 (k : Int))
  c1 : W.cell? ⟨N + 1, 0, none⟩ = some (.bool true)
  f0 : W.frozen? ⟨N, 0, none⟩ = false
  f1 : W.frozen? ⟨N + 1, 0, none⟩ = false
/-- All but the blocks N and N + 1 is as it was. -/
structure Kp (w0 Z : World) (N : Nat) (X : World) : Prop where
  low : Below N w0 X
  size : Z.heap.size ≤ X.heap.size
  high : ∀ b, N + 2 ≤ b → b < Z.heap.size → X.heap[b]? = Z.heap[b]?
theorem Kp.on {w0 Z : World} {N : Nat} {X Y : World} (h : Kp w0 Z N X) (hN : N ≤ Z.heap.size) (hb : Below X.heap.size X Y) : Kp w0 Z N Y :=
  ⟨h.low.trans (hb.mono (Nat.le_trans hN h.size)), Nat.le_trans h.size hb.size, fun b h1 h2 => (hb.block b (Nat.lt_of_lt_of_le h2 h.size)).trans (h.high b h1 h2)⟩
theorem Kp.set {w0 Z : World} {N : Nat} {X : World} (h : Kp w0 Z N X) (p : Nat) (hp : p = N ∨ p = N + 1) (u : Value) : Kp w0 Z N (X.setCell ⟨p, 0, none⟩ u) :=
  ⟨h.low.setCell (p := ⟨p, 0, none⟩) (by show N ≤ p; omega) u, by have := h.size; simpa using this, fun b h1 h2 => by rw [heap_setCell_other _ _ _ _ (by show b ≠ p; omega)]; exact h.high b h1 h2⟩
theorem Kp.trans {w0 W Z : World} {N : Nat} {X : World} (h : Kp w0 W N Z) (k : Kp w0 Z N X) : Kp w0 W N X :=
  ⟨k.low, Nat.le_trans h.size k.size, fun b h1 h2 => (k.high b h1 (Nat.lt_of_lt_of_le h2 h.size)).trans (h.high b h1 h2)⟩
/-- What the region of the two calls needs. -/
structure RF (bits bi bj bw bp bx bm gi cnt cap i j N k : Nat) (Q : Nat → Addr) (vW vP vX vM : Value) (w0 Z : World) : Prop where
  g1 : ∀ X st, (X.cell? ⟨bits, 0, none⟩ = some (.slice (some ⟨gi, 0, none⟩) cnt cap) ∧ X.cell? ⟨bi, 0, none⟩ = some (.int .i64 (i : Int)) ∧ X.cell? ⟨bj, 0, none⟩ = some (.int .i64 (j : Int)) ∧ X.cell? ⟨bw, 0, none⟩ = some vW ∧ X.cell? ⟨bp, 0, none⟩ = some vP ∧ X.cell? ⟨bx, 0, none⟩ = some vX ∧ X.cell? ⟨bm, 0, none⟩ = some vM ∧ X.cell? ⟨gi, i, none⟩ = some (.func (.func 25) #[] #[.pointer (some (Q i))]) ∧ X.cell? ⟨gi, j, none⟩ = some (.func (.func 25) #[] #[.pointer (some (Q j))]) ∧ X.cell? ⟨N, 0, none⟩ = some (.int .i64 (k : Int)) ∧ X.cell? ⟨N + 1, 0, none⟩ = some (.bool true) ∧ X.frozen? ⟨N, 0, none⟩ = false ∧ X.frozen? ⟨N + 1, 0, none⟩ = false ∧ Kp w0 Z N X) → Calls Try.prog 15 #[.func (.func 25) #[] #[.pointer (some (Q i))], vW, vP, .int .i64 st] X fun e w' => e = .returned (.bool true) ∧ (w'.cell? ⟨bits, 0, none⟩ = some (.slice (some ⟨gi, 0, none⟩) cnt cap) ∧ w'.cell? ⟨bi, 0, none⟩ = some (.int .i64 (i : Int)) ∧ w'.cell? ⟨bj, 0, none⟩ = some (.int .i64 (j : Int)) ∧ w'.cell? ⟨bw, 0, none⟩ = some vW ∧ w'.cell? ⟨bp, 0, none⟩ = some vP ∧ w'.cell? ⟨bx, 0, none⟩ = some vX ∧ w'.cell? ⟨bm, 0, none⟩ = some vM ∧ w'.cell? ⟨gi, i, none⟩ = some (.func (.func 25) #[] #[.pointer (some (Q i))]) ∧ w'.cell? ⟨gi, j, none⟩ = some (.func (.func 25) #[] #[.pointer (some (Q j))]) ∧ w'.cell? ⟨N, 0, none⟩ = some (.int .i64 (k : Int)) ∧ w'.cell? ⟨N + 1, 0, none⟩ = some (.bool true) ∧ w'.frozen? ⟨N, 0, none⟩ = false ∧ w'.frozen? ⟨N + 1, 0, none⟩ = false ∧ Kp w0 Z N w')
  g2 : ∀ X st, (X.cell? ⟨bits, 0, none⟩ = some (.slice (some ⟨gi, 0, none⟩) cnt cap) ∧ X.cell? ⟨bi, 0, none⟩ = some (.int .i64 (i : Int)) ∧ X.cell? ⟨bj, 0, none⟩ = some (.int .i64 (j : Int)) ∧ X.cell? ⟨bw, 0, none⟩ = some vW ∧ X.cell? ⟨bp, 0, none⟩ = some vP ∧ X.cell? ⟨bx, 0, none⟩ = some vX ∧ X.cell? ⟨bm, 0, none⟩ = some vM ∧ X.cell? ⟨gi, i, none⟩ = some (.func (.func 25) #[] #[.pointer (some (Q i))]) ∧ X.cell? ⟨gi, j, none⟩ = some (.func (.func 25) #[] #[.pointer (some (Q j))]) ∧ X.cell? ⟨N, 0, none⟩ = some (.int .i64 (k : Int)) ∧ X.cell? ⟨N + 1, 0, none⟩ = some (.bool true) ∧ X.frozen? ⟨N, 0, none⟩ = false ∧ X.frozen? ⟨N + 1, 0, none⟩ = false ∧ Kp w0 Z N X) → Calls Try.prog 15 #[.func (.func 25) #[] #[.pointer (some (Q j))], vX, vM, .int .i64 st] X fun e w' => e = .returned (.bool true) ∧ (w'.cell? ⟨bits, 0, none⟩ = some (.slice (some ⟨gi, 0, none⟩) cnt cap) ∧ w'.cell? ⟨bi, 0, none⟩ = some (.int .i64 (i : Int)) ∧ w'.cell? ⟨bj, 0, none⟩ = some (.int .i64 (j : Int)) ∧ w'.cell? ⟨bw, 0, none⟩ = some vW ∧ w'.cell? ⟨bp, 0, none⟩ = some vP ∧ w'.cell? ⟨bx, 0, none⟩ = some vX ∧ w'.cell? ⟨bm, 0, none⟩ = some vM ∧ w'.cell? ⟨gi, i, none⟩ = some (.func (.func 25) #[] #[.pointer (some (Q i))]) ∧ w'.cell? ⟨gi, j, none⟩ = some (.func (.func 25) #[] #[.pointer (some (Q j))]) ∧ w'.cell? ⟨N, 0, none⟩ = some (.int .i64 (k : Int)) ∧ w'.cell? ⟨N + 1, 0, none⟩ = some (.bool true) ∧ w'.frozen? ⟨N, 0, none⟩ = false ∧ w'.frozen? ⟨N + 1, 0, none⟩ = false ∧ Kp w0 Z N w')
  st : ∀ X, (X.cell? ⟨bits, 0, none⟩ = some (.slice (some ⟨gi, 0, none⟩) cnt cap) ∧ X.cell? ⟨bi, 0, none⟩ = some (.int .i64 (i : Int)) ∧ X.cell? ⟨bj, 0, none⟩ = some (.int .i64 (j : Int)) ∧ X.cell? ⟨bw, 0, none⟩ = some vW ∧ X.cell? ⟨bp, 0, none⟩ = some vP ∧ X.cell? ⟨bx, 0, none⟩ = some vX ∧ X.cell? ⟨bm, 0, none⟩ = some vM ∧ X.cell? ⟨gi, i, none⟩ = some (.func (.func 25) #[] #[.pointer (some (Q i))]) ∧ X.cell? ⟨gi, j, none⟩ = some (.func (.func 25) #[] #[.pointer (some (Q j))]) ∧ X.cell? ⟨N, 0, none⟩ = some (.int .i64 (k : Int)) ∧ X.cell? ⟨N + 1, 0, none⟩ = some (.bool true) ∧ X.frozen? ⟨N, 0, none⟩ = false ∧ X.frozen? ⟨N + 1, 0, none⟩ = false ∧ Kp w0 Z N X) → ((X.setCell ⟨N + 1, 0, none⟩ (.bool true)).cell? ⟨bits, 0, none⟩ = some (.slice (some ⟨gi, 0, none⟩) cnt cap) ∧ (X.setCell ⟨N + 1, 0, none⟩ (.bool true)).cell? ⟨bi, 0, none⟩ = some (.int .i64 (i : Int)) ∧ (X.setCell ⟨N + 1, 0, none⟩ (.bool true)).cell? ⟨bj, 0, none⟩ = some (.int .i64 (j : Int)) ∧ (X.setCell ⟨N + 1, 0, none⟩ (.bool true)).cell? ⟨bw, 0, none⟩ = some vW ∧ (X.setCell ⟨N + 1, 0, none⟩ (.bool true)).cell? ⟨bp, 0, none⟩ = some vP ∧ (X.setCell ⟨N + 1, 0, none⟩ (.bool true)).cell? ⟨bx, 0, none⟩ = some vX ∧ (X.setCell ⟨N + 1, 0, none⟩ (.bool true)).cell? ⟨bm, 0, none⟩ = some vM ∧ (X.setCell ⟨N + 1, 0, none⟩ (.bool true)).cell? ⟨gi, i, none⟩ = some (.func (.func 25) #[] #[.pointer (some (Q i))]) ∧ (X.setCell ⟨N + 1, 0, none⟩ (.bool true)).cell? ⟨gi, j, none⟩ = some (.func (.func 25) #[] #[.pointer (some (Q j))]) ∧ (X.setCell ⟨N + 1, 0, none⟩ (.bool true)).cell? ⟨N, 0, none⟩ = some (.int .i64 (k : Int)) ∧ (X.setCell ⟨N + 1, 0, none⟩ (.bool true)).cell? ⟨N + 1, 0, none⟩ = some (.bool true) ∧ (X.setCell ⟨N + 1, 0, none⟩ (.bool true)).frozen? ⟨N, 0, none⟩ = false ∧ (X.setCell ⟨N + 1, 0, none⟩ (.bool true)).frozen? ⟨N + 1, 0, none⟩ = false ∧ Kp w0 Z N (X.setCell ⟨N + 1, 0, none⟩ (.bool true)))
  sd : (Z.drew.cell? ⟨bits, 0, none⟩ = some (.slice (some ⟨gi, 0, none⟩) cnt cap) ∧ Z.drew.cell? ⟨bi, 0, none⟩ = some (.int .i64 (i : Int)) ∧ Z.drew.cell? ⟨bj, 0, none⟩ = some (.int .i64 (j : Int)) ∧ Z.drew.cell? ⟨bw, 0, none⟩ = some vW ∧ Z.drew.cell? ⟨bp, 0, none⟩ = some vP ∧ Z.drew.cell? ⟨bx, 0, none⟩ = some vX ∧ Z.drew.cell? ⟨bm, 0, none⟩ = some vM ∧ Z.drew.cell? ⟨gi, i, none⟩ = some (.func (.func 25) #[] #[.pointer (some (Q i))]) ∧ Z.drew.cell? ⟨gi, j, none⟩ = some (.func (.func 25) #[] #[.pointer (some (Q j))]) ∧ Z.drew.cell? ⟨N, 0, none⟩ = some (.int .i64 (k : Int)) ∧ Z.drew.cell? ⟨N + 1, 0, none⟩ = some (.bool true) ∧ Z.drew.frozen? ⟨N, 0, none⟩ = false ∧ Z.drew.frozen? ⟨N + 1, 0, none⟩ = false ∧ Kp w0 Z N Z.drew)
theorem RF.mk' {bits bi bj bw bp bx bm gi cnt cap i j : Nat} {Q : Nat → Addr} {ss : Nat → ByteArray} {vW vP vX vM : Value} {N k : Nat} {w0 Z : World} (h : Fw bits bi bj bw bp bx bm gi cnt cap i j Q ss vW vP vX vM w0) (hN : N = w0.heap.size) (hI : i < cnt) (hJ : j < cnt) (hz : ∀ t, t < cnt → (ss t).size ≤ 1099511627776) (hk : Kp w0 Z N Z) (hL : Ls N k Z) (hl : N + 2 ≤ Z.heap.size) :
    RF bits bi bj bw bp bx bm gi cnt cap i j N k Q vW vP vX vM w0 Z := by
  have mk : ∀ X, Kp w0 Z N X → Ls N k X → (X.cell? ⟨bits, 0, none⟩ = some (.slice (some ⟨gi, 0, none⟩) cnt cap) ∧ X.cell? ⟨bi, 0, none⟩ = some (.int .i64 (i : Int)) ∧ X.cell? ⟨bj, 0, none⟩ = some (.int .i64 (j : Int)) ∧ X.cell? ⟨bw, 0, none⟩ = some vW ∧ X.cell? ⟨bp, 0, none⟩ = some vP ∧ X.cell? ⟨bx, 0, none⟩ = some vX ∧ X.cell? ⟨bm, 0, none⟩ = some vM ∧ X.cell? ⟨gi, i, none⟩ = some (.func (.func 25) #[] #[.pointer (some (Q i))]) ∧ X.cell? ⟨gi, j, none⟩ = some (.func (.func 25) #[] #[.pointer (some (Q j))]) ∧ X.cell? ⟨N, 0, none⟩ = some (.int .i64 (k : Int)) ∧ X.cell? ⟨N + 1, 0, none⟩ = some (.bool true) ∧ X.frozen? ⟨N, 0, none⟩ = false ∧ X.frozen? ⟨N + 1, 0, none⟩ = false ∧ Kp w0 Z N X) := by
    intro X h1 h2
    have hX := h.on (hN ▸ h1.low)
    exact ⟨hX.its, hX.hi, hX.hj, hX.hw, hX.hp, hX.hx, hX.hm, hX.fs i hI, hX.fs j hJ, h2.c0, h2.c1, h2.f0, h2.f1, h1⟩
  have un : ∀ X, (X.cell? ⟨bits, 0, none⟩ = some (.slice (some ⟨gi, 0, none⟩) cnt cap) ∧ X.cell? ⟨bi, 0, none⟩ = some (.int .i64 (i : Int)) ∧ X.cell? ⟨bj, 0, none⟩ = some (.int .i64 (j : Int)) ∧ X.cell? ⟨bw, 0, none⟩ = some vW ∧ X.cell? ⟨bp, 0, none⟩ = some vP ∧ X.cell? ⟨bx, 0, none⟩ = some vX ∧ X.cell? ⟨bm, 0, none⟩ = some vM ∧ X.cell? ⟨gi, i, none⟩ = some (.func (.func 25) #[] #[.pointer (some (Q i))]) ∧ X.cell? ⟨gi, j, none⟩ = some (.func (.func 25) #[] #[.pointer (some (Q j))]) ∧ X.cell? ⟨N, 0, none⟩ = some (.int .i64 (k : Int)) ∧ X.cell? ⟨N + 1, 0, none⟩ = some (.bool true) ∧ X.frozen? ⟨N, 0, none⟩ = false ∧ X.frozen? ⟨N + 1, 0, none⟩ = false ∧ Kp w0 Z N X) → Kp w0 Z N X ∧ Ls N k X := by
    rintro X ⟨_, _, _, _, _, _, _, _, _, x1, x2, x3, x4, x5⟩
    exact ⟨x5, x1, x2, x3, x4⟩
  have nx : ∀ X Y, (X.cell? ⟨bits, 0, none⟩ = some (.slice (some ⟨gi, 0, none⟩) cnt cap) ∧ X.cell? ⟨bi, 0, none⟩ = some (.int .i64 (i : Int)) ∧ X.cell? ⟨bj, 0, none⟩ = some (.int .i64 (j : Int)) ∧ X.cell? ⟨bw, 0, none⟩ = some vW ∧ X.cell? ⟨bp, 0, none⟩ = some vP ∧ X.cell? ⟨bx, 0, none⟩ = some vX ∧ X.cell? ⟨bm, 0, none⟩ = some vM ∧ X.cell? ⟨gi, i, none⟩ = some (.func (.func 25) #[] #[.pointer (some (Q i))]) ∧ X.cell? ⟨gi, j, none⟩ = some (.func (.func 25) #[] #[.pointer (some (Q j))]) ∧ X.cell? ⟨N, 0, none⟩ = some (.int .i64 (k : Int)) ∧ X.cell? ⟨N + 1, 0, none⟩ = some (.bool true) ∧ X.frozen? ⟨N, 0, none⟩ = false ∧ X.frozen? ⟨N + 1, 0, none⟩ = false ∧ Kp w0 Z N X) → Below X.heap.size X Y → (Y.cell? ⟨bits, 0, none⟩ = some (.slice (some ⟨gi, 0, none⟩) cnt cap) ∧ Y.cell? ⟨bi, 0, none⟩ = some (.int .i64 (i : Int)) ∧ Y.cell? ⟨bj, 0, none⟩ = some (.int .i64 (j : Int)) ∧ Y.cell? ⟨bw, 0, none⟩ = some vW ∧ Y.cell? ⟨bp, 0, none⟩ = some vP ∧ Y.cell? ⟨bx, 0, none⟩ = some vX ∧ Y.cell? ⟨bm, 0, none⟩ = some vM ∧ Y.cell? ⟨gi, i, none⟩ = some (.func (.func 25) #[] #[.pointer (some (Q i))]) ∧ Y.cell? ⟨gi, j, none⟩ = some (.func (.func 25) #[] #[.pointer (some (Q j))]) ∧ Y.cell? ⟨N, 0, none⟩ = some (.int .i64 (k : Int)) ∧ Y.cell? ⟨N + 1, 0, none⟩ = some (.bool true) ∧ Y.frozen? ⟨N, 0, none⟩ = false ∧ Y.frozen? ⟨N + 1, 0, none⟩ = false ∧ Kp w0 Z N Y) := by
    intro X Y h1 hb
    obtain ⟨h2, h3⟩ := un X h1
    have l0 : N + 1 < X.heap.size := by have := h2.size; omega
    refine mk Y (h2.on (by omega) hb) ⟨?_, ?_, ?_, ?_⟩
    · rw [hb.cell (p := ⟨N, 0, none⟩) (by show N < _; omega)]; exact h3.c0
    · rw [hb.cell (p := ⟨N + 1, 0, none⟩) (by show N + 1 < _; omega)]; exact h3.c1
    · rw [hb.frozen (p := ⟨N, 0, none⟩) (by show N < _; omega)]; exact h3.f0
    · rw [hb.frozen (p := ⟨N + 1, 0, none⟩) (by show N + 1 < _; omega)]; exact h3.f1
  refine ⟨fun X st h1 => ?_, fun X st h1 => ?_, fun X h1 => ?_, ?_⟩
  · have hX := h.on (hN ▸ (un X h1).1.low)
    refine (goes_any (ss i) (Q i) vW vP st X (hz i hI) (hX.qs i hI) (hX.bl.2.2.2.2.2.2.2.2 i hI) hX.sW).mono ?_
    rintro e w' ⟨rfl, hb⟩
    exact ⟨rfl, nx X w' h1 hb⟩
  · have hX := h.on (hN ▸ (un X h1).1.low)
    refine (goes_any (ss j) (Q j) vX vM st X (hz j hJ) (hX.qs j hJ) (hX.bl.2.2.2.2.2.2.2.2 j hJ) hX.sX).mono ?_
    rintro e w' ⟨rfl, hb⟩
    exact ⟨rfl, nx X w' h1 hb⟩
  · obtain ⟨h2, h3⟩ := un X h1
    exact mk _ (h2.set (N + 1) (.inr rfl) _) ⟨by rw [World.cell?_setCell_far _ _ _ _ (by simp)]; exact h3.c0, World.cell?_setCell_same _ _ _ (u := .bool true) h3.c1, by simpa using h3.f0, by simpa using h3.f1⟩
  · exact nx Z Z.drew (mk Z hk hL) (Below.refl _ _).drew
set_option maxHeartbeats 4000000 in
theorem scans1 {bits bi bj bw bp bx bm gi cnt cap i j : Nat} {Q : Nat → Addr} {ss : Nat → ByteArray} {vW vP vX vM : Value} (N : Nat) (w0 W : World) (hN : N = w0.heap.size) (h : Fw bits bi bj bw bp bx bm gi cnt cap i j Q ss vW vP vX vM w0) (hb : Below w0.heap.size w0 W)
    (hI : i < cnt) (hJ : j < cnt) (hz : ∀ t, t < cnt → (ss t).size ≤ 1099511627776) (k : Nat) (hL : Ls N k W) (hl : N + 2 ≤ W.heap.size) (f : Fr) (hf : (scan (L (ss i)) 0 0)[k]? = some f) :
    Calls Try.prog 16 #[.int .i64 (f.ends : Nat), frV f.kind f.num f.at' (S f.body), .pointer (some ⟨N + 1, 0, none⟩), .pointer (some ⟨N, 0, none⟩), .pointer (some ⟨bw, 0, none⟩), .pointer (some ⟨bp, 0, none⟩), .pointer (some ⟨bits, 0, none⟩), .pointer (some ⟨bi, 0, none⟩), .pointer (some ⟨bj, 0, none⟩), .pointer (some ⟨bx, 0, none⟩), .pointer (some ⟨bm, 0, none⟩)] W fun e w' =>
      e = .returned (.bool true) ∧ Ls N (k + 1) w' ∧ Kp w0 W N w' := by
  have hk : k < (scan (L (ss i)) 0 0).length := (List.getElem?_eq_some_iff.1 hf).1
  have hsl := scan_len (L (ss i))
  rw [L_length] at hsl
  have hzi := hz i hI
  have hW := h.on hb
  have HFw := Lib.hid h
  have HBw := Lib.hid hb
  have HN := Lib.hid hN
  have HZ := Lib.hid hz
  obtain ⟨ao, c, bo, d, rfl, rfl, hlay⟩ := hW.sW
  obtain ⟨ax, cx, ay, dx, rfl, rfl, _⟩ := hW.sX
  generalize (scan (L (ss j)) 0 0).length = Mx at *
  obtain ⟨g, h', ha, hbo, hL2⟩ := hlay (by intro e; rw [e] at hk; simp at hk)
  subst ha hbo
  obtain ⟨l0, l1, l2, l3⟩ := hL2.fr k f hf
  have l4 : W.cell? ⟨h', k, none⟩ = some (.int .i64 (f.ends : Nat)) := hL2.nu k _ (by simp [hf])
  have hgl := hL2.lt1
  have hhl := hL2.lt2
  have hw1 := hW.hw
  have hp1 := hW.hp
  obtain ⟨_, _, _, bl4, bl5, _⟩ := hW.bl
  unfold frV
  obtain ⟨M, hM⟩ : ∃ M, M = (scan (L (ss i)) 0 0).length := ⟨_, rfl⟩
  rw [← hM] at hk hsl hw1 hp1
  have hki : (k : Int) < (M : Int) := by omega
  have hk0 : (0 : Int) ≤ (k : Int) := by omega
  have hkn : ((k : Int)).toNat = k := by omega
  have hEq := Try.eqlFrame
  obtain ⟨k1, hk1⟩ : ∃ k1, k1 = k + 1 := ⟨_, rfl⟩
  have hkw : IntKind.i64.wrap ((k : Int) + 1) = (k1 : Int) := by rw [IntKind.wrap_i64]; omega
  rw [← hk1]
  have HK1 := Lib.hid hk1
  have HK := Lib.hid hk
  have HM := Lib.hid hM
  rw [← hM] at HFw
  clear hlay hL2 hW h hb hN hz hf hsl hzi hk hk1 hM
  go_enter Try.func16, Try.ntmps16
  go_wp2_with fail
  have hb : Below W.heap.size W (W.alloc (.cells #[.int .i64 (f.kind : Int), .int .i64 (f.num : Int), .int .i64 (f.at' : Int), .string (S f.body)] 47)) := (Below.refl _ _).alloc (Nat.le_refl _) _
  have hfr : (W.alloc (.cells #[.int .i64 (f.kind : Int), .int .i64 (f.num : Int), .int .i64 (f.at' : Int), .string (S f.body)] 47)).heap[W.heap.size]? = some (.cells #[.int .i64 (f.kind : Int), .int .i64 (f.num : Int), .int .i64 (f.at' : Int), .string (S f.body)] 47) := heap_alloc_last W _
  rw [← hb.cell (p := ⟨g, k * 4, none⟩) hgl] at l0
  rw [← hb.cell (p := ⟨g, k * 4 + 1, none⟩) hgl] at l1
  rw [← hb.cell (p := ⟨g, k * 4 + 2, none⟩) hgl] at l2
  rw [← hb.cell (p := ⟨g, k * 4 + 3, none⟩) hgl] at l3
  rw [← hb.cell (p := ⟨h', k, none⟩) hhl] at l4
  rw [← hb.cell (p := ⟨bw, 0, none⟩) bl4] at hw1
  rw [← hb.cell (p := ⟨bp, 0, none⟩) bl5] at hp1
  have hLY : Ls N k (W.alloc (.cells #[.int .i64 (f.kind : Int), .int .i64 (f.num : Int), .int .i64 (f.at' : Int), .string (S f.body)] 47)) := ⟨by rw [hb.cell (p := ⟨N, 0, none⟩) (by show N < _; omega)]; exact hL.c0, by rw [hb.cell (p := ⟨N + 1, 0, none⟩) (by show N + 1 < _; omega)]; exact hL.c1, by rw [hb.frozen (p := ⟨N, 0, none⟩) (by show N < _; omega)]; exact hL.f0, by rw [hb.frozen (p := ⟨N + 1, 0, none⟩) (by show N + 1 < _; omega)]; exact hL.f1⟩
  have hKW : Kp w0 W N W := ⟨by rw [HN.out]; exact HBw.out, Nat.le_refl _, fun _ _ _ => rfl⟩
  have hKY : Kp w0 W N (W.alloc (.cells #[.int .i64 (f.kind : Int), .int .i64 (f.num : Int), .int .i64 (f.at' : Int), .string (S f.body)] 47)) := hKW.on (by omega) hb
  generalize W.alloc (.cells #[.int .i64 (f.kind : Int), .int .i64 (f.num : Int), .int .i64 (f.at' : Int), .string (S f.body)] 47) = Y at *
  have e0 : Y.cell? ⟨W.heap.size, 0, none⟩ = some (.int .i64 (f.kind : Int)) := cell_of_row _ _ 0 _ _ _ hfr
  have e1 : Y.cell? ⟨W.heap.size, 1, none⟩ = some (.int .i64 (f.num : Int)) := cell_of_row _ _ 1 _ _ _ hfr
  have e2 : Y.cell? ⟨W.heap.size, 2, none⟩ = some (.int .i64 (f.at' : Int)) := cell_of_row _ _ 2 _ _ _ hfr
  have e3 : Y.cell? ⟨W.heap.size, 3, none⟩ = some (.string (S f.body)) := cell_of_row _ _ 3 _ _ _ hfr
  have HLY := Lib.hid hLY
  have HKY := Lib.hid hKY
  have HLW := Lib.hid hl
  obtain ⟨c0, c1, f0, f1⟩ := hLY
  clear hfr hb hKW hKY hL hgl hhl bl4 bl5 hl
  go_region
  simp only [Exit.then]
  clear e0 e1 e2 e3 l0 l1 l2 l3 l4 hEq hki hk0 hkn
  have hLZ : Ls N k (Y.setCell ⟨N + 1, 0, none⟩ (.bool true)).drew := ⟨by show (Y.setCell ⟨N + 1, 0, none⟩ (.bool true)).cell? _ = _; rw [World.cell?_setCell_far _ _ _ _ (by simp)]; exact c0, World.cell?_setCell_same _ _ _ (u := .bool true) c1, by show (Y.setCell ⟨N + 1, 0, none⟩ (.bool true)).frozen? _ = _; simpa using f0, by show (Y.setCell ⟨N + 1, 0, none⟩ (.bool true)).frozen? _ = _; simpa using f1⟩
  have hKZ : Kp w0 W N (Y.setCell ⟨N + 1, 0, none⟩ (.bool true)).drew := (HKY.out.set (N + 1) (.inr rfl) _).on (by have := HLW.out; omega) (Below.refl _ _).drew
  clear c0 c1 f0 f1 HLY HKY hw1 hp1
  generalize (Y.setCell ⟨N + 1, 0, none⟩ (.bool true)).drew = Z at *
  obtain ⟨c0, c1, f0, f1⟩ := hLZ
  have HLZ : Hid (Ls N k Z) := Lib.hid ⟨c0, c1, f0, f1⟩
  have HKZ := Lib.hid hKZ
  clear hKZ
  have fin : ∀ X, Ls N k X → Kp w0 W N X → Ls N k1 (X.setCell ⟨N, 0, none⟩ (.int .i64 (k1 : Int))) ∧ Kp w0 W N (X.setCell ⟨N, 0, none⟩ (.int .i64 (k1 : Int))) := fun X h1 h2 =>
    ⟨⟨World.cell?_setCell_same _ _ _ (u := .int .i64 k) h1.c0, by rw [World.cell?_setCell_far _ _ _ _ (by simp)]; exact h1.c1, by simpa using h1.f0, by simpa using h1.f1⟩, h2.set N (.inl rfl) _⟩
  have FIN := Lib.hid fin
  clear fin
  by_cases hk2 : k < 2
  · have hk2i : (k : Int) < 2 := by omega
    have hRF : RF bits bi bj bw bp bx bm gi cnt cap i j N k Q (.slice (some ⟨g, 0, none⟩) M c) (.slice (some ⟨h', 0, none⟩) M d) (.slice ax Mx cx) (.slice ay Mx dx) w0 Z := RF.mk' HFw.out HN.out hI hJ HZ.out ⟨HKZ.out.low, Nat.le_refl _, fun _ _ _ => rfl⟩ HLZ.out (by have := HKZ.out.size; have := HLW.out; omega)
    have i0 : (0 : Int) ≤ (i : Int) := by omega
    have i1 : (i : Int) < (cnt : Int) := by omega
    have j0 : (0 : Int) ≤ (j : Int) := by omega
    have j1 : (j : Int) < (cnt : Int) := by omega
    go_wp2_with fail
    first | (go_region_held3 (fun X => (X.cell? ⟨bits, 0, none⟩ = some (.slice (some ⟨gi, 0, none⟩) cnt cap) ∧ X.cell? ⟨bi, 0, none⟩ = some (.int .i64 (i : Int)) ∧ X.cell? ⟨bj, 0, none⟩ = some (.int .i64 (j : Int)) ∧ X.cell? ⟨bw, 0, none⟩ = some (.slice (some ⟨g, 0, none⟩) M c) ∧ X.cell? ⟨bp, 0, none⟩ = some (.slice (some ⟨h', 0, none⟩) M d) ∧ X.cell? ⟨bx, 0, none⟩ = some (.slice ax Mx cx) ∧ X.cell? ⟨bm, 0, none⟩ = some (.slice ay Mx dx) ∧ X.cell? ⟨gi, i, none⟩ = some (.func (.func 25) #[] #[.pointer (some (Q i))]) ∧ X.cell? ⟨gi, j, none⟩ = some (.func (.func 25) #[] #[.pointer (some (Q j))]) ∧ X.cell? ⟨N, 0, none⟩ = some (.int .i64 (k : Int)) ∧ X.cell? ⟨N + 1, 0, none⟩ = some (.bool true) ∧ X.frozen? ⟨N, 0, none⟩ = false ∧ X.frozen? ⟨N + 1, 0, none⟩ = false ∧ Kp w0 Z N X)) (first | exact hRF.sd | assumption | (refine hRF.st _ ?_; assumption)) (first | (go_at_call_of 15 (Q i); refine (hRF.g1 _ _ ?_).mono ?_; assumption; rintro e w7 ⟨rfl, hs7⟩) | (go_at_call_of 15 (Q j); refine (hRF.g2 _ _ ?_).mono ?_; assumption; rintro e w8 ⟨rfl, hs8⟩))) | fail
    simp only [Exit.then]
    obtain ⟨_, _, _, _, _, _, _, _, _, x1, x2, x3, x4, x5⟩ := hRF.st w8 hs8
    have HK8 : Hid (Kp w0 W N (w8.setCell ⟨N + 1, 0, none⟩ (.bool true))) := Lib.hid (HKZ.out.trans x5)
    clear hs7 hs8 hRF x5 c0 c1 f0 f1
    generalize w8.setCell ⟨N + 1, 0, none⟩ (.bool true) = X8 at *
    have HL8 : Hid (Ls N k X8) := Lib.hid ⟨x1, x2, x3, x4⟩
    go_wp2_with fail
    go_ret
    have := FIN.out X8 HL8.out HK8.out
    exact ⟨rfl, this.1, this.2⟩
  · have hk2i : ¬ (k : Int) < 2 := by omega
    go_wp2_with fail
    go_ret
    have := FIN.out Z HLZ.out HKZ.out
    exact ⟨rfl, this.1, this.2⟩
end Go.Proofs.Ytkdmicpfinjpgaa
