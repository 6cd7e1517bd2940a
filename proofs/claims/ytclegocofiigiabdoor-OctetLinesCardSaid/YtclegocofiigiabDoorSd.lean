/- The statement OctetLines: its own yield. -/
import Derived.Test.YtclegocofiigiabDoorSc
import Derived.Deep.RegionWith
namespace Go.Proofs.YtclegocofiigiabDoor
open Go.RowKit Go.Shelf

set_option maxHeartbeats 400000 in
theorem linesH (s : ByteArray) (q p1 p2 p3 p4 p5 p6 p7 : Addr) (w : World) (hs : s.size ≤ 1000000) (I : List UInt8 → World → Prop) (J : World → Prop)
    (hmost : ∀ r w, I r w → ∃ m, w.cell? ⟨2, 0, none⟩ = some (.int .i64 m)) (hdraw : ∀ r w n, I r w → I r (w.drewN n))
    (hstep : ∀ r w, r ≠ [] → r.length ≤ 1000000 → I r w → Calls Tryd.prog 14 #[.string (S (Lib.cut r [13, 10]).1), .pointer (some p1), .pointer (some p2), .pointer (some p3), .pointer (some p4), .pointer (some p5), .pointer (some p6), .pointer (some p7)] w fun e w' => ∃ b, e = .returned (.bool b) ∧ (b = true → I (Lib.cut r [13, 10]).2.1 w') ∧ (b = false → J w'))
    (hq : w.cell? q = some (.string s)) (hI : I (L s) w) :
    Calls Tryd.prog 31 #[.func (.func 14) #[] #[.pointer (some p1), .pointer (some p2), .pointer (some p3), .pointer (some p4), .pointer (some p5), .pointer (some p6), .pointer (some p7)], .pointer (some q)] w fun e w' => e = .returned (.tuple #[]) ∧ (I [] w' ∨ J w') := by
  go_enter Tryd.func31, Tryd.ntmps31
  go_wp2
  go_loopw [3] (fun v wr => ∃ r, v = .string (S r) ∧ r.length ≤ s.size ∧ I r wr) (fun v _ => match v with | .string b => b.size | _ => 0)
  case atStart => exact ⟨L s, rfl, Nat.le_refl _, hI⟩
  case round =>
    obtain ⟨r, rfl, hr, hIr⟩ := hrel
    by_cases h0 : r = []
    · subst h0
      have he : (S ([] : List UInt8)).toList.isEmpty = true := by rw [toList_L]; rfl
      go_wp2
      go_end0
      exact ⟨rfl, .inl hIr⟩
    · have he : (S r).toList.isEmpty = false := by
        rw [toList_L, L_S]; cases r with
        | nil => exact absurd rfl h0
        | cons a b => rfl
      obtain ⟨m, hm⟩ := hmost r _ hIr
      have hlt := cut_less r h0
      have HS := Lib.hid (hstep r)
      have hle := cut_le r [13, 10]
      have HI := Lib.hid hIr
      clear hIr hstep hI
      go_wp2_with fail
      refine (Tryd.strings_Cut (S r) ⟨#[13, 10]⟩ m _ (by rw [S_size]; omega) hm).mono ?_
      rintro e w1 ⟨rfl, n, rfl⟩
      go_wp2_with fail
      refine (HS.out _ h0 (by omega) (hdraw r _ n HI.out)).mono ?_
      rintro e w2 ⟨b, rfl, hb1, hb2⟩
      cases b with
      | true =>
        have HB := Lib.hid (hb1 rfl)
        clear hb1 hb2
        go_wp2_with fail
        go_roundw
        case rel => exact ⟨(Lib.cut r [13, 10]).2.1, rfl, by omega, HB.out⟩
        case measure => exact hlt
      | false =>
        have HB := Lib.hid (hb2 rfl)
        clear hb1 hb2
        go_wp2_with fail
        first | go_end0 | (simp only [Exit.inBlock, Exit.then]; refine bodyPost_ret (results_none rfl _ _ _) rfl ?_) | refine bodyPost_ret (results_none rfl _ _ _) rfl ?_
        exact ⟨rfl, .inr HB.out⟩

/-- What lies in memory when the statement goes through a text: written in w0, read ever after. -/
structure LW (bits bi bj bw bx gi cnt cap i j : Nat) (Q : Nat → Addr) (ss : Nat → ByteArray) (vW vX : Value) (w0 : World) : Prop where
  its : w0.cell? ⟨bits, 0, none⟩ = some (.slice (some ⟨gi, 0, none⟩) cnt cap)
  hi : w0.cell? ⟨bi, 0, none⟩ = some (.int .i64 i)
  hj : w0.cell? ⟨bj, 0, none⟩ = some (.int .i64 j)
  hw : w0.cell? ⟨bw, 0, none⟩ = some vW
  hx : w0.cell? ⟨bx, 0, none⟩ = some vX
  fs : ∀ t, t < cnt → w0.cell? ⟨gi, t, none⟩ = some (.func (.func 31) #[] #[.pointer (some (Q t))])
  qs : ∀ t, t < cnt → w0.cell? (Q t) = some (.string (ss t))
  bl : bits < w0.heap.size ∧ bi < w0.heap.size ∧ bj < w0.heap.size ∧ bw < w0.heap.size ∧ bx < w0.heap.size ∧ gi < w0.heap.size ∧ ∀ t, t < cnt → (Q t).block < w0.heap.size
  sW : Strs w0 vW ((lns (L (ss i))).map S)
  sX : Strs w0 vX ((lns (L (ss j))).map S)
theorem LW.on {bits bi bj bw bx gi cnt cap i j : Nat} {Q : Nat → Addr} {ss : Nat → ByteArray} {vW vX : Value} {w0 w1 : World} (h : LW bits bi bj bw bx gi cnt cap i j Q ss vW vX w0) (hb : Below w0.heap.size w0 w1) : LW bits bi bj bw bx gi cnt cap i j Q ss vW vX w1 := by
  obtain ⟨b1, b2, b3, b4, b5, b6, b7⟩ := h.bl
  have hs := hb.size
  exact ⟨(hb.cell (p := ⟨bits, 0, none⟩) b1).trans h.its, (hb.cell (p := ⟨bi, 0, none⟩) b2).trans h.hi, (hb.cell (p := ⟨bj, 0, none⟩) b3).trans h.hj, (hb.cell (p := ⟨bw, 0, none⟩) b4).trans h.hw, (hb.cell (p := ⟨bx, 0, none⟩) b5).trans h.hx,
    fun t ht => (hb.cell (p := ⟨gi, t, none⟩) b6).trans (h.fs t ht), fun t ht => (hb.cell (b7 t ht)).trans (h.qs t ht), ⟨by omega, by omega, by omega, by omega, by omega, by omega, fun t ht => by have := b7 t ht; omega⟩, h.sW.on hb, h.sX.on hb⟩
/-- The count and the flag, in blocks N and N + 1. -/
structure LS (N k : Nat) (W : World) : Prop where
  c0 : W.cell? ⟨N, 0, none⟩ = some (.int .i64 k)
  c1 : W.cell? ⟨N + 1, 0, none⟩ = some (.bool true)
  f0 : W.frozen? ⟨N, 0, none⟩ = false
  f1 : W.frozen? ⟨N + 1, 0, none⟩ = false
theorem LS.put {N k : Nat} {W : World} (h : LS N k W) (k' : Nat) (n' : Int) (hn : n' = (k' : Int)) : LS N k' ((W.setCell ⟨N + 1, 0, none⟩ (.bool true)).setCell ⟨N, 0, none⟩ (.int .i64 n')) := by
  subst hn
  refine ⟨World.cell?_setCell_same _ _ _ (u := .int .i64 k) (by rw [World.cell?_setCell_far _ _ _ _ (by simp)]; exact h.c0), ?_, by simpa using h.f0, by simpa using h.f1⟩
  rw [World.cell?_setCell_far _ _ _ _ (by simp)]
  exact World.cell?_setCell_same _ _ _ (u := .bool true) h.c1
theorem cell_lt {W : World} {a : Addr} {v : Value} (h : W.cell? a = some v) : a.block < W.heap.size := by
  rcases Nat.lt_or_ge a.block W.heap.size with h' | h'
  · exact h'
  · simp [World.cell?, Array.getElem?_eq_none h'] at h
theorem Strs.slice {w : World} {v : Value} {ws : List ByteArray} (h : Strs w v ws) (k : Nat) (hk : k < ws.length) : ∃ b off cap, v = .slice (some ⟨b, off, none⟩) ws.length cap ∧ b < w.heap.size ∧ ws.length ≤ 140737488355328 ∧ w.cell? ⟨b, off + k, none⟩ = some (.string (ws.getD k ByteArray.empty)) := by
  rcases h with ⟨rfl, _⟩ | ⟨b0, off, cap, rfl, h0, h1, h2⟩
  · simp at hk
  · exact ⟨b0, off, cap, rfl, h1, h0, h2 k hk⟩

/-- What the region of the two calls needs. -/
structure RG (bits bi bj bw bx gi cnt cap i j bW oW M cW N k : Nat) (Q : Nat → Addr) (vX : Value) (w0 W : World) : Prop where
  g1 : ∀ X st, (X.cell? ⟨bits, 0, none⟩ = some (.slice (some ⟨gi, 0, none⟩) cnt cap) ∧ X.cell? ⟨bi, 0, none⟩ = some (.int .i64 i) ∧ X.cell? ⟨bj, 0, none⟩ = some (.int .i64 j) ∧ X.cell? ⟨bw, 0, none⟩ = some (.slice (some ⟨bW, oW, none⟩) M cW) ∧ X.cell? ⟨bx, 0, none⟩ = some vX ∧ X.cell? ⟨gi, i, none⟩ = some (.func (.func 31) #[] #[.pointer (some (Q i))]) ∧ X.cell? ⟨gi, j, none⟩ = some (.func (.func 31) #[] #[.pointer (some (Q j))]) ∧ X.cell? ⟨N, 0, none⟩ = some (.int .i64 k) ∧ X.cell? ⟨N + 1, 0, none⟩ = some (.bool true) ∧ X.frozen? ⟨N, 0, none⟩ = false ∧ X.frozen? ⟨N + 1, 0, none⟩ = false ∧ Below w0.heap.size w0 X) → Calls Tryd.prog 13 #[.func (.func 31) #[] #[.pointer (some (Q i))], .slice (some ⟨bW, oW, none⟩) M cW, .int .i64 st] X fun e w' => e = .returned (.bool true) ∧ (w'.cell? ⟨bits, 0, none⟩ = some (.slice (some ⟨gi, 0, none⟩) cnt cap) ∧ w'.cell? ⟨bi, 0, none⟩ = some (.int .i64 i) ∧ w'.cell? ⟨bj, 0, none⟩ = some (.int .i64 j) ∧ w'.cell? ⟨bw, 0, none⟩ = some (.slice (some ⟨bW, oW, none⟩) M cW) ∧ w'.cell? ⟨bx, 0, none⟩ = some vX ∧ w'.cell? ⟨gi, i, none⟩ = some (.func (.func 31) #[] #[.pointer (some (Q i))]) ∧ w'.cell? ⟨gi, j, none⟩ = some (.func (.func 31) #[] #[.pointer (some (Q j))]) ∧ w'.cell? ⟨N, 0, none⟩ = some (.int .i64 k) ∧ w'.cell? ⟨N + 1, 0, none⟩ = some (.bool true) ∧ w'.frozen? ⟨N, 0, none⟩ = false ∧ w'.frozen? ⟨N + 1, 0, none⟩ = false ∧ Below w0.heap.size w0 w')
  g2 : ∀ X st, (X.cell? ⟨bits, 0, none⟩ = some (.slice (some ⟨gi, 0, none⟩) cnt cap) ∧ X.cell? ⟨bi, 0, none⟩ = some (.int .i64 i) ∧ X.cell? ⟨bj, 0, none⟩ = some (.int .i64 j) ∧ X.cell? ⟨bw, 0, none⟩ = some (.slice (some ⟨bW, oW, none⟩) M cW) ∧ X.cell? ⟨bx, 0, none⟩ = some vX ∧ X.cell? ⟨gi, i, none⟩ = some (.func (.func 31) #[] #[.pointer (some (Q i))]) ∧ X.cell? ⟨gi, j, none⟩ = some (.func (.func 31) #[] #[.pointer (some (Q j))]) ∧ X.cell? ⟨N, 0, none⟩ = some (.int .i64 k) ∧ X.cell? ⟨N + 1, 0, none⟩ = some (.bool true) ∧ X.frozen? ⟨N, 0, none⟩ = false ∧ X.frozen? ⟨N + 1, 0, none⟩ = false ∧ Below w0.heap.size w0 X) → Calls Tryd.prog 13 #[.func (.func 31) #[] #[.pointer (some (Q j))], vX, .int .i64 st] X fun e w' => e = .returned (.bool true) ∧ (w'.cell? ⟨bits, 0, none⟩ = some (.slice (some ⟨gi, 0, none⟩) cnt cap) ∧ w'.cell? ⟨bi, 0, none⟩ = some (.int .i64 i) ∧ w'.cell? ⟨bj, 0, none⟩ = some (.int .i64 j) ∧ w'.cell? ⟨bw, 0, none⟩ = some (.slice (some ⟨bW, oW, none⟩) M cW) ∧ w'.cell? ⟨bx, 0, none⟩ = some vX ∧ w'.cell? ⟨gi, i, none⟩ = some (.func (.func 31) #[] #[.pointer (some (Q i))]) ∧ w'.cell? ⟨gi, j, none⟩ = some (.func (.func 31) #[] #[.pointer (some (Q j))]) ∧ w'.cell? ⟨N, 0, none⟩ = some (.int .i64 k) ∧ w'.cell? ⟨N + 1, 0, none⟩ = some (.bool true) ∧ w'.frozen? ⟨N, 0, none⟩ = false ∧ w'.frozen? ⟨N + 1, 0, none⟩ = false ∧ Below w0.heap.size w0 w')
  st : ∀ X, (X.cell? ⟨bits, 0, none⟩ = some (.slice (some ⟨gi, 0, none⟩) cnt cap) ∧ X.cell? ⟨bi, 0, none⟩ = some (.int .i64 i) ∧ X.cell? ⟨bj, 0, none⟩ = some (.int .i64 j) ∧ X.cell? ⟨bw, 0, none⟩ = some (.slice (some ⟨bW, oW, none⟩) M cW) ∧ X.cell? ⟨bx, 0, none⟩ = some vX ∧ X.cell? ⟨gi, i, none⟩ = some (.func (.func 31) #[] #[.pointer (some (Q i))]) ∧ X.cell? ⟨gi, j, none⟩ = some (.func (.func 31) #[] #[.pointer (some (Q j))]) ∧ X.cell? ⟨N, 0, none⟩ = some (.int .i64 k) ∧ X.cell? ⟨N + 1, 0, none⟩ = some (.bool true) ∧ X.frozen? ⟨N, 0, none⟩ = false ∧ X.frozen? ⟨N + 1, 0, none⟩ = false ∧ Below w0.heap.size w0 X) → ((X.setCell ⟨N + 1, 0, none⟩ (.bool true)).cell? ⟨bits, 0, none⟩ = some (.slice (some ⟨gi, 0, none⟩) cnt cap) ∧ (X.setCell ⟨N + 1, 0, none⟩ (.bool true)).cell? ⟨bi, 0, none⟩ = some (.int .i64 i) ∧ (X.setCell ⟨N + 1, 0, none⟩ (.bool true)).cell? ⟨bj, 0, none⟩ = some (.int .i64 j) ∧ (X.setCell ⟨N + 1, 0, none⟩ (.bool true)).cell? ⟨bw, 0, none⟩ = some (.slice (some ⟨bW, oW, none⟩) M cW) ∧ (X.setCell ⟨N + 1, 0, none⟩ (.bool true)).cell? ⟨bx, 0, none⟩ = some vX ∧ (X.setCell ⟨N + 1, 0, none⟩ (.bool true)).cell? ⟨gi, i, none⟩ = some (.func (.func 31) #[] #[.pointer (some (Q i))]) ∧ (X.setCell ⟨N + 1, 0, none⟩ (.bool true)).cell? ⟨gi, j, none⟩ = some (.func (.func 31) #[] #[.pointer (some (Q j))]) ∧ (X.setCell ⟨N + 1, 0, none⟩ (.bool true)).cell? ⟨N, 0, none⟩ = some (.int .i64 k) ∧ (X.setCell ⟨N + 1, 0, none⟩ (.bool true)).cell? ⟨N + 1, 0, none⟩ = some (.bool true) ∧ (X.setCell ⟨N + 1, 0, none⟩ (.bool true)).frozen? ⟨N, 0, none⟩ = false ∧ (X.setCell ⟨N + 1, 0, none⟩ (.bool true)).frozen? ⟨N + 1, 0, none⟩ = false ∧ Below w0.heap.size w0 (X.setCell ⟨N + 1, 0, none⟩ (.bool true)))
  sd : (W.setCell ⟨N + 1, 0, none⟩ (.bool true)).drew.cell? ⟨bits, 0, none⟩ = some (.slice (some ⟨gi, 0, none⟩) cnt cap) ∧ (W.setCell ⟨N + 1, 0, none⟩ (.bool true)).drew.cell? ⟨bi, 0, none⟩ = some (.int .i64 i) ∧ (W.setCell ⟨N + 1, 0, none⟩ (.bool true)).drew.cell? ⟨bj, 0, none⟩ = some (.int .i64 j) ∧ (W.setCell ⟨N + 1, 0, none⟩ (.bool true)).drew.cell? ⟨bw, 0, none⟩ = some (.slice (some ⟨bW, oW, none⟩) M cW) ∧ (W.setCell ⟨N + 1, 0, none⟩ (.bool true)).drew.cell? ⟨bx, 0, none⟩ = some vX ∧ (W.setCell ⟨N + 1, 0, none⟩ (.bool true)).drew.cell? ⟨gi, i, none⟩ = some (.func (.func 31) #[] #[.pointer (some (Q i))]) ∧ (W.setCell ⟨N + 1, 0, none⟩ (.bool true)).drew.cell? ⟨gi, j, none⟩ = some (.func (.func 31) #[] #[.pointer (some (Q j))]) ∧ (W.setCell ⟨N + 1, 0, none⟩ (.bool true)).drew.cell? ⟨N, 0, none⟩ = some (.int .i64 k) ∧ (W.setCell ⟨N + 1, 0, none⟩ (.bool true)).drew.cell? ⟨N + 1, 0, none⟩ = some (.bool true) ∧ (W.setCell ⟨N + 1, 0, none⟩ (.bool true)).drew.frozen? ⟨N, 0, none⟩ = false ∧ (W.setCell ⟨N + 1, 0, none⟩ (.bool true)).drew.frozen? ⟨N + 1, 0, none⟩ = false ∧ Below w0.heap.size w0 (W.setCell ⟨N + 1, 0, none⟩ (.bool true)).drew

set_option maxHeartbeats 4000000 in
theorem lines1 (x : ByteArray) {bits bi bj bw bx gi cnt cap i j : Nat} {Q : Nat → Addr} {ss : Nat → ByteArray} {vW vX : Value} (N : Nat) (w0 W : World) (hN : N = w0.heap.size) (he : Env w0) (h : LW bits bi bj bw bx gi cnt cap i j Q ss vW vX w0) (hb : Below w0.heap.size w0 W)
    (hI : i < cnt) (hJ : j < cnt) (hz : ∀ t, t < cnt → (ss t).size ≤ 1000000) (k : Nat) (hL : LS N k W) (hk : k < ((lns (L (ss i))).map S).length) (hx : ((lns (L (ss i))).map S).getD k ByteArray.empty = x) :
    Calls Tryd.prog 14 #[.string x, .pointer (some ⟨N + 1, 0, none⟩), .pointer (some ⟨N, 0, none⟩), .pointer (some ⟨bw, 0, none⟩), .pointer (some ⟨bits, 0, none⟩), .pointer (some ⟨bi, 0, none⟩), .pointer (some ⟨bj, 0, none⟩), .pointer (some ⟨bx, 0, none⟩)] W fun e w' => e = .returned (.bool true) ∧ LS N (k + 1) w' ∧ Below w0.heap.size w0 w' := by
  have hll : ((lns (L (ss i))).map S).length ≤ 1000000 := by
    have h1 := lns_len _ (L (ss i)) (Nat.le_refl _)
    have h2 := hz i hI
    rw [L_length] at h1
    rw [List.length_map]; omega
  obtain ⟨bW, oW, cW, rfl, hbW, hlW, hcW0⟩ := h.sW.slice k hk
  have hW := h.on hb
  have hEW := he.on hb
  have hcW := (hb.cell (p := ⟨bW, oW + k, none⟩) hbW).trans hcW0
  rw [hx] at hcW
  clear hcW0 hx
  have HLS := Lib.hid hL
  obtain ⟨c0, c1, f0, f1⟩ := hL
  have hq : (x.toList == x.toList) = true := by simp
  obtain ⟨b1, b2, b3, b4, b5, b6, b7⟩ := h.bl
  have a3 := hW.hw
  have n1 : bits < N := by omega
  have n2 : bi < N := by omega
  have n3 : bj < N := by omega
  have n4 : bw < N := by omega
  have n5 : bx < N := by omega
  have n6 : gi < N := by omega
  have n7 : bW < N := by omega
  have H7 := Lib.hid b7
  have HN := Lib.hid hN
  have HH := Lib.hid h
  have HW := Lib.hid hW
  have HB := Lib.hid hb
  have HE := Lib.hid hEW
  have HE0 := Lib.hid he
  have HZ := Lib.hid hz
  generalize hlenM : ((lns (L (ss i))).map S).length = M at *
  have HM := Lib.hid hlenM
  by_cases h2 : k < 2
  · have hMk : ∀ X, Below w0.heap.size w0 X → LS N k X → (X.cell? ⟨bits, 0, none⟩ = some (.slice (some ⟨gi, 0, none⟩) cnt cap) ∧ X.cell? ⟨bi, 0, none⟩ = some (.int .i64 i) ∧ X.cell? ⟨bj, 0, none⟩ = some (.int .i64 j) ∧ X.cell? ⟨bw, 0, none⟩ = some (.slice (some ⟨bW, oW, none⟩) M cW) ∧ X.cell? ⟨bx, 0, none⟩ = some vX ∧ X.cell? ⟨gi, i, none⟩ = some (.func (.func 31) #[] #[.pointer (some (Q i))]) ∧ X.cell? ⟨gi, j, none⟩ = some (.func (.func 31) #[] #[.pointer (some (Q j))]) ∧ X.cell? ⟨N, 0, none⟩ = some (.int .i64 k) ∧ X.cell? ⟨N + 1, 0, none⟩ = some (.bool true) ∧ X.frozen? ⟨N, 0, none⟩ = false ∧ X.frozen? ⟨N + 1, 0, none⟩ = false ∧ Below w0.heap.size w0 X) := fun X hbX hLX => by
      have hX := HH.out.on hbX
      exact ⟨hX.its, hX.hi, hX.hj, hX.hw, hX.hx, hX.fs i hI, hX.fs j hJ, hLX.c0, hLX.c1, hLX.f0, hLX.f1, hbX⟩
    have hNx : ∀ X X', (X.cell? ⟨bits, 0, none⟩ = some (.slice (some ⟨gi, 0, none⟩) cnt cap) ∧ X.cell? ⟨bi, 0, none⟩ = some (.int .i64 i) ∧ X.cell? ⟨bj, 0, none⟩ = some (.int .i64 j) ∧ X.cell? ⟨bw, 0, none⟩ = some (.slice (some ⟨bW, oW, none⟩) M cW) ∧ X.cell? ⟨bx, 0, none⟩ = some vX ∧ X.cell? ⟨gi, i, none⟩ = some (.func (.func 31) #[] #[.pointer (some (Q i))]) ∧ X.cell? ⟨gi, j, none⟩ = some (.func (.func 31) #[] #[.pointer (some (Q j))]) ∧ X.cell? ⟨N, 0, none⟩ = some (.int .i64 k) ∧ X.cell? ⟨N + 1, 0, none⟩ = some (.bool true) ∧ X.frozen? ⟨N, 0, none⟩ = false ∧ X.frozen? ⟨N + 1, 0, none⟩ = false ∧ Below w0.heap.size w0 X) → Below X.heap.size X X' → (X'.cell? ⟨bits, 0, none⟩ = some (.slice (some ⟨gi, 0, none⟩) cnt cap) ∧ X'.cell? ⟨bi, 0, none⟩ = some (.int .i64 i) ∧ X'.cell? ⟨bj, 0, none⟩ = some (.int .i64 j) ∧ X'.cell? ⟨bw, 0, none⟩ = some (.slice (some ⟨bW, oW, none⟩) M cW) ∧ X'.cell? ⟨bx, 0, none⟩ = some vX ∧ X'.cell? ⟨gi, i, none⟩ = some (.func (.func 31) #[] #[.pointer (some (Q i))]) ∧ X'.cell? ⟨gi, j, none⟩ = some (.func (.func 31) #[] #[.pointer (some (Q j))]) ∧ X'.cell? ⟨N, 0, none⟩ = some (.int .i64 k) ∧ X'.cell? ⟨N + 1, 0, none⟩ = some (.bool true) ∧ X'.frozen? ⟨N, 0, none⟩ = false ∧ X'.frozen? ⟨N + 1, 0, none⟩ = false ∧ Below w0.heap.size w0 X') := fun X X' hX hbX => by
      obtain ⟨_, _, _, _, _, _, _, x1, x2, x3, x4, x5⟩ := hX
      have hn1 : N + 1 < X.heap.size := cell_lt x2
      have hbx := x5.trans (hbX.mono x5.size)
      exact hMk X' hbx ⟨(hbX.cell (p := ⟨N, 0, none⟩) (by simp; omega)).trans x1, (hbX.cell (p := ⟨N + 1, 0, none⟩) hn1).trans x2, (hbX.frozen (p := ⟨N, 0, none⟩) (by simp; omega)).trans x3, (hbX.frozen (p := ⟨N + 1, 0, none⟩) hn1).trans x4⟩
    have hg1 := Lib.hid (fun X st (hX : X.cell? ⟨bits, 0, none⟩ = some (.slice (some ⟨gi, 0, none⟩) cnt cap) ∧ X.cell? ⟨bi, 0, none⟩ = some (.int .i64 i) ∧ X.cell? ⟨bj, 0, none⟩ = some (.int .i64 j) ∧ X.cell? ⟨bw, 0, none⟩ = some (.slice (some ⟨bW, oW, none⟩) M cW) ∧ X.cell? ⟨bx, 0, none⟩ = some vX ∧ X.cell? ⟨gi, i, none⟩ = some (.func (.func 31) #[] #[.pointer (some (Q i))]) ∧ X.cell? ⟨gi, j, none⟩ = some (.func (.func 31) #[] #[.pointer (some (Q j))]) ∧ X.cell? ⟨N, 0, none⟩ = some (.int .i64 k) ∧ X.cell? ⟨N + 1, 0, none⟩ = some (.bool true) ∧ X.frozen? ⟨N, 0, none⟩ = false ∧ X.frozen? ⟨N + 1, 0, none⟩ = false ∧ Below w0.heap.size w0 X) => (goes_any (ss i) (Q i) (.slice (some ⟨bW, oW, none⟩) M cW) st X (HE0.out.on hX.2.2.2.2.2.2.2.2.2.2.2) (HZ.out i hI) ((HH.out.on hX.2.2.2.2.2.2.2.2.2.2.2).qs i hI) ((HH.out.on hX.2.2.2.2.2.2.2.2.2.2.2).bl.2.2.2.2.2.2 i hI) (HH.out.on hX.2.2.2.2.2.2.2.2.2.2.2).sW).mono (R' := fun e w' => e = .returned (.bool true) ∧ (w'.cell? ⟨bits, 0, none⟩ = some (.slice (some ⟨gi, 0, none⟩) cnt cap) ∧ w'.cell? ⟨bi, 0, none⟩ = some (.int .i64 i) ∧ w'.cell? ⟨bj, 0, none⟩ = some (.int .i64 j) ∧ w'.cell? ⟨bw, 0, none⟩ = some (.slice (some ⟨bW, oW, none⟩) M cW) ∧ w'.cell? ⟨bx, 0, none⟩ = some vX ∧ w'.cell? ⟨gi, i, none⟩ = some (.func (.func 31) #[] #[.pointer (some (Q i))]) ∧ w'.cell? ⟨gi, j, none⟩ = some (.func (.func 31) #[] #[.pointer (some (Q j))]) ∧ w'.cell? ⟨N, 0, none⟩ = some (.int .i64 k) ∧ w'.cell? ⟨N + 1, 0, none⟩ = some (.bool true) ∧ w'.frozen? ⟨N, 0, none⟩ = false ∧ w'.frozen? ⟨N + 1, 0, none⟩ = false ∧ Below w0.heap.size w0 w')) (by rintro e w' ⟨rfl, hbw⟩; exact ⟨rfl, hNx X w' hX hbw⟩))
    have hg2 := Lib.hid (fun X st (hX : X.cell? ⟨bits, 0, none⟩ = some (.slice (some ⟨gi, 0, none⟩) cnt cap) ∧ X.cell? ⟨bi, 0, none⟩ = some (.int .i64 i) ∧ X.cell? ⟨bj, 0, none⟩ = some (.int .i64 j) ∧ X.cell? ⟨bw, 0, none⟩ = some (.slice (some ⟨bW, oW, none⟩) M cW) ∧ X.cell? ⟨bx, 0, none⟩ = some vX ∧ X.cell? ⟨gi, i, none⟩ = some (.func (.func 31) #[] #[.pointer (some (Q i))]) ∧ X.cell? ⟨gi, j, none⟩ = some (.func (.func 31) #[] #[.pointer (some (Q j))]) ∧ X.cell? ⟨N, 0, none⟩ = some (.int .i64 k) ∧ X.cell? ⟨N + 1, 0, none⟩ = some (.bool true) ∧ X.frozen? ⟨N, 0, none⟩ = false ∧ X.frozen? ⟨N + 1, 0, none⟩ = false ∧ Below w0.heap.size w0 X) => (goes_any (ss j) (Q j) vX st X (HE0.out.on hX.2.2.2.2.2.2.2.2.2.2.2) (HZ.out j hJ) ((HH.out.on hX.2.2.2.2.2.2.2.2.2.2.2).qs j hJ) ((HH.out.on hX.2.2.2.2.2.2.2.2.2.2.2).bl.2.2.2.2.2.2 j hJ) (HH.out.on hX.2.2.2.2.2.2.2.2.2.2.2).sX).mono (R' := fun e w' => e = .returned (.bool true) ∧ (w'.cell? ⟨bits, 0, none⟩ = some (.slice (some ⟨gi, 0, none⟩) cnt cap) ∧ w'.cell? ⟨bi, 0, none⟩ = some (.int .i64 i) ∧ w'.cell? ⟨bj, 0, none⟩ = some (.int .i64 j) ∧ w'.cell? ⟨bw, 0, none⟩ = some (.slice (some ⟨bW, oW, none⟩) M cW) ∧ w'.cell? ⟨bx, 0, none⟩ = some vX ∧ w'.cell? ⟨gi, i, none⟩ = some (.func (.func 31) #[] #[.pointer (some (Q i))]) ∧ w'.cell? ⟨gi, j, none⟩ = some (.func (.func 31) #[] #[.pointer (some (Q j))]) ∧ w'.cell? ⟨N, 0, none⟩ = some (.int .i64 k) ∧ w'.cell? ⟨N + 1, 0, none⟩ = some (.bool true) ∧ w'.frozen? ⟨N, 0, none⟩ = false ∧ w'.frozen? ⟨N + 1, 0, none⟩ = false ∧ Below w0.heap.size w0 w')) (by rintro e w' ⟨rfl, hbw⟩; exact ⟨rfl, hNx X w' hX hbw⟩))
    have hst := Lib.hid (fun X (hX : X.cell? ⟨bits, 0, none⟩ = some (.slice (some ⟨gi, 0, none⟩) cnt cap) ∧ X.cell? ⟨bi, 0, none⟩ = some (.int .i64 i) ∧ X.cell? ⟨bj, 0, none⟩ = some (.int .i64 j) ∧ X.cell? ⟨bw, 0, none⟩ = some (.slice (some ⟨bW, oW, none⟩) M cW) ∧ X.cell? ⟨bx, 0, none⟩ = some vX ∧ X.cell? ⟨gi, i, none⟩ = some (.func (.func 31) #[] #[.pointer (some (Q i))]) ∧ X.cell? ⟨gi, j, none⟩ = some (.func (.func 31) #[] #[.pointer (some (Q j))]) ∧ X.cell? ⟨N, 0, none⟩ = some (.int .i64 k) ∧ X.cell? ⟨N + 1, 0, none⟩ = some (.bool true) ∧ X.frozen? ⟨N, 0, none⟩ = false ∧ X.frozen? ⟨N + 1, 0, none⟩ = false ∧ Below w0.heap.size w0 X) => (show ((X.setCell ⟨N + 1, 0, none⟩ (.bool true)).cell? ⟨bits, 0, none⟩ = some (.slice (some ⟨gi, 0, none⟩) cnt cap) ∧ (X.setCell ⟨N + 1, 0, none⟩ (.bool true)).cell? ⟨bi, 0, none⟩ = some (.int .i64 i) ∧ (X.setCell ⟨N + 1, 0, none⟩ (.bool true)).cell? ⟨bj, 0, none⟩ = some (.int .i64 j) ∧ (X.setCell ⟨N + 1, 0, none⟩ (.bool true)).cell? ⟨bw, 0, none⟩ = some (.slice (some ⟨bW, oW, none⟩) M cW) ∧ (X.setCell ⟨N + 1, 0, none⟩ (.bool true)).cell? ⟨bx, 0, none⟩ = some vX ∧ (X.setCell ⟨N + 1, 0, none⟩ (.bool true)).cell? ⟨gi, i, none⟩ = some (.func (.func 31) #[] #[.pointer (some (Q i))]) ∧ (X.setCell ⟨N + 1, 0, none⟩ (.bool true)).cell? ⟨gi, j, none⟩ = some (.func (.func 31) #[] #[.pointer (some (Q j))]) ∧ (X.setCell ⟨N + 1, 0, none⟩ (.bool true)).cell? ⟨N, 0, none⟩ = some (.int .i64 k) ∧ (X.setCell ⟨N + 1, 0, none⟩ (.bool true)).cell? ⟨N + 1, 0, none⟩ = some (.bool true) ∧ (X.setCell ⟨N + 1, 0, none⟩ (.bool true)).frozen? ⟨N, 0, none⟩ = false ∧ (X.setCell ⟨N + 1, 0, none⟩ (.bool true)).frozen? ⟨N + 1, 0, none⟩ = false ∧ Below w0.heap.size w0 (X.setCell ⟨N + 1, 0, none⟩ (.bool true))) from by
      obtain ⟨_, _, _, _, _, _, _, x1, x2, x3, x4, x5⟩ := hX
      exact hMk _ (x5.setCell (p := ⟨N + 1, 0, none⟩) (by have := HN.out; simp; omega) _) ⟨by rw [World.cell?_setCell_far _ _ _ _ (by simp)]; exact x1, World.cell?_setCell_same _ _ _ (u := .bool true) x2, by simpa using x3, by simpa using x4⟩))
    have hS1 := hst.out W (hMk W HB.out HLS.out)
    have hSd := hNx _ (W.setCell ⟨N + 1, 0, none⟩ (.bool true)).drew hS1 (Below.refl _ _).drew
    have HRG : RG bits bi bj bw bx gi cnt cap i j bW oW M cW N k Q vX w0 W := ⟨hg1.out, hg2.out, hst.out, hSd⟩
    clear hg1 hg2 hst
    have i0 : (0 : Int) ≤ (i : Int) := by omega
    have i1 : (i : Int) < (cnt : Int) := by omega
    have j0 : (0 : Int) ≤ (j : Int) := by omega
    have j1 : (j : Int) < (cnt : Int) := by omega
    obtain ⟨k1, hk1⟩ : ∃ k1, k1 = k + 1 := ⟨_, rfl⟩
    have hw1 : IntKind.i64.wrap ((k : Int) + 1) = (k1 : Int) := by rw [IntKind.wrap_i64]; omega
    have HK1 := Lib.hid hk1
    clear hk1 hMk hNx hS1 hSd b1 b2 b3 b4 b5 b6 b7 hN h hW hb hEW he hz hbW hlenM
    go_enter Tryd.func14, Tryd.ntmps14
    go_wp2
    first | (go_region_held3 (fun X => X.cell? ⟨bits, 0, none⟩ = some (.slice (some ⟨gi, 0, none⟩) cnt cap) ∧ X.cell? ⟨bi, 0, none⟩ = some (.int .i64 i) ∧ X.cell? ⟨bj, 0, none⟩ = some (.int .i64 j) ∧ X.cell? ⟨bw, 0, none⟩ = some (.slice (some ⟨bW, oW, none⟩) M cW) ∧ X.cell? ⟨bx, 0, none⟩ = some vX ∧ X.cell? ⟨gi, i, none⟩ = some (.func (.func 31) #[] #[.pointer (some (Q i))]) ∧ X.cell? ⟨gi, j, none⟩ = some (.func (.func 31) #[] #[.pointer (some (Q j))]) ∧ X.cell? ⟨N, 0, none⟩ = some (.int .i64 k) ∧ X.cell? ⟨N + 1, 0, none⟩ = some (.bool true) ∧ X.frozen? ⟨N, 0, none⟩ = false ∧ X.frozen? ⟨N + 1, 0, none⟩ = false ∧ Below w0.heap.size w0 X) (first | exact HRG.sd | assumption | (refine HRG.st _ ?_; assumption)) (first | (go_at_call_of 13 (Q i); refine (HRG.g1 _ _ ?_).mono ?_; assumption; rintro e w7 ⟨rfl, hs7⟩) | (go_at_call_of 13 (Q j); refine (HRG.g2 _ _ ?_).mono ?_; assumption; rintro e w8 ⟨rfl, hs8⟩))) | fail
    obtain ⟨_, _, _, _, _, _, _, x1, x2, x3, x4, x5⟩ := hs8
    have HL8 : Hid (LS N k w8) := Lib.hid ⟨x1, x2, x3, x4⟩
    clear HRG hw1
    go_wp2
    go_ret
    exact ⟨rfl, HL8.out.put (k + 1) _ (by first | omega | (have := HK1.out; omega)), (x5.setCell (p := ⟨N + 1, 0, none⟩) (by have := HN.out; simp; omega) _).setCell (p := ⟨N, 0, none⟩) (by have := HN.out; simp; omega) _⟩
  · clear b1 b2 b3 b4 b5 b6 b7 hN h hW hb hEW he hz hbW hlenM
    go_enter Tryd.func14, Tryd.ntmps14
    go_wp2
    go_ret
    exact ⟨rfl, HLS.out.put (k + 1) _ (by omega), (HB.out.setCell (p := ⟨N + 1, 0, none⟩) (by have := HN.out; simp; omega) _).setCell (p := ⟨N, 0, none⟩) (by have := HN.out; simp; omega) _⟩

theorem inner_any {bits bi bj bw bx gi cnt cap i j : Nat} {Q : Nat → Addr} {ss : Nat → ByteArray} {vW vX : Value} (N : Nat) (w0 W : World) (hN : N = w0.heap.size) (he : Env w0) (h : LW bits bi bj bw bx gi cnt cap i j Q ss vW vX w0) (hb : Below w0.heap.size w0 W)
    (hI : i < cnt) (hJ : j < cnt) (hz : ∀ t, t < cnt → (ss t).size ≤ 1000000) (hL : LS N 0 W) :
    Calls Tryd.prog 31 #[.func (.func 14) #[] #[.pointer (some ⟨N + 1, 0, none⟩), .pointer (some ⟨N, 0, none⟩), .pointer (some ⟨bw, 0, none⟩), .pointer (some ⟨bits, 0, none⟩), .pointer (some ⟨bi, 0, none⟩), .pointer (some ⟨bj, 0, none⟩), .pointer (some ⟨bx, 0, none⟩)], .pointer (some (Q i))] W fun e w' => e = .returned (.tuple #[]) ∧ LS N (lns (L (ss i))).length w' ∧ Below w0.heap.size w0 w' := by
  refine (linesH (ss i) (Q i) _ _ _ _ _ _ _ W (hz i hI)
    (fun r X => ∃ k, k ≤ (lns (L (ss i))).length ∧ lns r = (lns (L (ss i))).drop k ∧ LS N k X ∧ Below w0.heap.size w0 X) (fun _ => False) ?_ ?_ ?_ ?_ ⟨0, Nat.zero_le _, rfl, hL, hb⟩).mono ?_
  · rintro r X ⟨k, _, _, _, h3⟩
    exact (he.on h3).most
  · rintro r X n ⟨k, h0, h1, h2, h3⟩
    exact ⟨k, h0, h1, ⟨h2.c0, h2.c1, h2.f0, h2.f1⟩, below_drewN h3 n⟩
  · rintro r X hr hrl ⟨k, h0, h1, h2, h3⟩
    rw [lns_step r hr] at h1
    have hk : k < (lns (L (ss i))).length := by
      rcases Nat.lt_or_ge k (lns (L (ss i))).length with h | h
      · exact h
      · rw [List.drop_eq_nil_of_le h] at h1; cases h1
    rw [List.drop_eq_getElem_cons hk] at h1
    obtain ⟨h4, h5⟩ := List.cons.inj h1
    refine (lines1 (S (cutN r).1) N w0 X hN he h h3 hI hJ hz k h2 (by simpa using hk) (by simp [hk, h4])).mono ?_
    rintro e X' ⟨rfl, k2, k3⟩
    exact ⟨true, rfl, fun _ => ⟨k + 1, hk, h5, k2, k3⟩, fun hf => by cases hf⟩
  · exact (h.on hb).qs i hI
  rintro e w6 ⟨rfl, h6⟩
  rcases h6 with ⟨k, h0, h1, h2, h3⟩ | h6
  · have hk : k = (lns (L (ss i))).length := by
      rw [lns_nil] at h1
      have := congrArg List.length h1
      simp at this
      omega
    subst hk
    exact ⟨rfl, h2, h3⟩
  · exact absurd h6 id

/-- A row of functions that the call made itself. -/
structure OwnF (B : Nat) (v : Value) (fs : List Value) (W0 w : World) : Prop where
  row : w.ownsRow B 26 1 v fs.length fs
  below : Below B W0 w
  base : B ≤ w.heap.size
theorem OwnF.nil {B : Nat} {W0 w : World} (h : Below B W0 w) (hB : B ≤ w.heap.size) : OwnF B (.slice none 0 0) [] W0 w := ⟨World.ownsRow_nil _ _ _ _, h, hB⟩
theorem OwnF.alloc {B : Nat} {v : Value} {l : List Value} {W0 w : World} (h : OwnF B v l W0 w) (o : Obj) : OwnF B v l W0 (w.alloc o) :=
  ⟨h.row.alloc o, h.below.alloc h.base o, by have := h.base; simp; omega⟩
theorem Tryd.infoSeq : (Tryd.prog.info? 26).map (fun i => (i.zero, i.size, i.bytes)) = some (some .nilFunc, 1, 8) := by kernel_rfl
theorem appF {ops : Array Oper} {rest : List Oper} {o : Oper} {a : Act} {Q : Exit → Act → World → Prop} (hgd : o.guard = none) (s x : Operand)
    (ho : o.op = .call { callee := .builtin .append, args := #[s, x], argTypes := #[24, 24] })
    {B : Nat} {v : Value} {l : List Value} {W0 w : World} (f : Value) (hf : f.oneCell' = true) (hown : OwnF B v l W0 w) (n : Nat) (hn : n = w.heap.size) (hs : a.eval s = v) (hx : a.eval x = .slice (some ⟨n, 0, none⟩) 1 1)
    (hlen : l.length + 1 ≤ 1000000)
    (h : ∀ v' w', OwnF B v' (l ++ [f]) W0 w' → (∀ k, k < w.heap.size → v.ownBlock ≠ some k → w'.heap[k]? = w.heap[k]?) → w.heap.size ≤ w'.heap.size → wpList Tryd.prog ops Q rest (a.put o.dst v') w') : wpList Tryd.prog ops Q (o :: rest) a (w.alloc (.cells #[f] 26)) := by
  subst hn
  obtain ⟨i0, hi, hz0, hz1, hz2⟩ := info_parts Tryd.infoSeq
  have ha := hown.alloc (.cells #[f] 26)
  refine wpList_append_own _ hgd s x 24 ho B 26 i0 .nilFunc 1 8 Tryd.underlying24 hi hz0 hz1 hz2 rfl (by decide) v l.length l hs ha.row ⟨w.heap.size, 0, none⟩ 1 1 [f] hx rfl ?_ ?_ (by unfold maxLen; omega) (by omega) ha.base ?_
  · intro j u hj
    match j, hj with
    | 0, hj => simp at hj; subst hj; simp [Addr.add]
    | (j + 1), hj => simp at hj
  · intro u hu; simp at hu; subst hu; exact hf
  · intro v' w' ho' hg _
    refine h v' w' ⟨?_, ha.below.grown hg ha.base (fun k hk => (ha.row.lt k hk).1), Nat.le_trans ha.base hg.size⟩ (fun k h1 h2 => ?_) ?_
    · rw [List.length_append]
      exact ho'
    · rw [hg.block k (by simp; omega) (fun e => h2 e.symm)]
      exact heap_alloc_old w _ h1
    · have := hg.size; simp at this; omega
end Go.Proofs.YtclegocofiigiabDoor
