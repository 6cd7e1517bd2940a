/- The statement OctetLines: goes. -/
import Derived.Test.YtclegocofiigiabDoorSb
namespace Go.Proofs.YtclegocofiigiabDoor
open Go.RowKit Go.Shelf

theorem Lines_any (s : ByteArray) (w : World) :
    Calls Tryd.prog 8 #[.string s] w fun e w' => e = .returned (.func (.func 31) #[] #[.pointer (some ⟨w.heap.size, 0, none⟩)]) ∧ w' = w.alloc (.cells #[.string s] 9) := by
  have hmf : ∀ (fn : Fn) (first cap : Array Value) (w : World), (Instr.makeFunc fn first cap).run Tryd.prog w = .ok (.func fn first cap) w := fun _ _ _ _ => rfl
  go_enter Tryd.func8, Tryd.ntmps8
  go_wp2
  go_ret
  exact ⟨rfl, rfl⟩

set_option maxHeartbeats 400000 in
theorem linesG (s : ByteArray) (q p1 p2 p3 p4 p5 : Addr) (w : World) (hs : s.size ≤ 1000000) (I : List UInt8 → World → Prop) (J : World → Prop)
    (hmost : ∀ r w, I r w → ∃ m, w.cell? ⟨2, 0, none⟩ = some (.int .i64 m)) (hdraw : ∀ r w n, I r w → I r (w.drewN n))
    (hstep : ∀ r w, r ≠ [] → r.length ≤ 1000000 → I r w → Calls Tryd.prog 35 #[.string (S (Lib.cut r [13, 10]).1), .pointer (some p1), .pointer (some p2), .pointer (some p3), .pointer (some p4), .pointer (some p5)] w fun e w' => ∃ b, e = .returned (.bool b) ∧ (b = true → I (Lib.cut r [13, 10]).2.1 w') ∧ (b = false → J w'))
    (hq : w.cell? q = some (.string s)) (hI : I (L s) w) :
    Calls Tryd.prog 31 #[.func (.func 35) #[] #[.pointer (some p1), .pointer (some p2), .pointer (some p3), .pointer (some p4), .pointer (some p5)], .pointer (some q)] w fun e w' => e = .returned (.tuple #[]) ∧ (I [] w' ∨ J w') := by
  go_enter Tryd.func31, Tryd.ntmps31
  go_wp2
  go_loopw [3] (fun v wr => ∃ r, v = .string (S r) ∧ r.length ≤ s.size ∧ I r wr) (fun v _ => match v with | .string b => b.size | _ => 0)
  case atStart => exact ⟨L s, rfl, Nat.le_refl _, hI⟩
  case round =>
    obtain ⟨r, rfl, hr, hIr⟩ := hrel
    by_cases h0 : r = []
    · subst h0
      have he : (S ([] : List UInt8)).toList.isEmpty = true := by rw [toList_L]; rfl
      go_wp2
      go_end0
      exact ⟨rfl, .inl hIr⟩
    · have he : (S r).toList.isEmpty = false := by
        rw [toList_L, L_S]; cases r with
        | nil => exact absurd rfl h0
        | cons a b => rfl
      obtain ⟨m, hm⟩ := hmost r _ hIr
      have hlt := cut_less r h0
      have HS := Lib.hid (hstep r)
      have hle := cut_le r [13, 10]
      have HI := Lib.hid hIr
      clear hIr hstep hI
      go_wp2_with fail
      refine (Tryd.strings_Cut (S r) ⟨#[13, 10]⟩ m _ (by rw [S_size]; omega) hm).mono ?_
      rintro e w1 ⟨rfl, n, rfl⟩
      go_wp2_with fail
      refine (HS.out _ h0 (by omega) (hdraw r _ n HI.out)).mono ?_
      rintro e w2 ⟨b, rfl, hb1, hb2⟩
      cases b with
      | true =>
        have HB := Lib.hid (hb1 rfl)
        clear hb1 hb2
        go_wp2_with fail
        go_roundw
        case rel => exact ⟨(Lib.cut r [13, 10]).2.1, rfl, by omega, HB.out⟩
        case measure => exact hlt
      | false =>
        have HB := Lib.hid (hb2 rfl)
        clear hb1 hb2
        go_wp2_with fail
        first | go_end0 | (simp only [Exit.inBlock, Exit.then]; refine bodyPost_ret (results_none rfl _ _ _) rfl ?_) | refine bodyPost_ret (results_none rfl _ _ _) rfl ?_
        exact ⟨rfl, .inr HB.out⟩

/-- What goes has in memory, from block B on. -/
structure GS (B : Nat) (v : Value) (st : Int) (k : Nat) (ov : Bool) (W : World) : Prop where
  c0 : W.cell? ⟨B, 0, none⟩ = some v
  c1 : W.cell? ⟨B + 1, 0, none⟩ = some (.int .i64 st)
  c2 : W.cell? ⟨B + 2, 0, none⟩ = some (.int .i64 k)
  c3 : W.cell? ⟨B + 3, 0, none⟩ = some (.bool ov)
  c4 : W.cell? ⟨B + 4, 0, none⟩ = some (.bool true)
  f2 : W.frozen? ⟨B + 2, 0, none⟩ = false
  f3 : W.frozen? ⟨B + 3, 0, none⟩ = false
  f4 : W.frozen? ⟨B + 4, 0, none⟩ = false

theorem GS.put {B : Nat} {v : Value} {st : Int} {k : Nat} {ov : Bool} {W : World} (h : GS B v st k ov W) (k' : Nat) (n' : Int) (ov' : Bool) (hn : n' = (k' : Int)) :
    GS B v st k' ov' (((W.setCell ⟨B + 4, 0, none⟩ (.bool true)).setCell ⟨B + 2, 0, none⟩ (.int .i64 n')).setCell ⟨B + 3, 0, none⟩ (.bool ov')) := by
  subst hn
  refine ⟨by rw [World.cell?_setCell_far _ _ _ _ (by simp), World.cell?_setCell_far _ _ _ _ (by simp), World.cell?_setCell_far _ _ _ _ (by simp)]; exact h.c0, by rw [World.cell?_setCell_far _ _ _ _ (by simp), World.cell?_setCell_far _ _ _ _ (by simp), World.cell?_setCell_far _ _ _ _ (by simp)]; exact h.c1, ?_, ?_, ?_, by simpa using h.f2, by simpa using h.f3, by simpa using h.f4⟩
  · rw [World.cell?_setCell_far _ _ _ _ (by simp)]
    exact World.cell?_setCell_same _ _ _ (u := .int .i64 k) (by rw [World.cell?_setCell_far _ _ _ _ (by simp)]; exact h.c2)
  · exact World.cell?_setCell_same _ _ _ (u := .bool ov) (by rw [World.cell?_setCell_far _ _ _ _ (by simp), World.cell?_setCell_far _ _ _ _ (by simp)]; exact h.c3)
  · rw [World.cell?_setCell_far _ _ _ _ (by simp), World.cell?_setCell_far _ _ _ _ (by simp)]
    exact World.cell?_setCell_same _ _ _ (u := .bool true) h.c4
theorem GS.drewN {B : Nat} {v : Value} {st : Int} {k : Nat} {ov : Bool} {W : World} (h : GS B v st k ov W) (n : Nat) : GS B v st k ov (W.drewN n) :=
  ⟨h.c0, h.c1, h.c2, h.c3, h.c4, h.f2, h.f3, h.f4⟩

set_option maxHeartbeats 1000000 in
theorem goes1 (x : ByteArray) (B : Nat) (v : Value) (st : Int) (k : Nat) (ws : List ByteArray) (W : World) (hG : GS B v st k false W) (hS : Strs W v ws) (hk : k < ws.length) (hx : ws.getD k ByteArray.empty = x) :
    Calls Tryd.prog 35 #[.string x, .pointer (some ⟨B + 4, 0, none⟩), .pointer (some ⟨B + 3, 0, none⟩), .pointer (some ⟨B + 2, 0, none⟩), .pointer (some ⟨B, 0, none⟩), .pointer (some ⟨B + 1, 0, none⟩)] W fun e w' => ∃ ov, e = .returned (.bool (!ov)) ∧ GS B v st (k + 1) ov w' ∧ Below B W w' := by
  rcases hS with ⟨rfl, ao, cap, rfl⟩ | ⟨b0, off, cap, rfl, h0, h1, h2⟩
  · simp at hk
  · have hcell := h2 k hk
    rw [hx] at hcell
    have HG := Lib.hid hG
    obtain ⟨c0, c1, c2, c3, c4, f2, f3, f4⟩ := hG
    have hq : (x.toList == x.toList) = true := by simp
    have hbl : ∀ n o, Below B W (((W.setCell ⟨B + 4, 0, none⟩ (.bool true)).setCell ⟨B + 2, 0, none⟩ (.int .i64 n)).setCell ⟨B + 3, 0, none⟩ (.bool o)) := fun n o => (((Below.refl B _).setCell (p := ⟨B + 4, 0, none⟩) (by simp) _).setCell (p := ⟨B + 2, 0, none⟩) (by simp) _).setCell (p := ⟨B + 3, 0, none⟩) (by simp) _
    have HB := Lib.hid hbl
    clear h2 hx hbl
    cases he : (((k : Int) + 1) == st) with
    | true =>
      go_enter Tryd.func35, Tryd.ntmps35
      go_wp2
      go_ret
      exact ⟨true, rfl, HG.out.put (k + 1) _ true (by omega), HB.out _ _⟩
    | false =>
      go_enter Tryd.func35, Tryd.ntmps35
      go_wp2
      go_ret
      exact ⟨false, rfl, HG.out.put (k + 1) _ false (by omega), HB.out _ _⟩

theorem heap5 (w : World) (a b c d e : Obj) : ((((((w.alloc a).alloc b).alloc c).alloc d).alloc e).heap[w.heap.size]? = some a) ∧ ((((((w.alloc a).alloc b).alloc c).alloc d).alloc e).heap[w.heap.size + 1]? = some b) ∧ ((((((w.alloc a).alloc b).alloc c).alloc d).alloc e).heap[w.heap.size + 2]? = some c) ∧ ((((((w.alloc a).alloc b).alloc c).alloc d).alloc e).heap[w.heap.size + 3]? = some d) ∧ ((((((w.alloc a).alloc b).alloc c).alloc d).alloc e).heap[w.heap.size + 4]? = some e) := by
  have key : (((((w.alloc a).alloc b).alloc c).alloc d).alloc e).heap = ((((w.heap.push a).push b).push c).push d).push e := rfl
  rw [key]
  refine ⟨?_, ?_, ?_, ?_, ?_⟩ <;> (simp only [Array.getElem?_push, Array.size_push]; repeat (first | rw [if_pos trivial] | rw [if_pos rfl] | rw [if_neg (by omega)]))

set_option maxHeartbeats 1000000 in
theorem goes_any (s : ByteArray) (q : Addr) (v : Value) (st : Int) (w : World) (he : Env w) (hs : s.size ≤ 1000000) (hq : w.cell? q = some (.string s)) (hqb : q.block < w.heap.size) (hS : Strs w v ((lns (L s)).map S)) :
    Calls Tryd.prog 13 #[.func (.func 31) #[] #[.pointer (some q)], v, .int .i64 st] w fun e w' => e = .returned (.bool true) ∧ Below w.heap.size w w' := by
  have hmf : ∀ (fn : Fn) (first cap : Array Value) (w : World), (Instr.makeFunc fn first cap).run Tryd.prog w = .ok (.func fn first cap) w := fun _ _ _ _ => rfl
  have HS := Lib.hid hS
  have hlen : ∀ W : World, True := fun _ => trivial
  clear hlen
  have hv : ∃ ao cap, v = .slice ao (lns (L s)).length cap := by
    rcases hS with ⟨h, ao, cap, rfl⟩ | ⟨b0, off, cap, rfl, _⟩
    · have : (lns (L s)) = [] := by simpa using h
      exact ⟨ao, cap, by rw [this]; rfl⟩
    · exact ⟨_, cap, by rw [List.length_map]⟩
  obtain ⟨ao, cap, rfl⟩ := hv
  clear hS
  go_enter Tryd.func13, Tryd.ntmps13
  go_wp2_with fail
  have hA : Below w.heap.size w (((((w.alloc (.cells #[.slice ao (lns (L s)).length cap] 22)).alloc (.cells #[.int .i64 st] 3)).alloc (.cells #[.int .i64 0] 3)).alloc (.cells #[.bool false] 4)).alloc (.cells #[.bool true] 4)) :=
    (((((Below.refl _ _).alloc (Nat.le_refl _) _).alloc (by simp) _).alloc (by simp <;> omega) _).alloc (by simp <;> omega) _).alloc (by simp <;> omega) _
  have hG0 : GS w.heap.size (.slice ao (lns (L s)).length cap) st 0 false (((((w.alloc (.cells #[.slice ao (lns (L s)).length cap] 22)).alloc (.cells #[.int .i64 st] 3)).alloc (.cells #[.int .i64 0] 3)).alloc (.cells #[.bool false] 4)).alloc (.cells #[.bool true] 4)) := by
    obtain ⟨k0, k1, k2, k3, k4⟩ := heap5 w (.cells #[.slice ao (lns (L s)).length cap] 22) (.cells #[.int .i64 st] 3) (.cells #[.int .i64 0] 3) (.cells #[.bool false] 4) (.cells #[.bool true] 4)
    exact ⟨cell_of_row _ _ 0 _ _ _ k0, cell_of_row _ _ 0 _ _ _ k1, cell_of_row _ _ 0 _ _ _ k2, cell_of_row _ _ 0 _ _ _ k3, cell_of_row _ _ 0 _ _ _ k4, frozen_of_row _ _ 0 _ _ k2, frozen_of_row _ _ 0 _ _ k3, frozen_of_row _ _ 0 _ _ k4⟩
  obtain ⟨w5, hw5⟩ : ∃ w5, w5 = (((((w.alloc (.cells #[.slice ao (lns (L s)).length cap] 22)).alloc (.cells #[.int .i64 st] 3)).alloc (.cells #[.int .i64 0] 3)).alloc (.cells #[.bool false] 4)).alloc (.cells #[.bool true] 4)) := ⟨_, rfl⟩
  rw [← hw5] at hA hG0 ⊢
  clear hw5
  refine (linesG s q ⟨w.heap.size + 4, 0, none⟩ ⟨w.heap.size + 3, 0, none⟩ ⟨w.heap.size + 2, 0, none⟩ ⟨w.heap.size, 0, none⟩ ⟨w.heap.size + 1, 0, none⟩ w5 hs
    (fun r W => ∃ k, k ≤ (lns (L s)).length ∧ lns r = (lns (L s)).drop k ∧ GS w.heap.size (.slice ao (lns (L s)).length cap) st k false W ∧ Below w.heap.size w W)
    (fun W => ∃ k, GS w.heap.size (.slice ao (lns (L s)).length cap) st k true W ∧ Below w.heap.size w W) ?_ ?_ ?_ ?_ ⟨0, Nat.zero_le _, rfl, hG0, hA⟩).mono ?_
  · rintro r W ⟨k, _, _, _, h3⟩
    exact (he.on h3).most
  · rintro r W n ⟨k, h0, h1, h2, h3⟩
    exact ⟨k, h0, h1, h2.drewN n, below_drewN h3 n⟩
  · rintro r W hr hrl ⟨k, h0, h1, h2, h3⟩
    rw [lns_step r hr] at h1
    have hk : k < (lns (L s)).length := by
      rcases Nat.lt_or_ge k (lns (L s)).length with h | h
      · exact h
      · rw [List.drop_eq_nil_of_le h] at h1; cases h1
    rw [List.drop_eq_getElem_cons hk] at h1
    obtain ⟨h4, h5⟩ := List.cons.inj h1
    refine (goes1 (S (cutN r).1) w.heap.size _ st k ((lns (L s)).map S) W h2 (HS.out.on h3) (by simpa using hk) (by simp [hk, h4])).mono ?_
    rintro e W' ⟨ov, rfl, k2, k3⟩
    refine ⟨!ov, rfl, fun hb => ?_, fun hb => ?_⟩
    · have : ov = false := by simpa using hb
      subst this
      exact ⟨k + 1, hk, h5, k2, h3.trans k3⟩
    · have : ov = true := by simpa using hb
      subst this
      exact ⟨k + 1, k2, h3.trans k3⟩
  · rw [hA.cell hqb]; exact hq
  rintro e w6 ⟨rfl, h6⟩
  rcases h6 with ⟨k, h0, h1, h2, h3⟩ | ⟨k, h2, h3⟩
  · have hk : k = (lns (L s)).length := by
      rw [lns_nil] at h1
      have := congrArg List.length h1
      simp at this
      omega
    subst hk
    obtain ⟨c0, c1, c2, c3, c4, f2, f3, f4⟩ := h2
    have c2' : w6.cell? ⟨w.heap.size + 1 + 1, 0, none⟩ = _ := c2
    have c3' : w6.cell? ⟨w.heap.size + 1 + 1 + 1, 0, none⟩ = _ := c3
    have c4' : w6.cell? ⟨w.heap.size + 1 + 1 + 1 + 1, 0, none⟩ = _ := c4
    clear h0 h1 hmf
    go_wp2
    go_ret
    exact ⟨rfl, h3⟩
  · obtain ⟨c0, c1, c2, c3, c4, f2, f3, f4⟩ := h2
    have c2' : w6.cell? ⟨w.heap.size + 1 + 1, 0, none⟩ = _ := c2
    have c3' : w6.cell? ⟨w.heap.size + 1 + 1 + 1, 0, none⟩ = _ := c3
    have c4' : w6.cell? ⟨w.heap.size + 1 + 1 + 1 + 1, 0, none⟩ = _ := c4
    clear hmf
    go_wp2
    go_ret
    exact ⟨rfl, h3⟩
end Go.Proofs.YtclegocofiigiabDoor
