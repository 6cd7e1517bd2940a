/- span: lists of pieces in memory; IndexFunc, ContainsFunc, Has. -/
import Derived.Test.YtlmlbcnjohjnlaaDoorVc
import Derived.Shelf.Abstract
import Derived.Lib.Walk
import Derived.Deep.LoopGhost
namespace Go.Proofs.YtlmlbcnjohjnlaaDoor
open Go.RowKit

/-- v is a list of pieces, l, in memory that is there. -/
def Rgs (w : World) (v : Value) (l : List Rg) : Prop :=
  (l = [] ∧ ∃ ao cap, v = .slice ao 0 cap ∧ (ao = none → cap = 0)) ∨ ∃ b off cap, v = .slice (some ⟨b, off, none⟩) l.length cap ∧ l.length ≤ 8796093022208 ∧ b < w.heap.size ∧ ∀ i, i < l.length → w.cell? ⟨b, off + i * 2, none⟩ = some (.int .i64 (l.getD i (0, 0)).1) ∧ w.cell? ⟨b, off + i * 2 + 1, none⟩ = some (.int .i64 (l.getD i (0, 0)).2)
theorem Rgs.on {w w' : World} {v : Value} {l : List Rg} (h : Rgs w v l) (hb : Below w.heap.size w w') : Rgs w' v l := by
  rcases h with h | ⟨b, off, cap, rfl, h0, h1, h2⟩
  · exact .inl h
  · refine .inr ⟨b, off, cap, rfl, h0, Nat.lt_of_lt_of_le h1 hb.size, fun i hi => ?_⟩
    rw [hb.cell (p := ⟨b, off + i * 2, none⟩) h1, hb.cell (p := ⟨b, off + i * 2 + 1, none⟩) h1]
    exact h2 i hi
theorem any_getD {l : List Rg} {p : Rg → Bool} (h : ∀ j, j < l.length → p (l.getD j (0, 0)) = false) : l.any p = false := by
  rw [List.any_eq_false]
  intro x hx
  obtain ⟨j, hj, rfl⟩ := List.mem_iff_getElem.1 hx
  have := h j hj
  rw [List.getD_eq_getElem?_getD, List.getElem?_eq_getElem hj] at this
  simpa using this
theorem any_hit {l : List Rg} {p : Rg → Bool} (j : Nat) (hj : j < l.length) (h : p (l.getD j (0, 0)) = true) : l.any p = true := by
  rw [List.any_eq_true]
  refine ⟨_, List.getElem_mem hj, ?_⟩
  rw [List.getD_eq_getElem?_getD, List.getElem?_eq_getElem hj] at h
  simpa using h

set_option maxRecDepth 100000 in
set_option maxHeartbeats 2000000 in
theorem indexFunc_any (g : Nat) (lb : Array Value) (eg : ∀ args w, (callFunc g args).run Tryd.prog w = .ok (.enter g args) w) (p : Rg → Bool) (v : Value) (l : List Rg) (w : World) (hr : Rgs w v l)
    (hp : ∀ a b X, Below w.heap.size w X → Calls Tryd.prog g (#[rgV a b] ++ lb) X fun e w' => e = .returned (.bool (p (a, b))) ∧ Below X.heap.size X w') :
    Calls Tryd.prog 79 #[v, .func (.func g) #[] lb] w fun e w' => (∃ i : Int, e = .returned (.int .i64 i) ∧ decide (0 ≤ i) = l.any p) ∧ Below w.heap.size w w' := by
  rcases hr with ⟨rfl, ao, cap, rfl, _⟩ | ⟨b, off, cap, rfl, hl, hb, hc⟩
  · go_enter Tryd.func79, Tryd.ntmps79
    go_wp2
    refine wp_loop_rounds 1 ?_
    rw [rounds_succ]
    go_wp2
    go_ret
    exact ⟨⟨-1, rfl, rfl⟩, Below.refl _ _⟩
  · have HC := Lib.hid hc
    have HP := Lib.hid hp
    clear hc hp
    go_enter Tryd.func79, Tryd.ntmps79
    go_wp2
    go_loopg [5, 8] l.length (fun gg _ s8 wr => ∃ kk : Nat, kk ≤ l.length ∧ l.length - kk ≤ gg ∧ s8 = .int .i64 kk ∧ Below w.heap.size w wr ∧ Hid (∀ j, j < kk → p (l.getD j (0, 0)) = false))
    case atStart => exact ⟨0, Nat.zero_le _, by omega, rfl, Below.refl _ _, Lib.hid fun j hj => absurd hj (Nat.not_lt_zero _)⟩
    case round =>
      obtain ⟨kk, hkk, hg, rfl, hbw, A⟩ := hrel
      by_cases hlt : kk < l.length
      · have hltz : (kk : Int) < (l.length : Int) := by omega
        obtain ⟨c1, c2⟩ := HC.out kk hlt
        rw [← hbw.cell (p := ⟨b, off + kk * 2, none⟩) hb] at c1
        rw [← hbw.cell (p := ⟨b, off + kk * 2 + 1, none⟩) hb] at c2
        have HQ : Hid (l.getD kk (0, 0) = ((l.getD kk (0, 0)).1, (l.getD kk (0, 0)).2)) := Lib.hid rfl
        generalize (l.getD kk (0, 0)).1 = x at *
        generalize (l.getD kk (0, 0)).2 = y at *
        have hcall := Lib.hid (HP.out x y _ hbw)
        have hbl := hbw.size
        cases hq : p (x, y) with
        | true =>
          rw [hq] at hcall
          have HT : Hid (l.any p = true) := Lib.hid (any_hit kk hlt (by rw [HQ.out]; exact hq))
          clear hq
          go_wp2_with (go_at_fn g; refine hcall.out.mono ?_; rintro e w' ⟨rfl, hb'⟩)
          go_ret
          exact ⟨⟨kk, rfl, by rw [HT.out]; simp⟩, hbw.trans (hb'.mono hbl)⟩
        | false =>
          rw [hq] at hcall
          have HF : Hid (p (l.getD kk (0, 0)) = false) := Lib.hid (by rw [HQ.out]; exact hq)
          clear hq
          go_wp2_with (go_at_fn g; refine hcall.out.mono ?_; rintro e w' ⟨rfl, hb'⟩)
          go_roundg (l.length - (kk + 1))
          case measure => omega
          case rel =>
            refine ⟨kk + 1, by omega, by omega, by go_num, hbw.trans (hb'.mono hbl), Lib.hid fun j hj => ?_⟩
            by_cases e : j = kk
            · subst e; exact HF.out
            · exact A.out j (by omega)
      · have hltz : ¬ (kk : Int) < (l.length : Int) := by omega
        have : kk = l.length := by omega
        subst this
        go_wp2
        go_ret
        exact ⟨⟨-1, rfl, by rw [any_getD A.out]; rfl⟩, hbw⟩

set_option maxHeartbeats 1000000 in
theorem containsFunc_any (g : Nat) (lb : Array Value) (eg : ∀ args w, (callFunc g args).run Tryd.prog w = .ok (.enter g args) w) (p : Rg → Bool) (v : Value) (l : List Rg) (w : World) (hr : Rgs w v l)
    (hp : ∀ a b X, Below w.heap.size w X → Calls Tryd.prog g (#[rgV a b] ++ lb) X fun e w' => e = .returned (.bool (p (a, b))) ∧ Below X.heap.size X w') :
    Calls Tryd.prog 75 #[v, .func (.func g) #[] lb] w fun e w' => e = .returned (.bool (l.any p)) ∧ Below w.heap.size w w' := by
  have H := Lib.hid (indexFunc_any g lb eg p v l w hr hp)
  clear hp hr
  generalize l.any p = r at *
  go_enter Tryd.func75, Tryd.ntmps75
  go_wp2_with fail
  refine H.out.mono ?_
  rintro e w' ⟨⟨i, rfl, hi⟩, hb⟩
  have HI := Lib.hid hi
  clear hi
  go_wp2_with fail
  go_ret
  exact ⟨ret_bool HI.out, hb⟩

theorem has_eq (l : List Rg) (n g : Int) (hg : 1 ≤ g) : l.any (fun p => hitB p.1 p.2 n g) = hasB l n g := by
  unfold hasB hitB
  rw [decide_eq_true hg, Bool.true_and]
set_option maxHeartbeats 1000000 in
theorem has_any (v : Value) (l : List Rg) (n g : Int) (w : World) (hr : Rgs w v l) :
    Calls Tryd.prog 76 #[v, .int .i64 n, .int .i64 g] w fun e w' => e = .returned (.bool (hasB l n g)) ∧ Below w.heap.size w w' := by
  by_cases hg : 1 ≤ g
  · have HL := Lib.hid (has_eq l n g hg)
    have H := Lib.hid (containsFunc_any 80 #[.pointer (some ⟨w.heap.size + 1, 0, none⟩), .pointer (some ⟨w.heap.size, 0, none⟩)] (enters_of Tryd.func80 (by kernel_rfl) rfl) (fun p => hitB p.1 p.2 n g) v l ((w.alloc (.cells #[.int .i64 n] 3)).alloc (.cells #[.int .i64 g] 3))
      (hr.on (((Below.refl _ _).alloc (Nat.le_refl _) _).alloc (by simp) _))
      (fun a b X hb => hasC_any a b n g w.heap.size (w.heap.size + 1) X (by rw [hb.cell (by simp; omega)]; simp) (by rw [hb.cell (by simp)]; simp)))
    clear hr
    go_enter Tryd.func76, Tryd.ntmps76
    go_wp2_with fail
    refine H.out.mono ?_
    rintro e w' ⟨rfl, hb⟩
    have HB := Lib.hid hb
    clear hb
    go_wp2_with fail
    go_ret
    exact ⟨ret_bool HL.out, (((Below.refl _ _).alloc (Nat.le_refl _) _).alloc (by simp) _).trans (HB.out.mono (by simp; omega))⟩
  · have HL : Hid (hasB l n g = false) := Lib.hid (by unfold hasB; rw [decide_eq_false hg, Bool.false_and])
    clear hr
    go_enter Tryd.func76, Tryd.ntmps76
    go_wp2
    go_ret
    exact ⟨ret_bool HL.out.symm, ((Below.refl _ _).alloc (Nat.le_refl _) _).alloc (by simp) _⟩
end Go.Proofs.YtlmlbcnjohjnlaaDoor
