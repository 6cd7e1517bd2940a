/- mirror: the first that waits; is a SELECT at hand; may something be told. -/
import Derived.Test.YtfcpmiafliegiaaDoorM19b
namespace Go.Proofs.YtfcpmiafliegiaaDoor
open Go.RowKit

def akZ : Obj := .cells #[.string ⟨#[]⟩, .int .i64 0, .bool false, .bool false, .slice none 0 0] 78
theorem two_below (w : World) (o o' : Obj) : Below w.heap.size w ((w.alloc o).alloc o') := ((Below.refl _ _).alloc (Nat.le_refl _) _).alloc (by simp) _
def handK : Option AK → AK
  | none => AK0
  | some k => k
theorem first_none (P : Nat) (q : Value) (w : World) (hq : w.cell? ⟨P, 0, none⟩ = some q) (hP : P < w.heap.size) (hh : Hand w q none) :
    Calls Tryd.prog 35 #[.pointer (some ⟨P, 0, none⟩)] w fun e w' => e = .returned (.tuple #[.agg (akC AK0), .bool false]) ∧ Below w.heap.size w w' := by
  obtain ⟨a, c, rfl⟩ := hh
  have q2 := two_below w akZ akZ
  have c2 : ((w.alloc akZ).alloc akZ).cell? ⟨P, 0, none⟩ = some (.slice a 0 c) := by rw [q2.cell (p := ⟨P, 0, none⟩) hP]; exact hq
  unfold akZ at c2
  have Q2 := Lib.hid q2
  clear q2 hq
  go_enter Tryd.func35, Tryd.ntmps35
  go_wp2_with fail
  refine bodyPost_ret (res2 Tryd.results35 _ _ w.heap.size 78 (akC AK0) (0, 0) _ rfl ?_ Tryd.underlying78 rfl Tryd.sizeAk) rfl ⟨rfl, Q2.out⟩
  rw [Below.heap_alloc _ _ _ (by simp)]
  exact heap_new _ _
set_option maxRecDepth 10000 in
theorem first_some (P : Nat) (q : Value) (k : AK) (w : World) (hq : w.cell? ⟨P, 0, none⟩ = some q) (hP : P < w.heap.size) (hh : Hand w q (some k)) :
    Calls Tryd.prog 35 #[.pointer (some ⟨P, 0, none⟩)] w fun e w' => e = .returned (.tuple #[.agg (akC k), .bool true]) ∧ Below w.heap.size w w' := by
  obtain ⟨g, o, n, c, rfl, hn, hg, ⟨sa, sn, sc, hs⟩, h0, h1, h2, h3, h4⟩ := hh
  obtain ⟨kt, kv, ku, ks, kst⟩ := k
  simp only at hs h0 h1 h2 h3 h4
  subst hs
  have q2 := two_below w akZ akZ
  obtain ⟨Y, hY⟩ : ∃ Y, (w.alloc akZ).alloc akZ = Y := ⟨_, rfl⟩
  rw [hY] at q2
  have cq : Y.cell? ⟨P, 0, none⟩ = some (.slice (some ⟨g, o, none⟩) (n + 1) c) := by rw [q2.cell (p := ⟨P, 0, none⟩) hP]; exact hq
  have k0 : Y.cell? ⟨g, o, none⟩ = some (.string kt) := by rw [q2.cell (p := ⟨g, o, none⟩) hg]; exact h0
  have k1 : Y.cell? ⟨g, o + 1, none⟩ = some (.int .i64 kv) := by rw [q2.cell (p := ⟨g, o + 1, none⟩) hg]; exact h1
  have k2 : Y.cell? ⟨g, o + 2, none⟩ = some (.bool ku) := by rw [q2.cell (p := ⟨g, o + 2, none⟩) hg]; exact h2
  have k3 : Y.cell? ⟨g, o + 3, none⟩ = some (.bool ks) := by rw [q2.cell (p := ⟨g, o + 3, none⟩) hg]; exact h3
  have k4 : Y.cell? ⟨g, o + 4, none⟩ = some (.slice sa sn sc) := by rw [q2.cell (p := ⟨g, o + 4, none⟩) hg]; exact h4
  have r0 : Y.heap[w.heap.size]? = some akZ := by rw [← hY, Below.heap_alloc _ _ _ (by simp)]; exact heap_new _ _
  have R0 := Lib.hid r0
  have Q2 := Lib.hid q2
  have HY := Lib.hid hY
  have H1 : Hid ((#[.string kt, .int .i64 kv, .bool ku, .bool ks, .slice sa sn sc] : Array Value).all (·.oneCell') = true) := Lib.hid (by simp [Value.oneCell'])
  have n1 : ¬ ((n : Int) + 1 = 0) := by omega
  have n2 : (0 : Int) < (n : Int) + 1 := by omega
  clear q2 hq h0 h1 h2 h3 h4 hn r0 hY
  go_enter Tryd.func35, Tryd.ntmps35
  go_upto_region 2 with fail
  rw [show (w.alloc (.cells #[.string ⟨#[]⟩, .int .i64 0, .bool false, .bool false, .slice none 0 0] 78)).alloc (.cells #[.string ⟨#[]⟩, .int .i64 0, .bool false, .bool false, .slice none 0 0] 78) = Y from HY.out]
  go_wp2_with (first | (refine wpList_store_row rfl 78 _ _ rfl w.heap.size #[.string kt, .int .i64 kv, .bool ku, .bool ks, .slice sa sn sc] rfl rfl 78 _ R0.out Tryd.sizeAk rfl H1.out ?_))
  refine bodyPost_ret (res2 Tryd.results35 _ _ w.heap.size 78 #[.string kt, .int .i64 kv, .bool ku, .bool ks, .slice sa sn sc] (0, 0) _ rfl (setRow_heap _ _ _ _ _ _ R0.out) Tryd.underlying78 rfl Tryd.sizeAk) rfl ⟨rfl, ?_⟩
  have := Q2.out
  exact ⟨this.os, this.tape, this.output, by simpa [World.setRow] using this.size, fun b hb => by rw [setRow_other _ _ _ _ (by omega)]; exact this.block b hb⟩
def opn : Option AK → Bool
  | none => false
  | some k => k.verb == 5 || k.verb == 6
theorem third_below {w w' : World} (h : Below w.heap.size w w') (o : Obj) : Below w.heap.size w (w'.alloc o) := h.alloc h.size _
set_option maxRecDepth 10000 in
theorem isOpening_any (P : Nat) (q : Value) (k : Option AK) (w : World) (hq : w.cell? ⟨P, 0, none⟩ = some q) (hP : P < w.heap.size) (hh : Hand w q k) :
    Calls Tryd.prog 28 #[.pointer (some ⟨P, 0, none⟩)] w fun e w' => e = .returned (.bool (opn k)) ∧ Below w.heap.size w w' := by
  cases k with
  | none =>
    have H := Lib.hid (first_none P q w hq hP hh)
    clear hq hh
    go_enter Tryd.func28, Tryd.ntmps28
    unfold akC AK0 at H
    go_wp2_with (go_at_call 35; refine H.out.mono ?_; rintro e w1 ⟨rfl, hb1⟩; have HB1 := Lib.hid hb1; clear hb1)
    go_ret
    first | exact ⟨rfl, third_below HB1.out _⟩ | exact third_below HB1.out _
  | some k =>
    have H := Lib.hid (first_some P q k w hq hP hh)
    have HO : Hid (∀ X, Calls Tryd.prog 36 #[.agg (akC k)] X fun e w' => e = .returned (.bool (k.verb == 5 || k.verb == 6)) ∧ Below X.heap.size X w') := Lib.hid (fun X => opens_any k X)
    obtain ⟨g, o, n, c, rfl, hn, hg, ⟨sa, sn, sc, hs⟩, _⟩ := hh
    show Calls _ _ _ _ fun e w' => e = .returned (.bool (k.verb == 5 || k.verb == 6)) ∧ Below w.heap.size w w'
    obtain ⟨b, hb⟩ : ∃ b, (k.verb == 5 || k.verb == 6) = b := ⟨_, rfl⟩
    rw [hb] at HO ⊢
    unfold akC at H HO
    obtain ⟨kt, kv, ku, ks, kst⟩ := k
    simp only at hs H HO
    subst hs
    clear hq hn hg hb
    go_enter Tryd.func28, Tryd.ntmps28
    go_wp2_with (first | (go_at_call 35; refine H.out.mono ?_; rintro e w1 ⟨rfl, hb1⟩; have HB1 := Lib.hid hb1; clear hb1) | (go_at_call 36; refine (HO.out _).mono ?_; rintro e w2 ⟨rfl, hb2⟩; have HB2 := Lib.hid hb2; clear hb2))
    go_ret
    first | exact ⟨rfl, (third_below HB1.out _).trans (HB2.out.mono (third_below HB1.out _).size)⟩ | exact (third_below HB1.out _).trans (HB2.out.mono (third_below HB1.out _).size)
end Go.Proofs.YtfcpmiafliegiaaDoor
