/- DiskNews: the walk. -/
import Derived.Test.YtfihgofgidmmiaaDoorD9fe
import Derived.Test.YtfihgofgidmmiaaDoorD9ze
namespace Go.Proofs.YtfihgofgidmmiaaDoor
open Go.RowKit Go.Lib

def kNew : ByteArray := ⟨#[110, 101, 119]⟩
theorem cell_up {w W : World} {g : Nat} {v : Value} (h : w.cell? ⟨g, 0, none⟩ = some v) (hb : Below w.heap.size w W) : W.cell? ⟨g, 0, none⟩ = some v := by
  rw [World.cell?_of_block (hb.block g (World.block_lt_of_cell? w _ h))]; exact h
set_option maxHeartbeats 4000000 in
theorem news_ok {A : Whys} {B : Nat} {w : World} (he : Env A B w) (qn : Nat) (h1 : 1 ≤ qn) (h2 : qn ≤ 1048576) :
    Calls Tryd.prog 6 #[.int .i64 (qn : Int)] w fun e w' => e = .returned (.bool true) ∧ Below w.heap.size w w' := by
  have HK := Lib.hid (known_any he)
  have HN := Lib.hid (fun W (hb : Below w.heap.size w W) => NewD (A := A) (w0 := w) (w := W) hb ((he.up he.hi (Nat.le_refl _)).below hb) qn h1 h2)
  obtain ⟨q, hq⟩ : ∃ q : Int, q = (qn : Int) := ⟨_, rfl⟩
  have HR := Lib.hid (fun W => rNew_ok q (by omega) (by omega) W)
  have HS : Hid (∀ d W W', Dk A w d ⟨qn, 0, true, []⟩ [] [] W → Below W.heap.size W W' → Calls Tryd.prog 29 #[.pointer (some ⟨d, 0, none⟩), refD q] W' fun e w' => e = .returned (.bool true) ∧ Below w.heap.size w w') := Lib.hid (fun d W W' hD hb => (same_none (hD.up hb) q hq (by omega)).mono (fun e w' ⟨g1, g2⟩ => ⟨g1, (hD.up hb).below.trans (g2.mono (hD.up hb).below.size)⟩))
  rw [← hq]
  clear he h1 h2
  simp only [← hq] at HN
  clear hq
  unfold refD at *
  go_enter Tryd.func6, Tryd.ntmps6
  go_wp2_with (first | (go_at_call 8; refine HK.out.mono ?_; rintro e w1 ⟨rfl, hb1⟩; have HB1 := Lib.hid hb1; clear hb1) | (go_at_call 9; refine (HN.out _ HB1.out).mono ?_; rintro e w2 ⟨d, rfl, h2⟩; have K2 := Lib.hid h2; clear h2) | (go_at_call 27; refine (HR.out _).mono ?_; rintro e w3 ⟨rfl, hb3⟩; have HB3 := Lib.hid hb3; clear hb3) | (go_at_call 28; refine (told_nil _ _ _ _).mono ?_; rintro e w4 ⟨rfl, hw4⟩; subst w4) | (go_at_call 29; refine (HS.out _ _ _ K2.out (HB3.out.alloc HB3.out.size _)).mono ?_; rintro e w5 ⟨rfl, hb5⟩; have HB5 := Lib.hid hb5; clear hb5))
  go_ret
  exact ⟨rfl, HB5.out⟩
set_option maxHeartbeats 4000000 in
theorem news_bad {A : Whys} {B : Nat} {w : World} (he : Env A B w) (hg : w.cell? ⟨2, 0, none⟩ = some (rtV 25)) (q : Int) (hq : q < 1 ∨ 1048576 < q) :
    Calls Tryd.prog 6 #[.int .i64 q] w fun e w' => e = .returned (.bool true) ∧ Below w.heap.size w w' := by
  have HK := Lib.hid (known_any he)
  have HN : Hid (∀ W, Below w.heap.size w W → Calls Tryd.prog 9 #[.int .i64 q] W fun e w' => ∃ p, e = .returned (.tuple #[.pointer none, failV p]) ∧ Below w.heap.size w w' ∧ w'.heap[p]? = some (failObj A kNew ⟨#[]⟩ 0 3)) := Lib.hid (fun W hW => (New_bad A B q W (he.below (hW.mono he.hi)) hq).mono (fun e w' ⟨g1, g2⟩ => ⟨_, g1, by rw [g2]; exact hW.alloc hW.size _, by rw [g2]; exact heap_alloc_new _ _⟩))
  have HR := Lib.hid (fun W => rNew_bad q hq W)
  have HT : Hid (∀ W p, Below w.heap.size w W → W.heap[p]? = some (failObj A kNew ⟨#[]⟩ 0 3) → Calls Tryd.prog 28 #[failV p, .int .i64 3, .string kNew, .string ⟨#[]⟩, .int .i64 0] W fun e w' => e = .returned (.bool true) ∧ Below w.heap.size w w') := Lib.hid (fun W p hW hp => (told_fail (he.below (hW.mono he.hi)) (cell_up hg hW) kNew ⟨#[]⟩ 0 3 (by decide) hp).mono (fun e w' ⟨g1, g2⟩ => ⟨g1, hW.trans (g2.mono hW.size)⟩))
  clear he hg hq
  unfold refD failV at *
  go_enter Tryd.func6, Tryd.ntmps6
  go_wp2_with (first | (go_at_call 8; refine HK.out.mono ?_; rintro e w1 ⟨rfl, hb1⟩; have HB1 := Lib.hid hb1; clear hb1) | (go_at_call 9; refine (HN.out _ HB1.out).mono ?_; rintro e w2 ⟨p, rfl, h2⟩; have K2 := Lib.hid h2; clear h2) | (go_at_call 27; refine (HR.out _).mono ?_; rintro e w3 ⟨rfl, hb3⟩; have HB3 := Lib.hid hb3; clear hb3) | (go_at_call 28; refine (HT.out _ _ ((K2.out.1.trans (HB3.out.mono K2.out.1.size)).alloc (Nat.le_trans K2.out.1.size HB3.out.size) _) (by rw [(HB3.out.alloc HB3.out.size _).block _ (lt_of_heap K2.out.2)]; exact K2.out.2)).mono ?_; rintro e w4 ⟨rfl, hb4⟩; have HB4 := Lib.hid hb4; clear hb4))
  go_ret
  exact ⟨rfl, HB4.out⟩
theorem DiskNews_walk (q : Int) (w : World) (he : ∃ A B, Env A B w ∧ w.cell? ⟨2, 0, none⟩ = some (rtV 25)) :
    Calls Tryd.prog 6 #[.int .i64 q] w fun e w' => e = .returned (.bool true) ∧ Below w.heap.size w w' := by
  obtain ⟨A, B, he, hg⟩ := he
  by_cases hq : q < 1 ∨ 1048576 < q
  · exact news_bad he hg q hq
  · obtain ⟨qn, rfl⟩ : ∃ qn : Nat, q = (qn : Int) := ⟨q.toNat, by omega⟩
    exact news_ok he qn (by omega) (by omega)
end Go.Proofs.YtfihgofgidmmiaaDoor
