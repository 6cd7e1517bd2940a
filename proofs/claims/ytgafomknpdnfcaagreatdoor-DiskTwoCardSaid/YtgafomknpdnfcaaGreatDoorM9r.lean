/- DiskTwo: a quota that is refused; the walk whole. -/
import Derived.Test.YtgafomknpdnfcaaGreatDoorM9q
namespace Go.Proofs.YtgafomknpdnfcaaGreatDoor
open Go.RowKit Go.Lib

/-- A quota. -/
def quoI (x : Int) : Prop := 1 ≤ x ∧ x ≤ 1048576
theorem newB {A : Whys} {B : Nat} {w : World} (he : Env A B w) (x : Int) (hx : ¬ quoI x) : ∀ W, Below w.heap.size w W → Calls Tryz.prog 6 #[.int .i64 x] W fun e w' => ∃ p, e = .returned (.tuple #[.pointer none, .iface 87 (.pointer (some ⟨p, 0, none⟩))]) ∧ Below w.heap.size w w' := fun W hb => by
  refine (New_bad A w.heap.size x W ((he.up he.hi (Nat.le_refl _)).below hb) (by unfold quoI at hx; omega)).mono ?_
  rintro e w' ⟨rfl, rfl⟩
  exact ⟨_, rfl, hb.alloc hb.size _⟩
theorem newG {A : Whys} {B : Nat} {w : World} (he : Env A B w) (x : Int) (hx : quoI x) : ∀ W, Below w.heap.size w W → Calls Tryz.prog 6 #[.int .i64 x] W fun e w' => ∃ p, e = .returned (.tuple #[.pointer (some ⟨p, 0, none⟩), .nilIface]) ∧ Below w.heap.size w w' := fun W hb => by
  obtain ⟨q, rfl⟩ : ∃ q : Nat, x = (q : Int) := ⟨x.toNat, by unfold quoI at hx; omega⟩
  refine (NewD (A := A) (w0 := w) (w := W) hb ((he.up he.hi (Nat.le_refl _)).below hb) q (by unfold quoI at hx; omega) (by unfold quoI at hx; omega)).mono ?_
  rintro e w' ⟨d, rfl, hD⟩
  exact ⟨d, rfl, hD.w0⟩
theorem refB {w : World} (x : Int) (hx : ¬ quoI x) : ∀ W, Below w.heap.size w W → Calls Tryz.prog 7 #[.int .i64 x] W fun e w' => e = .returned (.tuple #[.agg #[.slice none 0 0, .int .i64 0, .int .i64 0, .slice none 0 0, .int .i64 0, .bool false], .int .i64 3]) ∧ Below w.heap.size w w' := fun W hb => by
  refine (rNew_bad x (by unfold quoI at hx; omega) W).mono ?_
  rintro e w' ⟨rfl, h⟩
  exact ⟨rfl, hb.trans (h.mono hb.size)⟩
theorem refG {w : World} (x : Int) (hx : quoI x) : ∀ W, Below w.heap.size w W → Calls Tryz.prog 7 #[.int .i64 x] W fun e w' => e = .returned (.tuple #[.agg #[.slice none 0 0, .int .i64 x, .int .i64 0, .slice none 0 0, .int .i64 0, .bool false], .int .i64 0]) ∧ Below w.heap.size w w' := fun W hb => by
  refine (rNew_ok x hx.1 hx.2 W).mono ?_
  rintro e w' ⟨rfl, h⟩
  exact ⟨rfl, hb.trans (h.mono hb.size)⟩
set_option maxRecDepth 20000 in
set_option maxHeartbeats 4000000 in
theorem two_BB {A : Whys} {B : Nat} {w : World} (he : Env A B w) (x1 x2 : Int) (hx1 : ¬ quoI x1) (hx2 : ¬ quoI x2) (a : Option Addr) (len c : Nat) :
    Calls Tryz.prog 4 #[.int .i64 x1, .int .i64 x2, .slice a len c] w fun e w' => e = .returned (.bool true) ∧ Below w.heap.size w w' := by
  have HK := Lib.hid (known_any he)
  have HN1 := Lib.hid (newB he x1 hx1)
  have HN2 := Lib.hid (newB he x2 hx2)
  have HR1 := Lib.hid (refB (w := w) x1 hx1)
  have HR2 := Lib.hid (refB (w := w) x2 hx2)
  clear he hx1 hx2
  go_enter Tryz.func4, Tryz.ntmps4
  go_upto_region 5 with (first | (go_at_call 5; refine HK.out.mono ?_; rintro e w1 ⟨rfl, hb1⟩; have HB1 := Lib.hid hb1; clear hb1) | (go_at_call 6; refine (HN1.out _ HB1.out).mono ?_; rintro e w2 ⟨p1, rfl, hb2⟩; have HB2 := Lib.hid hb2; clear hb2))
  go_upto_region 6 with (go_at_call 6; refine (HN2.out _ HB2.out).mono ?_; rintro e w3 ⟨p2, rfl, hb3⟩; have HB3 := Lib.hid hb3; clear hb3)
  go_upto_region 7 with (go_at_call 7; refine (HR1.out _ HB3.out).mono ?_; rintro e w4 ⟨rfl, hb4⟩; have HB4 := Lib.hid hb4; clear hb4)
  have HB5 := Lib.hid (HB4.out.alloc HB4.out.size (.cells #[.slice none 0 0, .int .i64 0, .int .i64 0, .slice none 0 0, .int .i64 0, .bool false] 32))
  generalize w4.alloc (.cells #[.slice none 0 0, .int .i64 0, .int .i64 0, .slice none 0 0, .int .i64 0, .bool false] 32) = W4 at HB5 ⊢
  go_upto_region 8 with (go_at_call 7; refine (HR2.out _ HB5.out).mono ?_; rintro e w6 ⟨rfl, hb6⟩; have HB6 := Lib.hid hb6; clear hb6)
  have HB7 := Lib.hid (HB6.out.alloc HB6.out.size (.cells #[.slice none 0 0, .int .i64 0, .int .i64 0, .slice none 0 0, .int .i64 0, .bool false] 32))
  generalize w6.alloc (.cells #[.slice none 0 0, .int .i64 0, .int .i64 0, .slice none 0 0, .int .i64 0, .bool false] 32) = W6 at HB7 ⊢
  go_wp2_with fail
  go_ret
  exact ⟨rfl, HB7.out⟩
set_option maxRecDepth 20000 in
set_option maxHeartbeats 4000000 in
theorem two_BG {A : Whys} {B : Nat} {w : World} (he : Env A B w) (x1 x2 : Int) (hx1 : ¬ quoI x1) (hx2 : quoI x2) (a : Option Addr) (len c : Nat) :
    Calls Tryz.prog 4 #[.int .i64 x1, .int .i64 x2, .slice a len c] w fun e w' => e = .returned (.bool true) ∧ Below w.heap.size w w' := by
  have HK := Lib.hid (known_any he)
  have HN1 := Lib.hid (newB he x1 hx1)
  have HN2 := Lib.hid (newG he x2 hx2)
  have HR1 := Lib.hid (refB (w := w) x1 hx1)
  have HR2 := Lib.hid (refG (w := w) x2 hx2)
  clear he hx1 hx2
  go_enter Tryz.func4, Tryz.ntmps4
  go_upto_region 5 with (first | (go_at_call 5; refine HK.out.mono ?_; rintro e w1 ⟨rfl, hb1⟩; have HB1 := Lib.hid hb1; clear hb1) | (go_at_call 6; refine (HN1.out _ HB1.out).mono ?_; rintro e w2 ⟨p1, rfl, hb2⟩; have HB2 := Lib.hid hb2; clear hb2))
  go_upto_region 6 with (go_at_call 6; refine (HN2.out _ HB2.out).mono ?_; rintro e w3 ⟨p2, rfl, hb3⟩; have HB3 := Lib.hid hb3; clear hb3)
  go_upto_region 7 with (go_at_call 7; refine (HR1.out _ HB3.out).mono ?_; rintro e w4 ⟨rfl, hb4⟩; have HB4 := Lib.hid hb4; clear hb4)
  have HB5 := Lib.hid (HB4.out.alloc HB4.out.size (.cells #[.slice none 0 0, .int .i64 0, .int .i64 0, .slice none 0 0, .int .i64 0, .bool false] 32))
  generalize w4.alloc (.cells #[.slice none 0 0, .int .i64 0, .int .i64 0, .slice none 0 0, .int .i64 0, .bool false] 32) = W4 at HB5 ⊢
  go_upto_region 8 with (go_at_call 7; refine (HR2.out _ HB5.out).mono ?_; rintro e w6 ⟨rfl, hb6⟩; have HB6 := Lib.hid hb6; clear hb6)
  have HB7 := Lib.hid (HB6.out.alloc HB6.out.size (.cells #[.slice none 0 0, .int .i64 x2, .int .i64 0, .slice none 0 0, .int .i64 0, .bool false] 32))
  generalize w6.alloc (.cells #[.slice none 0 0, .int .i64 x2, .int .i64 0, .slice none 0 0, .int .i64 0, .bool false] 32) = W6 at HB7 ⊢
  go_wp2_with fail
  go_ret
  exact ⟨rfl, HB7.out⟩
set_option maxRecDepth 20000 in
set_option maxHeartbeats 4000000 in
theorem two_GB {A : Whys} {B : Nat} {w : World} (he : Env A B w) (x1 x2 : Int) (hx1 : quoI x1) (hx2 : ¬ quoI x2) (a : Option Addr) (len c : Nat) :
    Calls Tryz.prog 4 #[.int .i64 x1, .int .i64 x2, .slice a len c] w fun e w' => e = .returned (.bool true) ∧ Below w.heap.size w w' := by
  have HK := Lib.hid (known_any he)
  have HN1 := Lib.hid (newG he x1 hx1)
  have HN2 := Lib.hid (newB he x2 hx2)
  have HR1 := Lib.hid (refG (w := w) x1 hx1)
  have HR2 := Lib.hid (refB (w := w) x2 hx2)
  clear he hx1 hx2
  go_enter Tryz.func4, Tryz.ntmps4
  go_upto_region 5 with (first | (go_at_call 5; refine HK.out.mono ?_; rintro e w1 ⟨rfl, hb1⟩; have HB1 := Lib.hid hb1; clear hb1) | (go_at_call 6; refine (HN1.out _ HB1.out).mono ?_; rintro e w2 ⟨p1, rfl, hb2⟩; have HB2 := Lib.hid hb2; clear hb2))
  go_upto_region 6 with (go_at_call 6; refine (HN2.out _ HB2.out).mono ?_; rintro e w3 ⟨p2, rfl, hb3⟩; have HB3 := Lib.hid hb3; clear hb3)
  go_upto_region 7 with (go_at_call 7; refine (HR1.out _ HB3.out).mono ?_; rintro e w4 ⟨rfl, hb4⟩; have HB4 := Lib.hid hb4; clear hb4)
  have HB5 := Lib.hid (HB4.out.alloc HB4.out.size (.cells #[.slice none 0 0, .int .i64 x1, .int .i64 0, .slice none 0 0, .int .i64 0, .bool false] 32))
  generalize w4.alloc (.cells #[.slice none 0 0, .int .i64 x1, .int .i64 0, .slice none 0 0, .int .i64 0, .bool false] 32) = W4 at HB5 ⊢
  go_upto_region 8 with (go_at_call 7; refine (HR2.out _ HB5.out).mono ?_; rintro e w6 ⟨rfl, hb6⟩; have HB6 := Lib.hid hb6; clear hb6)
  have HB7 := Lib.hid (HB6.out.alloc HB6.out.size (.cells #[.slice none 0 0, .int .i64 0, .int .i64 0, .slice none 0 0, .int .i64 0, .bool false] 32))
  generalize w6.alloc (.cells #[.slice none 0 0, .int .i64 0, .int .i64 0, .slice none 0 0, .int .i64 0, .bool false] 32) = W6 at HB7 ⊢
  go_wp2_with fail
  go_ret
  exact ⟨rfl, HB7.out⟩
theorem DiskTwo_walk (x1 x2 : Int) (v : Value) (w : World) (he : ∃ A B, Env A B w ∧ w.cell? ⟨5, 0, none⟩ = some (rtV 26)) (hv : ∃ a len c, v = .slice a len c ∧ ActsSt w a len) :
    Calls Tryz.prog 4 #[.int .i64 x1, .int .i64 x2, v] w fun e w' => e = .returned (.bool true) ∧ Below w.heap.size w w' := by
  obtain ⟨A, B, he, hg⟩ := he
  obtain ⟨a, len, c, rfl, hs⟩ := hv
  by_cases h1 : quoI x1
  · by_cases h2 : quoI x2
    · obtain ⟨q1, rfl⟩ : ∃ q : Nat, x1 = (q : Int) := ⟨x1.toNat, by unfold quoI at h1; omega⟩
      obtain ⟨q2, rfl⟩ : ∃ q : Nat, x2 = (q : Int) := ⟨x2.toNat, by unfold quoI at h2; omega⟩
      unfold quoI at h1 h2
      exact two_walk he hg q1 q2 (by omega) (by omega) (by omega) (by omega) a len c hs
    · exact two_GB he x1 x2 h1 h2 a len c
  · by_cases h2 : quoI x2
    · exact two_BG he x1 x2 h1 h2 a len c
    · exact two_BB he x1 x2 h1 h2 a len c
end Go.Proofs.YtgafomknpdnfcaaGreatDoor
