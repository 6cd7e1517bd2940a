/- DiskBounds: a quota that is refused; the walk whole. -/
import Derived.Test.YtgadmfbilmlnkaaDoorD9xl
import Derived.Test.YtgadmfbilmlnkaaDoorD9xm
namespace Go.Proofs.YtgadmfbilmlnkaaDoor
open Go.RowKit Go.Lib

set_option maxHeartbeats 2000000 in
set_option maxRecDepth 20000 in
theorem bnd_bad {A : Whys} {B : Nat} {w : World} (he : Env A B w) (x : Int) (hx : x < 1 ∨ 1048576 < x) (a : Option Addr) (len c : Nat) :
    Calls Tryd.prog 5 #[.int .i64 x, .slice a len c] w fun e w' => e = .returned (.bool true) ∧ Below w.heap.size w w' := by
  have HK := Lib.hid (known_any he)
  have HN := Lib.hid (fun W (hb : Below w.heap.size w W) => New_bad A w.heap.size x W ((he.up he.hi (Nat.le_refl _)).below hb) hx)
  clear he
  rcases hx with h1 | h2
  · go_enter Tryd.func5, Tryd.ntmps5
    go_wp2_with (first | (go_at_call 8; refine HK.out.mono ?_; rintro e w1 ⟨rfl, hb1⟩; have HB1 := Lib.hid hb1; clear hb1) | (go_at_call 9; refine (HN.out _ HB1.out).mono ?_; rintro e w2 ⟨rfl, hw2⟩; subst w2; unfold failV))
    go_ret
    exact ⟨rfl, HB1.out.alloc HB1.out.size _⟩
  · have h1 : ¬ x < 1 := by omega
    go_enter Tryd.func5, Tryd.ntmps5
    go_wp2_with (first | (go_at_call 8; refine HK.out.mono ?_; rintro e w1 ⟨rfl, hb1⟩; have HB1 := Lib.hid hb1; clear hb1) | (go_at_call 9; refine (HN.out _ HB1.out).mono ?_; rintro e w2 ⟨rfl, hw2⟩; subst w2; unfold failV))
    go_ret
    exact ⟨rfl, HB1.out.alloc HB1.out.size _⟩
end Go.Proofs.YtgadmfbilmlnkaaDoor

/- DiskBounds: the walk whole. -/
namespace Go.Proofs.YtgadmfbilmlnkaaDoor
open Go.RowKit Go.Lib

theorem DiskBounds_walk (x : Int) (v : Value) (w : World) (he : ∃ A B, Env A B w) (hv : ∃ a len c, v = .slice a len c ∧ ActsSt w a len) :
    Calls Tryd.prog 5 #[.int .i64 x, v] w fun e w' => e = .returned (.bool true) ∧ Below w.heap.size w w' := by
  obtain ⟨A, B, he⟩ := he
  obtain ⟨a, len, c, rfl, hs⟩ := hv
  by_cases hx : x < 1 ∨ 1048576 < x
  · exact bnd_bad he x hx a len c
  · obtain ⟨q, rfl⟩ : ∃ q : Nat, x = (q : Int) := ⟨x.toNat, by omega⟩
    exact bnd_walk he q (by omega) (by omega) a len c hs
end Go.Proofs.YtgadmfbilmlnkaaDoor
