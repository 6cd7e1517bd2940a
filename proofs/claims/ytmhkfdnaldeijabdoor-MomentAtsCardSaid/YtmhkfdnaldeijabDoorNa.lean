/- The statement MomentAts: the walk. -/
import Derived.Test.YtmhkfdnaldeijabDoorMa
import Derived.Test.YtmhkfdnaldeijabDoorDy
import Derived.Test.YtmhkfdnaldeijabDoorCe
namespace Go.Proofs.YtmhkfdnaldeijabDoor
open Go.RowKit

structure Both (st z : Int) (y m d h n s q er : Int) : Prop where
  a : ∀ W, Env W → Calls Tryd.prog 12 #[.int .i64 st, .int .i64 z] W fun e w' => e = .returned (.tuple #[.agg #[.int .i64 y, .int .i64 m, .int .i64 d, .int .i64 h, .int .i64 n, .int .i64 s, .int .i64 q], .int .i64 er]) ∧ Below W.heap.size W w'
  b : ∀ W, Calls Tryd.prog 13 #[.int .i64 st, .int .i64 z] W fun e w' => e = .returned (.tuple #[.agg #[.int .i64 y, .int .i64 m, .int .i64 d, .int .i64 h, .int .i64 n, .int .i64 s, .int .i64 q], .int .i64 er]) ∧ Below W.heap.size W w'
set_option maxRecDepth 100000 in
theorem at_both (st z : Int) (h64 : -9223372036854775808 ≤ st) (h65 : st ≤ 9223372036854775807) : ∃ y m d h n s q er, Both st z y m d h n s q er := by
  by_cases hz : z < -1439 ∨ 1439 < z
  · exact ⟨0, 0, 0, 0, 0, 0, 0, 1, ⟨fun W _ => momAt_zone st z W hz, fun W => refAt_zone st z W hz⟩⟩
  · by_cases hr : st + 60 * z < -62135596800 ∨ 253402300799 < st + 60 * z
    · exact ⟨0, 0, 0, 0, 0, 0, 0, 22, ⟨fun W _ => momAt_range st z W (by omega) (by omega) hr h64 h65, fun W => refAt_range st z W (by omega) (by omega) hr h64 h65⟩⟩
    · have hz1 : -1439 ≤ z := by omega
      have hz2 : z ≤ 1439 := by omega
      have h1 : -62135596800 ≤ st + 60 * z := by omega
      have h2 : st + 60 * z ≤ 253402300799 := by omega
      obtain ⟨Y, M, D, hd, ht, hdn, hst⟩ := stamp_of st z hz1 hz2 h1 h2
      unfold daysI at hdn
      exact ⟨Y, M, D, (st + 60 * z) % 86400 / 3600, (st + 60 * z) % 86400 % 3600 / 60, (st + 60 * z) % 86400 % 3600 % 60, z, 0,
        ⟨fun W hW => momAt_ok st z W hW hz1 hz2 h1 h2 Y M D _ hd rfl _ _ _ hdn rfl rfl rfl,
         fun W => refAt_ok st z W hz1 hz2 h1 h2 Y M D _ hd rfl _ _ _ (by omega) (by omega) (by omega) (by omega)⟩⟩
set_option maxRecDepth 100000 in
set_option maxHeartbeats 2000000 in
theorem lawAt_any (st z : Int) (w : World) (he : Env w) (h64 : -9223372036854775808 ≤ st) (h65 : st ≤ 9223372036854775807) :
    Calls Tryd.prog 5 #[.int .i64 st, .int .i64 z] w fun e w' => e = .returned (.bool true) ∧ Below w.heap.size w w' := by
  obtain ⟨y, m, d, h, n, s, q, er, ha, hb⟩ := at_both st z h64 h65
  clear h64 h65
  go_enter Tryd.func5, Tryd.ntmps5
  go_wp2_with fail
  refine (ha _ he).mono ?_
  rintro e w1 ⟨rfl, hb1⟩
  have q2 : Below w.heap.size w (w1.alloc (.cells #[.int .i64 y, .int .i64 m, .int .i64 d, .int .i64 h, .int .i64 n, .int .i64 s, .int .i64 q] 26)) := hb1.alloc hb1.size _
  have c2 := cells7_new w1 y m d h n s q 26
  clear hb1 he
  go_wp2_with fail
  refine (hb _).mono ?_
  rintro e w3 ⟨rfl, hb3⟩
  have q3 := q2.trans (hb3.mono q2.size)
  have q4 : Below w.heap.size w (w3.alloc (.cells #[.int .i64 y, .int .i64 m, .int .i64 d, .int .i64 h, .int .i64 n, .int .i64 s, .int .i64 q] 26)) := q3.alloc q3.size _
  have c4 := (c2.on hb3).on ((Below.refl _ _).alloc (Nat.le_refl _) (.cells #[.int .i64 y, .int .i64 m, .int .i64 d, .int .i64 h, .int .i64 n, .int .i64 s, .int .i64 q] 26))
  have d4 := cells7_new w3 y m d h n s q 26
  obtain ⟨a0, a1, a2, a3, a4, a5, a6⟩ := c4
  obtain ⟨b0, b1, b2, b3, b4, b5, b6⟩ := d4
  clear hb3 c2 q2 q3
  go_wp2
  go_ret
  exact ⟨rfl, q4⟩
set_option maxRecDepth 100000 in
set_option maxHeartbeats 2000000 in
theorem MomentAts_walk (st z o : Int) (w : World) (he : Env w) (a1 : -9223372036854775808 ≤ st) (a2 : st ≤ 9223372036854775807) (b1 : -9223372036854775808 ≤ z) (b2 : z ≤ 9223372036854775807) (c1 : -9223372036854775808 ≤ o) (c2 : o ≤ 9223372036854775807) :
    Calls Tryd.prog 3 #[.int .i64 st, .int .i64 z, .int .i64 o] w fun e w' => e = .returned (.bool true) ∧ Below w.heap.size w w' := by
  have HK := Lib.hid (fun W hW => known_any W hW)
  have H1 := Lib.hid (fun W hW => lawAt_any st z W hW a1 a2)
  have H2 := Lib.hid (fun W hW => lawAt_any o z W hW c1 c2)
  have H3 := Lib.hid (fun W hW => lawAt_any z o W hW b1 b2)
  clear a1 a2 b1 b2 c1 c2
  go_enter Tryd.func3, Tryd.ntmps3
  go_wp2_with fail
  refine (HK.out _ he).mono ?_
  rintro e w1 ⟨rfl, k1⟩
  have e1 := he.on k1
  go_wp2_with fail
  refine (H1.out _ e1).mono ?_
  rintro e w2 ⟨rfl, g2⟩
  have e2 := e1.on g2
  have k2 := k1.trans (g2.mono k1.size)
  go_wp2_with fail
  refine (H2.out _ e2).mono ?_
  rintro e w3 ⟨rfl, g3⟩
  have e3 := e2.on g3
  have k3 := k2.trans (g3.mono k2.size)
  go_wp2_with fail
  refine (H1.out _ e3).mono ?_
  rintro e w4 ⟨rfl, g4⟩
  have e4 := e3.on g4
  have k4 := k3.trans (g4.mono k3.size)
  go_wp2_with fail
  refine (H3.out _ e4).mono ?_
  rintro e w5 ⟨rfl, g5⟩
  have k5 := k4.trans (g5.mono k4.size)
  clear g2 g3 g4 g5
  go_wp2
  go_ret
  exact ⟨rfl, k5⟩
end Go.Proofs.YtmhkfdnaldeijabDoor
