/- The statement MomentDays: the walk of the law itself. -/
import Derived.Test.YtibhlmbcohpmlaaGreatDoorGg
import Derived.Deep.RegionHeld3
namespace Go.Proofs.YtibhlmbcohpmlaaGreatDoor
open Go.RowKit

abbrev SQ (w : World) (y m d h n s z : Int) (X : World) : Prop :=
  X.cell? ⟨w.heap.size, 0, none⟩ = some (.int .i64 y) ∧ X.cell? ⟨w.heap.size, 1, none⟩ = some (.int .i64 m) ∧ X.cell? ⟨w.heap.size, 2, none⟩ = some (.int .i64 d) ∧ X.cell? ⟨w.heap.size, 3, none⟩ = some (.int .i64 h) ∧ X.cell? ⟨w.heap.size, 4, none⟩ = some (.int .i64 n) ∧ X.cell? ⟨w.heap.size, 5, none⟩ = some (.int .i64 s) ∧ X.cell? ⟨w.heap.size, 6, none⟩ = some (.int .i64 z) ∧ Env X ∧ Below w.heap.size w X
theorem SQ.on {w : World} {y m d h n s z : Int} {X Y : World} (k : SQ w y m d h n s z X) (hb : Below X.heap.size X Y) : SQ w y m d h n s z Y := by
  obtain ⟨a0, a1, a2, a3, a4, a5, a6, he, hq⟩ := k
  obtain ⟨c0, c1, c2, c3, c4, c5, c6⟩ := (Cells7.mk a0 a1 a2 a3 a4 a5 a6).on hb
  exact ⟨c0, c1, c2, c3, c4, c5, c6, he.on hb, hq.trans (hb.mono hq.size)⟩
structure DaysF (w : World) (y m d h n s z : Int) (x o : ByteArray) : Prop where
  k : ∀ X, SQ w y m d h n s z X → Calls Tryz.prog 8 #[] X fun e w' => e = .returned (.bool true) ∧ SQ w y m d h n s z w'
  p : ∀ X, SQ w y m d h n s z X → Calls Tryz.prog 12 #[.string x, .agg #[.int .i64 y, .int .i64 m, .int .i64 d, .int .i64 h, .int .i64 n, .int .i64 s, .int .i64 z]] X fun e w' => e = .returned (.bool true) ∧ SQ w y m d h n s z w'
  q : ∀ X, SQ w y m d h n s z X → Calls Tryz.prog 12 #[.string o, .agg #[.int .i64 y, .int .i64 m, .int .i64 d, .int .i64 h, .int .i64 n, .int .i64 s, .int .i64 z]] X fun e w' => e = .returned (.bool true) ∧ SQ w y m d h n s z w'
set_option maxRecDepth 100000 in
set_option maxHeartbeats 4000000 in
theorem MomentDays_walk (x : ByteArray) (y m d h n s z : Int) (o : ByteArray) (w : World) (he : Env w) (hx : x.size ≤ 140737488355328) (ho : o.size ≤ 140737488355328) :
    Calls Tryz.prog 5 #[.string x, mom y m d h n s z, .string o] w fun e w' => e = .returned (.bool true) ∧ Below w.heap.size w w' := by
  have hF : DaysF w y m d h n s z x o :=
    ⟨fun X hX => (known_any X hX.2.2.2.2.2.2.2.1).mono fun e w' ⟨k1, k2⟩ => ⟨k1, SQ.on hX k2⟩,
     fun X hX => (lawDay_any x y m d h n s z X hX.2.2.2.2.2.2.2.1 hx).mono fun e w' ⟨k1, k2⟩ => ⟨k1, SQ.on hX k2⟩,
     fun X hX => (lawDay_any o y m d h n s z X hX.2.2.2.2.2.2.2.1 ho).mono fun e w' ⟨k1, k2⟩ => ⟨k1, SQ.on hX k2⟩⟩
  have q0 : Below w.heap.size w (w.alloc (.cells #[.int .i64 y, .int .i64 m, .int .i64 d, .int .i64 h, .int .i64 n, .int .i64 s, .int .i64 z] 23)) := (Below.refl _ _).alloc (Nat.le_refl _) _
  have st : Hid (SQ w y m d h n s z (w.alloc (.cells #[.int .i64 y, .int .i64 m, .int .i64 d, .int .i64 h, .int .i64 n, .int .i64 s, .int .i64 z] 23))) := Lib.hid (SQ.on (X := w.alloc (.cells #[.int .i64 y, .int .i64 m, .int .i64 d, .int .i64 h, .int .i64 n, .int .i64 s, .int .i64 z] 23)) (by
    obtain ⟨c0, c1, c2, c3, c4, c5, c6⟩ := cells7_new w y m d h n s z 23
    exact ⟨c0, c1, c2, c3, c4, c5, c6, he.on q0, q0⟩) (Below.refl _ _))
  clear he q0 hx ho
  unfold mom
  go_enter Tryz.func5, Tryz.ntmps5
  go_wp2_with fail
  refine (hF.k _ st.out).mono ?_
  rintro e w1 ⟨rfl, hs1⟩
  have cc2 := hs1
  obtain ⟨x0, x1, x2, x3, x4, x5, x6, _, _⟩ := cc2
  go_wp2_with fail
  refine (hF.p _ hs1).mono ?_
  rintro e w2 ⟨rfl, hs2⟩
  clear x0 x1 x2 x3 x4 x5 x6
  have cc3 := hs2
  obtain ⟨x0, x1, x2, x3, x4, x5, x6, _, _⟩ := cc3
  go_wp2_with fail
  refine (hF.q _ hs2).mono ?_
  rintro e w3 ⟨rfl, hs3⟩
  clear x0 x1 x2 x3 x4 x5 x6
  have cc4 := hs3
  obtain ⟨x0, x1, x2, x3, x4, x5, x6, _, _⟩ := cc4
  go_wp2_with fail
  refine (hF.p _ hs3).mono ?_
  rintro e w4 ⟨rfl, hs4⟩
  clear x0 x1 x2 x3 x4 x5 x6
  go_wp2
  go_ret
  exact ⟨rfl, hs4.2.2.2.2.2.2.2.2⟩
end Go.Proofs.YtibhlmbcohpmlaaGreatDoor
