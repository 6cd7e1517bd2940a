/- moment: Stamp, Order. -/
import Derived.Test.YtibhlmbcohpmlaaGreatDoorDc
namespace Go.Proofs.YtibhlmbcohpmlaaGreatDoor
open Go.RowKit

/-- The seven cells of a box. -/
structure Cells7 (b : Nat) (y m d h n s z : Int) (X : World) : Prop where
  c0 : X.cell? ⟨b, 0, none⟩ = some (.int .i64 y)
  c1 : X.cell? ⟨b, 1, none⟩ = some (.int .i64 m)
  c2 : X.cell? ⟨b, 2, none⟩ = some (.int .i64 d)
  c3 : X.cell? ⟨b, 3, none⟩ = some (.int .i64 h)
  c4 : X.cell? ⟨b, 4, none⟩ = some (.int .i64 n)
  c5 : X.cell? ⟨b, 5, none⟩ = some (.int .i64 s)
  c6 : X.cell? ⟨b, 6, none⟩ = some (.int .i64 z)
theorem Cells7.on {b : Nat} {y m d h n s z : Int} {X X' : World} (k : Cells7 b y m d h n s z X) (hb : Below X.heap.size X X') : Cells7 b y m d h n s z X' := by
  refine ⟨?_, ?_, ?_, ?_, ?_, ?_, ?_⟩
  · rw [hb.cell (p := ⟨b, 0, none⟩) (block_lt_of_cell k.c0)]; exact k.c0
  · rw [hb.cell (p := ⟨b, 1, none⟩) (block_lt_of_cell k.c1)]; exact k.c1
  · rw [hb.cell (p := ⟨b, 2, none⟩) (block_lt_of_cell k.c2)]; exact k.c2
  · rw [hb.cell (p := ⟨b, 3, none⟩) (block_lt_of_cell k.c3)]; exact k.c3
  · rw [hb.cell (p := ⟨b, 4, none⟩) (block_lt_of_cell k.c4)]; exact k.c4
  · rw [hb.cell (p := ⟨b, 5, none⟩) (block_lt_of_cell k.c5)]; exact k.c5
  · rw [hb.cell (p := ⟨b, 6, none⟩) (block_lt_of_cell k.c6)]; exact k.c6
theorem cells7_new (w : World) (y m d h n s z : Int) (t : TypeId) : Cells7 w.heap.size y m d h n s z (w.alloc (.cells #[.int .i64 y, .int .i64 m, .int .i64 d, .int .i64 h, .int .i64 n, .int .i64 s, .int .i64 z] t)) :=
  ⟨cell_of_row _ _ 0 _ _ _ (heap_alloc_new w _), cell_of_row _ _ 1 _ _ _ (heap_alloc_new w _), cell_of_row _ _ 2 _ _ _ (heap_alloc_new w _), cell_of_row _ _ 3 _ _ _ (heap_alloc_new w _), cell_of_row _ _ 4 _ _ _ (heap_alloc_new w _), cell_of_row _ _ 5 _ _ _ (heap_alloc_new w _), cell_of_row _ _ 6 _ _ _ (heap_alloc_new w _)⟩

/-- What a drawn region over one box keeps. -/
def S1 (w : World) (b : Nat) (y m d h n s z : Int) (X : World) : Prop :=
  X.cell? ⟨b, 0, none⟩ = some (.int .i64 y) ∧ X.cell? ⟨b, 1, none⟩ = some (.int .i64 m) ∧ X.cell? ⟨b, 2, none⟩ = some (.int .i64 d) ∧ X.cell? ⟨b, 3, none⟩ = some (.int .i64 h) ∧ X.cell? ⟨b, 4, none⟩ = some (.int .i64 n) ∧ X.cell? ⟨b, 5, none⟩ = some (.int .i64 s) ∧ X.cell? ⟨b, 6, none⟩ = some (.int .i64 z) ∧ Env X ∧ Below w.heap.size w X
theorem S1.mk' {w : World} {b : Nat} {y m d h n s z : Int} {X : World} (k : Cells7 b y m d h n s z X) (he : Env X) (hb : Below w.heap.size w X) : S1 w b y m d h n s z X := ⟨k.c0, k.c1, k.c2, k.c3, k.c4, k.c5, k.c6, he, hb⟩
theorem S1.on {w : World} {b : Nat} {y m d h n s z : Int} {X X' : World} (k : S1 w b y m d h n s z X) (hb : Below X.heap.size X X') : S1 w b y m d h n s z X' := by
  obtain ⟨a0, a1, a2, a3, a4, a5, a6, he, hw⟩ := k
  exact S1.mk' (Cells7.on ⟨a0, a1, a2, a3, a4, a5, a6⟩ hb) (he.on hb) (hw.trans (hb.mono hw.size))
structure StampF (w : World) (b : Nat) (y m d h n s z N : Int) : Prop where
  c : ∀ X, S1 w b y m d h n s z X → Calls Tryz.prog 55 #[mom y m d h n s z] X fun e w' => e = .returned (.int .i64 N) ∧ S1 w b y m d h n s z w'

set_option maxRecDepth 100000 in
set_option maxHeartbeats 1000000 in
theorem momStamp_any (y m d h n s z : Int) (w : World) (he : Env w) :
    Calls Tryz.prog 24 #[mom y m d h n s z] w fun e w' => e = .returned (.int .i64 (stampV y m d h n s z)) ∧ Below w.heap.size w w' := by
  have hV := Lib.hid (fun W he => momValid_any y m d h n s z W he)
  have q0 : ∀ cs t, Below w.heap.size w (w.alloc (.cells cs t)) := fun cs t => (Below.refl _ _).alloc (Nat.le_refl _) _
  have HE := Lib.hid (fun cs t => he.on (q0 cs t))
  clear he
  cases hv : validB y m d h n s z with
  | false =>
    rw [hv] at hV
    unfold mom at hV ⊢
    have HR : Hid (stampV y m d h n s z = 0) := Lib.hid (by unfold stampV; rw [hv]; rfl)
    go_enter Tryz.func24, Tryz.ntmps24
    go_wp2_with (go_at_call 18; refine (hV.out _ (HE.out _ _)).mono ?_; rintro e w1 ⟨rfl, hb1⟩)
    go_ret
    exact ⟨ret_int HR.out.symm, (q0 _ _).trans (hb1.mono (q0 _ _).size)⟩
  | true =>
    rw [hv] at hV
    have hN : StampF w w.heap.size y m d h n s z (daysI y.toNat m.toNat d.toNat) := ⟨fun X hX => (dayNumber_val y m d h n s z X hX.2.2.2.2.2.2.2.1 (valid_day hv)).mono fun e w' ⟨h1, h2⟩ => ⟨h1, hX.on h2⟩⟩
    have HR : Hid (stampV y m d h n s z = 86400 * daysI y.toNat m.toNat d.toNat + 3600 * h + 60 * (n - z) + s) := Lib.hid (by unfold stampV; rw [hv, if_pos rfl]; unfold stampI; omega)
    obtain ⟨b1, b2⟩ := days_bounds y m d h n s z hv
    obtain ⟨t1, t2, t3, t4, t5, t6, t7, t8⟩ := valid_time y m d h n s z hv
    generalize daysI y.toNat m.toNat d.toNat = N at *
    clear hv
    unfold mom at hV ⊢
    go_enter Tryz.func24, Tryz.ntmps24
    go_wp2_with fail
    refine (hV.out _ (HE.out _ _)).mono ?_
    rintro e w1 ⟨rfl, hb1⟩
    have he1 := Lib.hid ((HE.out _ _).on hb1)
    obtain ⟨x0, x1, x2, x3, x4, x5, x6⟩ := boxed7 hb1
    have hS1 : S1 w w.heap.size y m d h n s z w1 := S1.mk' ⟨x0, x1, x2, x3, x4, x5, x6⟩ ((HE.out _ _).on hb1) ((q0 _ _).trans (hb1.mono (q0 _ _).size))
    have hSt : S1 w w.heap.size y m d h n s z w1.drew := hS1.on (Below.refl _ _).drew
    clear hb1 HE he1
    go_wp2
    first | (go_region_held3 (fun X => X.cell? ⟨w.heap.size, 0, none⟩ = some (.int .i64 y) ∧ X.cell? ⟨w.heap.size, 1, none⟩ = some (.int .i64 m) ∧ X.cell? ⟨w.heap.size, 2, none⟩ = some (.int .i64 d) ∧ X.cell? ⟨w.heap.size, 3, none⟩ = some (.int .i64 h) ∧ X.cell? ⟨w.heap.size, 4, none⟩ = some (.int .i64 n) ∧ X.cell? ⟨w.heap.size, 5, none⟩ = some (.int .i64 s) ∧ X.cell? ⟨w.heap.size, 6, none⟩ = some (.int .i64 z) ∧ Env X ∧ Below w.heap.size w X) (first | exact hSt | assumption) (first | (go_at_call 55; refine (hN.c _ ?_).mono ?_; assumption; rintro e w2 ⟨rfl, hs2⟩))) | fail
    go_wp2
    go_ret
    exact ⟨ret_int (by rw [HR.out]; go_arith), hs2.2.2.2.2.2.2.2.2⟩

def S2 (w : World) (b c : Nat) (y m d h n s z y' m' d' h' n' s' z' : Int) (X : World) : Prop :=
  X.cell? ⟨b, 0, none⟩ = some (.int .i64 y) ∧ X.cell? ⟨b, 1, none⟩ = some (.int .i64 m) ∧ X.cell? ⟨b, 2, none⟩ = some (.int .i64 d) ∧ X.cell? ⟨b, 3, none⟩ = some (.int .i64 h) ∧ X.cell? ⟨b, 4, none⟩ = some (.int .i64 n) ∧ X.cell? ⟨b, 5, none⟩ = some (.int .i64 s) ∧ X.cell? ⟨b, 6, none⟩ = some (.int .i64 z) ∧ X.cell? ⟨c, 0, none⟩ = some (.int .i64 y') ∧ X.cell? ⟨c, 1, none⟩ = some (.int .i64 m') ∧ X.cell? ⟨c, 2, none⟩ = some (.int .i64 d') ∧ X.cell? ⟨c, 3, none⟩ = some (.int .i64 h') ∧ X.cell? ⟨c, 4, none⟩ = some (.int .i64 n') ∧ X.cell? ⟨c, 5, none⟩ = some (.int .i64 s') ∧ X.cell? ⟨c, 6, none⟩ = some (.int .i64 z') ∧ Env X ∧ Below w.heap.size w X
theorem S2.mk' {w : World} {b c : Nat} {y m d h n s z y' m' d' h' n' s' z' : Int} {X : World} (k : Cells7 b y m d h n s z X) (k' : Cells7 c y' m' d' h' n' s' z' X) (he : Env X) (hb : Below w.heap.size w X) : S2 w b c y m d h n s z y' m' d' h' n' s' z' X := ⟨k.c0, k.c1, k.c2, k.c3, k.c4, k.c5, k.c6, k'.c0, k'.c1, k'.c2, k'.c3, k'.c4, k'.c5, k'.c6, he, hb⟩
theorem S2.env {w : World} {b c : Nat} {y m d h n s z y' m' d' h' n' s' z' : Int} {X : World} (k : S2 w b c y m d h n s z y' m' d' h' n' s' z' X) : Env X ∧ Below w.heap.size w X := by
  obtain ⟨_, _, _, _, _, _, _, _, _, _, _, _, _, _, he, hw⟩ := k
  exact ⟨he, hw⟩
theorem S2.on {w : World} {b c : Nat} {y m d h n s z y' m' d' h' n' s' z' : Int} {X X' : World} (k : S2 w b c y m d h n s z y' m' d' h' n' s' z' X) (hb : Below X.heap.size X X') : S2 w b c y m d h n s z y' m' d' h' n' s' z' X' := by
  obtain ⟨a0, a1, a2, a3, a4, a5, a6, b0, b1, b2, b3, b4, b5, b6, he, hw⟩ := k
  exact S2.mk' (Cells7.on ⟨a0, a1, a2, a3, a4, a5, a6⟩ hb) (Cells7.on ⟨b0, b1, b2, b3, b4, b5, b6⟩ hb) (he.on hb) (hw.trans (hb.mono hw.size))
structure OrderF (w : World) (b c : Nat) (y m d h n s z y' m' d' h' n' s' z' : Int) (va vb : Bool) (sa sb : Int) : Prop where
  v1 : ∀ X, S2 w b c y m d h n s z y' m' d' h' n' s' z' X → Calls Tryz.prog 18 #[mom y m d h n s z] X fun e w' => e = .returned (.bool va) ∧ S2 w b c y m d h n s z y' m' d' h' n' s' z' w'
  v2 : ∀ X, S2 w b c y m d h n s z y' m' d' h' n' s' z' X → Calls Tryz.prog 18 #[mom y' m' d' h' n' s' z'] X fun e w' => e = .returned (.bool vb) ∧ S2 w b c y m d h n s z y' m' d' h' n' s' z' w'
  s1 : ∀ X, S2 w b c y m d h n s z y' m' d' h' n' s' z' X → Calls Tryz.prog 24 #[mom y m d h n s z] X fun e w' => e = .returned (.int .i64 sa) ∧ S2 w b c y m d h n s z y' m' d' h' n' s' z' w'
  s2 : ∀ X, S2 w b c y m d h n s z y' m' d' h' n' s' z' X → Calls Tryz.prog 24 #[mom y' m' d' h' n' s' z'] X fun e w' => e = .returned (.int .i64 sb) ∧ S2 w b c y m d h n s z y' m' d' h' n' s' z' w'
  c1 : ∀ X, S2 w b c y m d h n s z y' m' d' h' n' s' z' X → Calls Tryz.prog 26 #[.int .i64 sa, .int .i64 sb] X fun e w' => e = .returned (.int .i64 (orderV true true sa sb)) ∧ S2 w b c y m d h n s z y' m' d' h' n' s' z' w'

set_option maxHeartbeats 1000000 in
theorem compare_any (a b : Int) (w : World) :
    Calls Tryz.prog 26 #[.int .i64 a, .int .i64 b] w fun e w' => e = .returned (.int .i64 (orderV true true a b)) ∧ w' = w := by
  rcases Int.lt_trichotomy a b with h | h | h
  · have HR := Lib.hid (order_lt true a b h)
    go_enter Tryz.func26, Tryz.ntmps26
    go_wp2
    go_ret
    exact ⟨ret_int HR.out.symm, rfl⟩
  · subst h
    have HR := Lib.hid (order_eq true a a (by omega) (by omega))
    go_enter Tryz.func26, Tryz.ntmps26
    go_wp2
    go_ret
    exact ⟨ret_int HR.out.symm, rfl⟩
  · have HR := Lib.hid (order_gt true a b h)
    go_enter Tryz.func26, Tryz.ntmps26
    go_wp2
    go_ret
    exact ⟨ret_int HR.out.symm, rfl⟩
theorem orderV_ff (a b : Int) (ha : a = 0) (hb : b = 0) : orderV false false a b = 0 := order_eq false a b (by omega) (by omega)

set_option maxRecDepth 100000 in
set_option maxHeartbeats 2000000 in
theorem momOrder_any (y m d h n s z y' m' d' h' n' s' z' : Int) (w : World) (he : Env w) :
    Calls Tryz.prog 10 #[mom y m d h n s z, mom y' m' d' h' n' s' z'] w fun e w' => e = .returned (.int .i64 (orderV (validB y m d h n s z) (validB y' m' d' h' n' s' z') (stampV y m d h n s z) (stampV y' m' d' h' n' s' z'))) ∧ Below w.heap.size w w' := by
  have hF : OrderF w w.heap.size (w.heap.size + 1) y m d h n s z y' m' d' h' n' s' z' (validB y m d h n s z) (validB y' m' d' h' n' s' z') (stampV y m d h n s z) (stampV y' m' d' h' n' s' z') :=
    ⟨fun X hX => (momValid_any y m d h n s z X hX.env.1).mono fun e w' ⟨h1, h2⟩ => ⟨h1, hX.on h2⟩,
     fun X hX => (momValid_any y' m' d' h' n' s' z' X hX.env.1).mono fun e w' ⟨h1, h2⟩ => ⟨h1, hX.on h2⟩,
     fun X hX => (momStamp_any y m d h n s z X hX.env.1).mono fun e w' ⟨h1, h2⟩ => ⟨h1, hX.on h2⟩,
     fun X hX => (momStamp_any y' m' d' h' n' s' z' X hX.env.1).mono fun e w' ⟨h1, h2⟩ => ⟨h1, hX.on h2⟩,
     fun X hX => (compare_any _ _ X).mono fun e w' ⟨h1, h2⟩ => ⟨h1, h2 ▸ hX⟩⟩
  have hz1 : validB y m d h n s z = false → stampV y m d h n s z = 0 := fun hv => by unfold stampV; rw [hv]; rfl
  have hz2 : validB y' m' d' h' n' s' z' = false → stampV y' m' d' h' n' s' z' = 0 := fun hv => by unfold stampV; rw [hv]; rfl
  have HZ : Hid (validB y m d h n s z = false → validB y' m' d' h' n' s' z' = false → orderV false false (stampV y m d h n s z) (stampV y' m' d' h' n' s' z') = 0) := Lib.hid (fun h1 h2 => orderV_ff _ _ (hz1 h1) (hz2 h2))
  clear hz1 hz2
  generalize validB y m d h n s z = va at *
  generalize validB y' m' d' h' n' s' z' = vb at *
  generalize stampV y m d h n s z = sa at *
  generalize stampV y' m' d' h' n' s' z' = sb at *
  have st : S2 w w.heap.size (w.heap.size + 1) y m d h n s z y' m' d' h' n' s' z' ((w.alloc (.cells #[.int .i64 y, .int .i64 m, .int .i64 d, .int .i64 h, .int .i64 n, .int .i64 s, .int .i64 z] 23)).alloc (.cells #[.int .i64 y', .int .i64 m', .int .i64 d', .int .i64 h', .int .i64 n', .int .i64 s', .int .i64 z'] 23)) := by
    have q1 : Below w.heap.size w (w.alloc (.cells #[.int .i64 y, .int .i64 m, .int .i64 d, .int .i64 h, .int .i64 n, .int .i64 s, .int .i64 z] 23)) := (Below.refl _ _).alloc (Nat.le_refl _) _
    have q2 := q1.alloc (by simp) (.cells #[.int .i64 y', .int .i64 m', .int .i64 d', .int .i64 h', .int .i64 n', .int .i64 s', .int .i64 z'] 23)
    refine S2.mk' ((cells7_new w y m d h n s z _).on ((Below.refl _ _).alloc (Nat.le_refl _) _)) ?_ (he.on q2) q2
    have := cells7_new (w.alloc (.cells #[.int .i64 y, .int .i64 m, .int .i64 d, .int .i64 h, .int .i64 n, .int .i64 s, .int .i64 z] 23)) y' m' d' h' n' s' z' 23
    rw [show (w.alloc (.cells #[.int .i64 y, .int .i64 m, .int .i64 d, .int .i64 h, .int .i64 n, .int .i64 s, .int .i64 z] 23)).heap.size = w.heap.size + 1 by simp] at this
    exact this
  have st' := st.on (Below.refl _ _).drew
  clear he
  unfold mom
  go_enter Tryz.func10, Tryz.ntmps10
  go_wp2
  first | (go_region_held3 (fun X => X.cell? ⟨w.heap.size, 0, none⟩ = some (.int .i64 y) ∧ X.cell? ⟨w.heap.size, 1, none⟩ = some (.int .i64 m) ∧ X.cell? ⟨w.heap.size, 2, none⟩ = some (.int .i64 d) ∧ X.cell? ⟨w.heap.size, 3, none⟩ = some (.int .i64 h) ∧ X.cell? ⟨w.heap.size, 4, none⟩ = some (.int .i64 n) ∧ X.cell? ⟨w.heap.size, 5, none⟩ = some (.int .i64 s) ∧ X.cell? ⟨w.heap.size, 6, none⟩ = some (.int .i64 z) ∧ X.cell? ⟨w.heap.size + 1, 0, none⟩ = some (.int .i64 y') ∧ X.cell? ⟨w.heap.size + 1, 1, none⟩ = some (.int .i64 m') ∧ X.cell? ⟨w.heap.size + 1, 2, none⟩ = some (.int .i64 d') ∧ X.cell? ⟨w.heap.size + 1, 3, none⟩ = some (.int .i64 h') ∧ X.cell? ⟨w.heap.size + 1, 4, none⟩ = some (.int .i64 n') ∧ X.cell? ⟨w.heap.size + 1, 5, none⟩ = some (.int .i64 s') ∧ X.cell? ⟨w.heap.size + 1, 6, none⟩ = some (.int .i64 z') ∧ Env X ∧ Below w.heap.size w X) (first | exact st' | assumption) (first | (go_at_call_of 18 y; refine (hF.v1 _ ?_).mono ?_; assumption; rintro e w2 ⟨rfl, hs2⟩) | (go_at_call_of 18 y'; refine (hF.v2 _ ?_).mono ?_; assumption; rintro e w3 ⟨rfl, hs3⟩))) | fail
  clear st st'
  have hs4 := hs3.on (Below.refl _ _).drew
  cases va <;> cases vb
  case true.true =>
    go_wp2
    first | (go_region_held3 (fun X => X.cell? ⟨w.heap.size, 0, none⟩ = some (.int .i64 y) ∧ X.cell? ⟨w.heap.size, 1, none⟩ = some (.int .i64 m) ∧ X.cell? ⟨w.heap.size, 2, none⟩ = some (.int .i64 d) ∧ X.cell? ⟨w.heap.size, 3, none⟩ = some (.int .i64 h) ∧ X.cell? ⟨w.heap.size, 4, none⟩ = some (.int .i64 n) ∧ X.cell? ⟨w.heap.size, 5, none⟩ = some (.int .i64 s) ∧ X.cell? ⟨w.heap.size, 6, none⟩ = some (.int .i64 z) ∧ X.cell? ⟨w.heap.size + 1, 0, none⟩ = some (.int .i64 y') ∧ X.cell? ⟨w.heap.size + 1, 1, none⟩ = some (.int .i64 m') ∧ X.cell? ⟨w.heap.size + 1, 2, none⟩ = some (.int .i64 d') ∧ X.cell? ⟨w.heap.size + 1, 3, none⟩ = some (.int .i64 h') ∧ X.cell? ⟨w.heap.size + 1, 4, none⟩ = some (.int .i64 n') ∧ X.cell? ⟨w.heap.size + 1, 5, none⟩ = some (.int .i64 s') ∧ X.cell? ⟨w.heap.size + 1, 6, none⟩ = some (.int .i64 z') ∧ Env X ∧ Below w.heap.size w X) (first | exact hs4 | exact hs3 | assumption) (first | (go_at_call_of 24 y; refine (hF.s1 _ ?_).mono ?_; assumption; rintro e w5 ⟨rfl, hs5⟩) | (go_at_call_of 24 y'; refine (hF.s2 _ ?_).mono ?_; assumption; rintro e w6 ⟨rfl, hs6⟩) | (go_at_call 26; refine (hF.c1 _ ?_).mono ?_; assumption; rintro e w7 ⟨rfl, hs7⟩))) | fail
    go_wp2
    go_ret
    exact ⟨rfl, hs7.env.2⟩
  case true.false =>
    go_wp2
    go_ret
    exact ⟨ret_int (order_tf _ _).symm, hs3.env.2⟩
  case false.true =>
    go_wp2
    go_ret
    exact ⟨ret_int (order_ft _ _).symm, hs3.env.2⟩
  case false.false =>
    go_wp2
    go_ret
    exact ⟨ret_int (by first | exact (HZ.out rfl rfl).symm | exact (HZ.out trivial trivial).symm | exact HZ.out.symm), hs3.env.2⟩
end Go.Proofs.YtibhlmbcohpmlaaGreatDoor
