/- The statement MomentReturns: the walk. -/
import Derived.Test.YtlcjpkbcnoibeaaDoorMf
import Derived.Deep.RegionHeld3
import Derived.Deep.DeepCutAuto
namespace Go.Proofs.YtlcjpkbcnoibeaaDoor
open Go.RowKit

/-- S1, to be seen through. -/
abbrev S1r (w : World) (b : Nat) (y m d h n s z : Int) (X : World) : Prop :=
  X.cell? ⟨b, 0, none⟩ = some (.int .i64 y) ∧ X.cell? ⟨b, 1, none⟩ = some (.int .i64 m) ∧ X.cell? ⟨b, 2, none⟩ = some (.int .i64 d) ∧ X.cell? ⟨b, 3, none⟩ = some (.int .i64 h) ∧ X.cell? ⟨b, 4, none⟩ = some (.int .i64 n) ∧ X.cell? ⟨b, 5, none⟩ = some (.int .i64 s) ∧ X.cell? ⟨b, 6, none⟩ = some (.int .i64 z) ∧ Env X ∧ Below w.heap.size w X
theorem S1r.al {w : World} {b : Nat} {y m d h n s z : Int} {X : World} {o : Obj} (k : S1r w b y m d h n s z X) : S1r w b y m d h n s z (X.alloc o) := S1.on (X := X) k ((Below.refl _ _).alloc (Nat.le_refl _) _)
theorem S1r.sets {w : World} {b g : Nat} {y m d h n s z : Int} {X : World} {a0 a1 a2 a3 a4 a5 a6 : Value} (k : S1r w b y m d h n s z X) (hg : b < g) (hw : w.heap.size ≤ g) (hO : Over w.heap.size) : S1r w b y m d h n s z (((((((X.setCell ⟨g, 0, none⟩ a0).setCell ⟨g, 1, none⟩ a1).setCell ⟨g, 2, none⟩ a2).setCell ⟨g, 3, none⟩ a3).setCell ⟨g, 4, none⟩ a4).setCell ⟨g, 5, none⟩ a5).setCell ⟨g, 6, none⟩ a6) := by
  have hb : Below g X (((((((X.setCell ⟨g, 0, none⟩ a0).setCell ⟨g, 1, none⟩ a1).setCell ⟨g, 2, none⟩ a2).setCell ⟨g, 3, none⟩ a3).setCell ⟨g, 4, none⟩ a4).setCell ⟨g, 5, none⟩ a5).setCell ⟨g, 6, none⟩ a6) := ((((((((Below.refl g X).setCell (show g ≤ (⟨g, 0, none⟩ : Addr).block from Nat.le_refl _) _).setCell (show g ≤ (⟨g, 1, none⟩ : Addr).block from Nat.le_refl _) _).setCell (show g ≤ (⟨g, 2, none⟩ : Addr).block from Nat.le_refl _) _).setCell (show g ≤ (⟨g, 3, none⟩ : Addr).block from Nat.le_refl _) _).setCell (show g ≤ (⟨g, 4, none⟩ : Addr).block from Nat.le_refl _) _).setCell (show g ≤ (⟨g, 5, none⟩ : Addr).block from Nat.le_refl _) _).setCell (show g ≤ (⟨g, 6, none⟩ : Addr).block from Nat.le_refl _) _)
  obtain ⟨a0, a1, a2, a3, a4, a5, a6, he, hq⟩ := k
  refine ⟨?_, ?_, ?_, ?_, ?_, ?_, ?_, he.onB hb (hO.mono hw), hq.trans (hb.mono hw)⟩
  · rw [hb.cell (p := ⟨b, 0, none⟩) hg]; exact a0
  · rw [hb.cell (p := ⟨b, 1, none⟩) hg]; exact a1
  · rw [hb.cell (p := ⟨b, 2, none⟩) hg]; exact a2
  · rw [hb.cell (p := ⟨b, 3, none⟩) hg]; exact a3
  · rw [hb.cell (p := ⟨b, 4, none⟩) hg]; exact a4
  · rw [hb.cell (p := ⟨b, 5, none⟩) hg]; exact a5
  · rw [hb.cell (p := ⟨b, 6, none⟩) hg]; exact a6
structure RetF (w : World) (y m d h n s z sv : Int) : Prop where
  s1 : ∀ X, S1r w w.heap.size y m d h n s z X → Calls Tryd.prog 13 #[.agg #[.int .i64 y, .int .i64 m, .int .i64 d, .int .i64 h, .int .i64 n, .int .i64 s, .int .i64 z]] X fun e w' => e = .returned (.int .i64 sv) ∧ S1r w w.heap.size y m d h n s z w' ∧ Below X.heap.size X w'
  a1 : ∀ X, S1r w w.heap.size y m d h n s z X → Calls Tryd.prog 15 #[.int .i64 sv, .int .i64 z] X fun e w' => e = .returned (.tuple #[.agg #[.int .i64 y, .int .i64 m, .int .i64 d, .int .i64 h, .int .i64 n, .int .i64 s, .int .i64 z], .int .i64 0]) ∧ S1r w w.heap.size y m d h n s z w' ∧ Below X.heap.size X w'
theorem bx_new (w : World) : Bx w.heap.size 0 0 0 0 0 0 0 (w.alloc (.cells #[.int .i64 0, .int .i64 0, .int .i64 0, .int .i64 0, .int .i64 0, .int .i64 0, .int .i64 0] 23)) := ⟨heap_alloc_new w _⟩
set_option maxRecDepth 100000 in
set_option maxHeartbeats 4000000 in
theorem MomentReturns_walk (y m d h n s z st zo : Int) (w : World) (he : Env w) (h64 : -9223372036854775808 ≤ st) (h65 : st ≤ 9223372036854775807) :
    Calls Tryd.prog 4 #[mom y m d h n s z, .int .i64 st, .int .i64 zo] w fun e w' => e = .returned (.bool true) ∧ Below w.heap.size w w' := by
  have HK := Lib.hid (fun W hW => known_any W hW)
  have HV := Lib.hid (fun W hW => momValid_any y m d h n s z W hW)
  have q0 : Below w.heap.size w (w.alloc (.cells #[.int .i64 y, .int .i64 m, .int .i64 d, .int .i64 h, .int .i64 n, .int .i64 s, .int .i64 z] 23)) := (Below.refl _ _).alloc (Nat.le_refl _) _
  have st0 : S1 w w.heap.size y m d h n s z (w.alloc (.cells #[.int .i64 y, .int .i64 m, .int .i64 d, .int .i64 h, .int .i64 n, .int .i64 s, .int .i64 z] 23)) := S1.mk' (cells7_new w y m d h n s z _) (he.on q0) q0
  have hat := at_cases st zo h64 h65
  have hO := he.over
  cases hv : validB y m d h n s z with
  | true =>
    have hF : RetF w y m d h n s z (stampV y m d h n s z) :=
      ⟨fun X hX => (momStamp_any y m d h n s z X hX.2.2.2.2.2.2.2.1).mono fun e w' ⟨k1, k2⟩ => ⟨k1, S1.on (X := X) hX k2, k2⟩,
       fun X hX => ((at_back y m d h n s z hv).c X hX.2.2.2.2.2.2.2.1).mono fun e w' ⟨k1, k2⟩ => ⟨k1, S1.on (X := X) hX k2, k2⟩⟩
    rw [hv] at HV
    generalize stampV y m d h n s z = sv at *
    clear he q0 hv
    unfold mom at HV ⊢
    go_enter Tryd.func4, Tryd.ntmps4
    go_wp2_with fail
    refine (HK.out _ st0.ev).mono ?_
    rintro e w1 ⟨rfl, hb1⟩
    have st1 := st0.on hb1
    clear hb1 st0
    obtain ⟨x0, x1, x2, x3, x4, x5, x6, xe, xb⟩ := st1
    go_wp2_with fail
    refine (HV.out _ xe).mono ?_
    rintro e w2 ⟨rfl, hb2⟩
    have st2 : S1 w w.heap.size y m d h n s z w2 := S1.on ⟨x0, x1, x2, x3, x4, x5, x6, xe, xb⟩ hb2
    have hl2 : w.heap.size < w2.heap.size := block_lt_of_cell st2.1
    have st3 : Hid (S1r w w.heap.size y m d h n s z w2.drew) := Lib.hid (S1.on st2 (Below.refl _ _).drew)
    have stA : Hid (S1r w w.heap.size y m d h n s z (w2.alloc (.cells #[.int .i64 0, .int .i64 0, .int .i64 0, .int .i64 0, .int .i64 0, .int .i64 0, .int .i64 0] 23)).drew) := Lib.hid (S1.on (X := w2.alloc (.cells #[.int .i64 0, .int .i64 0, .int .i64 0, .int .i64 0, .int .i64 0, .int .i64 0, .int .i64 0] 23)) (S1r.al (X := w2) st2) (Below.refl _ _).drew)
    have bxA : Hid (Bx w2.heap.size 0 0 0 0 0 0 0 (w2.alloc (.cells #[.int .i64 0, .int .i64 0, .int .i64 0, .int .i64 0, .int .i64 0, .int .i64 0, .int .i64 0] 23)).drew) := Lib.hid ((bx_new w2).on (Below.refl _ _).drew)
    clear hb2 x0 x1 x2 x3 x4 x5 x6 xe xb st2
    go_upto_region 4 with fail
    go_cut [7, 8] (fun s7 s8 wx => ∃ g, s7 = .pointer (some ⟨g, 0, none⟩) ∧ s8 = .int .i64 0 ∧ Cells7 g y m d h n s z wx ∧ S1r w w.heap.size y m d h n s z wx)
    case first =>
      (go_region_held3 (fun X => X.cell? ⟨w.heap.size, 0, none⟩ = some (.int .i64 y) ∧ X.cell? ⟨w.heap.size, 1, none⟩ = some (.int .i64 m) ∧ X.cell? ⟨w.heap.size, 2, none⟩ = some (.int .i64 d) ∧ X.cell? ⟨w.heap.size, 3, none⟩ = some (.int .i64 h) ∧ X.cell? ⟨w.heap.size, 4, none⟩ = some (.int .i64 n) ∧ X.cell? ⟨w.heap.size, 5, none⟩ = some (.int .i64 s) ∧ X.cell? ⟨w.heap.size, 6, none⟩ = some (.int .i64 z) ∧ Env X ∧ Below w.heap.size w X) (first | with_reducible exact st3.out | with_reducible assumption | with_reducible exact stA.out | (with_reducible refine S1r.al ?_; with_reducible assumption) | (with_reducible refine S1r.sets ?_ ?_ ?_ hO; with_reducible assumption; omega; omega)) (first | (go_at_call 13; with_reducible refine (hF.s1 _ ?_).mono ?_; with_reducible assumption; rintro e w5 ⟨rfl, hs5, hb5⟩; have hl5 := block_lt_of_cell hs5.1; (try have zz5 : Hid (Bx w2.heap.size 0 0 0 0 0 0 0 w5) := Lib.hid (bxA.out.on hb5))) | (go_at_call 15; with_reducible refine (hF.a1 _ ?_).mono ?_; with_reducible assumption; rintro e w6 ⟨rfl, hs6, hb6⟩; (first | have zz6 : Hid (Bx w2.heap.size 0 0 0 0 0 0 0 w6) := Lib.hid (zz5.out.on hb6) | have zz6 : Hid (Bx w5.heap.size 0 0 0 0 0 0 0 w6) := Lib.hid ((bx_new w5).on hb6) | skip); (try obtain ⟨v0, v1, v2, v3, v4, v5, v6⟩ := zz6.out.cells); (try have f0 := zz6.out.free 0); (try have f1 := zz6.out.free 1); (try have f2 := zz6.out.free 2); (try have f3 := zz6.out.free 3); (try have f4 := zz6.out.free 4); (try have f5 := zz6.out.free 5); (try have f6 := zz6.out.free 6))))
      all_goals (
        go_wp2_with fail
        go_meet
        first
          | exact ⟨_, rfl, rfl, cells7_new w6 y m d h n s z _, by with_reducible assumption⟩
          | (obtain ⟨q0, q1, q2, q3, q4, q5, q6⟩ := ((zz6.out.set0 (v := y)).set1 (v := m) |>.set2 (v := d) |>.set3 (v := h) |>.set4 (v := n) |>.set5 (v := s) |>.set6 (v := z) |>.cells); exact ⟨_, rfl, rfl, ⟨q0, q1, q2, q3, q4, q5, q6⟩, by with_reducible assumption⟩))
    case rest =>
      obtain ⟨gx, rfl, rfl, kB, kA⟩ := hcut
      obtain ⟨x0, x1, x2, x3, x4, x5, x6, xe, xb⟩ := kA
      obtain ⟨r0, r1, r2, r3, r4, r5, r6⟩ := kB
      clear hF HK HV st3 stA bxA
      rcases hat with ⟨er, hno⟩ | ⟨py, pm, pd, ph, pn, ps, hok⟩
      · obtain ⟨te, hc⟩ := hno
        unfold mom at hc
        go_wp2_with fail
        refine (hc _).mono ?_
        rintro e w6 ⟨rfl, hb6⟩
        have q6 := xb.trans (hb6.mono xb.size)
        have q7 : Below w.heap.size w (w6.alloc (.cells #[.int .i64 0, .int .i64 0, .int .i64 0, .int .i64 0, .int .i64 0, .int .i64 0, .int .i64 0] 23)) := q6.alloc q6.size _
        clear hb6
        go_wp2
        go_ret
        exact ⟨rfl, q7⟩
      · obtain ⟨vv, vs, hc⟩ := hok
        unfold mom at hc
        have hT := retT py pm pd ph pn ps zo vv
        rw [vs] at hT
        have hN := valid_next py pm pd ph pn ps zo vv
        rw [vs] at hN
        have hb := stampV_bounds py pm pd ph pn ps zo
        rw [vs] at hb
        have hvt := valid_time py pm pd ph pn ps zo vv
        go_wp2_with fail
        refine (hc _ xe).mono ?_
        rintro e w6 ⟨rfl, hb6⟩
        have e6 := xe.on hb6
        have q6 := xb.trans (hb6.mono xb.size)
        have q7 : Below w.heap.size w (w6.alloc (.cells #[.int .i64 py, .int .i64 pm, .int .i64 pd, .int .i64 ph, .int .i64 pn, .int .i64 ps, .int .i64 zo] 23)) := q6.alloc q6.size _
        have e7 : Env (w6.alloc (.cells #[.int .i64 py, .int .i64 pm, .int .i64 pd, .int .i64 ph, .int .i64 pn, .int .i64 ps, .int .i64 zo] 23)) := e6.on ((Below.refl _ _).alloc (Nat.le_refl _) _)
        have b7 : Bx w6.heap.size py pm pd ph pn ps zo (w6.alloc (.cells #[.int .i64 py, .int .i64 pm, .int .i64 pd, .int .i64 ph, .int .i64 pn, .int .i64 ps, .int .i64 zo] 23)) := ⟨heap_alloc_new w6 _⟩
        clear hb6 e6 xe xb vv vs hc
        go_wp2_with fail
        refine (hT.v _ e7).mono ?_
        rintro e w11 ⟨rfl, hb11⟩
        have b11 := b7.on hb11
        have e11 := e7.on hb11
        have q11 := q7.trans (hb11.mono q7.size)
        obtain ⟨a0, a1, a2, a3, a4, a5, a6⟩ := b11.cells
        clear hb11 b7 e7 q7
        go_wp2_with fail
        refine (hT.s1 _ e11).mono ?_
        rintro e w12 ⟨rfl, hb12⟩
        have b12 := b11.on hb12
        have e12 := e11.on hb12
        have q12 := q11.trans (hb12.mono q11.size)
        clear a0 a1 a2 a3 a4 a5 a6 hb12 b11 e11 q11
        obtain ⟨a0, a1, a2, a3, a4, a5, a6⟩ := b12.cells
        have f5 := b12.free 5
        by_cases h59 : ps = 59
        · subst h59
          go_wp2
          go_ret
          exact ⟨rfl, q12⟩
        · obtain ⟨nv, ns⟩ := hN h59
          have hT2 := retT py pm pd ph pn (ps + 1) zo nv
          rw [ns] at hT2
          have hx12 : Below w6.heap.size w12 (w12.setCell ⟨w6.heap.size, 5, none⟩ (.int .i64 (ps + 1))) := (Below.refl w6.heap.size w12).setCell (show w6.heap.size ≤ (⟨w6.heap.size, 5, none⟩ : Addr).block from Nat.le_refl _) _
          have e13 := e12.onB hx12 (hO.mono q6.size)
          have q13 := q12.trans (hx12.mono q6.size)
          have hps : ps + 1 ≤ 100 := by omega
          have hps0 : 0 ≤ ps + 1 := by omega
          have hst1 : st + 1 ≤ 400000000000 := by omega
          have hst0 : -400000000000 ≤ st + 1 := by omega
          clear nv ns hN hx12 e12 q12
          go_wp2_with fail
          refine (hT2.s1 _ e13).mono ?_
          rintro e w14 ⟨rfl, hb14⟩
          have q14 := q13.trans (hb14.mono q13.size)
          clear hb14
          go_wp2
          go_ret
          exact ⟨rfl, q14⟩
  | false => exact MomentReturns_no y m d h n s z st zo w he h64 h65 hv
end Go.Proofs.YtlcjpkbcnoibeaaDoor
