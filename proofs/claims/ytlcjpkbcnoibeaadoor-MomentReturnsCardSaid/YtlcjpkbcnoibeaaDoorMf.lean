/- The statement MomentReturns: the tail, and a moment that may not be. -/
import Derived.Test.YtlcjpkbcnoibeaaDoorMa
import Derived.Test.YtlcjpkbcnoibeaaDoorDy
namespace Go.Proofs.YtlcjpkbcnoibeaaDoor
open Go.RowKit

theorem valid_next (y m d h n s z : Int) (hv : validB y m d h n s z = true) (hs : s ≠ 59) : validB y m d h n (s + 1) z = true ∧ stampV y m d h n (s + 1) z = stampV y m d h n s z + 1 := by
  obtain ⟨Y, M, D, rfl, rfl, rfl, hd, ht⟩ := valid_parts y m d h n s z hv
  have ht' := ht
  obtain ⟨b1, b2, b3, b4, b5, b6, b7, b8⟩ := ht'
  have ht2 : IsTime h n (s + 1) z := ⟨by omega, by omega, by omega, by omega, by omega, by omega, by omega, by omega⟩
  refine ⟨valid_mk Y M D h n (s + 1) z hd ht2, ?_⟩
  rw [stampV_mk Y M D h n (s + 1) z hd ht2, stampV_mk Y M D h n s z hd ht]
  unfold stampI
  omega
/-- What the tail needs of the moment that At gives. -/
structure RetT (y m d h n s z st : Int) : Prop where
  v : ∀ X, Env X → Calls Tryd.prog 10 #[.agg #[.int .i64 y, .int .i64 m, .int .i64 d, .int .i64 h, .int .i64 n, .int .i64 s, .int .i64 z]] X fun e w' => e = .returned (.bool true) ∧ Below X.heap.size X w'
  s1 : ∀ X, Env X → Calls Tryd.prog 13 #[.agg #[.int .i64 y, .int .i64 m, .int .i64 d, .int .i64 h, .int .i64 n, .int .i64 s, .int .i64 z]] X fun e w' => e = .returned (.int .i64 st) ∧ Below X.heap.size X w'
theorem S1.ev {w : World} {b : Nat} {y m d h n s z : Int} {X : World} (k : S1 w b y m d h n s z X) : Env X := k.2.2.2.2.2.2.2.1
theorem retT (y m d h n s z : Int) (hv : validB y m d h n s z = true) : RetT y m d h n s z (stampV y m d h n s z) :=
  ⟨fun X hX => by have := momValid_any y m d h n s z X hX; rw [hv] at this; exact this,
   fun X hX => momStamp_any y m d h n s z X hX⟩

set_option maxRecDepth 100000 in
set_option maxHeartbeats 4000000 in
theorem MomentReturns_no (y m d h n s z st zo : Int) (w : World) (he : Env w) (h64 : -9223372036854775808 ≤ st) (h65 : st ≤ 9223372036854775807) (hv : validB y m d h n s z = false) :
    Calls Tryd.prog 4 #[mom y m d h n s z, .int .i64 st, .int .i64 zo] w fun e w' => e = .returned (.bool true) ∧ Below w.heap.size w w' := by
  have HK := Lib.hid (fun W hW => known_any W hW)
  have HV := Lib.hid (fun W hW => momValid_any y m d h n s z W hW)
  have q0 : Below w.heap.size w (w.alloc (.cells #[.int .i64 y, .int .i64 m, .int .i64 d, .int .i64 h, .int .i64 n, .int .i64 s, .int .i64 z] 23)) := (Below.refl _ _).alloc (Nat.le_refl _) _
  have st0 : S1 w w.heap.size y m d h n s z (w.alloc (.cells #[.int .i64 y, .int .i64 m, .int .i64 d, .int .i64 h, .int .i64 n, .int .i64 s, .int .i64 z] 23)) := S1.mk' (cells7_new w y m d h n s z _) (he.on q0) q0
  have hat := at_cases st zo h64 h65
  have hO := he.over
  rw [hv] at HV
  clear he q0 hv
  unfold mom at HV ⊢
  go_enter Tryd.func4, Tryd.ntmps4
  go_wp2_with fail
  refine (HK.out _ st0.ev).mono ?_
  rintro e w1 ⟨rfl, hb1⟩
  have st1 := st0.on hb1
  clear hb1 st0
  obtain ⟨x0, x1, x2, x3, x4, x5, x6, xe, xb⟩ := st1
  go_wp2_with fail
  refine (HV.out _ xe).mono ?_
  rintro e w2 ⟨rfl, hb2⟩
  obtain ⟨_, _, _, _, _, _, _, xe, xb⟩ : S1 w w.heap.size y m d h n s z w2 := S1.on ⟨x0, x1, x2, x3, x4, x5, x6, xe, xb⟩ hb2
  clear hb2 x0 x1 x2 x3 x4 x5 x6 HK HV
  · rcases hat with ⟨er, hno⟩ | ⟨py, pm, pd, ph, pn, ps, hok⟩
    · obtain ⟨te, hc⟩ := hno
      unfold mom at hc
      go_wp2_with fail
      refine (hc _).mono ?_
      rintro e w6 ⟨rfl, hb6⟩
      have q6 := xb.trans (hb6.mono xb.size)
      have q7 : Below w.heap.size w (w6.alloc (.cells #[.int .i64 0, .int .i64 0, .int .i64 0, .int .i64 0, .int .i64 0, .int .i64 0, .int .i64 0] 23)) := q6.alloc q6.size _
      clear hb6
      go_wp2
      go_ret
      exact ⟨rfl, q7⟩
    · obtain ⟨vv, vs, hc⟩ := hok
      unfold mom at hc
      have hT := retT py pm pd ph pn ps zo vv
      rw [vs] at hT
      have hN := valid_next py pm pd ph pn ps zo vv
      rw [vs] at hN
      have hb := stampV_bounds py pm pd ph pn ps zo
      rw [vs] at hb
      have hvt := valid_time py pm pd ph pn ps zo vv
      go_wp2_with fail
      refine (hc _ xe).mono ?_
      rintro e w6 ⟨rfl, hb6⟩
      have e6 := xe.on hb6
      have q6 := xb.trans (hb6.mono xb.size)
      have q7 : Below w.heap.size w (w6.alloc (.cells #[.int .i64 py, .int .i64 pm, .int .i64 pd, .int .i64 ph, .int .i64 pn, .int .i64 ps, .int .i64 zo] 23)) := q6.alloc q6.size _
      have e7 : Env (w6.alloc (.cells #[.int .i64 py, .int .i64 pm, .int .i64 pd, .int .i64 ph, .int .i64 pn, .int .i64 ps, .int .i64 zo] 23)) := e6.on ((Below.refl _ _).alloc (Nat.le_refl _) _)
      have b7 : Bx w6.heap.size py pm pd ph pn ps zo (w6.alloc (.cells #[.int .i64 py, .int .i64 pm, .int .i64 pd, .int .i64 ph, .int .i64 pn, .int .i64 ps, .int .i64 zo] 23)) := ⟨heap_alloc_new w6 _⟩
      clear hb6 e6 xe xb vv vs hc
      go_wp2_with fail
      refine (hT.v _ e7).mono ?_
      rintro e w11 ⟨rfl, hb11⟩
      have b11 := b7.on hb11
      have e11 := e7.on hb11
      have q11 := q7.trans (hb11.mono q7.size)
      obtain ⟨a0, a1, a2, a3, a4, a5, a6⟩ := b11.cells
      clear hb11 b7 e7 q7
      go_wp2_with fail
      refine (hT.s1 _ e11).mono ?_
      rintro e w12 ⟨rfl, hb12⟩
      have b12 := b11.on hb12
      have e12 := e11.on hb12
      have q12 := q11.trans (hb12.mono q11.size)
      clear a0 a1 a2 a3 a4 a5 a6 hb12 b11 e11 q11
      obtain ⟨a0, a1, a2, a3, a4, a5, a6⟩ := b12.cells
      have f5 := b12.free 5
      by_cases h59 : ps = 59
      · subst h59
        go_wp2
        go_ret
        exact ⟨rfl, q12⟩
      · obtain ⟨nv, ns⟩ := hN h59
        have hT2 := retT py pm pd ph pn (ps + 1) zo nv
        rw [ns] at hT2
        have hx12 : Below w6.heap.size w12 (w12.setCell ⟨w6.heap.size, 5, none⟩ (.int .i64 (ps + 1))) := (Below.refl w6.heap.size w12).setCell (show w6.heap.size ≤ (⟨w6.heap.size, 5, none⟩ : Addr).block from Nat.le_refl _) _
        have e13 := e12.onB hx12 (hO.mono q6.size)
        have q13 := q12.trans (hx12.mono q6.size)
        have hps : ps + 1 ≤ 100 := by omega
        have hps0 : 0 ≤ ps + 1 := by omega
        have hst1 : st + 1 ≤ 400000000000 := by omega
        have hst0 : -400000000000 ≤ st + 1 := by omega
        clear nv ns hN hx12 e12 q12
        go_wp2_with fail
        refine (hT2.s1 _ e13).mono ?_
        rintro e w14 ⟨rfl, hb14⟩
        have q14 := q13.trans (hb14.mono q13.size)
        clear hb14
        go_wp2
        go_ret
        exact ⟨rfl, q14⟩

end Go.Proofs.YtlcjpkbcnoibeaaDoor
