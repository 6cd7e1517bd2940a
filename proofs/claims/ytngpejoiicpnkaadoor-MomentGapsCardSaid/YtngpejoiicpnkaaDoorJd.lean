/- The statement MomentGaps: the walk, of a moment that may be. -/
import Derived.Test.YtngpejoiicpnkaaDoorJc
import Derived.Test.YtngpejoiicpnkaaDoorHi
import Derived.Deep.DeepCutAuto
namespace Go.Proofs.YtngpejoiicpnkaaDoor
open Go.RowKit

/-- A moment that came in, in a block of its own. -/
abbrev SG (w : World) (y m d h n s z : Int) (X : World) : Prop :=
  X.cell? ⟨w.heap.size, 0, none⟩ = some (.int .i64 y) ∧ X.cell? ⟨w.heap.size, 1, none⟩ = some (.int .i64 m) ∧ X.cell? ⟨w.heap.size, 2, none⟩ = some (.int .i64 d) ∧ X.cell? ⟨w.heap.size, 3, none⟩ = some (.int .i64 h) ∧ X.cell? ⟨w.heap.size, 4, none⟩ = some (.int .i64 n) ∧ X.cell? ⟨w.heap.size, 5, none⟩ = some (.int .i64 s) ∧ X.cell? ⟨w.heap.size, 6, none⟩ = some (.int .i64 z) ∧ Bx w.heap.size y m d h n s z X ∧ Env X ∧ Below w.heap.size w X
theorem SG.mk' {w : World} {y m d h n s z : Int} {X : World} (bx : Bx w.heap.size y m d h n s z X) (he : Env w) (hb : Below w.heap.size w X) : SG w y m d h n s z X := by
  obtain ⟨a0, a1, a2, a3, a4, a5, a6⟩ := bx.cells
  exact ⟨a0, a1, a2, a3, a4, a5, a6, bx, he.on hb, hb⟩
theorem SG.on {w : World} {y m d h n s z : Int} {X Y : World} (he : Env w) (k : SG w y m d h n s z X) (hb : Below X.heap.size X Y) : SG w y m d h n s z Y := by
  obtain ⟨_, _, _, _, _, _, _, bx, _, bw⟩ := k
  exact SG.mk' (bx.on hb) he (bw.trans (hb.mono bw.size))
structure GaF (w : World) (ao : Option Addr) (len cap : Nat) (y m d h n s s2 z na nb : Int) (u A2 zs g0 g1 g2 g3 g4 g5 g6 g7 g8 g9 g10 td th tn ts ta tb : ByteArray) : Prop where
  kn : ∀ X, SG w y m d h n s z X → Calls Tryd.prog 9 #[] X fun e w' => e = .returned (.bool true) ∧ SG w y m d h n s z w' ∧ Below X.heap.size X w'
  va : ∀ X, SG w y m d h n s z X → Calls Tryd.prog 10 #[.agg #[.int .i64 y, .int .i64 m, .int .i64 d, .int .i64 h, .int .i64 n, .int .i64 s, .int .i64 z]] X fun e w' => e = .returned (.bool true) ∧ SG w y m d h n s z w' ∧ Below X.heap.size X w'
  pd : ∀ X, SG w y m d h n s z X → Calls Tryd.prog 18 #[.agg #[.int .i64 y, .int .i64 m, .int .i64 d, .int .i64 h, .int .i64 n, .int .i64 s, .int .i64 z]] X fun e w' => e = .returned (.tuple #[.string u, .int .i64 0]) ∧ SG w y m d h n s z w' ∧ Below X.heap.size X w'
  q0 : ∀ s' X, SG w y m d h n s' z X → Calls Tryd.prog 22 #[.slice ao len cap, .int .i64 0] X fun e w' => e = .returned (.string g0) ∧ SG w y m d h n s' z w' ∧ Below X.heap.size X w'
  q1 : ∀ s' X, SG w y m d h n s' z X → Calls Tryd.prog 22 #[.slice ao len cap, .int .i64 1] X fun e w' => e = .returned (.string g1) ∧ SG w y m d h n s' z w' ∧ Below X.heap.size X w'
  q2 : ∀ s' X, SG w y m d h n s' z X → Calls Tryd.prog 22 #[.slice ao len cap, .int .i64 2] X fun e w' => e = .returned (.string g2) ∧ SG w y m d h n s' z w' ∧ Below X.heap.size X w'
  q3 : ∀ s' X, SG w y m d h n s' z X → Calls Tryd.prog 22 #[.slice ao len cap, .int .i64 3] X fun e w' => e = .returned (.string g3) ∧ SG w y m d h n s' z w' ∧ Below X.heap.size X w'
  q4 : ∀ s' X, SG w y m d h n s' z X → Calls Tryd.prog 22 #[.slice ao len cap, .int .i64 4] X fun e w' => e = .returned (.string g4) ∧ SG w y m d h n s' z w' ∧ Below X.heap.size X w'
  q5 : ∀ s' X, SG w y m d h n s' z X → Calls Tryd.prog 22 #[.slice ao len cap, .int .i64 5] X fun e w' => e = .returned (.string g5) ∧ SG w y m d h n s' z w' ∧ Below X.heap.size X w'
  q6 : ∀ s' X, SG w y m d h n s' z X → Calls Tryd.prog 22 #[.slice ao len cap, .int .i64 6] X fun e w' => e = .returned (.string g6) ∧ SG w y m d h n s' z w' ∧ Below X.heap.size X w'
  q7 : ∀ s' X, SG w y m d h n s' z X → Calls Tryd.prog 22 #[.slice ao len cap, .int .i64 7] X fun e w' => e = .returned (.string g7) ∧ SG w y m d h n s' z w' ∧ Below X.heap.size X w'
  q8 : ∀ s' X, SG w y m d h n s' z X → Calls Tryd.prog 22 #[.slice ao len cap, .int .i64 8] X fun e w' => e = .returned (.string g8) ∧ SG w y m d h n s' z w' ∧ Below X.heap.size X w'
  q9 : ∀ s' X, SG w y m d h n s' z X → Calls Tryd.prog 22 #[.slice ao len cap, .int .i64 9] X fun e w' => e = .returned (.string g9) ∧ SG w y m d h n s' z w' ∧ Below X.heap.size X w'
  q10 : ∀ s' X, SG w y m d h n s' z X → Calls Tryd.prog 22 #[.slice ao len cap, .int .i64 10] X fun e w' => e = .returned (.string g10) ∧ SG w y m d h n s' z w' ∧ Below X.heap.size X w'
  rtd : ∀ s' X, SG w y m d h n s' z X → Calls Tryd.prog 23 #[.int .i64 d] X fun e w' => e = .returned (.string td) ∧ SG w y m d h n s' z w' ∧ Below X.heap.size X w'
  rth : ∀ s' X, SG w y m d h n s' z X → Calls Tryd.prog 23 #[.int .i64 h] X fun e w' => e = .returned (.string th) ∧ SG w y m d h n s' z w' ∧ Below X.heap.size X w'
  rtn : ∀ s' X, SG w y m d h n s' z X → Calls Tryd.prog 23 #[.int .i64 n] X fun e w' => e = .returned (.string tn) ∧ SG w y m d h n s' z w' ∧ Below X.heap.size X w'
  rts : ∀ s' X, SG w y m d h n s' z X → Calls Tryd.prog 23 #[.int .i64 s] X fun e w' => e = .returned (.string ts) ∧ SG w y m d h n s' z w' ∧ Below X.heap.size X w'
  rta : ∀ s' X, SG w y m d h n s' z X → Calls Tryd.prog 23 #[.int .i64 na] X fun e w' => e = .returned (.string ta) ∧ SG w y m d h n s' z w' ∧ Below X.heap.size X w'
  rtb : ∀ s' X, SG w y m d h n s' z X → Calls Tryd.prog 23 #[.int .i64 nb] X fun e w' => e = .returned (.string tb) ∧ SG w y m d h n s' z w' ∧ Below X.heap.size X w'
  rh : ∀ X, SG w y m d h n s2 z X → Calls Tryd.prog 21 #[.string (A2 ++ g9 ++ zs ++ ta ++ tb ++ g10)] X fun e w' => e = .returned (.tuple #[.agg #[.int .i64 y, .int .i64 m, .int .i64 d, .int .i64 h, .int .i64 n, .int .i64 s2, .int .i64 z], .int .i64 0]) ∧ SG w y m d h n s2 z w' ∧ Below X.heap.size X w'
  rx : ∀ X, SG w y m d h n s2 z X → Calls Tryd.prog 21 #[.string (A2 ++ g9 ++ zs ++ ta ++ tb ++ g10 ++ ⟨#[120]⟩)] X fun e w' => e = .returned (.tuple #[.agg #[.int .i64 0, .int .i64 0, .int .i64 0, .int .i64 0, .int .i64 0, .int .i64 0, .int .i64 0], .int .i64 20]) ∧ SG w y m d h n s2 z w' ∧ Below X.heap.size X w'
  rp : ∀ X, SG w y m d h n s2 z X → Calls Tryd.prog 21 #[.string (A2 ++ g9 ++ zs ++ ta ++ tb ++ g10 ++ ⟨#[40, 120]⟩)] X fun e w' => e = .returned (.tuple #[.agg #[.int .i64 y, .int .i64 m, .int .i64 d, .int .i64 h, .int .i64 n, .int .i64 s2, .int .i64 z], .int .i64 0]) ∧ SG w y m d h n s2 z w' ∧ Below X.heap.size X w'

set_option maxRecDepth 100000 in
set_option maxHeartbeats 20000000 in
theorem gaps_go (w : World) (ao : Option Addr) (len cap : Nat) (y m d h n s s2 z az na nb : Int) (wk sec : Bool) (u yt mt zs A0 A1 A2 g0 g1 g2 g3 g4 g5 g6 g7 g8 g9 g10 td th tn ts ta tb : ByteArray) (k c0 c1 c2 l0 l1 l2 l3 l4 l5 l6 l7 l8 l9 l10 : Nat)
    (hF : GaF w ao len cap y m d h n s s2 z na nb u A2 zs g0 g1 g2 g3 g4 g5 g6 g7 g8 g9 g10 td th tn ts ta tb)
    (st0 : SG w y m d h n s z (w.alloc (.cells #[.int .i64 y, .int .i64 m, .int .i64 d, .int .i64 h, .int .i64 n, .int .i64 s, .int .i64 z] 23)))
    (he : Hid (Env w)) (hk : k = 10 ∨ k = 11) (hu : u.size = k) (hy : u.extract (k - 4) k = yt) (hm : u.extract (k - 8) (k - 5) = mt) (zy : yt.size = 4) (zm : mt.size = 3) (zz : zs.size = 1)
    (hz : (z < 0 ∧ zs = ⟨#[45]⟩ ∧ az = -z) ∨ (0 ≤ z ∧ zs = ⟨#[43]⟩ ∧ az = z)) (hz1 : -1439 ≤ z) (hz2 : z ≤ 1439) (ha : Int.tdiv az 60 = na) (hb : Int.tmod az 60 = nb) (hna : 0 ≤ na ∧ na < 100) (_hnb : 0 ≤ nb ∧ nb < 100)
    (zg0 : g0.size = l0) (lg0 : l0 ≤ 900)
    (zg1 : g1.size = l1) (lg1 : l1 ≤ 900)
    (zg2 : g2.size = l2) (lg2 : l2 ≤ 900)
    (zg3 : g3.size = l3) (lg3 : l3 ≤ 900)
    (zg4 : g4.size = l4) (lg4 : l4 ≤ 900)
    (zg5 : g5.size = l5) (lg5 : l5 ≤ 900)
    (zg6 : g6.size = l6) (lg6 : l6 ≤ 900)
    (zg7 : g7.size = l7) (lg7 : l7 ≤ 900)
    (zg8 : g8.size = l8) (lg8 : l8 ≤ 900)
    (zg9 : g9.size = l9) (lg9 : l9 ≤ 900)
    (zg10 : g10.size = l10) (lg10 : l10 ≤ 900)
    (zd : td.size = 2) (zh : th.size = 2) (zn : tn.size = 2) (zs2 : ts.size = 2) (za : ta.size = 2) (zb : tb.size = 2)
    (HA0 : Hid (A0 = if wk then g0 ++ ⟨#[119, 69, 68]⟩ ++ g1 ++ ⟨#[44]⟩ else g0)) (k0 : A0.size = c0) (b0 : c0 ≤ 2000)
    (HA1 : Hid (A0 ++ g2 ++ td ++ g3 ++ mt ++ g4 ++ yt ++ g5 ++ th ++ g6 ++ ⟨#[58]⟩ ++ g7 ++ tn = A1)) (k1 : A1.size = c1) (b1 : c1 ≤ 12000)
    (HA2 : Hid (A2 = if sec then A1 ++ g8 ++ ⟨#[58]⟩ ++ ts else A1)) (k2 : A2.size = c2) (b2 : c2 ≤ 15000) (HS2 : Hid (s2 = if sec then s else 0)) :
    Calls Tryd.prog 7 #[.agg #[.int .i64 y, .int .i64 m, .int .i64 d, .int .i64 h, .int .i64 n, .int .i64 s, .int .i64 z], .slice ao len cap, .bool wk, .bool sec] w fun e w' => e = .returned (.bool true) ∧ Below w.heap.size w w' := by
  go_enter Tryd.func7, Tryd.ntmps7
  have ST0 := Lib.hid st0
  clear st0
  go_wp2_with fail
  refine (hF.kn _ ST0.out).mono ?_
  rintro e w1 ⟨rfl, st1, hb1⟩
  clear hb1
  have ST1 := Lib.hid st1
  obtain ⟨x0, x1, x2, x3, x4, x5, x6, bx, ev, bw⟩ := st1
  go_wp2_with fail
  refine (hF.va _ ST1.out).mono ?_
  rintro e w2 ⟨rfl, st2, hb2⟩
  clear hb2
  clear x0 x1 x2 x3 x4 x5 x6 bx ev bw
  clear ST1 ST0
  have ST2 := Lib.hid st2
  obtain ⟨x0, x1, x2, x3, x4, x5, x6, bx, ev, bw⟩ := st2
  go_wp2_with fail
  refine (hF.pd _ ST2.out).mono ?_
  rintro e w3 ⟨rfl, st3, hb3⟩
  clear hb3
  clear x0 x1 x2 x3 x4 x5 x6 bx ev bw
  clear ST2
  have ST3 := Lib.hid st3
  obtain ⟨x0, x1, x2, x3, x4, x5, x6, bx, ev, bw⟩ := st3
  have hk10 : 10 ≤ k := by omega
  go_upto_region 8 with fail
  go_cut [11] (fun a wx => a = .string yt ∧ wx = w3)
  case first =>
    rcases hk with rfl | rfl
    all_goals (
      go_wp2_with fail
      go_meet
      exact ⟨by rw [← hy], rfl⟩)
  case rest =>
  obtain ⟨rfl, hwc⟩ := hcut
  subst wc
  go_upto_region 9 with fail
  go_cut [12] (fun a wx => a = .string mt ∧ wx = w3)
  case first =>
    rcases hk with rfl | rfl
    all_goals (
      go_wp2_with fail
      go_meet
      exact ⟨by rw [← hm], rfl⟩)
  case rest =>
  obtain ⟨rfl, hwc⟩ := hcut
  subst wc
  go_upto_if 51 with fail
  go_cut [13, 14] (fun a b wx => a = .int .i64 az ∧ b = .string zs ∧ wx = w3)
  case first =>
    rcases hz with ⟨hz, rfl, rfl⟩ | ⟨hz, rfl, rfl⟩
    all_goals (
      go_wp2_with fail
      go_meet
      exact ⟨rfl, rfl, rfl⟩)
  case rest =>
  obtain ⟨rfl, rfl, hwc⟩ := hcut
  subst wc
  clear hk hu hy hm hz hk10
  go_wp2_with fail
  refine (hF.q0 _ _ ST3.out).mono ?_
  rintro e w4 ⟨rfl, st4, hb4⟩
  clear hb4 x0 x1 x2 x3 x4 x5 x6 bx ev bw ST3
  have ST4 := Lib.hid st4
  clear st4
  go_upto_if 56 with fail
  go_cut [15] (fun a wx => a = .string A0 ∧ SG w y m d h n s z wx)
  case first =>
    cases wk
    · go_wp2_with fail
      go_meet
      exact ⟨by rw [HA0.out]; rfl, ST4.out⟩
    · go_wp2_with fail
      refine (hF.q1 _ _ ST4.out).mono ?_
      rintro e w5 ⟨rfl, st5, hb5⟩
      clear hb5
      have ST5 := Lib.hid st5
      clear st5
      go_wp2_with fail
      go_meet
      exact ⟨by rw [HA0.out]; rfl, ST5.out⟩
  case rest =>
  obtain ⟨rfl, hsc⟩ := hcut
  have STC := Lib.hid hsc
  have STD : Hid (SG w y m d h n s z wc.drew) := Lib.hid (SG.on he.out hsc (Below.refl _ _).drew)
  clear hsc HA0 ST4
  go_upto_region 18 with fail
  go_cut [15] (fun a wx => a = .string A1 ∧ SG w y m d h n s z wx)
  case first =>
    clear ha hb hna _hnb zz hz1 hz2 zs2 za zb zg0 zg1 zg8 zg9 zg10 lg0 lg1 lg8 lg9 lg10 HA2 k1 b1 k2 b2 HS2 he
    have z58 : (⟨#[58]⟩ : ByteArray).size = 1 := rfl
    obtain ⟨T0, hT0⟩ : ∃ T, A0 ++ g2 = T := ⟨_, rfl⟩
    have zT0 : T0.size ≤ 3000 := by rw [← hT0, ByteArray.size_append, zg2]; omega
    obtain ⟨T1, hT1⟩ : ∃ T, T0 ++ td = T := ⟨_, rfl⟩
    have zT1 : T1.size ≤ 4000 := by rw [← hT1, ByteArray.size_append, zd]; omega
    obtain ⟨T2, hT2⟩ : ∃ T, T1 ++ g3 = T := ⟨_, rfl⟩
    have zT2 : T2.size ≤ 5000 := by rw [← hT2, ByteArray.size_append, zg3]; omega
    obtain ⟨T3, hT3⟩ : ∃ T, T2 ++ mt = T := ⟨_, rfl⟩
    have zT3 : T3.size ≤ 6000 := by rw [← hT3, ByteArray.size_append, zm]; omega
    obtain ⟨T4, hT4⟩ : ∃ T, T3 ++ g4 = T := ⟨_, rfl⟩
    have zT4 : T4.size ≤ 7000 := by rw [← hT4, ByteArray.size_append, zg4]; omega
    obtain ⟨T5, hT5⟩ : ∃ T, T4 ++ yt = T := ⟨_, rfl⟩
    have zT5 : T5.size ≤ 8000 := by rw [← hT5, ByteArray.size_append, zy]; omega
    obtain ⟨T6, hT6⟩ : ∃ T, T5 ++ g5 = T := ⟨_, rfl⟩
    have zT6 : T6.size ≤ 9000 := by rw [← hT6, ByteArray.size_append, zg5]; omega
    obtain ⟨T7, hT7⟩ : ∃ T, T6 ++ th = T := ⟨_, rfl⟩
    have zT7 : T7.size ≤ 10000 := by rw [← hT7, ByteArray.size_append, zh]; omega
    obtain ⟨T8, hT8⟩ : ∃ T, T7 ++ g6 = T := ⟨_, rfl⟩
    have zT8 : T8.size ≤ 11000 := by rw [← hT8, ByteArray.size_append, zg6]; omega
    obtain ⟨T9, hT9⟩ : ∃ T, T8 ++ ⟨#[58]⟩ = T := ⟨_, rfl⟩
    have zT9 : T9.size ≤ 12000 := by rw [← hT9, ByteArray.size_append, z58]; omega
    obtain ⟨T10, hT10⟩ : ∃ T, T9 ++ g7 = T := ⟨_, rfl⟩
    have zT10 : T10.size ≤ 13000 := by rw [← hT10, ByteArray.size_append, zg7]; omega
    have hT11 : T10 ++ tn = A1 := by rw [← hT10, ← hT9, ← hT8, ← hT7, ← hT6, ← hT5, ← hT4, ← hT3, ← hT2, ← hT1, ← hT0]; exact HA1.out
    have nb0 : ¬ A0.size + g2.size > 9223372036854775807 := by rw [zg2]; omega
    have nb1 : ¬ T0.size + td.size > 9223372036854775807 := by rw [zd]; omega
    have nb2 : ¬ T1.size + g3.size > 9223372036854775807 := by rw [zg3]; omega
    have nb3 : ¬ T2.size + mt.size > 9223372036854775807 := by rw [zm]; omega
    have nb4 : ¬ T3.size + g4.size > 9223372036854775807 := by rw [zg4]; omega
    have nb5 : ¬ T4.size + yt.size > 9223372036854775807 := by rw [zy]; omega
    have nb6 : ¬ T5.size + g5.size > 9223372036854775807 := by rw [zg5]; omega
    have nb7 : ¬ T6.size + th.size > 9223372036854775807 := by rw [zh]; omega
    have nb8 : ¬ T7.size + g6.size > 9223372036854775807 := by rw [zg6]; omega
    have nb9 : ¬ T8.size + (⟨#[58]⟩ : ByteArray).size > 9223372036854775807 := by rw [z58]; omega
    have nb10 : ¬ T9.size + g7.size > 9223372036854775807 := by rw [zg7]; omega
    have nb11 : ¬ T10.size + tn.size > 9223372036854775807 := by rw [zn]; omega
    have st0 : (fun X => X.cell? ⟨w.heap.size, 2, none⟩ = some (.int .i64 d) ∧ X.cell? ⟨w.heap.size, 3, none⟩ = some (.int .i64 h) ∧ X.cell? ⟨w.heap.size, 4, none⟩ = some (.int .i64 n) ∧ Hid (SG w y m d h n s z X)) wc.drew := ⟨STD.out.2.2.1, STD.out.2.2.2.1, STD.out.2.2.2.2.1, STD⟩
    clear STC STD
    refine wp_region_held_drew (S := (fun X => X.cell? ⟨w.heap.size, 2, none⟩ = some (.int .i64 d) ∧ X.cell? ⟨w.heap.size, 3, none⟩ = some (.int .i64 h) ∧ X.cell? ⟨w.heap.size, 4, none⟩ = some (.int .i64 n) ∧ Hid (SG w y m d h n s z X))) (by kernel_rfl) st0 (fun hHeld => ?_)
    clear hHeld
    refine wpAnyH_take (i := 0) (oi := { dst := some 63, op := Go.Op.move (Go.Operand.tmp 15), type := 9, pos := "outright.go:201", after := #[], guard := none }) (v := ?_) rfl (by kernel_rfl) (by kernel_rfl) (by kernel_rfl) (fun _ _ _ h => h) (Or.inl ⟨by kernel_rfl, ?_⟩) st0 ?_
    rotate_left
    · (intro X hX; (try dsimp only at hX); go_simp; try (with_reducible rfl))
    (try simp only [Act.put, List.setIfInBounds_toArray, List.set_cons_zero, List.set_cons_succ])
    refine wpAnyH_take (i := 1) (oi := { dst := some 64, op := Go.Op.move (Go.Operand.tmp 1), type := 37, pos := "outright.go:201", after := #[], guard := none }) (v := ?_) rfl (by kernel_rfl) (by kernel_rfl) (by kernel_rfl) (fun _ _ _ h => h) (Or.inl ⟨by kernel_rfl, ?_⟩) st0 ?_
    rotate_left
    · (intro X hX; (try dsimp only at hX); go_simp; try (with_reducible rfl))
    (try simp only [Act.put, List.setIfInBounds_toArray, List.set_cons_zero, List.set_cons_succ])
    refine wpAnyH_take (i := 4) (oi := { dst := some 67, op := Go.Op.fieldAddr 23 (Go.Operand.tmp 4) 2, type := 0, pos := "outright.go:201", after := #[], guard := none }) (v := ?_) rfl (by kernel_rfl) (by kernel_rfl) (by kernel_rfl) (fun _ _ _ h => h) (Or.inl ⟨by kernel_rfl, ?_⟩) st0 ?_
    rotate_left
    · (intro X hX; (try dsimp only at hX); go_simp; try (with_reducible rfl))
    (try simp only [Act.put, List.setIfInBounds_toArray, List.set_cons_zero, List.set_cons_succ])
    refine wpAnyH_take (i := 5) (oi := { dst := some 68, op := Go.Op.load 3 (Go.Operand.tmp 67), type := 3, pos := "outright.go:201", after := #[{ on := 4, ground := Go.Ground.data }], guard := none }) (v := ?_) rfl (by kernel_rfl) (by kernel_rfl) (by kernel_rfl) (fun _ _ _ h => h) (Or.inl ⟨by kernel_rfl, ?_⟩) st0 ?_
    rotate_left
    · (intro X hX; (try dsimp only at hX); go_simp; try (with_reducible rfl))
    (try simp only [Act.put, List.setIfInBounds_toArray, List.set_cons_zero, List.set_cons_succ])
    refine wpAnyH_take (i := 8) (oi := { dst := some 71, op := Go.Op.move (Go.Operand.tmp 1), type := 37, pos := "outright.go:201", after := #[], guard := none }) (v := ?_) rfl (by kernel_rfl) (by kernel_rfl) (by kernel_rfl) (fun _ _ _ h => h) (Or.inl ⟨by kernel_rfl, ?_⟩) st0 ?_
    rotate_left
    · (intro X hX; (try dsimp only at hX); go_simp; try (with_reducible rfl))
    (try simp only [Act.put, List.setIfInBounds_toArray, List.set_cons_zero, List.set_cons_succ])
    refine wpAnyH_take (i := 11) (oi := { dst := some 74, op := Go.Op.move (Go.Operand.tmp 12), type := 9, pos := "outright.go:201", after := #[], guard := none }) (v := ?_) rfl (by kernel_rfl) (by kernel_rfl) (by kernel_rfl) (fun _ _ _ h => h) (Or.inl ⟨by kernel_rfl, ?_⟩) st0 ?_
    rotate_left
    · (intro X hX; (try dsimp only at hX); go_simp; try (with_reducible rfl))
    (try simp only [Act.put, List.setIfInBounds_toArray, List.set_cons_zero, List.set_cons_succ])
    refine wpAnyH_take (i := 13) (oi := { dst := some 76, op := Go.Op.move (Go.Operand.tmp 1), type := 37, pos := "outright.go:201", after := #[], guard := none }) (v := ?_) rfl (by kernel_rfl) (by kernel_rfl) (by kernel_rfl) (fun _ _ _ h => h) (Or.inl ⟨by kernel_rfl, ?_⟩) st0 ?_
    rotate_left
    · (intro X hX; (try dsimp only at hX); go_simp; try (with_reducible rfl))
    (try simp only [Act.put, List.setIfInBounds_toArray, List.set_cons_zero, List.set_cons_succ])
    refine wpAnyH_take (i := 16) (oi := { dst := some 79, op := Go.Op.move (Go.Operand.tmp 11), type := 9, pos := "outright.go:201", after := #[], guard := none }) (v := ?_) rfl (by kernel_rfl) (by kernel_rfl) (by kernel_rfl) (fun _ _ _ h => h) (Or.inl ⟨by kernel_rfl, ?_⟩) st0 ?_
    rotate_left
    · (intro X hX; (try dsimp only at hX); go_simp; try (with_reducible rfl))
    (try simp only [Act.put, List.setIfInBounds_toArray, List.set_cons_zero, List.set_cons_succ])
    refine wpAnyH_take (i := 18) (oi := { dst := some 81, op := Go.Op.move (Go.Operand.tmp 1), type := 37, pos := "outright.go:201", after := #[], guard := none }) (v := ?_) rfl (by kernel_rfl) (by kernel_rfl) (by kernel_rfl) (fun _ _ _ h => h) (Or.inl ⟨by kernel_rfl, ?_⟩) st0 ?_
    rotate_left
    · (intro X hX; (try dsimp only at hX); go_simp; try (with_reducible rfl))
    (try simp only [Act.put, List.setIfInBounds_toArray, List.set_cons_zero, List.set_cons_succ])
    refine wpAnyH_take (i := 21) (oi := { dst := some 84, op := Go.Op.fieldAddr 23 (Go.Operand.tmp 4) 3, type := 0, pos := "outright.go:201", after := #[], guard := none }) (v := ?_) rfl (by kernel_rfl) (by kernel_rfl) (by kernel_rfl) (fun _ _ _ h => h) (Or.inl ⟨by kernel_rfl, ?_⟩) st0 ?_
    rotate_left
    · (intro X hX; (try dsimp only at hX); go_simp; try (with_reducible rfl))
    (try simp only [Act.put, List.setIfInBounds_toArray, List.set_cons_zero, List.set_cons_succ])
    refine wpAnyH_take (i := 22) (oi := { dst := some 85, op := Go.Op.load 3 (Go.Operand.tmp 84), type := 3, pos := "outright.go:201", after := #[{ on := 21, ground := Go.Ground.data }], guard := none }) (v := ?_) rfl (by kernel_rfl) (by kernel_rfl) (by kernel_rfl) (fun _ _ _ h => h) (Or.inl ⟨by kernel_rfl, ?_⟩) st0 ?_
    rotate_left
    · (intro X hX; (try dsimp only at hX); go_simp; try (with_reducible rfl))
    (try simp only [Act.put, List.setIfInBounds_toArray, List.set_cons_zero, List.set_cons_succ])
    refine wpAnyH_take (i := 25) (oi := { dst := some 88, op := Go.Op.move (Go.Operand.tmp 1), type := 37, pos := "outright.go:201", after := #[], guard := none }) (v := ?_) rfl (by kernel_rfl) (by kernel_rfl) (by kernel_rfl) (fun _ _ _ h => h) (Or.inl ⟨by kernel_rfl, ?_⟩) st0 ?_
    rotate_left
    · (intro X hX; (try dsimp only at hX); go_simp; try (with_reducible rfl))
    (try simp only [Act.put, List.setIfInBounds_toArray, List.set_cons_zero, List.set_cons_succ])
    refine wpAnyH_take (i := 29) (oi := { dst := some 92, op := Go.Op.move (Go.Operand.tmp 1), type := 37, pos := "outright.go:201", after := #[], guard := none }) (v := ?_) rfl (by kernel_rfl) (by kernel_rfl) (by kernel_rfl) (fun _ _ _ h => h) (Or.inl ⟨by kernel_rfl, ?_⟩) st0 ?_
    rotate_left
    · (intro X hX; (try dsimp only at hX); go_simp; try (with_reducible rfl))
    (try simp only [Act.put, List.setIfInBounds_toArray, List.set_cons_zero, List.set_cons_succ])
    refine wpAnyH_take (i := 32) (oi := { dst := some 95, op := Go.Op.fieldAddr 23 (Go.Operand.tmp 4) 4, type := 0, pos := "outright.go:201", after := #[], guard := none }) (v := ?_) rfl (by kernel_rfl) (by kernel_rfl) (by kernel_rfl) (fun _ _ _ h => h) (Or.inl ⟨by kernel_rfl, ?_⟩) st0 ?_
    rotate_left
    · (intro X hX; (try dsimp only at hX); go_simp; try (with_reducible rfl))
    (try simp only [Act.put, List.setIfInBounds_toArray, List.set_cons_zero, List.set_cons_succ])
    refine wpAnyH_take (i := 33) (oi := { dst := some 96, op := Go.Op.load 3 (Go.Operand.tmp 95), type := 3, pos := "outright.go:201", after := #[{ on := 32, ground := Go.Ground.data }], guard := none }) (v := ?_) rfl (by kernel_rfl) (by kernel_rfl) (by kernel_rfl) (fun _ _ _ h => h) (Or.inl ⟨by kernel_rfl, ?_⟩) st0 ?_
    rotate_left
    · (intro X hX; (try dsimp only at hX); go_simp; try (with_reducible rfl))
    (try simp only [Act.put, List.setIfInBounds_toArray, List.set_cons_zero, List.set_cons_succ])
    refine wpAnyH_ready (rs := [2]) (by kernel_rfl) (by simp) ?_
    refine AllReadyH.cons (o := { dst := some 65, op := Go.Op.call { callee := Go.Callee.value (Go.Operand.func 22), args := #[Go.Operand.tmp 64, Go.Operand.const (Go.Value.int Go.IntKind.i64 2)], argTypes := #[37, 3] }, type := 9, pos := "outright.go:201", after := #[{ on := 1, ground := Go.Ground.data }], guard := none }) rfl (fun K hK => ?_) AllReadyH.nil
    go_simp
    refine (hF.q2 s _ st0.2.2.2.out).mono ?_
    rintro e v1 ⟨rfl, hs1, hb1⟩
    have st1 : (fun X => X.cell? ⟨w.heap.size, 2, none⟩ = some (.int .i64 d) ∧ X.cell? ⟨w.heap.size, 3, none⟩ = some (.int .i64 h) ∧ X.cell? ⟨w.heap.size, 4, none⟩ = some (.int .i64 n) ∧ Hid (SG w y m d h n s z X)) v1 := ⟨hs1.2.2.1, hs1.2.2.2.1, hs1.2.2.2.2.1, Lib.hid hs1⟩
    clear hb1 hs1 st0
    dsimp only
    refine hK.out _ _ st1 (fun hHeld => ?_)
    clear hHeld hK K
    (try simp only [Act.put, List.setIfInBounds_toArray, List.set_cons_zero, List.set_cons_succ])
    refine wpAnyH_take (i := 3) (oi := { dst := some 66, op := Go.Op.binOp Go.BinOp.add 9 (Go.Operand.tmp 63) (Go.Operand.tmp 65) 9, type := 9, pos := "outright.go:201", after := #[{ on := 0, ground := Go.Ground.data }, { on := 2, ground := Go.Ground.data }], guard := none }) (v := .string T0) rfl (by kernel_rfl) (by kernel_rfl) (by kernel_rfl) (fun _ _ _ h => h) (Or.inl ⟨by kernel_rfl, ?_⟩) st1 ?_
    · (intro X hX; clear hX; go_simp; omega)
    (try simp only [Act.put, List.setIfInBounds_toArray, List.set_cons_zero, List.set_cons_succ])
    refine wpAnyH_ready (rs := [6]) (by kernel_rfl) (by simp) ?_
    refine AllReadyH.cons (o := { dst := some 69, op := Go.Op.call { callee := Go.Callee.value (Go.Operand.func 23), args := #[Go.Operand.tmp 68], argTypes := #[3] }, type := 9, pos := "outright.go:201", after := #[{ on := 5, ground := Go.Ground.data }, { on := 2, ground := Go.Ground.chain }], guard := none }) rfl (fun K hK => ?_) AllReadyH.nil
    go_simp
    refine (hF.rtd s _ st1.2.2.2.out).mono ?_
    rintro e v2 ⟨rfl, hs2, hb2⟩
    have st2 : (fun X => X.cell? ⟨w.heap.size, 2, none⟩ = some (.int .i64 d) ∧ X.cell? ⟨w.heap.size, 3, none⟩ = some (.int .i64 h) ∧ X.cell? ⟨w.heap.size, 4, none⟩ = some (.int .i64 n) ∧ Hid (SG w y m d h n s z X)) v2 := ⟨hs2.2.2.1, hs2.2.2.2.1, hs2.2.2.2.2.1, Lib.hid hs2⟩
    clear hb2 hs2 st1
    dsimp only
    refine hK.out _ _ st2 (fun hHeld => ?_)
    clear hHeld hK K
    (try simp only [Act.put, List.setIfInBounds_toArray, List.set_cons_zero, List.set_cons_succ])
    refine wpAnyH_take (i := 7) (oi := { dst := some 70, op := Go.Op.binOp Go.BinOp.add 9 (Go.Operand.tmp 66) (Go.Operand.tmp 69) 9, type := 9, pos := "outright.go:201", after := #[{ on := 3, ground := Go.Ground.data }, { on := 6, ground := Go.Ground.data }], guard := none }) (v := .string T1) rfl (by kernel_rfl) (by kernel_rfl) (by kernel_rfl) (fun _ _ _ h => h) (Or.inl ⟨by kernel_rfl, ?_⟩) st2 ?_
    · (intro X hX; clear hX; go_simp; omega)
    (try simp only [Act.put, List.setIfInBounds_toArray, List.set_cons_zero, List.set_cons_succ])
    refine wpAnyH_ready (rs := [9]) (by kernel_rfl) (by simp) ?_
    refine AllReadyH.cons (o := { dst := some 72, op := Go.Op.call { callee := Go.Callee.value (Go.Operand.func 22), args := #[Go.Operand.tmp 71, Go.Operand.const (Go.Value.int Go.IntKind.i64 3)], argTypes := #[37, 3] }, type := 9, pos := "outright.go:201", after := #[{ on := 8, ground := Go.Ground.data }, { on := 6, ground := Go.Ground.chain }], guard := none }) rfl (fun K hK => ?_) AllReadyH.nil
    go_simp
    refine (hF.q3 s _ st2.2.2.2.out).mono ?_
    rintro e v3 ⟨rfl, hs3, hb3⟩
    have st3 : (fun X => X.cell? ⟨w.heap.size, 2, none⟩ = some (.int .i64 d) ∧ X.cell? ⟨w.heap.size, 3, none⟩ = some (.int .i64 h) ∧ X.cell? ⟨w.heap.size, 4, none⟩ = some (.int .i64 n) ∧ Hid (SG w y m d h n s z X)) v3 := ⟨hs3.2.2.1, hs3.2.2.2.1, hs3.2.2.2.2.1, Lib.hid hs3⟩
    clear hb3 hs3 st2
    dsimp only
    refine hK.out _ _ st3 (fun hHeld => ?_)
    clear hHeld hK K
    (try simp only [Act.put, List.setIfInBounds_toArray, List.set_cons_zero, List.set_cons_succ])
    refine wpAnyH_take (i := 10) (oi := { dst := some 73, op := Go.Op.binOp Go.BinOp.add 9 (Go.Operand.tmp 70) (Go.Operand.tmp 72) 9, type := 9, pos := "outright.go:201", after := #[{ on := 7, ground := Go.Ground.data }, { on := 9, ground := Go.Ground.data }], guard := none }) (v := .string T2) rfl (by kernel_rfl) (by kernel_rfl) (by kernel_rfl) (fun _ _ _ h => h) (Or.inl ⟨by kernel_rfl, ?_⟩) st3 ?_
    · (intro X hX; clear hX; go_simp; omega)
    (try simp only [Act.put, List.setIfInBounds_toArray, List.set_cons_zero, List.set_cons_succ])
    refine wpAnyH_take (i := 12) (oi := { dst := some 75, op := Go.Op.binOp Go.BinOp.add 9 (Go.Operand.tmp 73) (Go.Operand.tmp 74) 9, type := 9, pos := "outright.go:201", after := #[{ on := 10, ground := Go.Ground.data }, { on := 11, ground := Go.Ground.data }], guard := none }) (v := .string T3) rfl (by kernel_rfl) (by kernel_rfl) (by kernel_rfl) (fun _ _ _ h => h) (Or.inl ⟨by kernel_rfl, ?_⟩) st3 ?_
    · (intro X hX; clear hX; go_simp; omega)
    (try simp only [Act.put, List.setIfInBounds_toArray, List.set_cons_zero, List.set_cons_succ])
    refine wpAnyH_ready (rs := [14]) (by kernel_rfl) (by simp) ?_
    refine AllReadyH.cons (o := { dst := some 77, op := Go.Op.call { callee := Go.Callee.value (Go.Operand.func 22), args := #[Go.Operand.tmp 76, Go.Operand.const (Go.Value.int Go.IntKind.i64 4)], argTypes := #[37, 3] }, type := 9, pos := "outright.go:201", after := #[{ on := 13, ground := Go.Ground.data }, { on := 9, ground := Go.Ground.chain }], guard := none }) rfl (fun K hK => ?_) AllReadyH.nil
    go_simp
    refine (hF.q4 s _ st3.2.2.2.out).mono ?_
    rintro e v4 ⟨rfl, hs4, hb4⟩
    have st4 : (fun X => X.cell? ⟨w.heap.size, 2, none⟩ = some (.int .i64 d) ∧ X.cell? ⟨w.heap.size, 3, none⟩ = some (.int .i64 h) ∧ X.cell? ⟨w.heap.size, 4, none⟩ = some (.int .i64 n) ∧ Hid (SG w y m d h n s z X)) v4 := ⟨hs4.2.2.1, hs4.2.2.2.1, hs4.2.2.2.2.1, Lib.hid hs4⟩
    clear hb4 hs4 st3
    dsimp only
    refine hK.out _ _ st4 (fun hHeld => ?_)
    clear hHeld hK K
    (try simp only [Act.put, List.setIfInBounds_toArray, List.set_cons_zero, List.set_cons_succ])
    refine wpAnyH_take (i := 15) (oi := { dst := some 78, op := Go.Op.binOp Go.BinOp.add 9 (Go.Operand.tmp 75) (Go.Operand.tmp 77) 9, type := 9, pos := "outright.go:201", after := #[{ on := 12, ground := Go.Ground.data }, { on := 14, ground := Go.Ground.data }], guard := none }) (v := .string T4) rfl (by kernel_rfl) (by kernel_rfl) (by kernel_rfl) (fun _ _ _ h => h) (Or.inl ⟨by kernel_rfl, ?_⟩) st4 ?_
    · (intro X hX; clear hX; go_simp; omega)
    (try simp only [Act.put, List.setIfInBounds_toArray, List.set_cons_zero, List.set_cons_succ])
    refine wpAnyH_take (i := 17) (oi := { dst := some 80, op := Go.Op.binOp Go.BinOp.add 9 (Go.Operand.tmp 78) (Go.Operand.tmp 79) 9, type := 9, pos := "outright.go:201", after := #[{ on := 15, ground := Go.Ground.data }, { on := 16, ground := Go.Ground.data }], guard := none }) (v := .string T5) rfl (by kernel_rfl) (by kernel_rfl) (by kernel_rfl) (fun _ _ _ h => h) (Or.inl ⟨by kernel_rfl, ?_⟩) st4 ?_
    · (intro X hX; clear hX; go_simp; omega)
    (try simp only [Act.put, List.setIfInBounds_toArray, List.set_cons_zero, List.set_cons_succ])
    refine wpAnyH_ready (rs := [19]) (by kernel_rfl) (by simp) ?_
    refine AllReadyH.cons (o := { dst := some 82, op := Go.Op.call { callee := Go.Callee.value (Go.Operand.func 22), args := #[Go.Operand.tmp 81, Go.Operand.const (Go.Value.int Go.IntKind.i64 5)], argTypes := #[37, 3] }, type := 9, pos := "outright.go:201", after := #[{ on := 18, ground := Go.Ground.data }, { on := 14, ground := Go.Ground.chain }], guard := none }) rfl (fun K hK => ?_) AllReadyH.nil
    go_simp
    refine (hF.q5 s _ st4.2.2.2.out).mono ?_
    rintro e v5 ⟨rfl, hs5, hb5⟩
    have st5 : (fun X => X.cell? ⟨w.heap.size, 2, none⟩ = some (.int .i64 d) ∧ X.cell? ⟨w.heap.size, 3, none⟩ = some (.int .i64 h) ∧ X.cell? ⟨w.heap.size, 4, none⟩ = some (.int .i64 n) ∧ Hid (SG w y m d h n s z X)) v5 := ⟨hs5.2.2.1, hs5.2.2.2.1, hs5.2.2.2.2.1, Lib.hid hs5⟩
    clear hb5 hs5 st4
    dsimp only
    refine hK.out _ _ st5 (fun hHeld => ?_)
    clear hHeld hK K
    (try simp only [Act.put, List.setIfInBounds_toArray, List.set_cons_zero, List.set_cons_succ])
    refine wpAnyH_take (i := 20) (oi := { dst := some 83, op := Go.Op.binOp Go.BinOp.add 9 (Go.Operand.tmp 80) (Go.Operand.tmp 82) 9, type := 9, pos := "outright.go:201", after := #[{ on := 17, ground := Go.Ground.data }, { on := 19, ground := Go.Ground.data }], guard := none }) (v := .string T6) rfl (by kernel_rfl) (by kernel_rfl) (by kernel_rfl) (fun _ _ _ h => h) (Or.inl ⟨by kernel_rfl, ?_⟩) st5 ?_
    · (intro X hX; clear hX; go_simp; omega)
    (try simp only [Act.put, List.setIfInBounds_toArray, List.set_cons_zero, List.set_cons_succ])
    refine wpAnyH_ready (rs := [23]) (by kernel_rfl) (by simp) ?_
    refine AllReadyH.cons (o := { dst := some 86, op := Go.Op.call { callee := Go.Callee.value (Go.Operand.func 23), args := #[Go.Operand.tmp 85], argTypes := #[3] }, type := 9, pos := "outright.go:201", after := #[{ on := 22, ground := Go.Ground.data }, { on := 19, ground := Go.Ground.chain }], guard := none }) rfl (fun K hK => ?_) AllReadyH.nil
    go_simp
    refine (hF.rth s _ st5.2.2.2.out).mono ?_
    rintro e v6 ⟨rfl, hs6, hb6⟩
    have st6 : (fun X => X.cell? ⟨w.heap.size, 2, none⟩ = some (.int .i64 d) ∧ X.cell? ⟨w.heap.size, 3, none⟩ = some (.int .i64 h) ∧ X.cell? ⟨w.heap.size, 4, none⟩ = some (.int .i64 n) ∧ Hid (SG w y m d h n s z X)) v6 := ⟨hs6.2.2.1, hs6.2.2.2.1, hs6.2.2.2.2.1, Lib.hid hs6⟩
    clear hb6 hs6 st5
    dsimp only
    refine hK.out _ _ st6 (fun hHeld => ?_)
    clear hHeld hK K
    (try simp only [Act.put, List.setIfInBounds_toArray, List.set_cons_zero, List.set_cons_succ])
    refine wpAnyH_take (i := 24) (oi := { dst := some 87, op := Go.Op.binOp Go.BinOp.add 9 (Go.Operand.tmp 83) (Go.Operand.tmp 86) 9, type := 9, pos := "outright.go:201", after := #[{ on := 20, ground := Go.Ground.data }, { on := 23, ground := Go.Ground.data }], guard := none }) (v := .string T7) rfl (by kernel_rfl) (by kernel_rfl) (by kernel_rfl) (fun _ _ _ h => h) (Or.inl ⟨by kernel_rfl, ?_⟩) st6 ?_
    · (intro X hX; clear hX; go_simp; omega)
    (try simp only [Act.put, List.setIfInBounds_toArray, List.set_cons_zero, List.set_cons_succ])
    refine wpAnyH_ready (rs := [26]) (by kernel_rfl) (by simp) ?_
    refine AllReadyH.cons (o := { dst := some 89, op := Go.Op.call { callee := Go.Callee.value (Go.Operand.func 22), args := #[Go.Operand.tmp 88, Go.Operand.const (Go.Value.int Go.IntKind.i64 6)], argTypes := #[37, 3] }, type := 9, pos := "outright.go:201", after := #[{ on := 25, ground := Go.Ground.data }, { on := 23, ground := Go.Ground.chain }], guard := none }) rfl (fun K hK => ?_) AllReadyH.nil
    go_simp
    refine (hF.q6 s _ st6.2.2.2.out).mono ?_
    rintro e v7 ⟨rfl, hs7, hb7⟩
    have st7 : (fun X => X.cell? ⟨w.heap.size, 2, none⟩ = some (.int .i64 d) ∧ X.cell? ⟨w.heap.size, 3, none⟩ = some (.int .i64 h) ∧ X.cell? ⟨w.heap.size, 4, none⟩ = some (.int .i64 n) ∧ Hid (SG w y m d h n s z X)) v7 := ⟨hs7.2.2.1, hs7.2.2.2.1, hs7.2.2.2.2.1, Lib.hid hs7⟩
    clear hb7 hs7 st6
    dsimp only
    refine hK.out _ _ st7 (fun hHeld => ?_)
    clear hHeld hK K
    (try simp only [Act.put, List.setIfInBounds_toArray, List.set_cons_zero, List.set_cons_succ])
    refine wpAnyH_take (i := 27) (oi := { dst := some 90, op := Go.Op.binOp Go.BinOp.add 9 (Go.Operand.tmp 87) (Go.Operand.tmp 89) 9, type := 9, pos := "outright.go:201", after := #[{ on := 24, ground := Go.Ground.data }, { on := 26, ground := Go.Ground.data }], guard := none }) (v := .string T8) rfl (by kernel_rfl) (by kernel_rfl) (by kernel_rfl) (fun _ _ _ h => h) (Or.inl ⟨by kernel_rfl, ?_⟩) st7 ?_
    · (intro X hX; clear hX; go_simp; omega)
    (try simp only [Act.put, List.setIfInBounds_toArray, List.set_cons_zero, List.set_cons_succ])
    refine wpAnyH_take (i := 28) (oi := { dst := some 91, op := Go.Op.binOp Go.BinOp.add 9 (Go.Operand.tmp 90) (Go.Operand.const (Go.Value.string { data := #[58] })) 9, type := 9, pos := "outright.go:201", after := #[{ on := 27, ground := Go.Ground.data }], guard := none }) (v := .string T9) rfl (by kernel_rfl) (by kernel_rfl) (by kernel_rfl) (fun _ _ _ h => h) (Or.inl ⟨by kernel_rfl, ?_⟩) st7 ?_
    · (intro X hX; clear hX; go_simp; omega)
    (try simp only [Act.put, List.setIfInBounds_toArray, List.set_cons_zero, List.set_cons_succ])
    refine wpAnyH_ready (rs := [30]) (by kernel_rfl) (by simp) ?_
    refine AllReadyH.cons (o := { dst := some 93, op := Go.Op.call { callee := Go.Callee.value (Go.Operand.func 22), args := #[Go.Operand.tmp 92, Go.Operand.const (Go.Value.int Go.IntKind.i64 7)], argTypes := #[37, 3] }, type := 9, pos := "outright.go:201", after := #[{ on := 29, ground := Go.Ground.data }, { on := 26, ground := Go.Ground.chain }], guard := none }) rfl (fun K hK => ?_) AllReadyH.nil
    go_simp
    refine (hF.q7 s _ st7.2.2.2.out).mono ?_
    rintro e v8 ⟨rfl, hs8, hb8⟩
    have st8 : (fun X => X.cell? ⟨w.heap.size, 2, none⟩ = some (.int .i64 d) ∧ X.cell? ⟨w.heap.size, 3, none⟩ = some (.int .i64 h) ∧ X.cell? ⟨w.heap.size, 4, none⟩ = some (.int .i64 n) ∧ Hid (SG w y m d h n s z X)) v8 := ⟨hs8.2.2.1, hs8.2.2.2.1, hs8.2.2.2.2.1, Lib.hid hs8⟩
    clear hb8 hs8 st7
    dsimp only
    refine hK.out _ _ st8 (fun hHeld => ?_)
    clear hHeld hK K
    (try simp only [Act.put, List.setIfInBounds_toArray, List.set_cons_zero, List.set_cons_succ])
    refine wpAnyH_take (i := 31) (oi := { dst := some 94, op := Go.Op.binOp Go.BinOp.add 9 (Go.Operand.tmp 91) (Go.Operand.tmp 93) 9, type := 9, pos := "outright.go:201", after := #[{ on := 28, ground := Go.Ground.data }, { on := 30, ground := Go.Ground.data }], guard := none }) (v := .string T10) rfl (by kernel_rfl) (by kernel_rfl) (by kernel_rfl) (fun _ _ _ h => h) (Or.inl ⟨by kernel_rfl, ?_⟩) st8 ?_
    · (intro X hX; clear hX; go_simp; omega)
    (try simp only [Act.put, List.setIfInBounds_toArray, List.set_cons_zero, List.set_cons_succ])
    refine wpAnyH_ready (rs := [34]) (by kernel_rfl) (by simp) ?_
    refine AllReadyH.cons (o := { dst := some 97, op := Go.Op.call { callee := Go.Callee.value (Go.Operand.func 23), args := #[Go.Operand.tmp 96], argTypes := #[3] }, type := 9, pos := "outright.go:201", after := #[{ on := 33, ground := Go.Ground.data }, { on := 30, ground := Go.Ground.chain }], guard := none }) rfl (fun K hK => ?_) AllReadyH.nil
    go_simp
    refine (hF.rtn s _ st8.2.2.2.out).mono ?_
    rintro e v9 ⟨rfl, hs9, hb9⟩
    have st9 : (fun X => X.cell? ⟨w.heap.size, 2, none⟩ = some (.int .i64 d) ∧ X.cell? ⟨w.heap.size, 3, none⟩ = some (.int .i64 h) ∧ X.cell? ⟨w.heap.size, 4, none⟩ = some (.int .i64 n) ∧ Hid (SG w y m d h n s z X)) v9 := ⟨hs9.2.2.1, hs9.2.2.2.1, hs9.2.2.2.2.1, Lib.hid hs9⟩
    clear hb9 hs9 st8
    dsimp only
    refine hK.out _ _ st9 (fun hHeld => ?_)
    clear hHeld hK K
    (try simp only [Act.put, List.setIfInBounds_toArray, List.set_cons_zero, List.set_cons_succ])
    refine wpAnyH_take (i := 35) (oi := { dst := some 98, op := Go.Op.binOp Go.BinOp.add 9 (Go.Operand.tmp 94) (Go.Operand.tmp 97) 9, type := 9, pos := "outright.go:201", after := #[{ on := 31, ground := Go.Ground.data }, { on := 34, ground := Go.Ground.data }], guard := none }) (v := .string A1) rfl (by kernel_rfl) (by kernel_rfl) (by kernel_rfl) (fun _ _ _ h => h) (Or.inl ⟨by kernel_rfl, ?_⟩) st9 ?_
    · (intro X hX; clear hX; go_simp; omega)
    (try simp only [Act.put, List.setIfInBounds_toArray, List.set_cons_zero, List.set_cons_succ])
    refine wpAnyH_take (i := 36) (oi := { dst := some 15, op := Go.Op.assign (Go.Operand.tmp 98), type := 9, pos := "outright.go:201", after := #[{ on := 35, ground := Go.Ground.data }, { on := 34, ground := Go.Ground.chain }, { on := 0, ground := Go.Ground.phase }, { on := 1, ground := Go.Ground.phase }, { on := 2, ground := Go.Ground.phase }, { on := 3, ground := Go.Ground.phase }, { on := 4, ground := Go.Ground.phase }, { on := 5, ground := Go.Ground.phase }, { on := 6, ground := Go.Ground.phase }, { on := 7, ground := Go.Ground.phase }, { on := 8, ground := Go.Ground.phase }, { on := 9, ground := Go.Ground.phase }, { on := 10, ground := Go.Ground.phase }, { on := 11, ground := Go.Ground.phase }, { on := 12, ground := Go.Ground.phase }, { on := 13, ground := Go.Ground.phase }, { on := 14, ground := Go.Ground.phase }, { on := 15, ground := Go.Ground.phase }, { on := 16, ground := Go.Ground.phase }, { on := 17, ground := Go.Ground.phase }, { on := 18, ground := Go.Ground.phase }, { on := 19, ground := Go.Ground.phase }, { on := 20, ground := Go.Ground.phase }, { on := 21, ground := Go.Ground.phase }, { on := 22, ground := Go.Ground.phase }, { on := 23, ground := Go.Ground.phase }, { on := 24, ground := Go.Ground.phase }, { on := 25, ground := Go.Ground.phase }, { on := 26, ground := Go.Ground.phase }, { on := 27, ground := Go.Ground.phase }, { on := 28, ground := Go.Ground.phase }, { on := 29, ground := Go.Ground.phase }, { on := 30, ground := Go.Ground.phase }, { on := 31, ground := Go.Ground.phase }, { on := 32, ground := Go.Ground.phase }, { on := 33, ground := Go.Ground.phase }, { on := 34, ground := Go.Ground.phase }, { on := 35, ground := Go.Ground.phase }], guard := none }) (v := ?_) rfl (by kernel_rfl) (by kernel_rfl) (by kernel_rfl) (fun _ _ _ h => h) (Or.inl ⟨by kernel_rfl, ?_⟩) st9 ?_
    rotate_left
    · (intro X hX; (try dsimp only at hX); go_simp; try (with_reducible rfl))
    (try simp only [Act.put, List.setIfInBounds_toArray, List.set_cons_zero, List.set_cons_succ])
    refine wpAnyH_done (by kernel_rfl) ?_ _
    go_wp2_with fail
    go_meet
    exact ⟨rfl, st9.2.2.2.out⟩
  case rest =>
  obtain ⟨rfl, hsc⟩ := hcut
  have STE := Lib.hid hsc
  have STF : Hid (SG w y m d h n s z wc.drew) := Lib.hid (SG.on he.out hsc (Below.refl _ _).drew)
  clear hsc HA1 STC STD
  go_upto_if 99 with fail
  go_cut [15] (fun a wx => a = .string A2 ∧ SG w y m d h n s2 z wx)
  case first =>
    clear ha hb hna _hnb zz hz1 hz2 za zb zg0 zg1 zg2 zg3 zg4 zg5 zg6 zg7 zg9 zg10 lg0 lg1 lg2 lg3 lg4 lg5 lg6 lg7 lg9 lg10 k2 b2
    cases sec
    · have e2 : s2 = 0 := HS2.out
      have h5 := STE.out
      obtain ⟨x0, x1, x2, x3, x4, x5, x6, bx, ev, bw⟩ := h5
      have fz := bx.free 5
      go_wp2_with fail
      go_meet
      refine ⟨by rw [HA2.out]; rfl, ?_⟩
      rw [e2]
      exact SG.mk' (by first | exact bx.set5 _ | exact bx.set5) he.out (bw.setCell (Nat.le_refl _) _)
    · have e2 : s2 = s := HS2.out
      go_wp2_with fail
      have z58 : (⟨#[58]⟩ : ByteArray).size = 1 := rfl
      obtain ⟨U0, hT0⟩ : ∃ T, A1 ++ g8 = T := ⟨_, rfl⟩
      have zT0 : U0.size ≤ 13000 := by rw [← hT0, ByteArray.size_append, zg8]; omega
      obtain ⟨U1, hT1⟩ : ∃ T, U0 ++ ⟨#[58]⟩ = T := ⟨_, rfl⟩
      have zT1 : U1.size ≤ 13001 := by rw [← hT1, ByteArray.size_append, z58]; omega
      have hT2 : U1 ++ ts = A2 := by rw [← hT1, ← hT0]; exact HA2.out.symm
      have st0 : (fun X => X.cell? ⟨w.heap.size, 5, none⟩ = some (.int .i64 s) ∧ Hid (SG w y m d h n s z X)) wc.drew := ⟨STF.out.2.2.2.2.2.1, STF⟩
      clear STE STF
      refine wp_region_held_drew (S := (fun X => X.cell? ⟨w.heap.size, 5, none⟩ = some (.int .i64 s) ∧ Hid (SG w y m d h n s z X))) (by kernel_rfl) st0 (fun hHeld => ?_)
      clear hHeld
      refine wpAnyH_take (i := 0) (oi := { dst := some 100, op := Go.Op.move (Go.Operand.tmp 15), type := 9, pos := "outright.go:203", after := #[], guard := none }) (v := ?_) rfl (by kernel_rfl) (by kernel_rfl) (by kernel_rfl) (fun _ _ _ h => h) (Or.inl ⟨by kernel_rfl, ?_⟩) st0 ?_
      rotate_left
      · (intro X hX; (try dsimp only at hX); go_simp; try (with_reducible rfl))
      (try simp only [Act.put, List.setIfInBounds_toArray, List.set_cons_zero, List.set_cons_succ])
      refine wpAnyH_take (i := 1) (oi := { dst := some 101, op := Go.Op.move (Go.Operand.tmp 1), type := 37, pos := "outright.go:203", after := #[], guard := none }) (v := ?_) rfl (by kernel_rfl) (by kernel_rfl) (by kernel_rfl) (fun _ _ _ h => h) (Or.inl ⟨by kernel_rfl, ?_⟩) st0 ?_
      rotate_left
      · (intro X hX; (try dsimp only at hX); go_simp; try (with_reducible rfl))
      (try simp only [Act.put, List.setIfInBounds_toArray, List.set_cons_zero, List.set_cons_succ])
      refine wpAnyH_take (i := 5) (oi := { dst := some 105, op := Go.Op.fieldAddr 23 (Go.Operand.tmp 4) 5, type := 0, pos := "outright.go:203", after := #[], guard := none }) (v := ?_) rfl (by kernel_rfl) (by kernel_rfl) (by kernel_rfl) (fun _ _ _ h => h) (Or.inl ⟨by kernel_rfl, ?_⟩) st0 ?_
      rotate_left
      · (intro X hX; (try dsimp only at hX); go_simp; try (with_reducible rfl))
      (try simp only [Act.put, List.setIfInBounds_toArray, List.set_cons_zero, List.set_cons_succ])
      refine wpAnyH_take (i := 6) (oi := { dst := some 106, op := Go.Op.load 3 (Go.Operand.tmp 105), type := 3, pos := "outright.go:203", after := #[{ on := 5, ground := Go.Ground.data }], guard := none }) (v := ?_) rfl (by kernel_rfl) (by kernel_rfl) (by kernel_rfl) (fun _ _ _ h => h) (Or.inl ⟨by kernel_rfl, ?_⟩) st0 ?_
      rotate_left
      · (intro X hX; (try dsimp only at hX); go_simp; try (with_reducible rfl))
      (try simp only [Act.put, List.setIfInBounds_toArray, List.set_cons_zero, List.set_cons_succ])
      refine wpAnyH_ready (rs := [2]) (by kernel_rfl) (by simp) ?_
      refine AllReadyH.cons (o := { dst := some 102, op := Go.Op.call { callee := Go.Callee.value (Go.Operand.func 22), args := #[Go.Operand.tmp 101, Go.Operand.const (Go.Value.int Go.IntKind.i64 8)], argTypes := #[37, 3] }, type := 9, pos := "outright.go:203", after := #[{ on := 1, ground := Go.Ground.data }], guard := none }) rfl (fun K hK => ?_) AllReadyH.nil
      go_simp
      refine (hF.q8 s _ st0.2.out).mono ?_
      rintro e v1 ⟨rfl, hs1, hb1⟩
      have st1 : (fun X => X.cell? ⟨w.heap.size, 5, none⟩ = some (.int .i64 s) ∧ Hid (SG w y m d h n s z X)) v1 := ⟨hs1.2.2.2.2.2.1, Lib.hid hs1⟩
      clear hb1 hs1 st0
      dsimp only
      refine hK.out _ _ st1 (fun hHeld => ?_)
      clear hHeld hK K
      (try simp only [Act.put, List.setIfInBounds_toArray, List.set_cons_zero, List.set_cons_succ])
      refine wpAnyH_take (i := 3) (oi := { dst := some 103, op := Go.Op.binOp Go.BinOp.add 9 (Go.Operand.tmp 100) (Go.Operand.tmp 102) 9, type := 9, pos := "outright.go:203", after := #[{ on := 0, ground := Go.Ground.data }, { on := 2, ground := Go.Ground.data }], guard := none }) (v := .string U0) rfl (by kernel_rfl) (by kernel_rfl) (by kernel_rfl) (fun _ _ _ h => h) (Or.inl ⟨by kernel_rfl, ?_⟩) st1 ?_
      · (intro X hX; clear hX; go_simp; omega)
      (try simp only [Act.put, List.setIfInBounds_toArray, List.set_cons_zero, List.set_cons_succ])
      refine wpAnyH_take (i := 4) (oi := { dst := some 104, op := Go.Op.binOp Go.BinOp.add 9 (Go.Operand.tmp 103) (Go.Operand.const (Go.Value.string { data := #[58] })) 9, type := 9, pos := "outright.go:203", after := #[{ on := 3, ground := Go.Ground.data }], guard := none }) (v := .string U1) rfl (by kernel_rfl) (by kernel_rfl) (by kernel_rfl) (fun _ _ _ h => h) (Or.inl ⟨by kernel_rfl, ?_⟩) st1 ?_
      · (intro X hX; clear hX; go_simp; omega)
      (try simp only [Act.put, List.setIfInBounds_toArray, List.set_cons_zero, List.set_cons_succ])
      refine wpAnyH_ready (rs := [7]) (by kernel_rfl) (by simp) ?_
      refine AllReadyH.cons (o := { dst := some 107, op := Go.Op.call { callee := Go.Callee.value (Go.Operand.func 23), args := #[Go.Operand.tmp 106], argTypes := #[3] }, type := 9, pos := "outright.go:203", after := #[{ on := 6, ground := Go.Ground.data }, { on := 2, ground := Go.Ground.chain }], guard := none }) rfl (fun K hK => ?_) AllReadyH.nil
      go_simp
      refine (hF.rts s _ st1.2.out).mono ?_
      rintro e v2 ⟨rfl, hs2, hb2⟩
      have st2 : (fun X => X.cell? ⟨w.heap.size, 5, none⟩ = some (.int .i64 s) ∧ Hid (SG w y m d h n s z X)) v2 := ⟨hs2.2.2.2.2.2.1, Lib.hid hs2⟩
      clear hb2 hs2 st1
      dsimp only
      refine hK.out _ _ st2 (fun hHeld => ?_)
      clear hHeld hK K
      (try simp only [Act.put, List.setIfInBounds_toArray, List.set_cons_zero, List.set_cons_succ])
      refine wpAnyH_take (i := 8) (oi := { dst := some 108, op := Go.Op.binOp Go.BinOp.add 9 (Go.Operand.tmp 104) (Go.Operand.tmp 107) 9, type := 9, pos := "outright.go:203", after := #[{ on := 4, ground := Go.Ground.data }, { on := 7, ground := Go.Ground.data }], guard := none }) (v := .string A2) rfl (by kernel_rfl) (by kernel_rfl) (by kernel_rfl) (fun _ _ _ h => h) (Or.inl ⟨by kernel_rfl, ?_⟩) st2 ?_
      · (intro X hX; clear hX; go_simp; omega)
      (try simp only [Act.put, List.setIfInBounds_toArray, List.set_cons_zero, List.set_cons_succ])
      refine wpAnyH_take (i := 9) (oi := { dst := some 15, op := Go.Op.assign (Go.Operand.tmp 108), type := 9, pos := "outright.go:203", after := #[{ on := 8, ground := Go.Ground.data }, { on := 7, ground := Go.Ground.chain }, { on := 0, ground := Go.Ground.phase }, { on := 1, ground := Go.Ground.phase }, { on := 2, ground := Go.Ground.phase }, { on := 3, ground := Go.Ground.phase }, { on := 4, ground := Go.Ground.phase }, { on := 5, ground := Go.Ground.phase }, { on := 6, ground := Go.Ground.phase }, { on := 7, ground := Go.Ground.phase }, { on := 8, ground := Go.Ground.phase }], guard := none }) (v := ?_) rfl (by kernel_rfl) (by kernel_rfl) (by kernel_rfl) (fun _ _ _ h => h) (Or.inl ⟨by kernel_rfl, ?_⟩) st2 ?_
      rotate_left
      · (intro X hX; (try dsimp only at hX); go_simp; try (with_reducible rfl))
      (try simp only [Act.put, List.setIfInBounds_toArray, List.set_cons_zero, List.set_cons_succ])
      refine wpAnyH_done (by kernel_rfl) ?_ _
      go_wp2_with fail
      go_meet
      refine ⟨rfl, ?_⟩
      rw [e2]
      exact st2.2.out
  case rest =>
  obtain ⟨rfl, hsc⟩ := hcut
  have SU := Lib.hid hsc
  clear hsc STE STF HA2 HS2 zg0 zg1 zg2 zg3 zg4 zg5 zg6 zg7 zg8 lg0 lg1 lg2 lg3 lg4 lg5 lg6 lg7 lg8
  go_wp2_with fail
  refine (hF.q9 _ _ SU.out).mono ?_
  rintro e u1 ⟨rfl, t1, hb1⟩
  clear hb1 SU
  have SU := Lib.hid t1
  clear t1
  go_wp2_with fail
  (try rw [ha])
  refine (hF.rta _ _ SU.out).mono ?_
  rintro e u2 ⟨rfl, t2, hb2⟩
  clear hb2 SU
  have SU := Lib.hid t2
  clear t2
  go_wp2_with fail
  (try rw [hb])
  refine (hF.rtb _ _ SU.out).mono ?_
  rintro e u3 ⟨rfl, t3, hb3⟩
  clear hb3 SU
  have SU := Lib.hid t3
  clear t3
  go_wp2_with fail
  refine (hF.q10 _ _ SU.out).mono ?_
  rintro e u4 ⟨rfl, t4, hb4⟩
  clear hb4 SU
  have SU := Lib.hid t4
  clear t4
  go_wp2_with fail
  refine (hF.rh _ SU.out).mono ?_
  rintro e u5 ⟨rfl, t5, hb5⟩
  clear hb5 SU
  have t6 : SG w y m d h n s2 z (u5.alloc (.cells #[.int .i64 y, .int .i64 m, .int .i64 d, .int .i64 h, .int .i64 n, .int .i64 s2, .int .i64 z] 23)) := SG.on he.out t5 ((Below.refl _ _).alloc (Nat.le_refl _) _)
  have k6 : Cells7 u5.heap.size y m d h n s2 z (u5.alloc (.cells #[.int .i64 y, .int .i64 m, .int .i64 d, .int .i64 h, .int .i64 n, .int .i64 s2, .int .i64 z] 23)) := cells7_new u5 y m d h n s2 z _
  clear t5
  have SU := Lib.hid t6
  have KU := Lib.hid k6
  clear t6 k6
  go_wp2_with fail
  refine (hF.rx _ SU.out).mono ?_
  rintro e u6 ⟨rfl, t7, hb7⟩
  have KV := Lib.hid (KU.out.on hb7)
  clear hb7 SU KU
  have SV : Hid (SG w y m d h n s2 z (u6.alloc (.cells #[.int .i64 0, .int .i64 0, .int .i64 0, .int .i64 0, .int .i64 0, .int .i64 0, .int .i64 0] 23))) := Lib.hid (SG.on he.out t7 ((Below.refl _ _).alloc (Nat.le_refl _) _))
  have KW := Lib.hid (KV.out.on ((Below.refl _ _).alloc (Nat.le_refl _) (.cells #[.int .i64 0, .int .i64 0, .int .i64 0, .int .i64 0, .int .i64 0, .int .i64 0, .int .i64 0] 23)))
  have SU := Lib.hid t7
  clear t7
  go_wp2_with fail
  first | refine (hF.rp _ SV.out).mono ?_ | refine (hF.rp _ SU.out).mono ?_
  rintro e u7 ⟨rfl, t8, hb8⟩
  have kx : Cells7 u5.heap.size y m d h n s2 z u7 := by first | exact KW.out.on hb8 | exact KV.out.on hb8
  have kz := kx.on ((Below.refl _ _).alloc (Nat.le_refl _) (.cells #[.int .i64 y, .int .i64 m, .int .i64 d, .int .i64 h, .int .i64 n, .int .i64 s2, .int .i64 z] 23))
  have t9 := SG.on he.out t8 ((Below.refl _ _).alloc (Nat.le_refl _) (.cells #[.int .i64 y, .int .i64 m, .int .i64 d, .int .i64 h, .int .i64 n, .int .i64 s2, .int .i64 z] 23))
  clear hb8 KV KW SU SV
  obtain ⟨x0, x1, x2, x3, x4, x5, x6, bx, ev, bw⟩ := t9
  obtain ⟨c0, c1, c2, c3, c4, c5, c6⟩ := kz
  clear bx ev
  go_wp2_with fail
  go_ret
  exact ⟨rfl, by first | exact bw | exact bw.drew⟩
end Go.Proofs.YtngpejoiicpnkaaDoor
