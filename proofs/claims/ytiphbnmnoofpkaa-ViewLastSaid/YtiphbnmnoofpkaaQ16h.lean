/- view: Uids, Seq, Gone, Recent; the small closures. -/
import Derived.Test.YtiphbnmnoofpkaaQ16g
import Derived.Lib.SliceRun
import Derived.BigFrame
namespace Go.Proofs.Ytiphbnmnoofpkaa
open Go.RowKit

section
variable {P : Nat} {val : Int} {rv cv : Value} {R : List RE} {C : List Int} {w : World} {N : Nat}
set_option maxHeartbeats 400000 in
theorem some_any (P : Nat) (w : World) :
    Calls Try.prog 24 #[.pointer (some ⟨P, 0, none⟩)] w fun e w' => e = .returned (.pointer (some ⟨P, 0, none⟩)) ∧ w' = w := by
  go_enter Try.func24, Try.ntmps24
  go_wp2
  go_ret
  exact ⟨rfl, rfl⟩
set_option maxHeartbeats 400000 in
theorem uidsC_any (x : Int) (yg yr : Bool) (o : Option Addr) (X : World) : Calls Try.prog 26 #[.agg #[.int .i64 x, .bool yg, .bool yr, .pointer o]] X fun e w' => e = .returned (.bool true) ∧ Below X.heap.size X w' := by
  go_enter Try.func26, Try.ntmps26
  go_wp2
  go_ret
  exact ⟨rfl, (Below.refl _ _).alloc (Nat.le_refl _) _⟩
set_option maxHeartbeats 400000 in
theorem findC_any (x : Int) (yg yr : Bool) (o : Option Addr) (X : World) : Calls Try.prog 30 #[.agg #[.int .i64 x, .bool yg, .bool yr, .pointer o]] X fun e w' => e = .returned (.bool (!yg)) ∧ Below X.heap.size X w' := by
  go_enter Try.func30, Try.ntmps30
  go_wp2
  go_ret
  exact ⟨rfl, (Below.refl _ _).alloc (Nat.le_refl _) _⟩
set_option maxHeartbeats 400000 in
theorem newC_any (x : Int) (yg yr : Bool) (o : Option Addr) (X : World) : Calls Try.prog 55 #[.agg #[.int .i64 x, .bool yg, .bool yr, .pointer o]] X fun e w' => e = .returned (.bool yr) ∧ Below X.heap.size X w' := by
  go_enter Try.func55, Try.ntmps55
  go_wp2
  go_ret
  exact ⟨rfl, (Below.refl _ _).alloc (Nat.le_refl _) _⟩
theorem pickU_all (R : List RE) : pickU (fun _ => true) R = uidR R := by unfold pickU; rw [List.filter_eq_self.2 (fun _ _ => rfl)]
set_option maxHeartbeats 400000 in
theorem Uids_any (h : VAt P val rv cv R C w) (hR : R.length ≤ 1000000) :
    Calls Try.prog 10 #[.pointer (some ⟨P, 0, none⟩)] w fun e w' => ∃ v', e = .returned v' ∧ OwnI w.heap.size v' (uidR R) w w' := by
  have H := Lib.hid (uidsF_any 26 (enters_of Try.func26 (by kernel_rfl) rfl) (fun _ => true) h hR (fun r o X _ => uidsC_any _ _ _ _ _))
  rw [pickU_all] at H
  clear h
  go_enter Try.func10, Try.ntmps10
  go_wp2_with (first | (go_at_call 24; refine (some_any _ _).mono ?_; rintro e w' ⟨rfl, hw⟩; subst w') | (go_at_call 25; refine H.out.mono ?_; rintro e w1 ⟨v1, rfl, ho⟩; have HO := Lib.hid ho; clear ho))
  go_ret
  exact ⟨_, rfl, HO.out⟩
set_option maxHeartbeats 400000 in
theorem notGone_any (h : VAt P val rv cv R C w) (hR : R.length ≤ 1000000) :
    Calls Try.prog 25 #[.pointer (some ⟨P, 0, none⟩), .func (.func 30) #[] #[]] w fun e w' => ∃ v', e = .returned v' ∧ OwnI w.heap.size v' (pickU (fun r => !r.gone) R) w w' :=
  uidsF_any 30 (enters_of Try.func30 (by kernel_rfl) rfl) (fun r => !r.gone) h hR (fun r o X _ => findC_any _ _ _ _ _)
theorem recents_any (h : VAt P val rv cv R C w) (hR : R.length ≤ 1000000) :
    Calls Try.prog 25 #[.pointer (some ⟨P, 0, none⟩), .func (.func 55) #[] #[]] w fun e w' => ∃ v', e = .returned v' ∧ OwnI w.heap.size v' (pickU RE.rct R) w w' :=
  uidsF_any 55 (enters_of Try.func55 (by kernel_rfl) rfl) RE.rct h hR (fun r o X _ => newC_any _ _ _ _ _)
def seqI (U : List Int) (u : Int) : Int := if hitP U u = true then (ixP U u : Int) + 1 else 0
def seqE (U : List Int) (u : Int) : Int := if hitP U u = true then 0 else 160
set_option maxHeartbeats 400000 in
theorem Seq_any (h : VAt P val rv cv R C w) (hk : VOK R C N) (hN : N ≤ 1000000) (u : Int) :
    Calls Try.prog 14 #[.pointer (some ⟨P, 0, none⟩), .int .i64 u] w fun e w' => e = .returned (.tuple #[.int .i64 (seqI (uidR R) u), .int .i64 (seqE (uidR R) u)]) ∧ Below w.heap.size w w' := by
  have H := Lib.hid (place_any h hk hN u)
  have hix := ixP_le (uidR R) u
  rw [uidR_length] at hix
  have hl := hk.len
  unfold seqI seqE
  clear h hk
  cases hh : hitP (uidR R) u with
  | false =>
    rw [hh] at H
    clear hh
    simp only [Bool.false_eq_true, if_false]
    generalize ixP (uidR R) u = ix at *
    go_enter Try.func14, Try.ntmps14
    go_wp2_with (first | (go_at_call 24; refine (some_any _ _).mono ?_; rintro e w' ⟨rfl, hw⟩; subst w') | (go_at_call 29; refine H.out.mono ?_; rintro e w1 ⟨rfl, hb⟩))
    go_ret2
    exact ⟨rfl, hb⟩
  | true =>
    rw [hh] at H
    clear hh
    simp only [if_true]
    generalize ixP (uidR R) u = ix at *
    go_enter Try.func14, Try.ntmps14
    go_wp2_with (first | (go_at_call 24; refine (some_any _ _).mono ?_; rintro e w' ⟨rfl, hw⟩; subst w') | (go_at_call 29; refine H.out.mono ?_; rintro e w1 ⟨rfl, hb⟩))
    go_ret2
    exact ⟨rfl, hb⟩
theorem fld1 (x : Int) (yg yr : Bool) (o : Option Addr) (w : World) : (Instr.field 75 (.agg #[.int .i64 x, .bool yg, .bool yr, .pointer o]) 1).run Try.prog w = .ok (.bool yg) w := by kernel_rfl
theorem fld2 (x : Int) (yg yr : Bool) (o : Option Addr) (w : World) : (Instr.field 75 (.agg #[.int .i64 x, .bool yg, .bool yr, .pointer o]) 2).run Try.prog w = .ok (.bool yr) w := by kernel_rfl
set_option maxHeartbeats 400000 in
theorem Gone_any (h : VAt P val rv cv R C w) (hk : VOK R C N) (hN : N ≤ 1000000) (u : Int) :
    Calls Try.prog 18 #[.pointer (some ⟨P, 0, none⟩), .int .i64 u] w fun e w' => e = .returned (.bool (atR R u).gone) ∧ Below w.heap.size w w' := by
  have H := Lib.hid (at_any h hk hN u)
  clear h hk
  have q1 := fld1
  have q2 := fld2
  obtain ⟨yo, hyo⟩ : ∃ yo, (atR R u).ptr = .pointer yo := ⟨_, rfl⟩
  rw [hyo] at H
  clear hyo
  generalize (atR R u).uid = x at *
  generalize (atR R u).gone = yg at *
  generalize (atR R u).rct = yr at *
  go_enter Try.func18, Try.ntmps18
  go_wp2_with (first | (go_at_call 24; refine (some_any _ _).mono ?_; rintro e w' ⟨rfl, hw⟩; subst w') | (go_at_call 39; refine H.out.mono ?_; rintro e w1 ⟨rfl, hb⟩))
  go_ret
  exact ⟨rfl, hb⟩
set_option maxHeartbeats 400000 in
theorem Recent_any (h : VAt P val rv cv R C w) (hk : VOK R C N) (hN : N ≤ 1000000) (u : Int) :
    Calls Try.prog 28 #[.pointer (some ⟨P, 0, none⟩), .int .i64 u] w fun e w' => e = .returned (.bool (atR R u).rct) ∧ Below w.heap.size w w' := by
  have H := Lib.hid (at_any h hk hN u)
  clear h hk
  have q1 := fld1
  have q2 := fld2
  obtain ⟨yo, hyo⟩ : ∃ yo, (atR R u).ptr = .pointer yo := ⟨_, rfl⟩
  rw [hyo] at H
  clear hyo
  generalize (atR R u).uid = x at *
  generalize (atR R u).gone = yg at *
  generalize (atR R u).rct = yr at *
  go_enter Try.func28, Try.ntmps28
  go_wp2_with (first | (go_at_call 24; refine (some_any _ _).mono ?_; rintro e w' ⟨rfl, hw⟩; subst w') | (go_at_call 39; refine H.out.mono ?_; rintro e w1 ⟨rfl, hb⟩))
  go_ret
  exact ⟨rfl, hb⟩
end
end Go.Proofs.Ytiphbnmnoofpkaa

/- view: the search among numbers; one of them taken out. -/
namespace Go.Proofs.Ytiphbnmnoofpkaa
open Go.RowKit

set_option maxHeartbeats 400000 in
theorem less_any (a b : Int) (w : World) : Calls Try.prog 68 #[.int .i64 a, .int .i64 b] w fun e w' => e = .returned (.bool (decide (a < b))) ∧ w' = w := by
  by_cases h : a < b
  · go_enter Try.func68, Try.ntmps68
    go_wp2_with (go_at_call 57; refine (isNaN_any _ _).mono ?_; rintro e w' ⟨rfl, rfl⟩)
    go_ret
    exact ⟨ret_bool (by simp [h]), rfl⟩
  · go_enter Try.func68, Try.ntmps68
    go_wp2_with (go_at_call 57; refine (isNaN_any _ _).mono ?_; rintro e w' ⟨rfl, rfl⟩)
    go_ret
    exact ⟨ret_bool (by simp), rfl⟩
set_option maxHeartbeats 400000 in
theorem sNaN_any (x : Int) (w : World) : Calls Try.prog 69 #[.int .i64 x] w fun e w' => e = .returned (.bool false) ∧ w' = w := by
  have h : (x != x) = false := by simp
  go_enter Try.func69, Try.ntmps69
  go_wp2
  go_ret
  exact ⟨rfl, rfl⟩
set_option maxRecDepth 100000 in
set_option maxHeartbeats 4000000 in
theorem isearch_any (v : Value) (l : List Int) (m u : Int) (w : World) (hr : Nms w v l) (hl : l.length ≤ 1000000) (hc : riseF m l) :
    Calls Try.prog 61 #[v, .int .i64 u] w fun e w' => e = .returned (.tuple #[.int .i64 (ixP l u : Nat), .bool (hitP l u)]) ∧ w' = w := by
  obtain ⟨ao, cap, hv, hcs⟩ := hr
  subst hv
  have HCS := Lib.hid hcs
  have HI := Lib.hid (fun i => ixP_eq l u i)
  have HM := Lib.hid (fun i j => riseF_getD hc i j)
  have HH : Hid (hitP l u = decide (ixP l u < l.length ∧ l.getD (ixP l u) 0 = u)) := Lib.hid rfl
  clear hcs hc
  generalize hitP l u = ht at *
  generalize ixP l u = ix at *
  go_enter Try.func61, Try.ntmps61
  go_wp2_with fail
  go_loopg [7, 8] l.length (fun kx s9 s10 wr => ∃ lo hi : Nat, s9 = .int .i64 lo ∧ s10 = .int .i64 hi ∧ lo ≤ hi ∧ hi ≤ l.length ∧ hi - lo ≤ kx ∧ wr = w ∧ Hid ((∀ t, t < lo → l.getD t 0 < u) ∧ (∀ t, hi ≤ t → t < l.length → u ≤ l.getD t 0)))
  case atStart => exact ⟨0, l.length, rfl, rfl, Nat.zero_le _, Nat.le_refl _, by omega, rfl, Lib.hid ⟨fun t ht => absurd ht (Nat.not_lt_zero _), fun t h1 h2 => by omega⟩⟩
  case round =>
    obtain ⟨lo, hi, rfl, rfl, hlh, hin, hg, rfl, I⟩ := hrel
    by_cases hlt : lo < hi
    · obtain ⟨b, off, hao, hbs, hc⟩ := HCS.out (by omega)
      subst hao
      have c1 := hc ((lo + hi) / 2) (by omega)
      obtain ⟨y, hy⟩ : ∃ y, y = l.getD ((lo + hi) / 2) 0 := ⟨_, rfl⟩
      have Y := Lib.hid hy
      rw [← hy] at c1
      clear hc hy
      have HS := Lib.hid (less_any y u)
      by_cases hyx : y < u
      · rw [decide_eq_true hyx] at HS
        go_wp2_with (go_at_call 68; refine (HS.out _).mono ?_; rintro e w' ⟨rfl, hw⟩; subst w')
        go_roundg (hi - ((lo + hi) / 2 + 1))
        case measure => omega
        case rel =>
          refine ⟨(lo + hi) / 2 + 1, hi, by rw [show ((lo : Int) + (hi : Int)) / 2 + 1 = (((lo + hi) / 2 + 1 : Nat) : Int) by omega], rfl, by omega, hin, Nat.le_refl _, rfl, Lib.hid ⟨fun t ht => ?_, I.out.2⟩⟩
          by_cases e : t = (lo + hi) / 2
          · subst e; rw [← Y.out]; exact hyx
          · have a := HM.out t ((lo + hi) / 2) (by omega) (by omega)
            rw [← Y.out] at a
            omega
      · rw [decide_eq_false hyx] at HS
        go_wp2_with (go_at_call 68; refine (HS.out _).mono ?_; rintro e w' ⟨rfl, hw⟩; subst w')
        go_roundg ((lo + hi) / 2 - lo)
        case measure => omega
        case rel =>
          refine ⟨lo, (lo + hi) / 2, rfl, by rw [show ((lo : Int) + (hi : Int)) / 2 = (((lo + hi) / 2 : Nat) : Int) by omega], by omega, by omega, Nat.le_refl _, rfl, Lib.hid ⟨I.out.1, fun t ht htn => ?_⟩⟩
          by_cases e : t = (lo + hi) / 2
          · subst e; rw [← Y.out]; omega
          · have a := HM.out ((lo + hi) / 2) t (by omega) htn
            rw [← Y.out] at a
            omega
    · obtain rfl : hi = lo := by omega
      have hix : ix = hi := HI.out hi hin I.out.1 I.out.2
      subst hix
      by_cases hn : ix < l.length
      · obtain ⟨b, off, hao, hbs, hc⟩ := HCS.out (by omega)
        subst hao
        have c1 := hc ix hn
        have HT : Hid (ht = decide (l.getD ix 0 = u)) := Lib.hid (by rw [HH.out]; simp [hn])
        clear hc HH
        generalize l.getD ix 0 = x at *
        by_cases hxu : x = u
        · have HT2 : Hid (ht = true) := Lib.hid (by rw [HT.out]; simp [hxu])
          have hq : (x == u) = true := by simp [hxu]
          clear HT hxu
          go_wp2_with fail
          go_ret2
          exact ⟨by rw [HT2.out]; rfl, rfl⟩
        · have HT2 : Hid (ht = false) := Lib.hid (by rw [HT.out]; simp [hxu])
          have hq : (x == u) = false := by simp [hxu]
          clear HT hxu
          go_wp2_with (go_at_call 69; refine (sNaN_any _ _).mono ?_; rintro e w' ⟨rfl, hw⟩; subst w')
          go_ret2
          exact ⟨by rw [HT2.out]; rfl, rfl⟩
      · have HRR : Hid (ht = false) := Lib.hid (by rw [HH.out]; simp [hn])
        go_wp2
        go_ret2
        exact ⟨by rw [HRR.out]; rfl, rfl⟩
end Go.Proofs.Ytiphbnmnoofpkaa
