/- SpanBack: the walk. -/
import Derived.Test.YtoikjkcnekkehaaDoorWg
namespace Go.Proofs.YtoikjkcnekkehaaDoor
open Go.RowKit

theorem bthn {w X Y : World} (h : Below w.heap.size w X) (hb : Below X.heap.size X Y) : Below w.heap.size w Y := h.trans (hb.mono h.size)
theorem parse_len (t : List UInt8) : (parseL t).length ≤ 64 := by
  unfold parseL
  split
  · simp
  · split
    · simp
    · split
      · simp
      · omega
theorem same_is {v1 v2 : Value} {l1 l2 : List Rg} {w : World} (h1 : Rgs w v1 l1) (h2 : Rgs w v2 l2) (hl : l1.length ≤ 1000000) (he : l1 = l2) : Calls Tryd.prog 15 #[v1, v2] w fun e w' => e = .returned (.bool true) ∧ Below w.heap.size w w' := by
  subst he
  exact same_yes h1 h2 hl
/-- The second half: of a text. -/
structure BackF (w : World) (t : ByteArray) : Prop where
  parse : ∀ X, Below w.heap.size w X → Calls Tryd.prog 14 #[.string t] X fun e w' => ∃ v', e = .returned (.tuple #[v', .int .i64 (parseE (L t))]) ∧ OwnR X.heap.size v' (parseL (L t)) X w'
  known : ∀ X, Below w.heap.size w X → Calls Tryd.prog 10 #[] X fun e w' => e = .returned (.bool true) ∧ Below w.heap.size w w'
  print : ∀ X v l, Below w.heap.size w X → Rgs X v l → Calls Tryd.prog 12 #[v] X fun e w' => e = .returned (.tuple #[.string (S (printT l)), .int .i64 (printE l)]) ∧ Below X.heap.size X w'
  parse2 : ∀ X s, Below w.heap.size w X → s.size ≤ 140737488355328 → Calls Tryd.prog 14 #[.string s] X fun e w' => ∃ v', e = .returned (.tuple #[v', .int .i64 (parseE (L s))]) ∧ OwnR X.heap.size v' (parseL (L s)) X w'
theorem backF {w : World} {t : ByteArray} (he : Env w) (ht : t.size ≤ 140737488355328) : BackF w t :=
  ⟨fun X hX => parse_any t X (he.on hX) ht, fun X hX => (known_any X (he.on hX)).mono fun _ _ ⟨p, q⟩ => ⟨p, bthn hX q⟩, fun X v l hX hr => print_any v l X (he.on hX) hr, fun X s hX hs => parse_any s X (he.on hX) hs⟩
set_option maxRecDepth 100000 in
set_option maxHeartbeats 4000000 in
theorem SpanBack_walk (v : Value) (l : List Rg) (t : ByteArray) (w : World) (he : Env w) (hr : Rgs w v l) (ht : t.size ≤ 140737488355328) :
    Calls Tryd.prog 5 #[v, .string t] w fun e w' => e = .returned (.bool true) ∧ Below w.heap.size w w' := by
  have HF := backF (t := t) he ht
  have HPR0 := Lib.hid (print_any v l w he hr)
  have HRG0 := Lib.hid hr
  obtain ⟨ao, cap, hv, _⟩ := hr.shape
  have hlb := hr.shape
  clear hlb
  subst hv
  have hl8 : l.length ≤ 8796093022208 := by
    rcases hr with ⟨rfl, _⟩ | ⟨_, _, _, _, h, _⟩
    · simp
    · exact h
  clear hr he
  by_cases hbig : 3000 < l.length
  · have hz : (3000 : Int) < (l.length : Int) := by omega
    go_enter Tryd.func5, Tryd.ntmps5
    go_wp2_with fail
    go_ret
    exact ⟨rfl, Below.refl _ _⟩
  · have hz : ¬ (3000 : Int) < (l.length : Int) := by omega
    have HSO := Lib.hid (fun X (hX : Below w.heap.size w X) => sound_any _ l X (HRG0.out.on hX) (by omega))
    have hpe := printE_sound l
    cases hs : soundB l with
    | true =>
      rw [hs] at HSO
      have hp0 : printE l = 0 := hpe.1.2 hs
      rw [hp0] at HPR0
      have HPP := Lib.hid (print_parse l hs)
      clear hpe hp0 hs
      have hsz2 : (S (printT l)).size ≤ 1408 := HPP.out.2.2
      have HP2 := Lib.hid (fun X (hX : Below w.heap.size w X) => HF.parse2 X (S (printT l)) hX (by omega))
      rw [L_S, HPP.out.1, HPP.out.2.1] at HP2
      generalize S (printT l) = ts at *
      go_enter Tryd.func5, Tryd.ntmps5
      go_wp2_with fail
      refine HPR0.out.mono ?_
      rintro e w1 ⟨rfl, hb1⟩
      have HB1 := Lib.hid hb1
      clear hb1
      go_wp2_with fail
      refine (HSO.out _ HB1.out).mono ?_
      rintro e w' ⟨rfl, hw⟩
      subst w'
      go_wp2_with fail
      refine (HP2.out _ HB1.out).mono ?_
      rintro e w2 ⟨v2, rfl, ho2⟩
      have HB2 := Lib.hid (bthn HB1.out ho2.below)
      have HR2 := Lib.hid (ho2.rgs (by omega))
      clear ho2
      go_wp2_with fail
      refine (same_is HR2.out (HRG0.out.on HB2.out) (by omega) rfl).mono ?_
      rintro e w3 ⟨rfl, hb3⟩
      have HB3 := Lib.hid (bthn HB2.out hb3)
      clear hb3
      go_wp2_with fail
      refine (HF.parse _ HB3.out).mono ?_
      rintro e w5 ⟨v5, rfl, ho5⟩
      have HO5 := Lib.hid ho5
      have HB5 := Lib.hid (bthn HB3.out ho5.below)
      obtain ⟨ao5, cap5, hs5, _⟩ := (ho5.rgs (by have := parse_len (L t); omega)).shape
      subst hs5
      clear ho5
      by_cases hpe : parseE (L t) = 0
      · have HPE := Lib.hid hpe
        have hq : (parseE (L t) != 0) = false := by rw [hpe]; rfl
        have HPP := Lib.hid (parse_print hpe)
        have HPR := Lib.hid (print_parse _ (parse_print hpe).1)
        have HPZ := Lib.hid ((printE_sound (parseL (L t))).1.2 (parse_print hpe).1)
        have HRG := Lib.hid (HO5.out.rgs (by have := parse_len (L t); omega))
        have hl64 := parse_len (L t)
        clear hpe
        generalize parseE (L t) = pe at *
        generalize parseL (L t) = pl at *
        have hpe0 : pe = 0 := HPE.out
        subst hpe0
        go_wp2_with fail
        refine (HF.print _ _ pl HB5.out HRG.out).mono ?_
        rintro e w6 ⟨rfl, hb6⟩
        have HB6 := Lib.hid (bthn HB5.out hb6)
        have HR6 := Lib.hid (HRG.out.on hb6)
        clear hb6
        have hsz : (S (printT pl)).size ≤ t.size := HPP.out.2
        have hsz2 : (S (printT pl)).size ≤ 1408 := HPR.out.2.2
        have hszz : ((S (printT pl)).size : Int) ≤ (t.size : Int) := by omega
        have HP2 := Lib.hid (fun X (hX : Below w.heap.size w X) => HF.parse2 X (S (printT pl)) hX (by omega))
        rw [L_S, HPR.out.1, HPR.out.2.1] at HP2
        generalize printE pl = pe2 at *
        have hp2 : pe2 = 0 := HPZ.out
        subst hp2
        generalize S (printT pl) = ts at *
        go_wp2_with fail
        refine (HP2.out _ HB6.out).mono ?_
        rintro e w7 ⟨v7, rfl, ho7⟩
        have HB7 := Lib.hid (bthn HB6.out ho7.below)
        have HR7 := Lib.hid (ho7.rgs (by omega))
        have HR6' := Lib.hid (HR6.out.on ho7.below)
        clear ho7
        have HSD := Lib.hid (sound_any _ pl w7 HR6'.out (by omega))
        rw [HPP.out.1] at HSD
        go_wp2_with (first | (go_at_call 13; refine HSD.out.mono ?_; rintro e w' ⟨rfl, hw⟩; subst w') | (go_at_call 15; refine (same_is HR7.out HR6'.out (by omega) rfl).mono ?_; rintro e w8 ⟨rfl, hb8⟩) | (go_at_call 10; refine (HF.known _ (bthn HB7.out hb8)).mono ?_; rintro e w9 ⟨rfl, hb9⟩))
        go_ret
        exact ⟨rfl, hb9⟩
      · have hq : (parseE (L t) != 0) = true := by rw [bne_iff_ne]; exact hpe
        have HPN := Lib.hid (parse_not hpe)
        clear hpe
        generalize parseE (L t) = pe at *
        generalize parseL (L t) = pl at *
        have hpn : pl = [] := HPN.out
        subst hpn
        go_wp2_with (go_at_call 10; refine (HF.known _ HB5.out).mono ?_; rintro e w9 ⟨rfl, hb9⟩)
        go_ret
        exact ⟨rfl, hb9⟩
    | false =>
      rw [hs] at HSO
      have hp0 : printE l ≠ 0 := fun h => by rw [hpe.1.1 h] at hs; cases hs
      have HTN := Lib.hid (hpe.2 hp0)
      have hq1 : (printE l == 0) = false := by rw [beq_eq_false_iff_ne]; exact hp0
      have hq2 : (printE l != 0) = true := by rw [bne_iff_ne]; exact hp0
      rw [HTN.out] at HPR0
      have hq3 : ((S []).toList != []) = false := by rw [toList_L]; rfl
      have hq4 : ((S []).toList == []) = true := by rw [toList_L]; rfl
      clear hpe hp0 hs
      generalize printE l = pe0 at *
      go_enter Tryd.func5, Tryd.ntmps5
      go_wp2_with fail
      refine HPR0.out.mono ?_
      rintro e w1 ⟨rfl, hb1⟩
      have HB1 := Lib.hid hb1
      clear hb1
      go_wp2_with fail
      refine (HSO.out _ HB1.out).mono ?_
      rintro e w' ⟨rfl, hw⟩
      subst w'
      go_wp2_with fail
      refine (HF.parse _ HB1.out).mono ?_
      rintro e w5 ⟨v5, rfl, ho5⟩
      have HO5 := Lib.hid ho5
      have HB5 := Lib.hid (bthn HB1.out ho5.below)
      obtain ⟨ao5, cap5, hs5, _⟩ := (ho5.rgs (by have := parse_len (L t); omega)).shape
      subst hs5
      clear ho5
      by_cases hpe : parseE (L t) = 0
      · have HPE := Lib.hid hpe
        have hq : (parseE (L t) != 0) = false := by rw [hpe]; rfl
        have HPP := Lib.hid (parse_print hpe)
        have HPR := Lib.hid (print_parse _ (parse_print hpe).1)
        have HPZ := Lib.hid ((printE_sound (parseL (L t))).1.2 (parse_print hpe).1)
        have HRG := Lib.hid (HO5.out.rgs (by have := parse_len (L t); omega))
        have hl64 := parse_len (L t)
        clear hpe
        generalize parseE (L t) = pe at *
        generalize parseL (L t) = pl at *
        have hpe0 : pe = 0 := HPE.out
        subst hpe0
        go_wp2_with fail
        refine (HF.print _ _ pl HB5.out HRG.out).mono ?_
        rintro e w6 ⟨rfl, hb6⟩
        have HB6 := Lib.hid (bthn HB5.out hb6)
        have HR6 := Lib.hid (HRG.out.on hb6)
        clear hb6
        have hsz : (S (printT pl)).size ≤ t.size := HPP.out.2
        have hsz2 : (S (printT pl)).size ≤ 1408 := HPR.out.2.2
        have hszz : ((S (printT pl)).size : Int) ≤ (t.size : Int) := by omega
        have HP2 := Lib.hid (fun X (hX : Below w.heap.size w X) => HF.parse2 X (S (printT pl)) hX (by omega))
        rw [L_S, HPR.out.1, HPR.out.2.1] at HP2
        generalize printE pl = pe2 at *
        have hp2 : pe2 = 0 := HPZ.out
        subst hp2
        generalize S (printT pl) = ts at *
        go_wp2_with fail
        refine (HP2.out _ HB6.out).mono ?_
        rintro e w7 ⟨v7, rfl, ho7⟩
        have HB7 := Lib.hid (bthn HB6.out ho7.below)
        have HR7 := Lib.hid (ho7.rgs (by omega))
        have HR6' := Lib.hid (HR6.out.on ho7.below)
        clear ho7
        have HSD := Lib.hid (sound_any _ pl w7 HR6'.out (by omega))
        rw [HPP.out.1] at HSD
        go_wp2_with (first | (go_at_call 13; refine HSD.out.mono ?_; rintro e w' ⟨rfl, hw⟩; subst w') | (go_at_call 15; refine (same_is HR7.out HR6'.out (by omega) rfl).mono ?_; rintro e w8 ⟨rfl, hb8⟩) | (go_at_call 10; refine (HF.known _ (bthn HB7.out hb8)).mono ?_; rintro e w9 ⟨rfl, hb9⟩))
        go_ret
        exact ⟨rfl, hb9⟩
      · have hq : (parseE (L t) != 0) = true := by rw [bne_iff_ne]; exact hpe
        have HPN := Lib.hid (parse_not hpe)
        clear hpe
        generalize parseE (L t) = pe at *
        generalize parseL (L t) = pl at *
        have hpn : pl = [] := HPN.out
        subst hpn
        go_wp2_with (go_at_call 10; refine (HF.known _ HB5.out).mono ?_; rintro e w9 ⟨rfl, hb9⟩)
        go_ret
        exact ⟨rfl, hb9⟩
end Go.Proofs.YtoikjkcnekkehaaDoor
