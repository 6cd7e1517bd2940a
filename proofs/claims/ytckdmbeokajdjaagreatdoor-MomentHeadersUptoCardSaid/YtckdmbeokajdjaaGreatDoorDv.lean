/- moment: zone, ReadHeader. -/
import Derived.Test.YtckdmbeokajdjaaGreatDoorDu
import Derived.Test.YtckdmbeokajdjaaGreatDoorDk
namespace Go.Proofs.YtckdmbeokajdjaaGreatDoor
open Go.RowKit

/-- The zone; nz is what the letters name. -/
def znB (c : Cur) : Bool := if c.k = 1 then true else if c.k = 3 then tzB c.p else true
def znZ (c : Cur) (nz z : Int) : Int := if c.k = 1 then nz else if c.k = 3 then tzV c.p else z
def znC (c : Cur) : Cur := if c.k = 1 ∨ c.k = 3 then stp c.r else c
theorem take_yes (c : Cur) (k : Nat) (h : c.k = k) : c.take k = ((c.p, true), stp c.r) := by unfold Cur.take; rw [if_pos h]
theorem take_not (c : Cur) (k : Nat) (h : c.k ≠ k) : c.take k = (([], false), c) := by unfold Cur.take; rw [if_neg h]
set_option maxRecDepth 100000 in
set_option maxHeartbeats 4000000 in
theorem hzone_any (b bm : Nat) (s : ByteArray) (c : Cur) (y m d h n se z nz : Int) (w : World) (hs : s.size ≤ 140737488355328) (hx : Cuc b s c w) (hm : Bx bm y m d h n se z w) (hlt : b < bm)
    (hN : c.k = 1 → ∀ W, Calls Tryz.prog 54 #[.string (S c.p)] W fun e w' => e = .returned (.int .i64 nz) ∧ Below W.heap.size W w') :
    Calls Tryz.prog 29 #[.pointer (some ⟨b, 0, none⟩), .pointer (some ⟨bm, 0, none⟩)] w fun e w' => e = .returned (.bool (znB c)) ∧ Below b w w' ∧ Cuc b s (znC c) w' ∧ ∃ z', Bx bm y m d h n se z' w' ∧ (znB c = true → z' = znZ c nz z) := by
  have HT := Lib.hid (take_any b s c 1 w hs hx)
  have hbl := Nat.le_of_lt hx.lt
  by_cases h1 : c.k = 1
  · have e1 : znB c = true := by unfold znB; rw [if_pos h1]
    have e2 : znC c = stp c.r := by unfold znC; rw [if_pos (.inl h1)]
    have e3 : znZ c nz z = nz := by unfold znZ; rw [if_pos h1]
    rw [e1, e2, e3]
    rw [take_yes c 1 h1] at HT
    have HN := Lib.hid (hN h1)
    have HTT : Hid (Calls Tryz.prog 49 #[.pointer (some ⟨b, 0, none⟩), .int .i64 1] w fun e w' => e = .returned (.tuple #[.string (S c.p), .bool true]) ∧ Only b w w' ∧ Cuc b s (stp c.r) w') := Lib.hid HT.out
    generalize S c.p = nm at *
    clear e1 e2 e3 h1 hx HT hN
    go_enter Tryz.func29, Tryz.ntmps29
    go_wp2_with fail
    refine HTT.out.mono ?_
    rintro e w1 ⟨rfl, hb1, hx1⟩
    have hm1 := hm.only hb1 (by omega)
    have q1 := hb1.below hbl
    go_wp2_with fail
    refine (HN.out _).mono ?_
    rintro e w2 ⟨rfl, hb2⟩
    have hm2 := hm1.on hb2
    have hx2 := hx1.on hb2
    have q2 := q1.trans (hb2.mono (Nat.le_of_lt hx1.lt))
    clear hm1 hx1 q1 hb1 hb2 hm
    obtain ⟨k0, k1, k2, k3, k4, k5, k6⟩ := hm2.cells
    have g6 := hm2.free 6
    have HX := Lib.hid (hx2.onB ((Below.refl _ _).setCell (p := ⟨bm, 6, none⟩) (Nat.le_refl _) (.int .i64 nz)) hlt)
    have HM := Lib.hid (hm2.set6 (v := nz))
    have Q := Lib.hid (q2.setCell (p := ⟨bm, 6, none⟩) (Nat.le_of_lt hlt) (.int .i64 nz))
    clear hx2 hm2 q2
    go_wp2
    go_ret
    exact ⟨rfl, Q.out, HX.out, nz, HM.out, fun _ => rfl⟩
  · rw [take_not c 1 h1] at HT
    have HTT : Hid (Calls Tryz.prog 49 #[.pointer (some ⟨b, 0, none⟩), .int .i64 1] w fun e w' => e = .returned (.tuple #[.string ⟨#[]⟩, .bool false]) ∧ Only b w w' ∧ Cuc b s c w') := Lib.hid HT.out
    have HT3 := Lib.hid (fun W hW => take_any b s c 3 W hs hW)
    by_cases h3 : c.k = 3
    · have e1 : znB c = tzB c.p := by unfold znB; rw [if_neg h1, if_pos h3]
      have e2 : znC c = stp c.r := by unfold znC; rw [if_pos (.inr h3)]
      have e3 : znZ c nz z = tzV c.p := by unfold znZ; rw [if_neg h1, if_pos h3]
      rw [e1, e2, e3]
      rw [take_yes c 3 h3] at HT3
      have HT4 : Hid (∀ W, Cuc b s c W → Calls Tryz.prog 49 #[.pointer (some ⟨b, 0, none⟩), .int .i64 3] W fun e w' => e = .returned (.tuple #[.string (S c.p), .bool true]) ∧ Only b W w' ∧ Cuc b s (stp c.r) w') := Lib.hid HT3.out
      have HZ := Lib.hid (fun W hm => takeZone_any (S c.p) bm y m d h n se z W hm)
      rw [L_S] at HZ
      generalize S c.p = nm at *
      generalize tzB c.p = tb at *
      generalize tzV c.p = tv at *
      clear e1 e2 e3 h1 h3 hx HT hN HT3
      go_enter Tryz.func29, Tryz.ntmps29
      go_wp2_with fail
      refine HTT.out.mono ?_
      rintro e w1 ⟨rfl, hb1, hx1⟩
      have hm1 := hm.only hb1 (by omega)
      go_wp2_with fail
      refine (HT4.out _ hx1).mono ?_
      rintro e w2 ⟨rfl, hb2, hx2⟩
      have hm2 := hm1.only hb2 (by omega)
      have q2 := (hb1.trans hb2).below hbl
      go_wp2_with fail
      refine (HZ.out _ hm2).mono ?_
      rintro e w3 ⟨rfl, hb3, z', hm3, hzv⟩
      have HX := Lib.hid (hx2.onB hb3 hlt)
      have Q := Lib.hid (q2.trans (hb3.mono (Nat.le_of_lt hlt)))
      go_wp2
      go_ret
      exact ⟨rfl, Q.out, HX.out, z', hm3, hzv⟩
    · have e1 : znB c = true := by unfold znB; rw [if_neg h1, if_neg h3]
      have e2 : znC c = c := by unfold znC; rw [if_neg (fun q => q.elim h1 h3)]
      have e3 : znZ c nz z = z := by unfold znZ; rw [if_neg h1, if_neg h3]
      rw [e1, e2, e3]
      rw [take_not c 3 h3] at HT3
      have HT4 : Hid (∀ W, Cuc b s c W → Calls Tryz.prog 49 #[.pointer (some ⟨b, 0, none⟩), .int .i64 3] W fun e w' => e = .returned (.tuple #[.string ⟨#[]⟩, .bool false]) ∧ Only b W w' ∧ Cuc b s c w') := Lib.hid HT3.out
      clear e1 e2 e3 h1 h3 hx HT hN HT3
      go_enter Tryz.func29, Tryz.ntmps29
      go_wp2_with fail
      refine HTT.out.mono ?_
      rintro e w1 ⟨rfl, hb1, hx1⟩
      have hm1 := hm.only hb1 (by omega)
      go_wp2_with fail
      refine (HT4.out _ hx1).mono ?_
      rintro e w2 ⟨rfl, hb2, hx2⟩
      have HM := Lib.hid (hm1.only hb2 (by omega))
      have Q := Lib.hid ((hb1.trans hb2).below hbl)
      go_wp2
      go_ret
      exact ⟨rfl, Q.out, hx2, z, HM.out, fun _ => rfl⟩
end Go.Proofs.YtckdmbeokajdjaaGreatDoor
