/- span: the text of a set, plain; an end that is read. -/
import Derived.Test.YtkclcjnfjielfabDoorVp
namespace Go.Proofs.YtkclcjnfjielfabDoor
open Go.RowKit

/-- What an end's text says; none: it is no end. -/
def endV (l : List UInt8) : Option Int :=
  if l = [42] then some 0
  else match Lib.parseUintB 64 l with
    | .ok n => if bt l 0 = 48 ∨ 4294967295 < n then none else some (n : Int)
    | _ => none
/-- What is read of a text whose rest is given: 'seg' is what stands since the last sign. -/
def scn : List UInt8 → List UInt8 → Bool → Rg → List Rg → Option (List Rg)
  | [], _, _, _, acc => some acc
  | c :: r, seg, pd, pc, acc =>
    if c = 44 ∨ c = 58 then
      match endV seg with
      | none => none
      | some e => if pd = true ∧ c = 58 then none else scn r [] (c == 58) (if pd = true then pc.1 else e, e) (if c = 44 then acc ++ [(if pd = true then pc.1 else e, e)] else acc)
    else scn r (seg ++ [c]) pd pc acc
def pcs (l : List UInt8) : Option (List Rg) := scn (l ++ [44]) [] false (0, 0) []
def parseL (l : List UInt8) : List Rg := if 4096 < l.length then [] else match pcs l with | none => [] | some s => if 64 < s.length then [] else s
def parseE (l : List UInt8) : Int := if 4096 < l.length then 2 else match pcs l with | none => 40 | some s => if 64 < s.length then 41 else 0

set_option maxRecDepth 100000 in
set_option maxHeartbeats 2000000 in
theorem readEnd_any (s : ByteArray) (w : World) (he : Env w) (hs : s.size ≤ 281474976710656) :
    Calls Tryd.prog 67 #[.string s] w fun e w' => e = .returned (.tuple #[.int .i64 ((endV (L s)).getD 0), .bool (endV (L s)).isSome]) ∧ Below w.heap.size w w' := by
  by_cases h42 : L s = [42]
  · have : s = S [42] := by rw [← h42]; rfl
    subst this
    have hv : endV (L (S [42])) = some 0 := by unfold endV; rw [if_pos h42]
    rw [hv]
    clear h42 hv
    have hq : ((S [42]).toList == [42]) = true := by rw [toList_L]; rfl
    go_enter Tryd.func67, Tryd.ntmps67
    go_wp2
    go_ret2
    exact ⟨rfl, Below.refl _ _⟩
  · have hne : (s.toList == [42]) = false := by rw [toList_L]; simpa using h42
    cases hp : Lib.parseUintB 64 s.data.toList with
    | ok n =>
      have hpos : 0 < s.size := by
        rcases Nat.eq_zero_or_pos s.size with h | h
        · exfalso
          have : s.data.toList = [] := List.eq_nil_of_length_eq_zero h
          rw [this] at hp
          simp [Lib.parseUintB] at hp
        · exact h
      have HP := Lib.hid (Tryd.strconv_ParseUint_10_at64_ok s (by omega) n hp)
      have HVV : Hid (endV (L s) = if bt (L s) 0 = 48 ∨ 4294967295 < n then none else some (n : Int)) := Lib.hid (by unfold endV; rw [if_neg h42]; show (match Lib.parseUintB 64 s.data.toList with | .ok n => _ | _ => _) = _; rw [hp])
      have hb : s[0] = bt (L s) 0 := by rw [bt_getElem (L s) 0 hpos]; rfl
      have hc0 : ((s[0]).toNat : Int) = ((bt (L s) 0).toNat : Int) := by rw [hb]
      clear hp h42 he hb
      generalize endV (L s) = ev at *
      by_cases hz : bt (L s) 0 = 48
      · have hev : ev = none := by rw [HVV.out, if_pos (.inl hz)]
        subst hev
        have hq : (((s[0]).toNat : Int) == 48) = true := by rw [hc0, hz]; rfl
        clear hz hc0 HVV
        go_enter Tryd.func67, Tryd.ntmps67
        go_wp2_with (go_at_call 72; refine (HP.out _).mono ?_; rintro e w1 ⟨rfl, hb1⟩)
        go_ret2
        exact ⟨rfl, by rcases hb1 with rfl | rfl; exact Below.refl _ _; exact Lib.bytesWorld_below _ _ _⟩
      · have hq : (((s[0]).toNat : Int) == 48) = false := by
          rw [beq_eq_false_iff_ne, hc0]
          intro h
          exact hz (UInt8.toNat_inj.1 (by have : (48 : UInt8).toNat = 48 := rfl; omega))
        by_cases hm : 4294967295 < n
        · have hev : ev = none := by rw [HVV.out, if_pos (.inr hm)]
          subst hev
          have hmz : (4294967295 : Int) < (n : Int) := by omega
          clear hz hc0 HVV
          go_enter Tryd.func67, Tryd.ntmps67
          go_wp2_with (go_at_call 72; refine (HP.out _).mono ?_; rintro e w1 ⟨rfl, hb1⟩)
          go_ret2
          exact ⟨rfl, by rcases hb1 with rfl | rfl; exact Below.refl _ _; exact Lib.bytesWorld_below _ _ _⟩
        · have hev : ev = some (n : Int) := by rw [HVV.out, if_neg (by rintro (h | h); exact hz h; exact hm h)]
          subst hev
          have hmz : ¬ (4294967295 : Int) < (n : Int) := by omega
          clear hz hc0 HVV
          go_enter Tryd.func67, Tryd.ntmps67
          go_wp2_with (go_at_call 72; refine (HP.out _).mono ?_; rintro e w1 ⟨rfl, hb1⟩)
          go_ret2
          exact ⟨rfl, by rcases hb1 with rfl | rfl; exact Below.refl _ _; exact Lib.bytesWorld_below _ _ _⟩
    | «syntax» =>
      obtain ⟨te, pe, hsy⟩ := he.syn
      have HP := Lib.hid (Tryd.strconv_ParseUint_10_at64_syntax s hs hp (.iface te pe) w hsy (.inr ⟨te, pe, rfl⟩))
      have HVV : Hid (endV (L s) = none) := Lib.hid (by unfold endV; rw [if_neg h42]; show (match Lib.parseUintB 64 s.data.toList with | .ok n => _ | _ => _) = _; rw [hp])
      clear hp h42 he hsy
      generalize endV (L s) = ev at *
      have hev : ev = none := HVV.out
      subst hev
      go_enter Tryd.func67, Tryd.ntmps67
      go_wp2_with (go_at_call 72; refine HP.out.mono ?_; rintro e w1 ⟨N, rfl, _, _, hb1⟩)
      go_ret2
      exact ⟨rfl, hb1⟩
    | range =>
      obtain ⟨te, pe, hsy⟩ := he.rng
      have HP := Lib.hid (Tryd.strconv_ParseUint_10_at64_range s hs hp (.iface te pe) w hsy (.inr ⟨te, pe, rfl⟩))
      have HVV : Hid (endV (L s) = none) := Lib.hid (by unfold endV; rw [if_neg h42]; show (match Lib.parseUintB 64 s.data.toList with | .ok n => _ | _ => _) = _; rw [hp])
      clear hp h42 he hsy
      generalize endV (L s) = ev at *
      have hev : ev = none := HVV.out
      subst hev
      go_enter Tryd.func67, Tryd.ntmps67
      go_wp2_with (go_at_call 72; refine HP.out.mono ?_; rintro e w1 ⟨N, rfl, _, _, hb1⟩)
      go_ret2
      exact ⟨rfl, hb1⟩
end Go.Proofs.YtkclcjnfjielfabDoor
