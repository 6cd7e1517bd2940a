/- The reference's end, plain and walked. -/
import Derived.Test.YtkclcjnfjielfabDoorVu
namespace Go.Proofs.YtkclcjnfjielfabDoor
open Go.RowKit

def isD (c : UInt8) : Bool := decide (48 ≤ c.toNat) && decide (c.toNat ≤ 57)
/-- Digits that are read on, n so far; none: too great. -/
def dg : Nat → List UInt8 → Option (Nat × List UInt8)
  | n, [] => some (n, [])
  | n, c :: r => if isD c = true then (if 4294967295 < 10 * n + (c.toNat - 48) then none else dg (10 * n + (c.toNat - 48)) r) else some (n, c :: r)
/-- The reference's end at the head of a text: its number, and the rest. -/
def rE : List UInt8 → Option (Int × List UInt8)
  | [] => none
  | c :: r => if c = 42 then some (0, r) else if 49 ≤ c.toNat ∧ c.toNat ≤ 57 then (dg 0 (c :: r)).map (fun p => ((p.1 : Int), p.2)) else none
def Aft (E : Option (Int × List UInt8)) (T : List UInt8) (k0 a : Nat) : Prop := ∀ n r, E = some (n, r) → a ≤ T.length ∧ k0 < a ∧ r = T.drop a
theorem Aft.none {T : List UInt8} {k0 a : Nat} : Aft none T k0 a := fun _ _ h => by cases h
theorem Aft.some {T : List UInt8} {k0 a : Nat} {n : Int} (h1 : a ≤ T.length) (h2 : k0 < a) : Aft (some (n, T.drop a)) T k0 a := fun _ _ h => by cases h; exact ⟨h1, h2, rfl⟩
def rN : Option (Int × List UInt8) → Int
  | none => -1
  | some p => p.1
theorem dg_digit {n : Nat} {c : UInt8} {r : List UInt8} (h : isD c = true) : dg n (c :: r) = if 4294967295 < 10 * n + (c.toNat - 48) then none else dg (10 * n + (c.toNat - 48)) r := by
  show (if isD c = true then _ else _) = _
  rw [if_pos h]
theorem dg_other {n : Nat} {c : UInt8} {r : List UInt8} (h : isD c = false) : dg n (c :: r) = some (n, c :: r) := by
  show (if isD c = true then _ else _) = _
  rw [if_neg (by rw [h]; simp)]
theorem ret_two {a b c d : Int} (h1 : a = c) (h2 : b = d) : Ending.returned (.tuple #[.int .i64 a, .int .i64 b]) = .returned (.tuple #[.int .i64 c, .int .i64 d]) := by rw [h1, h2]
theorem drop_consL (T : List UInt8) (k : Nat) (hk : k < T.length) : T.drop k = bt T k :: T.drop (k + 1) := by
  rw [bt_getElem T k hk]; exact List.drop_eq_getElem_cons hk

set_option maxRecDepth 100000 in
set_option maxHeartbeats 4000000 in
theorem refEnd_any (s : ByteArray) (k0 : Nat) (w : World) (hk0 : k0 ≤ s.size) (hs : s.size ≤ 1000000) :
    Calls Tryd.prog 57 #[.string s, .int .i64 k0] w fun e w' => ∃ a : Nat, e = .returned (.tuple #[.int .i64 (rN (rE ((L s).drop k0))), .int .i64 a]) ∧ Aft (rE ((L s).drop k0)) (L s) k0 a ∧ w' = w := by
  by_cases hlt : k0 < s.size
  · have hltz : (k0 : Int) < (s.size : Int) := by omega
    have hltn : ¬ (s.size : Int) ≤ (k0 : Int) := by omega
    have hck : ((s[k0]).toNat : Int) = ((bt (L s) k0).toNat : Int) := by rw [bt_getElem (L s) k0 (by rw [L_length]; exact hlt)]; rfl
    have HD := Lib.hid (drop_consL (L s) k0 (by rw [L_length]; exact hlt))
    obtain ⟨E, hE⟩ : ∃ E, E = rE ((L s).drop k0) := ⟨_, rfl⟩
    rw [← hE]
    have HE : Hid (E = rE (bt (L s) k0 :: (L s).drop (k0 + 1))) := Lib.hid (by rw [hE, HD.out])
    clear hE
    generalize bt (L s) k0 = c at *
    by_cases h42 : c = 42
    · subst h42
      have hEE : E = some (0, (L s).drop (k0 + 1)) := by rw [HE.out]; rfl
      subst hEE
      have q1 : (((s[k0]).toNat : Int) == 42) = true := by rw [hck]; rfl
      clear hck HE
      go_enter Tryd.func57, Tryd.ntmps57
      go_wp2_with fail
      go_ret2
      exact ⟨k0 + 1, ret_two rfl (by omega), Aft.some (by rw [L_length]; omega) (by omega), rfl⟩
    · have hc42 : ¬ c.toNat = 42 := fun h => h42 (UInt8.toNat_inj.1 h)
      have q1 : (((s[k0]).toNat : Int) == 42) = false := by rw [hck, beq_eq_false_iff_ne]; omega
      by_cases hd : 49 ≤ c.toNat ∧ c.toNat ≤ 57
      · obtain ⟨d1, d2⟩ := hd
        have q2 : ¬ ((s[k0]).toNat : Int) < 49 := by omega
        have q3 : ¬ (57 : Int) < ((s[k0]).toNat : Int) := by omega
        obtain ⟨R, hR⟩ : ∃ R, R = dg 0 ((L s).drop k0) := ⟨_, rfl⟩
        have hEE : E = R.map (fun p => ((p.1 : Int), p.2)) := by
          rw [HE.out, hR, HD.out]
          show (if c = 42 then _ else if 49 ≤ c.toNat ∧ c.toNat ≤ 57 then _ else _) = _
          rw [if_neg h42, if_pos ⟨d1, d2⟩]
        have HR := Lib.hid hR
        have HEE := Lib.hid hEE
        have h00 : Hid (∀ n : Nat, dg n ((L s).drop k0) = if 4294967295 < 10 * n + (c.toNat - 48) then none else dg (10 * n + (c.toNat - 48)) ((L s).drop (k0 + 1))) := Lib.hid (fun n => by rw [HD.out]; exact dg_digit (by unfold isD; rw [decide_eq_true (by omega), decide_eq_true d2]; rfl))
        clear hR hEE HE HD hck h42 hc42
        go_enter Tryd.func57, Tryd.ntmps57
        go_wp2_with fail
        go_loopg [1, 6] s.size (fun gg s1 s6 wr => ∃ k n : Nat, w = wr ∧ k0 ≤ k ∧ k ≤ s.size ∧ s.size - k ≤ gg ∧ s1 = .int .i64 k ∧ s6 = .int .i64 n ∧ n ≤ 4294967295 ∧ Hid (R = dg n ((L s).drop k) ∧ (k = k0 → n = 0)))
        case atStart => exact ⟨k0, 0, rfl, Nat.le_refl _, hk0, by omega, rfl, rfl, by omega, Lib.hid ⟨HR.out, fun _ => rfl⟩⟩
        case round =>
          obtain ⟨k, n, hw, hk1, hk2, hgg, rfl, rfl, hn, HRk⟩ := hrel
          subst hw
          by_cases hlk : k < s.size
          · have hlkz : (k : Int) < (s.size : Int) := by omega
            have hckk : ((s[k]).toNat : Int) = ((bt (L s) k).toNat : Int) := by rw [bt_getElem (L s) k (by rw [L_length]; exact hlk)]; rfl
            have HDk := Lib.hid (drop_consL (L s) k (by rw [L_length]; exact hlk))
            have HR2 : Hid (R = dg n (bt (L s) k :: (L s).drop (k + 1))) := Lib.hid (by rw [HRk.out.1, HDk.out])
            generalize bt (L s) k = e at *
            by_cases e1 : 48 ≤ e.toNat
            · have p1 : (48 : Int) ≤ ((s[k]).toNat : Int) := by omega
              by_cases e2 : e.toNat ≤ 57
              · have p2 : ((s[k]).toNat : Int) ≤ 57 := by omega
                have HR3 := Lib.hid (HR2.out.trans (dg_digit (by unfold isD; rw [decide_eq_true e1, decide_eq_true e2]; rfl)))
                have hu : IntKind.u8.wrap (((s[k]).toNat : Int) - 48) = ((e.toNat - 48 : Nat) : Int) := by
                  rw [hckk, show ((e.toNat : Int) - 48) = ((e.toNat - 48 : Nat) : Int) by omega]
                  have : e.toNat - 48 < 256 := by omega
                  rw [IntKind.wrap_u8]
                  omega
                have hx9 : e.toNat - 48 ≤ 9 := by omega
                clear HR2 hckk
                generalize e.toNat - 48 = x at *
                by_cases hb : 4294967295 < 10 * n + x
                · have hbz : (4294967295 : Int) < 10 * (n : Int) + (x : Int) := by omega
                  have hRN : R = none := by rw [HR3.out, if_pos hb]
                  subst hRN
                  have : E = none := HEE.out
                  subst this
                  go_wp2_with fail
                  go_ret2
                  exact ⟨k, rfl, Aft.none, rfl⟩
                · have hbz : ¬ (4294967295 : Int) < 10 * (n : Int) + (x : Int) := by omega
                  go_wp2_with fail
                  go_roundg (s.size - (k + 1))
                  case measure => omega
                  case rel => exact ⟨k + 1, 10 * n + x, rfl, by omega, by omega, by omega, by go_num, by go_num, by omega, Lib.hid ⟨by rw [HR3.out, if_neg hb], fun h => by omega⟩⟩
              · have p2 : ¬ ((s[k]).toNat : Int) ≤ 57 := by omega
                have HRS : Hid (R = some (n, (L s).drop k)) := Lib.hid (by rw [HR2.out, dg_other (by unfold isD; rw [decide_eq_false e2]; simp), HDk.out])
                have hkk : k0 < k := by
                  rcases Nat.lt_or_ge k0 k with h | h
                  · exact h
                  · exfalso; have : k = k0 := by omega
                    subst this; omega
                have hEE : E = some ((n : Int), (L s).drop k) := by rw [HEE.out, HRS.out]; rfl
                subst hEE
                clear hckk
                go_wp2_with fail
                go_ret2
                exact ⟨k, rfl, Aft.some (by rw [L_length]; omega) hkk, rfl⟩
            · have p1 : ¬ (48 : Int) ≤ ((s[k]).toNat : Int) := by omega
              have HRS : Hid (R = some (n, (L s).drop k)) := Lib.hid (by rw [HR2.out, dg_other (by unfold isD; rw [decide_eq_false e1]; simp), HDk.out])
              have hkk : k0 < k := by
                rcases Nat.lt_or_ge k0 k with h | h
                · exact h
                · exfalso; have : k = k0 := by omega
                  subst this; omega
              have hEE : E = some ((n : Int), (L s).drop k) := by rw [HEE.out, HRS.out]; rfl
              subst hEE
              clear hckk
              go_wp2_with fail
              go_ret2
              exact ⟨k, rfl, Aft.some (by rw [L_length]; omega) hkk, rfl⟩
          · have hlkz : ¬ (k : Int) < (s.size : Int) := by omega
            have HRS : Hid (R = some (n, (L s).drop k)) := Lib.hid (by rw [HRk.out.1, show (L s).drop k = [] from List.drop_eq_nil_of_le (by rw [L_length]; omega)]; rfl)
            have hkk : k0 < k := by omega
            have hEE : E = some ((n : Int), (L s).drop k) := by rw [HEE.out, HRS.out]; rfl
            subst hEE
            go_wp2_with fail
            go_ret2
            exact ⟨k, rfl, Aft.some (by rw [L_length]; omega) hkk, rfl⟩
      · have hEE : E = none := by
          rw [HE.out]
          show (if c = 42 then _ else if 49 ≤ c.toNat ∧ c.toNat ≤ 57 then _ else _) = _
          rw [if_neg h42, if_neg hd]
        subst hEE
        by_cases d1 : c.toNat < 49
        · have q2 : ((s[k0]).toNat : Int) < 49 := by omega
          clear hck HE HD
          go_enter Tryd.func57, Tryd.ntmps57
          go_wp2_with fail
          go_ret2
          exact ⟨k0, rfl, Aft.none, rfl⟩
        · have q2 : ¬ ((s[k0]).toNat : Int) < 49 := by omega
          have q3 : (57 : Int) < ((s[k0]).toNat : Int) := by omega
          clear hck HE HD
          go_enter Tryd.func57, Tryd.ntmps57
          go_wp2_with fail
          go_ret2
          exact ⟨k0, rfl, Aft.none, rfl⟩
  · have hltz : ¬ (k0 : Int) < (s.size : Int) := by omega
    have hltn : (s.size : Int) ≤ (k0 : Int) := by omega
    have hdr : (L s).drop k0 = [] := List.drop_eq_nil_of_le (by rw [L_length]; omega)
    rw [hdr]
    clear hdr
    go_enter Tryd.func57, Tryd.ntmps57
    go_wp2_with fail
    go_ret2
    exact ⟨k0, rfl, Aft.none, rfl⟩
end Go.Proofs.YtkclcjnfjielfabDoor
