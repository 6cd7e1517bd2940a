/- span: Print. -/
import Derived.Test.YtkclcjnfjielfabDoorVo
namespace Go.Proofs.YtkclcjnfjielfabDoor
open Go.RowKit

def textK (l : List Rg) : Nat → List UInt8
  | 0 => []
  | k + 1 => (if k = 0 then [] else textK l k ++ [44]) ++ pieceT (l.getD k (0, 0))
def printE (l : List Rg) : Int := if 64 < l.length then 41 else if setB l = true then 0 else 40
def printT (l : List Rg) : List UInt8 := if 64 < l.length then [] else if setB l = true then textK l l.length else []
theorem pieceT_len {p : Rg} (h : pieceB p = true) : (pieceT p).length ≤ 21 := by
  have hb := (pieceB_iff p).1 h
  have la := endT_len hb.1 hb.2.1
  have lb := endT_len hb.2.2.1 hb.2.2.2
  unfold pieceT
  split
  · omega
  · simp; omega
theorem textK_len (l : List Rg) (hs : l.all pieceB = true) : ∀ k, k ≤ l.length → (textK l k).length ≤ 22 * k
  | 0, _ => by simp [textK]
  | k + 1, hk => by
    have ih := textK_len l hs k (by omega)
    have hp : pieceB (l.getD k (0, 0)) = true := List.all_eq_true.1 hs _ (by rw [List.getD_eq_getElem?_getD, List.getElem?_eq_getElem (by omega)]; exact List.getElem_mem (by omega))
    have := pieceT_len hp
    unfold textK
    rw [List.length_append]
    split
    · rw [List.length_nil]; omega
    · rw [List.length_append, List.length_singleton]; omega
theorem ret_str2 {a b : ByteArray} {c d : Int} (h : a = b) (h2 : c = d) : Ending.returned (.tuple #[.string a, .int .i64 c]) = .returned (.tuple #[.string b, .int .i64 d]) := by rw [h, h2]

set_option maxRecDepth 100000 in
set_option maxHeartbeats 4000000 in
theorem print_any (v : Value) (l : List Rg) (w : World) (he : Env w) (hr : Rgs w v l) :
    Calls Tryd.prog 18 #[v] w fun e w' => e = .returned (.tuple #[.string (S (printT l)), .int .i64 (printE l)]) ∧ Below w.heap.size w w' := by
  have HS := Lib.hid (isSet_any v l w hr)
  obtain ⟨ao, cap, hv, hcs⟩ := hr.shape
  have hlb : l.length ≤ 8796093022208 := by
    rcases hr with ⟨rfl, _⟩ | ⟨_, _, _, _, h, _⟩
    · simp
    · exact h
  subst hv
  have HC := Lib.hid hcs
  have HV := Lib.hid he
  clear hr hcs he
  by_cases h64 : 64 < l.length
  · have hz : (64 : Int) < (l.length : Int) := by omega
    have H1 : Hid (printT l = [] ∧ printE l = 41) := Lib.hid (by unfold printT printE; rw [if_pos h64, if_pos h64]; exact ⟨rfl, rfl⟩)
    go_enter Tryd.func18, Tryd.ntmps18
    go_wp2_with fail
    go_ret2
    exact ⟨ret_str2 (by rw [H1.out.1]; rfl) H1.out.2.symm, Below.refl _ _⟩
  · have hz : ¬ (64 : Int) < (l.length : Int) := by omega
    cases hs : setB l with
    | false =>
      rw [hs] at HS
      have H1 : Hid (printT l = [] ∧ printE l = 40) := Lib.hid (by unfold printT printE; rw [if_neg h64, if_neg h64, if_neg (by rw [hs]; simp), if_neg (by rw [hs]; simp)]; exact ⟨rfl, rfl⟩)
      go_enter Tryd.func18, Tryd.ntmps18
      go_wp2_with (go_at_call 41; refine HS.out.mono ?_; rintro e w1 ⟨rfl, hb1⟩)
      go_ret2
      exact ⟨ret_str2 (by rw [H1.out.1]; rfl) H1.out.2.symm, hb1⟩
    | true =>
      rw [hs] at HS
      have hall : l.all pieceB = true := by (unfold setB at hs; rw [Bool.and_eq_true] at hs; exact hs.2)
      have H1 : Hid (printT l = textK l l.length ∧ printE l = 0) := Lib.hid (by unfold printT printE; rw [if_neg h64, if_neg h64, if_pos hs, if_pos hs]; exact ⟨rfl, rfl⟩)
      have HALL := Lib.hid hall
      clear hs hall
      go_enter Tryd.func18, Tryd.ntmps18
      go_wp2_with (go_at_call 41; refine HS.out.mono ?_; rintro e w1 ⟨rfl, hb1⟩)
      have HB1 := Lib.hid hb1
      clear hb1
      go_loopg [4, 17] l.length (fun gg s4 s17 wr => ∃ (k : Nat) (s : ByteArray), k ≤ l.length ∧ l.length - k ≤ gg ∧ s17 = .int .i64 k ∧ s4 = .string s ∧ Hid (s = S (textK l k)) ∧ Below w.heap.size w wr)
      case atStart => exact ⟨0, _, Nat.zero_le _, by omega, rfl, rfl, Lib.hid rfl, HB1.out⟩
      case round =>
        obtain ⟨k, s, hk, hgg, rfl, rfl, hst, hbw⟩ := hrel
        have HBW := Lib.hid hbw
        clear hbw
        by_cases hlt : k < l.length
        · have hltz : (k : Int) < (l.length : Int) := by omega
          obtain ⟨b, off, hao, hbs, hc⟩ := HC.out (by omega)
          subst hao
          obtain ⟨c1, c2⟩ := hc k hlt
          rw [← HBW.out.cell (p := ⟨b, off + k * 2, none⟩) hbs] at c1
          rw [← HBW.out.cell (p := ⟨b, off + k * 2 + 1, none⟩) hbs] at c2
          have hsz : s.size ≤ 1408 := by (rw [hst.out, S_size]; have := textK_len l HALL.out k hk; omega)
          have hpb : pieceB ((l.getD k (0, 0)).1, (l.getD k (0, 0)).2) = true := List.all_eq_true.1 HALL.out _ (by rw [List.getD_eq_getElem?_getD, List.getElem?_eq_getElem (by omega)]; exact List.getElem_mem (by omega))
          have HX : Hid (textK l (k + 1) = (if k = 0 then [] else textK l k ++ [44]) ++ pieceT ((l.getD k (0, 0)).1, (l.getD k (0, 0)).2)) := Lib.hid rfl
          have HPL := Lib.hid (pieceT_len hpb)
          clear hc
          generalize (l.getD k (0, 0)).1 = x at *
          generalize (l.getD k (0, 0)).2 = y at *
          have HP := Lib.hid (fun X hX => pieceText_any x y X hX hpb)
          obtain ⟨ps, hps⟩ : ∃ ps, ps = S (pieceT (x, y)) := ⟨_, rfl⟩
          have hpsz : ps.size ≤ 21 := by (rw [hps]; exact HPL.out)
          rw [← hps] at HP
          have HPS := Lib.hid hps
          clear hps hpb
          by_cases h0 : k = 0
          · have hkz : ¬ (0 : Int) < (k : Int) := by omega
            have HF : Hid (s ++ ps = S (textK l (k + 1))) := Lib.hid (by rw [HX.out, if_pos h0, HPS.out, hst.out]; subst h0; rw [S_append]; rfl)
            clear h0
            go_wp2_with (go_at_call 42; refine (HP.out _ ((HV.out.on (HBW.out)).alloc _)).mono ?_; rintro e w2 ⟨rfl, hb2⟩)
            go_roundg (l.length - (k + 1))
            case measure => omega
            case rel => exact ⟨k + 1, _, by omega, by omega, by go_num, rfl, Lib.hid HF.out, (HBW.out.alloc HBW.out.size _).trans (hb2.mono (by have := HBW.out.size; simp; omega))⟩
          · have hkz : (0 : Int) < (k : Int) := by omega
            have HF : Hid (s ++ { data := #[44] } ++ ps = S (textK l (k + 1))) := Lib.hid (by rw [HX.out, if_neg h0, HPS.out, hst.out, ← S_append, ← S_append]; rfl)
            go_wp2_with (go_at_call 42; refine (HP.out _ ((HV.out.on (HBW.out)).alloc _)).mono ?_; rintro e w2 ⟨rfl, hb2⟩)
            go_roundg (l.length - (k + 1))
            case measure => omega
            case rel => exact ⟨k + 1, _, by omega, by omega, by go_num, rfl, Lib.hid HF.out, (HBW.out.alloc HBW.out.size _).trans (hb2.mono (by have := HBW.out.size; simp; omega))⟩
        · have hltz : ¬ (k : Int) < (l.length : Int) := by omega
          have : k = l.length := by omega
          subst this
          go_wp2_with fail
          go_ret2
          exact ⟨ret_str2 (by rw [H1.out.1]; exact hst.out) H1.out.2.symm, HBW.out⟩
end Go.Proofs.YtkclcjnfjielfabDoor
