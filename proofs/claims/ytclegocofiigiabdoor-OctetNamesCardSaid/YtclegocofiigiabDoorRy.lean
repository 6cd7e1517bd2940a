/- postbagref1: Wire, unrun. -/
import Derived.Test.YtclegocofiigiabDoorRx
import Derived.Test.YtclegocofiigiabDoorRn
namespace Go.Proofs.YtclegocofiigiabDoor
open Go.RowKit Go.Shelf

theorem OwnI.cells2 {B : Nat} {v : Value} {l : List Nat} {W0 w : World} (h : OwnI B v l W0 w) (hl : 0 < l.length) : ∃ g cap, v = .slice (some ⟨g, 0, none⟩) l.length cap ∧ g < w.heap.size ∧ l.length ≤ cap ∧ ∀ j, j < l.length → w.cell? ⟨g, j, none⟩ = some (.int .i64 ((l[j]?.getD 0 : Nat) : Int)) := by
  obtain ⟨g, cap, h1, h2, h3⟩ := h.cells hl
  refine ⟨g, cap, h1, h2, ?_, h3⟩
  rcases h.row.2 with ⟨rfl, h0⟩ | ⟨g', cap', cur, h4, hB, hg, hc, rest⟩
  · omega
  · rw [h1] at h4; cases h4; exact hc
theorem named_nil : named [] = false := by
  unfold named nb endB fitsI; rfl

set_option maxHeartbeats 1000000 in
theorem refWire_any (s : ByteArray) (w : World) (hs : s.size ≤ 1000000) :
    Calls Tryd.prog 27 #[.string s] w fun e w' => e = .returned (.tuple #[.string (S (wire (L s)).1), .int .i64 (wire (L s)).2]) ∧ Below w.heap.size w w' := by
  have hLs := L_length s
  by_cases h1 : 197 < s.size
  · have HR : Hid (wire (L s) = ([], 2)) := Lib.hid (by unfold wire; rw [if_pos (by omega)])
    go_enter Tryd.func27, Tryd.ntmps27
    go_wp2
    go_ret2
    exact ⟨by rw [HR.out]; rfl, Below.refl _ _⟩
  · have hN := Lib.hid (fun W => Named_any s W hs)
    go_enter Tryd.func27, Tryd.ntmps27
    go_wp2_with fail
    refine (runes_any s _ hs).mono ?_
    rintro e w1 (⟨v, rs, rfl, hsc, hL, hown⟩ | ⟨rfl, hv, hb1⟩)
    · have hval : Lib.validD (L s) = true := by rw [hL]; exact valid_enc rs hsc
      have hnm : named (L s) = isName (L s) := by rw [hL]; exact named_enc rs hsc
      rw [hnm] at hN
      cases hi : isName (L s) with
      | false =>
        rw [hi] at hN
        have HR : Hid (wire (L s) = ([], 11)) := Lib.hid (by unfold wire; rw [if_neg (by omega), if_neg (by rw [hval]; simp), if_pos hi])
        clear hL hval hi hnm
        go_wp2_with fail
        refine (hN.out _).mono ?_
        rintro e w2 ⟨rfl, hb2⟩
        go_wp2
        go_ret2
        exact ⟨by rw [HR.out]; rfl, hown.below.trans (hb2.mono hown.base)⟩
      | true =>
        rw [hi] at hN
        have hrl : rs.length ≤ 197 := by
          have := encL_len rs
          rw [← hL] at this; omega
        have hr0 : 0 < rs.length := by
          rcases Nat.eq_zero_or_pos rs.length with h | h
          · exfalso
            have : rs = [] := List.eq_nil_of_length_eq_zero h
            rw [hL, this] at hnm hi
            rw [show encL [] = [] from rfl, named_nil] at hnm
            rw [show encL [] = [] from rfl, ← hnm] at hi
            cases hi
          · exact h
        have HR : Hid (wire (L s) = (wn rs [], 0)) := Lib.hid (by
          unfold wire
          rw [if_neg (by omega), if_neg (by rw [hval]; simp), if_neg (by rw [hi]; simp), hL, writeName_enc rs hsc])
        clear hL hval hi hnm
        obtain ⟨g, cap, rfl, hg, hcp, hcl⟩ := hown.cells2 hr0
        have HC := Lib.hid hcl
        have hW := Lib.hid (fun W hgW hcW => wired_any g cap rs W hsc (by omega) hcp hgW hcW)
        clear hcl hsc
        go_wp2_with fail
        refine (hN.out _).mono ?_
        rintro e w2 ⟨rfl, hb2⟩
        have hgw : g < w2.heap.size := Nat.lt_of_lt_of_le hg hb2.size
        have HC2 := Lib.hid (fun j (hj : j < rs.length) => (hb2.cell (p := ⟨g, j, none⟩) hg).trans (HC.out j hj))
        go_wp2_with fail
        refine (hW.out _ hgw HC2.out).mono ?_
        rintro e w3 ⟨rfl, hb3⟩
        go_wp2
        go_ret2
        have q2 := hown.below.trans (hb2.mono hown.base)
        exact ⟨by rw [HR.out]; rfl, q2.trans (hb3.mono q2.size)⟩
    · have HR : Hid (wire (L s) = ([], 12)) := Lib.hid (by unfold wire; rw [if_neg (by omega), if_pos hv])
      clear hv
      go_wp2
      go_ret2
      exact ⟨by rw [HR.out]; rfl, hb1⟩
end Go.Proofs.YtclegocofiigiabDoor
