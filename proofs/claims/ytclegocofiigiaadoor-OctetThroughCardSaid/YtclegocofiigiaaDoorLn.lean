/- octet: Lines, and its walk with the statement's own yield. -/
import Derived.Test.YtclegocofiigiaaDoorLi
import Derived.Test.YtclegocofiigiaaDoorTh
namespace Go.Proofs.YtclegocofiigiaaDoor
open Go.RowKit Go.Shelf

theorem Lines_any (s : ByteArray) (w : World) :
    Calls Tryd.prog 21 #[.string s] w fun e w' => e = .returned (.func (.func 43) #[] #[.pointer (some ⟨w.heap.size, 0, none⟩)]) ∧ w' = w.alloc (.cells #[.string s] 9) := by
  have hmf : ∀ (fn : Fn) (first cap : Array Value) (w : World), (Instr.makeFunc fn first cap).run Tryd.prog w = .ok (.func fn first cap) w := fun _ _ _ _ => rfl
  go_enter Tryd.func21, Tryd.ntmps21
  go_wp2
  go_ret
  exact ⟨rfl, rfl⟩

set_option maxHeartbeats 400000 in
theorem linesT (s : ByteArray) (q p : Addr) (w : World) (hs : s.size ≤ 1000000) (I : List UInt8 → World → Prop) (J : World → Prop)
    (hmost : ∀ r w, I r w → ∃ m, w.cell? ⟨2, 0, none⟩ = some (.int .i64 m)) (hdraw : ∀ r w n, I r w → I r (w.drewN n))
    (hstep : ∀ r w, r ≠ [] → r.length ≤ 1000000 → I r w → Calls Tryd.prog 22 #[.string (S (Lib.cut r [13, 10]).1), .pointer (some p)] w fun e w' => ∃ b, e = .returned (.bool b) ∧ (b = true → I (Lib.cut r [13, 10]).2.1 w') ∧ (b = false → J w'))
    (hq : w.cell? q = some (.string s)) (hI : I (L s) w) :
    Calls Tryd.prog 43 #[.func (.func 22) #[] #[.pointer (some p)], .pointer (some q)] w fun e w' => e = .returned (.tuple #[]) ∧ (I [] w' ∨ J w') := by
  go_enter Tryd.func43, Tryd.ntmps43
  go_wp2
  go_loopw [3] (fun v wr => ∃ r, v = .string (S r) ∧ r.length ≤ s.size ∧ I r wr) (fun v _ => match v with | .string b => b.size | _ => 0)
  case atStart => exact ⟨L s, rfl, Nat.le_refl _, hI⟩
  case round =>
    obtain ⟨r, rfl, hr, hIr⟩ := hrel
    by_cases h0 : r = []
    · subst h0
      have he : (S ([] : List UInt8)).toList.isEmpty = true := by rw [toList_L]; rfl
      go_wp2
      go_end0
      exact ⟨rfl, .inl hIr⟩
    · have he : (S r).toList.isEmpty = false := by
        rw [toList_L, L_S]; cases r with
        | nil => exact absurd rfl h0
        | cons a b => rfl
      obtain ⟨m, hm⟩ := hmost r _ hIr
      have hlt := cut_less r h0
      have HS := Lib.hid (hstep r)
      have hle := cut_le r [13, 10]
      have HI := Lib.hid hIr
      clear hIr hstep hI
      go_wp2_with fail
      refine (Tryd.strings_Cut (S r) ⟨#[13, 10]⟩ m _ (by rw [S_size]; omega) hm).mono ?_
      rintro e w1 ⟨rfl, n, rfl⟩
      go_wp2_with fail
      refine (HS.out _ h0 (by omega) (hdraw r _ n HI.out)).mono ?_
      rintro e w2 ⟨b, rfl, hb1, hb2⟩
      cases b with
      | true =>
        have HB := Lib.hid (hb1 rfl)
        clear hb1 hb2
        go_wp2_with fail
        go_roundw
        case rel => exact ⟨(Lib.cut r [13, 10]).2.1, rfl, by omega, HB.out⟩
        case measure => exact hlt
      | false =>
        have HB := Lib.hid (hb2 rfl)
        clear hb1 hb2
        go_wp2_with fail
        first | go_end0 | (simp only [Exit.inBlock, Exit.then]; refine bodyPost_ret (results_none rfl _ _ _) rfl ?_) | refine bodyPost_ret (results_none rfl _ _ _) rfl ?_
        exact ⟨rfl, .inr HB.out⟩
end Go.Proofs.YtclegocofiigiaaDoor
