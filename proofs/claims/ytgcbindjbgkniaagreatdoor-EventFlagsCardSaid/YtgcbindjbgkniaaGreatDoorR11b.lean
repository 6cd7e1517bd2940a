/- postbagref11: system, which. -/
import Derived.Test.YtgcbindjbgkniaaGreatDoorR11a
namespace Go.Proofs.YtgcbindjbgkniaaGreatDoor
open Go.RowKit Go.Lib

def sysN (i : Nat) : ByteArray := sysB.getD i ByteArray.empty
/-- The place of a flag of the system. -/
def whichI (l : List UInt8) : Int := if same (L (sysN 0)) l = true then 0 else if same (L (sysN 1)) l = true then 1 else if same (L (sysN 2)) l = true then 2 else if same (L (sysN 3)) l = true then 3 else if same (L (sysN 4)) l = true then 4 else -1
theorem whichI_at (l : List UInt8) (k : Nat) (hk : k < 5) (h : ∀ j, j < k → same (L (sysN j)) l = false) (hs : same (L (sysN k)) l = true) : whichI l = (k : Int) := by
  unfold whichI
  match k, hk with
  | 0, _ => rw [if_pos hs]; rfl
  | 1, _ => rw [if_neg (by rw [h 0 (by decide)]; decide), if_pos hs]; rfl
  | 2, _ => rw [if_neg (by rw [h 0 (by decide)]; decide), if_neg (by rw [h 1 (by decide)]; decide), if_pos hs]; rfl
  | 3, _ => rw [if_neg (by rw [h 0 (by decide)]; decide), if_neg (by rw [h 1 (by decide)]; decide), if_neg (by rw [h 2 (by decide)]; decide), if_pos hs]; rfl
  | 4, _ => rw [if_neg (by rw [h 0 (by decide)]; decide), if_neg (by rw [h 1 (by decide)]; decide), if_neg (by rw [h 2 (by decide)]; decide), if_neg (by rw [h 3 (by decide)]; decide), if_pos hs]; rfl
theorem whichI_no (l : List UInt8) (h : ∀ j, j < 5 → same (L (sysN j)) l = false) : whichI l = -1 := by
  unfold whichI
  rw [if_neg (by rw [h 0 (by decide)]; decide), if_neg (by rw [h 1 (by decide)]; decide), if_neg (by rw [h 2 (by decide)]; decide), if_neg (by rw [h 3 (by decide)]; decide), if_neg (by rw [h 4 (by decide)]; decide)]
abbrev sysC : Array Value := #[.string ⟨#[92, 65, 110, 115, 119, 101, 114, 101, 100]⟩, .string ⟨#[92, 68, 101, 108, 101, 116, 101, 100]⟩, .string ⟨#[92, 68, 114, 97, 102, 116]⟩, .string ⟨#[92, 70, 108, 97, 103, 103, 101, 100]⟩, .string ⟨#[92, 83, 101, 101, 110]⟩]
theorem system_any (w : World) : Calls Tryz.prog 28 #[] w fun e w' => e = .returned (.slice (some ⟨w.heap.size, 0, none⟩) 5 5) ∧ w' = w.alloc (.cells sysC 9) := by
  go_enter Tryz.func28, Tryz.ntmps28
  go_wp2
  go_ret
  exact ⟨rfl, rfl⟩
theorem sys_cell {X : World} {b : Nat} (h : X.heap[b]? = some (.cells sysC 9 (0, 0))) (k : Nat) (hk : k < 5) : X.cell? ⟨b, k, none⟩ = some (.string (sysN k)) := by
  match k, hk with
  | 0, _ => exact cell_of h 0
  | 1, _ => exact cell_of h 1
  | 2, _ => exact cell_of h 2
  | 3, _ => exact cell_of h 3
  | 4, _ => exact cell_of h 4
theorem sysN_size (k : Nat) (hk : k < 5) : (sysN k).size ≤ 140737488355328 := by
  match k, hk with
  | 0, _ => decide
  | 1, _ => decide
  | 2, _ => decide
  | 3, _ => decide
  | 4, _ => decide
set_option maxHeartbeats 2000000 in
theorem which_any (f : ByteArray) (w : World) (hs : f.size ≤ 140737488355328) :
    Calls Tryz.prog 25 #[.string f] w fun e w' => e = .returned (.int .i64 (whichI (L f))) ∧ Below w.heap.size w w' := by
  obtain ⟨W1, hW1⟩ : ∃ W1, w.alloc (.cells sysC 9) = W1 := ⟨_, rfl⟩
  have h1 : W1.heap[w.heap.size]? = some (.cells sysC 9 (0, 0)) := by rw [← hW1]; exact heap_new _ _
  have hb1 : Below w.heap.size w W1 := by rw [← hW1]; exact below_box (Below.refl _ _) _
  have HS := Lib.hid (system_any w)
  rw [hW1] at HS
  have HC : Hid (∀ X, Below W1.heap.size W1 X → ∀ k, k < 5 → X.cell? ⟨w.heap.size, k, none⟩ = some (.string (sysN k))) := Lib.hid (fun X hX k hk => sys_cell (by rw [hX.block _ (lt_of_heap h1)]; exact h1) k hk)
  have HB := Lib.hid hb1
  have HR := Lib.hid (fun k (hk : k < 5) X => refSame_any (sysN k) f X (sysN_size k hk) hs)
  have HW := Lib.hid (fun k => whichI_at (L f) k)
  have HN := Lib.hid (whichI_no (L f))
  clear hW1 h1 hb1 hs
  obtain ⟨wi, hwi⟩ : ∃ wi, whichI (L f) = wi := ⟨_, rfl⟩
  rw [hwi] at HW HN ⊢
  clear hwi
  generalize L f = lf at *
  go_enter Tryz.func25, Tryz.ntmps25
  go_wp2_with (go_at_call 28; refine HS.out.mono ?_; rintro e w2 ⟨rfl, hw2⟩; subst w2)
  go_loopw [4] (fun i wr => ∃ (k : Nat) (X : World), X = wr ∧ k ≤ 5 ∧ i = .int .i64 k ∧ (∀ j, j < k → same (L (sysN j)) lf = false) ∧ Below W1.heap.size W1 X) (fun i _ => 5 - (intOf i).toNat)
  case atStart => exact ⟨0, _, rfl, by decide, rfl, fun j hj => absurd hj (Nat.not_lt_zero _), Below.refl _ _⟩
  case round =>
    obtain ⟨k, X, hX, hk, rfl, hno, hb⟩ := hrel
    subst hX
    have HX := Lib.hid hb
    have HNo := Lib.hid hno
    clear hno
    by_cases hlt : k < 5
    · have y := HC.out X hb k hlt
      have HK := Lib.hid (HR.out k hlt)
      have hki : (k : Int) < 5 := by omega
      obtain ⟨t, ht⟩ : ∃ t, sysN k = t := ⟨_, rfl⟩
      obtain ⟨b, hbb⟩ : ∃ b, same (L (sysN k)) lf = b := ⟨_, rfl⟩
      rw [hbb] at HK
      rw [ht] at y HK
      have HBb := Lib.hid hbb
      clear hb hbb ht
      cases b with
      | true =>
        go_wp2_with (go_at_call 42; refine (HK.out _).mono ?_; rintro e w5 ⟨rfl, hb5⟩; have HB5 := Lib.hid hb5; clear hb5)
        go_ret
        exact ⟨by rw [HW.out k hlt HNo.out HBb.out]; rfl, (HB.out.trans (HX.out.mono HB.out.size)).trans (HB5.out.mono (Nat.le_trans HB.out.size HX.out.size))⟩
      | false =>
        go_wp2_with (go_at_call 42; refine (HK.out _).mono ?_; rintro e w5 ⟨rfl, hb5⟩; have HB5 := Lib.hid hb5; clear hb5)
        go_roundw
        case rel => exact ⟨k + 1, _, rfl, hlt, by go_num, fun j hj => by
          by_cases e : j = k
          · rw [e]; exact HBb.out
          · exact HNo.out j (by omega), HX.out.trans (HB5.out.mono HX.out.size)⟩
        case measure => simp [intOf]; omega
    · have hki : ¬ (k : Int) < 5 := by omega
      have hk5 : k = 5 := by omega
      clear hb
      go_wp2_with fail
      go_ret
      exact ⟨by rw [HN.out (fun j hj => HNo.out j (by omega))]; rfl, HB.out.trans (HX.out.mono HB.out.size)⟩
end Go.Proofs.YtgcbindjbgkniaaGreatDoor
