/- long. -/
import Derived.Test.YtkclcjnfjielfabDoorWv
import Derived.Deep.RegionHeld3
import Derived.Deep.QuietTactic
import Derived.BigQuiet
namespace Go.Proofs.YtkclcjnfjielfabDoor
open Go.RowKit

/-- A question that is short enough. -/
def ShortQ (q : AskP) : Prop := q.set.length ≤ 3000 ∧ q.list.length ≤ 3000 ∧ q.sets.length ≤ 3000 ∧ q.sets.flatten.length ≤ 3000
theorem Sets.form {w : World} {v : Value} {ll : List (List Rg)} (h : Sets w v ll) : ∃ ao cap, v = .slice ao ll.length cap ∧ (0 < ll.length → ∃ (b off : Nat) (f : Nat → Value), ao = some ⟨b, off, none⟩ ∧ ∀ i, i < ll.length → w.cell? ⟨b, off + i, none⟩ = some (f i) ∧ Rgs w (f i) (ll.getD i [])) := by
  rcases h with ⟨rfl, ao, cap, rfl, _⟩ | ⟨b, off, cap, f, rfl, h0, h1, h2⟩
  · exact ⟨ao, cap, rfl, fun h => by simp at h⟩
  · exact ⟨_, _, rfl, fun _ => ⟨b, off, f, rfl, h2⟩⟩
theorem Ints.form {w : World} {v : Value} {l : List Int} (h : Ints w v l) : ∃ ao cap, v = .slice ao l.length cap := by
  rcases h with ⟨rfl, ao, cap, rfl, _⟩ | ⟨b, off, cap, rfl, h0, h1, h2⟩
  · exact ⟨ao, cap, rfl⟩
  · exact ⟨_, _, rfl⟩
theorem Rgs.size {w : World} {v : Value} {l : List Rg} (h : Rgs w v l) : l.length ≤ 8796093022208 := by
  rcases h with ⟨rfl, _⟩ | ⟨_, _, _, _, h0, _⟩
  · simp
  · exact h0
theorem flat_next (ll : List (List Rg)) (i : Nat) (hi : i < ll.length) : (ll.take (i + 1)).flatten.length = (ll.take i).flatten.length + (ll.getD i []).length := by
  rw [flatten_take ll i hi, List.length_append]
def LongEnd (A : List AskP) (e : Ending) : Prop := ∃ b : Bool, e = .returned (.bool b) ∧ (b = false → A.length ≤ 30 ∧ ∀ i, i < A.length → ShortQ (A.getD i ask0))
set_option maxRecDepth 100000 in
set_option maxHeartbeats 8000000 in
theorem long_any (v : Value) (A : List AskP) (w : World) (hA : Asks w v A) :
    Calls Tryd.prog 9 #[v] w fun e w' => LongEnd A e ∧ Below w.heap.size w w' := by
  obtain ⟨ao, cap, hv, hAl, hc⟩ := hA
  subst hv
  have HC := Lib.hid hc
  clear hc
  go_enter Tryd.func9, Tryd.ntmps9
  go_wp2_with fail
  go_loopg [3, 4, 5] A.length (fun gg s3 s4 s5 wr => ∃ (i m : Nat), i ≤ A.length ∧ A.length - i ≤ gg ∧ s4 = .int .i64 i ∧ s3 = .int .i64 m ∧ m ≤ 3000 ∧ Below w.heap.size w wr ∧ Hid (∀ j, j < i → ShortQ (A.getD j ask0)))
  case atStart => exact ⟨0, 0, Nat.zero_le _, by omega, rfl, rfl, by omega, Below.refl _ _, Lib.hid (fun j hj => by omega)⟩
  case round =>
    obtain ⟨i, m, hi, hgg, rfl, rfl, hm, hbw, HS⟩ := hrel
    have HB := Lib.hid hbw
    clear hbw
    by_cases hlt : i < A.length
    · have hltz : (i : Int) < (A.length : Int) := by omega
      by_cases h30 : i < 30
      · have h30z : (i : Int) < 30 := by omega
        obtain ⟨b, off, hao, hat⟩ := HC.out (by omega)
        subst hao
        have hq := hat i hlt
        obtain ⟨u1, e1, f1⟩ := hq.c1
        obtain ⟨u4, e4, f4⟩ := hq.c4
        obtain ⟨u5, e5, f5⟩ := hq.c5
        have z1 := hq.z1
        have z4 := hq.z4
        have z5 := hq.z5
        obtain ⟨a1, k1, hu1, _⟩ := f1.shape
        obtain ⟨a4, k4, hu4⟩ := f4.form
        obtain ⟨a5, k5, hu5, h5⟩ := f5.form
        subst hu1
        subst hu4
        subst hu5
        have H5 := Lib.hid h5
        clear hat hq f1 f4 f5 h5
        generalize hqq : A.getD i ask0 = q at *
        have HQ := Lib.hid hqq
        clear hqq
        have HE5 := Lib.hid e5
        have d1 := cellOn e1 HB.out
        have d4 := cellOn e4 HB.out
        have d5 := cellOn e5 HB.out
        clear e1 e4 e5
        go_wp2_with fail
        go_quiet (fail)
        clear d1 d4 d5
        go_wp2_with fail
        go_loopg [3, 5] q.sets.length (fun gg s3 s5 wx => ∃ k n : Nat, k ≤ q.sets.length ∧ q.sets.length - k ≤ gg ∧ s5 = .int .i64 k ∧ s3 = .int .i64 n ∧ n ≤ 100000000000000 ∧ Below w.heap.size w wx ∧ Hid (n = m + q.set.length + q.list.length + q.sets.length + (q.sets.take k).flatten.length))
        case atStart => exact ⟨0, m + q.set.length + q.list.length + q.sets.length, Nat.zero_le _, by omega, rfl, by go_num, by omega, below_drewN HB.out _, Lib.hid (by simp)⟩
        case round =>
          obtain ⟨k, n, hk, hgg2, rfl, rfl, hn, hbx, HN⟩ := hrel
          have HBX := Lib.hid hbx
          clear hbx
          have d5 := cellOn HE5.out HBX.out
          by_cases hks : k < q.sets.length
          · have hksz : (k : Int) < (q.sets.length : Int) := by omega
            by_cases h3 : n ≤ 3000
            · have h3z : (n : Int) ≤ 3000 := by omega
              obtain ⟨b5, o5, f5, ha5, hc5⟩ := H5.out (by omega)
              subst ha5
              obtain ⟨g1, g2⟩ := hc5 k hks
              obtain ⟨a6, k6, hu6, _⟩ := g2.shape
              have g3 := g2.size
              have HF := Lib.hid (flat_next q.sets k hks)
              rw [hu6] at g1
              replace g1 := cellOn g1 HBX.out
              clear hc5 g2 hu6
              generalize q.sets.getD k [] = l at *
              go_wp2_with fail
              go_roundg (q.sets.length - (k + 1))
              case measure => omega
              case rel => exact ⟨k + 1, n + l.length, by omega, by omega, by go_num, by go_num, by omega, HBX.out, Lib.hid (by rw [HF.out, HN.out]; omega)⟩
            · have h3z : ¬ (n : Int) ≤ 3000 := by omega
              have h3y : (3000 : Int) < (n : Int) := by omega
              go_wp2_with fail
              go_ret
              exact ⟨⟨true, rfl, fun h => by cases h⟩, HBX.out⟩
          · have hksz : ¬ (k : Int) < (q.sets.length : Int) := by omega
            by_cases h3 : n ≤ 3000
            · have h3y : ¬ (3000 : Int) < (n : Int) := by omega
              have HSQ : Hid (ShortQ q) := Lib.hid (by
                have := HN.out
                rw [List.take_of_length_le (by omega)] at this
                unfold ShortQ
                omega)
              go_wp2_with fail
              go_roundg (A.length - (i + 1))
              case measure => omega
              case rel => exact ⟨i + 1, n, by omega, by omega, by go_num, rfl, h3, HBX.out, Lib.hid (fun j hj => by
                by_cases hji : j < i
                · exact HS.out j hji
                · have : j = i := by omega
                  subst this
                  rw [HQ.out]; exact HSQ.out)⟩
            · have h3y : (3000 : Int) < (n : Int) := by omega
              go_wp2_with fail
              go_ret
              exact ⟨⟨true, rfl, fun h => by cases h⟩, HBX.out⟩
      · have h30z : ¬ (i : Int) < 30 := by omega
        have h31 : (30 : Int) < (A.length : Int) := by omega
        go_wp2_with fail
        go_ret
        exact ⟨⟨true, rfl, fun h => by cases h⟩, HB.out⟩
    · have hltz : ¬ (i : Int) < (A.length : Int) := by omega
      have hil : i = A.length := by omega
      subst hil
      by_cases h30 : 30 < A.length
      · have h31 : (30 : Int) < (A.length : Int) := by omega
        go_wp2_with fail
        go_ret
        exact ⟨⟨true, rfl, fun h => by cases h⟩, HB.out⟩
      · have h31 : ¬ (30 : Int) < (A.length : Int) := by omega
        go_wp2_with fail
        go_ret
        exact ⟨⟨false, rfl, fun _ => ⟨by omega, HS.out⟩⟩, HB.out⟩
end Go.Proofs.YtkclcjnfjielfabDoor
