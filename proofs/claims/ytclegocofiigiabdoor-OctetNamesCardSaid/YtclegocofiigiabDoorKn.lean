/- The statement OctetNames: the walk. -/
import Derived.Test.YtclegocofiigiabDoorSa
import Derived.Test.YtclegocofiigiabDoorLi
namespace Go.Proofs.YtclegocofiigiabDoor
open Go.RowKit Go.Shelf

set_option maxHeartbeats 1000000 in
theorem OctetNames_walk (v : Value) (ss : List ByteArray) (w : World) (he : Env w) (h : Strs w v ss) (hz : ∀ i, i < ss.length → (ss.getD i ByteArray.empty).size ≤ 140737488355328) :
    Calls Tryd.prog 6 #[v] w fun e w' => e = .returned (.bool true) ∧ Below w.heap.size w w' := by
  have hLg := Lib.hid (fun W hW => long_any v ss W hW hz)
  cases hlong : longB ss with
  | true =>
    rw [hlong] at hLg
    go_enter Tryd.func6, Tryd.ntmps6
    go_wp2_with (go_at_call 7; refine (hLg.out _ h).mono ?_; rintro e w' ⟨rfl, rfl⟩)
    go_ret
    exact ⟨rfl, Below.refl _ _⟩
  | false =>
    rw [hlong] at hLg
    have hlim : (ss.map ByteArray.size).sum ≤ 20000 ∧ ss.length ≤ 40 := by
      unfold longB at hlong
      rw [Bool.or_eq_false_iff] at hlong
      simp at hlong
      exact hlong
    obtain ⟨hsum, hn⟩ := hlim
    clear hlong hz
    have hsz := Lib.hid (fun k hk => Nat.le_trans (size_le ss k hk) hsum)
    have HL := Lib.hid h
    rcases h with ⟨rfl, ao, cap, rfl⟩ | ⟨b0, off, cap, rfl, h0, h1, h2⟩
    · go_enter Tryd.func6, Tryd.ntmps6
      go_wp2_with (go_at_call 7; refine (hLg.out _ HL.out).mono ?_; rintro e w' ⟨rfl, rfl⟩)
      refine wp_loop_rounds 1 ?_
      rw [rounds_succ]
      go_wp2_with (go_at_call 15; refine (known_any _ he).mono ?_; rintro e w2 ⟨rfl, hb2⟩)
      go_ret
      exact ⟨rfl, hb2⟩
    · have H1 := Lib.hid h1
      have H2 := Lib.hid h2
      clear h1 h2
      go_enter Tryd.func6, Tryd.ntmps6
      go_wp2_with (go_at_call 7; refine (hLg.out _ HL.out).mono ?_; rintro e w' ⟨rfl, rfl⟩)
      go_loopw [3] (fun i wr => ∃ k : Nat, k ≤ 2 * ss.length ∧ i = .int .i64 k ∧ Below w'.heap.size w' wr) (fun i _ => 2 * ss.length - (intOf i).toNat)
      case atStart => exact ⟨0, Nat.zero_le _, rfl, Below.refl _ _⟩
      case round =>
        obtain ⟨k, hk, rfl, hbw⟩ := hrel
        by_cases hlt : k < 2 * ss.length
        · have ht1 := turnN_lt k ss.length hlt
          have hc1 := (hbw.cell (p := ⟨b0, off + turnN k ss.length, none⟩) H1.out).trans (H2.out _ ht1)
          have hs1 := hsz.out _ ht1
          generalize ss.getD (turnN k ss.length) ByteArray.empty = a at *
          have hT1 := Lib.hid (fun W => turn_int (k : Int) (ss.length : Int) k ss.length W rfl rfl hlt (by omega))
          generalize turnN k ss.length = t1 at *
          go_wp2_with fail
          refine (hT1.out _).mono ?_
          rintro e w1 ⟨rfl, rfl⟩
          go_wp2_with fail
          refine (refWire_any a _ (by omega)).mono ?_
          rintro e w3 ⟨rfl, hb3⟩
          have q3 := hbw.trans (hb3.mono hbw.size)
          go_wp2_with fail
          refine (Wire_any a _ (he.on q3)).mono ?_
          rintro e w4 ⟨rfl, hb4⟩
          have q4 := q3.trans (hb4.mono q3.size)
          go_wp2_with fail
          refine (refFromWire_any a _ (by omega)).mono ?_
          rintro e w5 ⟨rfl, hb5⟩
          have q5 := q4.trans (hb5.mono q4.size)
          go_wp2_with fail
          refine (FromWire_any a _ (he.on q5)).mono ?_
          rintro e w6 ⟨rfl, hb6⟩
          have q8 := q5.trans (hb6.mono q5.size)
          have hrf := refFrom_eq (L a)
          go_wp2_with (go_at_call 22; refine (num_any _ _).mono ?_; rintro e w' ⟨rfl, rfl⟩)
          go_roundw
          case rel => exact ⟨k + 1, by omega, by go_num, q8⟩
          case measure => simp [intOf]; omega
        · go_wp2_with (go_at_call 15; refine (known_any _ (he.on hbw)).mono ?_; rintro e w2 ⟨rfl, hb2⟩)
          go_ret
          exact ⟨rfl, hbw.trans (hb2.mono hbw.size)⟩
end Go.Proofs.YtclegocofiigiabDoor
