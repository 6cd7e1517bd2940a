/- lex: small functions of the scanner; lists of texts; isLong. -/
import Derived.Test.YtliiapdakojomabDoorAc
namespace Go.Proofs.YtliiapdakojomabDoor
open Go.RowKit

theorem brack_class (c : UInt8) : (c.toNat = 40 ∧ openerB c = true ∧ closerB c = false ∧ kindC c = 4) ∨ (c.toNat = 91 ∧ openerB c = true ∧ closerB c = false ∧ kindC c = 5) ∨ (c.toNat = 41 ∧ openerB c = false ∧ closerB c = true ∧ kindC c = 4) ∨ (c.toNat = 93 ∧ openerB c = false ∧ closerB c = true ∧ kindC c = 5) ∨ ((c.toNat ≠ 40 ∧ c.toNat ≠ 41 ∧ c.toNat ≠ 91 ∧ c.toNat ≠ 93) ∧ openerB c = false ∧ closerB c = false ∧ kindC c = 5) :=
  all_bytes (p := fun c => (c.toNat = 40 ∧ openerB c = true ∧ closerB c = false ∧ kindC c = 4) ∨ (c.toNat = 91 ∧ openerB c = true ∧ closerB c = false ∧ kindC c = 5) ∨ (c.toNat = 41 ∧ openerB c = false ∧ closerB c = true ∧ kindC c = 4) ∨ (c.toNat = 93 ∧ openerB c = false ∧ closerB c = true ∧ kindC c = 5) ∨ ((c.toNat ≠ 40 ∧ c.toNat ≠ 41 ∧ c.toNat ≠ 91 ∧ c.toNat ≠ 93) ∧ openerB c = false ∧ closerB c = false ∧ kindC c = 5)) (by decide +kernel) c
set_option maxHeartbeats 1000000 in
theorem isOpener_any (c : UInt8) (w : World) :
    Calls Tryd.prog 77 #[.int .u8 (c.toNat : Int)] w fun e w' => e = .returned (.bool (openerB c)) ∧ w' = w := by
  have h256 : c.toNat < 256 := c.toNat_lt
  rcases brack_class c with ⟨h, e, _⟩ | ⟨h, e, _⟩ | ⟨h, e, _⟩ | ⟨h, e, _⟩ | ⟨⟨h1, h2, h3, h4⟩, e, _⟩
  all_goals rw [e]
  all_goals clear e
  all_goals generalize c.toNat = n at *
  all_goals try subst h
  all_goals try have a0 := beqI_no (n := (n : Int)) (k := 40) (by omega)
  all_goals try have a1 := beqI_no (n := (n : Int)) (k := 91) (by omega)
  all_goals (
    go_enter Tryd.func77, Tryd.ntmps77
    go_wp2
    go_ret
    exact ⟨ret_bool (by first | rfl | simp_all), rfl⟩)
set_option maxHeartbeats 1000000 in
theorem isCloser_any (c : UInt8) (w : World) :
    Calls Tryd.prog 78 #[.int .u8 (c.toNat : Int)] w fun e w' => e = .returned (.bool (closerB c)) ∧ w' = w := by
  have h256 : c.toNat < 256 := c.toNat_lt
  rcases brack_class c with ⟨h, _, e, _⟩ | ⟨h, _, e, _⟩ | ⟨h, _, e, _⟩ | ⟨h, _, e, _⟩ | ⟨⟨h1, h2, h3, h4⟩, _, e, _⟩
  all_goals rw [e]
  all_goals clear e
  all_goals generalize c.toNat = n at *
  all_goals try subst h
  all_goals try have a0 := beqI_no (n := (n : Int)) (k := 41) (by omega)
  all_goals try have a1 := beqI_no (n := (n : Int)) (k := 93) (by omega)
  all_goals (
    go_enter Tryd.func78, Tryd.ntmps78
    go_wp2
    go_ret
    exact ⟨ret_bool (by first | rfl | simp_all), rfl⟩)
set_option maxHeartbeats 1000000 in
theorem kindOf_any (c : UInt8) (w : World) :
    Calls Tryd.prog 80 #[.int .u8 (c.toNat : Int)] w fun e w' => e = .returned (.int .i64 (kindC c)) ∧ w' = w := by
  have h256 : c.toNat < 256 := c.toNat_lt
  rcases brack_class c with ⟨h, _, _, e⟩ | ⟨h, _, _, e⟩ | ⟨h, _, _, e⟩ | ⟨h, _, _, e⟩ | ⟨⟨h1, h2, h3, h4⟩, _, _, e⟩
  all_goals rw [e]
  all_goals clear e
  all_goals generalize c.toNat = n at *
  all_goals try subst h
  all_goals try have a0 := beqI_no (n := (n : Int)) (k := 40) (by omega)
  all_goals try have a1 := beqI_no (n := (n : Int)) (k := 41) (by omega)
  all_goals (
    go_enter Tryd.func80, Tryd.ntmps80
    go_wp2
    go_ret
    exact ⟨rfl, rfl⟩)
set_option maxHeartbeats 1000000 in
theorem mayBeQuoted_any (c : UInt8) (esc : Bool) (w : World) :
    Calls Tryd.prog 58 #[.int .u8 (c.toNat : Int), .bool esc] w fun e w' => e = .returned (.bool (quotC c && (!esc || slashB c))) ∧ w' = w := by
  have hD := Lib.hid (fun W => bitsOf_any c W)
  have hN := Lib.hid (fun W => needs_any c W)
  have h256 : c.toNat < 256 := c.toNat_lt
  have h6 := bits_six c
  have hq := bits_quot c
  generalize quotC c = q at *
  generalize slashB c = sl at *
  generalize hB : bitsN c = B at *
  clear hB
  rcases h6 with rfl | rfl | rfl | rfl | rfl | rfl
  all_goals (cases q <;> first | (exfalso; revert hq; decide) | skip)
  all_goals clear hq
  all_goals cases esc
  all_goals (
    go_enter Tryd.func58, Tryd.ntmps58
    go_wp2_with (first | (go_at_call 67; refine (hD.out _).mono ?_; rintro e w' ⟨rfl, rfl⟩) | (go_at_call 68; refine (hN.out _).mono ?_; rintro e w' ⟨rfl, rfl⟩))
    go_ret
    exact ⟨ret_bool (by first | rfl | simp), rfl⟩)
/-- v is a list of texts, ss, in memory that was there. -/
def Strs (w : World) (v : Value) (ss : List ByteArray) : Prop :=
  (ss = [] ∧ ∃ ao cap, v = .slice ao 0 cap) ∨ ∃ b off cap, v = .slice (some ⟨b, off, none⟩) ss.length cap ∧ ss.length ≤ cap ∧ ss.length ≤ 140737488355328 ∧ b < w.heap.size ∧ ∀ i, i < ss.length → w.cell? ⟨b, off + i, none⟩ = some (.string (ss.getD i ByteArray.empty))
theorem Strs.on {w w' : World} {v : Value} {ss : List ByteArray} (h : Strs w v ss) (hb : Below w.heap.size w w') : Strs w' v ss := by
  rcases h with h | ⟨b, off, cap, rfl, hc, h0, h1, h2⟩
  · exact .inl h
  · refine .inr ⟨b, off, cap, rfl, hc, h0, Nat.lt_of_lt_of_le h1 hb.size, fun i hi => ?_⟩
    rw [hb.cell (p := ⟨b, off + i, none⟩) h1]
    exact h2 i hi
theorem any_snoc {p : ByteArray → Bool} (l : List ByteArray) (k : Nat) (hk : k < l.length) (h : (l.take k).any p = false) (hd : p (l.getD k ByteArray.empty) = false) : (l.take (k + 1)).any p = false := by
  rw [← List.take_append_getElem hk, List.any_append, h]
  rw [List.getD_eq_getElem?_getD, List.getElem?_eq_getElem hk] at hd
  simpa using hd
theorem any_yes {p : ByteArray → Bool} (l : List ByteArray) (k : Nat) (hk : k < l.length) (hd : p (l.getD k ByteArray.empty) = true) : l.any p = true := by
  rw [List.getD_eq_getElem?_getD, List.getElem?_eq_getElem hk] at hd
  exact List.any_eq_true.2 ⟨_, List.getElem_mem hk, hd⟩
set_option maxRecDepth 100000 in
set_option maxHeartbeats 4000000 in
theorem isLong_any (s : ByteArray) (v : Value) (ss : List ByteArray) (w : World) (h : Strs w v ss) (hs : s.size ≤ 140737488355328) (hz : ∀ i, i < ss.length → (ss.getD i ByteArray.empty).size ≤ 140737488355328) :
    Calls Tryd.prog 35 #[.string s, v] w fun e w' => e = .returned (.bool (longB (L s) ss)) ∧ w' = w := by
  have hll := L_length s
  have HLB : Hid (longB (L s) ss = (decide (4096 < s.size) || decide (512 < ss.length) || ss.any (fun x => decide (16384 < x.size)))) := Lib.hid (by unfold longB; rw [hll])
  obtain ⟨ao, cap, hv, hcell⟩ : ∃ ao cap, v = .slice ao ss.length cap ∧ ∀ i, i < ss.length → ∃ b off, ao = some ⟨b, off, none⟩ ∧ w.cell? ⟨b, off + i, none⟩ = some (.string (ss.getD i ByteArray.empty)) := by
    rcases h with ⟨rfl, ao, cap, rfl⟩ | ⟨b, off, cap, rfl, _, _, _, h2⟩
    · exact ⟨ao, cap, rfl, fun i hi => by simp at hi⟩
    · exact ⟨_, cap, rfl, fun i hi => ⟨b, off, rfl, h2 i hi⟩⟩
  subst hv
  have hlen : ss.length ≤ 140737488355328 := by
    rcases h with ⟨rfl, _⟩ | ⟨b, off, cap, _, _, h0, _⟩
    · simp
    · exact h0
  clear h hll
  by_cases h1 : 4096 < s.size
  · have h1z : (4096 : Int) < (s.size : Int) := by omega
    rw [decide_eq_true h1] at HLB
    go_enter Tryd.func35, Tryd.ntmps35
    go_wp2
    go_ret
    exact ⟨ret_bool (by rw [HLB.out]; rfl), rfl⟩
  have h1z : ¬ (4096 : Int) < (s.size : Int) := by omega
  rw [decide_eq_false h1] at HLB
  by_cases h2 : 512 < ss.length
  · have h2z : (512 : Int) < (ss.length : Int) := by omega
    rw [decide_eq_true h2] at HLB
    go_enter Tryd.func35, Tryd.ntmps35
    go_wp2
    go_ret
    exact ⟨ret_bool (by rw [HLB.out]; rfl), rfl⟩
  have h2z : ¬ (512 : Int) < (ss.length : Int) := by omega
  rw [decide_eq_false h2] at HLB
  go_enter Tryd.func35, Tryd.ntmps35
  go_wp2
  go_loop [17] (fun i => ∃ k : Nat, k ≤ ss.length ∧ i = .int .i64 k ∧ (ss.take k).any (fun x => decide (16384 < x.size)) = false) (fun i => ss.length - (intOf i).toNat)
  case atStart => exact ⟨0, Nat.zero_le _, rfl, rfl⟩
  case round =>
    obtain ⟨k, hk, rfl, hall⟩ := hrel
    by_cases hlt : k < ss.length
    · obtain ⟨b, off, rfl, hc⟩ := hcell k hlt
      have hzk := hz k hlt
      have hltz : (k : Int) < (ss.length : Int) := by omega
      have hk0 : (0 : Int) ≤ (k : Int) := by omega
      have HS := Lib.hid (any_snoc (p := fun x => decide (16384 < x.size)) ss k hlt hall)
      have HY := Lib.hid (any_yes (p := fun x => decide (16384 < x.size)) ss k hlt)
      clear hall hcell hz
      by_cases hb : 16384 < (ss.getD k ByteArray.empty).size
      · have HYY := Lib.hid (HY.out (decide_eq_true hb))
        have hbz : (16384 : Int) < ((ss.getD k ByteArray.empty).size : Int) := by omega
        clear HY HS
        generalize ss.getD k ByteArray.empty = t at *
        go_wp2
        go_ret
        exact ⟨ret_bool (by rw [HLB.out, HYY.out]; rfl), rfl⟩
      · have HSS := Lib.hid (HS.out (decide_eq_false hb))
        have hbz : ¬ (16384 : Int) < ((ss.getD k ByteArray.empty).size : Int) := by omega
        clear HY HS
        generalize ss.getD k ByteArray.empty = t at *
        go_wp2
        go_round
        case rel => exact ⟨k + 1, by omega, by go_num, HSS.out⟩
        case measure => simp [intOf]; omega
    · have HT : Hid (ss.any (fun x => decide (16384 < x.size)) = false) := Lib.hid (by
        rw [List.take_of_length_le (by omega)] at hall
        exact hall)
      have hltz : ¬ (k : Int) < (ss.length : Int) := by omega
      clear hall
      go_wp2
      go_ret
      exact ⟨ret_bool (by rw [HLB.out, HT.out]; rfl), rfl⟩
end Go.Proofs.YtliiapdakojomabDoor
