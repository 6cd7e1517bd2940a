/- The statement MomentRead: the walk in whole. -/
import Derived.Test.YtlcjpkbcnoibeaaDoorHl
namespace Go.Proofs.YtlcjpkbcnoibeaaDoor
open Go.RowKit

theorem jud_cases (f : Bool) (y m d h n s z : Int) : (f = true ∧ isDayB y m d = true ∧ judV f y m d h n s z = mom y m d h n s z ∧ judE f y m d = 0) ∨ (judV f y m d h n s z = mom 0 0 0 0 0 0 0 ∧ judE f y m d ≠ 0) := by
  cases f with
  | false => exact .inr ⟨rfl, by show (20 : Int) ≠ 0; decide⟩
  | true =>
    cases hd : isDayB y m d with
    | true => exact .inl ⟨rfl, rfl, by unfold judV; rw [hd]; rfl, by unfold judE; rw [hd]; rfl⟩
    | false => exact .inr ⟨by unfold judV; rw [hd]; rfl, by unfold judE; rw [hd]; decide⟩
theorem int_cases (x : ByteArray) : (∃ y m d h n s z, validB y m d h n s z = true ∧ x.size = 26 ∧ ∀ W, Env W → Calls Tryd.prog 20 #[.string x] W fun e w' => e = .returned (.tuple #[mom y m d h n s z, .int .i64 0]) ∧ Below W.heap.size W w')
    ∨ (∃ er, er ≠ 0 ∧ ∀ W, Env W → Calls Tryd.prog 20 #[.string x] W fun e w' => e = .returned (.tuple #[mom 0 0 0 0 0 0 0, .int .i64 er]) ∧ Below W.heap.size W w') := by
  by_cases h : x.size = 26 ∧ (bt (L x) 11 == 32) = true ∧ (bt (L x) 20 == 32) = true
  · rcases jud_cases (riB (L x)) (tdY (riDay (L x))) (tdM (riDay (L x))) (tdD (riDay (L x))) (tcH (((L x).drop 12).take 8)) (tcN (((L x).drop 12).take 8)) (tcS (((L x).drop 12).take 8)) (tzV ((L x).drop 21)) with ⟨a, b, c, d⟩ | ⟨c, d⟩
    · refine .inl ⟨_, _, _, _, _, _, _, (ri_valid (L x) a b).1, h.1, fun W hW => ?_⟩
      have := momReadInternal_yes x W hW h.1 h.2.1 h.2.2
      rw [show riV (L x) = _ from c, show riE (L x) = 0 from d] at this
      exact this
    · refine .inr ⟨_, d, fun W hW => ?_⟩
      have := momReadInternal_yes x W hW h.1 h.2.1 h.2.2
      rw [show riV (L x) = _ from c] at this
      exact this
  · refine .inr ⟨20, by decide, fun W _ => momReadInternal_no x W ?_⟩
    by_cases h26 : x.size = 26
    · right
      refine ⟨h26, ?_⟩
      cases p1 : (bt (L x) 11 == 32) with
      | false => exact .inl rfl
      | true =>
        right
        refine ⟨rfl, ?_⟩
        cases p2 : (bt (L x) 20 == 32) with
        | false => rfl
        | true => exact absurd ⟨h26, p1, p2⟩ h
    · exact .inl h26
theorem day_cases (x : ByteArray) (hx : x.size ≤ 140737488355328) : (∃ y m d, isDayB y m d = true ∧ x.size ≠ 26 ∧ ∀ W, Env W → Calls Tryd.prog 19 #[.string x] W fun e w' => e = .returned (.tuple #[mom y m d 0 0 0 0, .int .i64 0]) ∧ Below W.heap.size W w')
    ∨ (∃ er, er ≠ 0 ∧ ∀ W, Env W → Calls Tryd.prog 19 #[.string x] W fun e w' => e = .returned (.tuple #[mom 0 0 0 0 0 0 0, .int .i64 er]) ∧ Below W.heap.size W w') := by
  rcases jud_cases (tdB (L x)) (tdY (L x)) (tdM (L x)) (tdD (L x)) 0 0 0 0 with ⟨a, b, c, d⟩ | ⟨c, d⟩
  · refine .inl ⟨_, _, _, b, ?_, fun W hW => ?_⟩
    · intro h26
      unfold tdB at a
      rw [if_neg (by rw [L_length]; omega), if_neg (by rw [L_length]; omega)] at a
      cases a
    · have := momReadDay_any x W hW hx
      rw [c, d] at this
      exact this
  · refine .inr ⟨_, d, fun W hW => ?_⟩
    have := momReadDay_any x W hW hx
    rw [c] at this
    exact this
theorem head_cases (x : ByteArray) (hx : x.size ≤ 140737488355328) : (∃ y m d h n s z, validB y m d h n s z = true ∧ ∀ W, Env W → Calls Tryd.prog 21 #[.string x] W fun e w' => e = .returned (.tuple #[mom y m d h n s z, .int .i64 0]) ∧ Below W.heap.size W w')
    ∨ (∃ er, er ≠ 0 ∧ ∀ W, Env W → Calls Tryd.prog 21 #[.string x] W fun e w' => e = .returned (.tuple #[mom 0 0 0 0 0 0 0, .int .i64 er]) ∧ Below W.heap.size W w') := by
  rcases jud_cases (rhB (L x)) (dyY (hc1 (L x))) (dyM (hc1 (L x))) (dyD (hc1 (L x))) (clH (hc2 (L x))) (clN (hc2 (L x))) (clS (hc2 (L x)) 0) (znZ (hc3 (L x)) (nzI (hc3 (L x)).p) 0) with ⟨a, b, c, d⟩ | ⟨c, d⟩
  · refine .inl ⟨_, _, _, _, _, _, _, rh_valid (L x) (nzI (hc3 (L x)).p) a b (nzI_bounds _), fun W hW => ?_⟩
    have := momReadHeader_any x W hW hx
    rw [show rhV (L x) (nzI (hc3 (L x)).p) = _ from c, show rhE (L x) = 0 from d] at this
    exact this
  · refine .inr ⟨_, d, fun W hW => ?_⟩
    have := momReadHeader_any x W hW hx
    rw [show rhV (L x) (nzI (hc3 (L x)).p) = _ from c] at this
    exact this
theorem MomentRead_walk (x : ByteArray) (w : World) (he : Env w) (hx : x.size ≤ 140737488355328) :
    Calls Tryd.prog 6 #[.string x] w fun e w' => e = .returned (.bool true) ∧ Below w.heap.size w w' := by
  rcases int_cases x with ⟨y, m, d, h, n, s, z, hv, h26, HA⟩ | ⟨er, her, HA⟩
  · rcases day_cases x hx with ⟨_, _, _, _, hne, _⟩ | ⟨fr, hfr, HD⟩
    · exact absurd h26 hne
    · rcases head_cases x hx with ⟨y2, m2, d2, h2, n2, s2, z2, hv2, HH⟩ | ⟨gr, hgr, HH⟩
      · exact MomentRead_101 x w he y m d h n s z hv h26 HA fr hfr HD y2 m2 d2 h2 n2 s2 z2 hv2 HH
      · exact MomentRead_100 x w he y m d h n s z hv h26 HA fr hfr HD gr hgr HH
  · rcases day_cases x hx with ⟨y', m', d', hd, _, HD⟩ | ⟨fr, hfr, HD⟩
    · rcases head_cases x hx with ⟨y2, m2, d2, h2, n2, s2, z2, hv2, HH⟩ | ⟨gr, hgr, HH⟩
      · exact MomentRead_011 x w he er her HA y' m' d' hd HD y2 m2 d2 h2 n2 s2 z2 hv2 HH
      · exact MomentRead_010 x w he er her HA y' m' d' hd HD gr hgr HH
    · rcases head_cases x hx with ⟨y2, m2, d2, h2, n2, s2, z2, hv2, HH⟩ | ⟨gr, hgr, HH⟩
      · exact MomentRead_001 x w he er her HA fr hfr HD y2 m2 d2 h2 n2 s2 z2 hv2 HH
      · exact MomentRead_000 x w he er her HA fr hfr HD gr hgr HH
end Go.Proofs.YtlcjpkbcnoibeaaDoor
