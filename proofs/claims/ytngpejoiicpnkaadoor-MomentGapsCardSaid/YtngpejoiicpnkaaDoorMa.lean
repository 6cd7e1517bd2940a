/- moment's At and Stamp, there and back; Order, as an order. -/
import Derived.Test.YtngpejoiicpnkaaDoorDf
namespace Go.Proofs.YtngpejoiicpnkaaDoor
open Go.RowKit

theorem valid_mk (Y M D : Nat) (h n s z : Int) (hd : IsDay Y M D) (ht : IsTime h n s z) : validB Y M D h n s z = true := by
  unfold validB isDayB timeB
  rw [Bool.and_eq_true, decide_eq_true_iff, decide_eq_true_iff]
  have := hd.y1; have := hd.y2; have := hd.m1; have := hd.m2; have := hd.d1; have := hd.d2
  obtain ⟨b1, b2, b3, b4, b5, b6, b7, b8⟩ := ht
  simp only [Int.toNat_natCast]
  omega
theorem stampV_mk (Y M D : Nat) (h n s z : Int) (hd : IsDay Y M D) (ht : IsTime h n s z) : stampV Y M D h n s z = stampI Y M D h n s z := by
  unfold stampV
  rw [valid_mk Y M D h n s z hd ht]
  rfl
structure AtOk (st z y m d h n s : Int) : Prop where
  v : validB y m d h n s z = true
  sv : stampV y m d h n s z = st
  c : ∀ W, Env W → Calls Tryd.prog 15 #[.int .i64 st, .int .i64 z] W fun e w' => e = .returned (.tuple #[mom y m d h n s z, .int .i64 0]) ∧ Below W.heap.size W w'
structure AtNo (st z er : Int) : Prop where
  e : (er != 0) = true
  c : ∀ W, Calls Tryd.prog 15 #[.int .i64 st, .int .i64 z] W fun e w' => e = .returned (.tuple #[mom 0 0 0 0 0 0 0, .int .i64 er]) ∧ Below W.heap.size W w'
set_option maxRecDepth 100000 in
theorem at_ok (st z : Int) (hz1 : -1439 ≤ z) (hz2 : z ≤ 1439) (h1 : -62135596800 ≤ st + 60 * z) (h2 : st + 60 * z ≤ 253402300799) : ∃ y m d h n s, AtOk st z y m d h n s := by
  obtain ⟨Y, M, D, hd, ht, hdn, hst⟩ := stamp_of st z hz1 hz2 h1 h2
  refine ⟨Y, M, D, _, _, _, ⟨valid_mk Y M D _ _ _ z hd ht, (stampV_mk Y M D _ _ _ z hd ht).trans hst, fun W hW => ?_⟩⟩
  exact momAt_ok st z W hW hz1 hz2 h1 h2 Y M D _ hd rfl _ _ _ (by unfold daysI at hdn; exact hdn) rfl (by omega) (by omega)
theorem at_cases (st z : Int) (h64 : -9223372036854775808 ≤ st) (h65 : st ≤ 9223372036854775807) : (∃ er, AtNo st z er) ∨ ∃ y m d h n s, AtOk st z y m d h n s := by
  by_cases hz : z < -1439 ∨ 1439 < z
  · exact .inl ⟨1, ⟨rfl, fun W => momAt_zone st z W hz⟩⟩
  · by_cases hr : st + 60 * z < -62135596800 ∨ 253402300799 < st + 60 * z
    · exact .inl ⟨22, ⟨rfl, fun W => momAt_range st z W (by omega) (by omega) hr h64 h65⟩⟩
    · exact .inr (at_ok st z (by omega) (by omega) (by omega) (by omega))
set_option maxRecDepth 100000 in
/-- The way back. -/
theorem at_back (y m d h n s z : Int) (hv : validB y m d h n s z = true) : AtOk (stampV y m d h n s z) z y m d h n s := by
  obtain ⟨Y, M, D, rfl, rfl, rfl, hd, ht⟩ := valid_parts y m d h n s z hv
  have hsv := stampV_mk Y M D h n s z hd ht
  have hr := stamp_range Y M D h n s z hd ht
  have hsd := stamp_day Y M D h n s z ht
  rw [← hsv] at hr hsd
  obtain ⟨p1, p2, p3, p4, p5, p6, p7, p8⟩ := ht
  refine ⟨hv, rfl, fun W hW => momAt_ok _ z W hW p7 p8 hr.1 hr.2 Y M D _ hd rfl h n s ?_ ?_ ?_ ?_⟩
  · rw [hsd.1]; rfl
  · rw [hsd.2]; omega
  · rw [hsd.2]; omega
  · rw [hsd.2]; omega

/-- Order, of what is known of its moments. -/
structure OrdP (va vb vc : Bool) (sa sb sc : Int) (ab bc ac ba : Int) : Prop where
  neg : ba = -ab
  lo : -1 ≤ ab
  hi : ab ≤ 1
  t1 : ab ≤ 0 → bc ≤ 0 → ac ≤ 0
  t2 : ab < 0 → bc ≤ 0 → ac < 0
  t3 : ab = 0 → bc < 0 → ac < 0
theorem ov_eq (v : Bool) (a b : Int) : (orderV v v a b = -1 ∧ a < b) ∨ (orderV v v a b = 0 ∧ a = b) ∨ (orderV v v a b = 1 ∧ b < a) := by
  rcases Int.lt_trichotomy a b with h | h | h
  · exact .inl ⟨order_lt v a b h, h⟩
  · exact .inr (.inl ⟨order_eq v a b (by omega) (by omega), h⟩)
  · exact .inr (.inr ⟨order_gt v a b h, h⟩)
theorem ov_any (va vb : Bool) (a b : Int) : (va = vb ∧ ((orderV va vb a b = -1 ∧ a < b) ∨ (orderV va vb a b = 0 ∧ a = b) ∨ (orderV va vb a b = 1 ∧ b < a))) ∨ (va = false ∧ vb = true ∧ orderV va vb a b = -1) ∨ (va = true ∧ vb = false ∧ orderV va vb a b = 1) := by
  cases va <;> cases vb
  · exact .inl ⟨rfl, ov_eq false a b⟩
  · exact .inr (.inl ⟨rfl, rfl, order_ft a b⟩)
  · exact .inr (.inr ⟨rfl, rfl, order_tf a b⟩)
  · exact .inl ⟨rfl, ov_eq true a b⟩
theorem ordP (va vb vc : Bool) (sa sb sc : Int) (ha : va = true ∨ sa = 0) (hb : vb = true ∨ sb = 0) (hc : vc = true ∨ sc = 0) : OrdP va vb vc sa sb sc (orderV va vb sa sb) (orderV vb vc sb sc) (orderV va vc sa sc) (orderV vb va sb sa) := by
  have h1 := ov_any va vb sa sb
  have h2 := ov_any vb vc sb sc
  have h3 := ov_any va vc sa sc
  have h4 := ov_any vb va sb sa
  generalize orderV va vb sa sb = ab at *
  generalize orderV vb vc sb sc = bc at *
  generalize orderV va vc sa sc = ac at *
  generalize orderV vb va sb sa = ba at *
  cases va <;> cases vb <;> cases vc
  all_goals (
    simp only [reduceCtorEq, false_or, true_or, true_and, false_and, and_false, or_false] at ha hb hc h1 h2 h3 h4
    constructor <;> omega)
theorem stampV_no (y m d h n s z : Int) (hv : validB y m d h n s z = false) : stampV y m d h n s z = 0 := by unfold stampV; rw [hv]; rfl
end Go.Proofs.YtngpejoiicpnkaaDoor
