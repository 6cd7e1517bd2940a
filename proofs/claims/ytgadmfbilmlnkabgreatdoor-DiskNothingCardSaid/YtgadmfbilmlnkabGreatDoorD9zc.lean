/- disk: known. -/
import Derived.Test.YtgadmfbilmlnkabGreatDoorD9zb
namespace Go.Proofs.YtgadmfbilmlnkabGreatDoor
open Go.RowKit Go.Lib

theorem Env.up {A : Whys} {B B' : Nat} {w : World} (h : Env A B w) (h1 : B ≤ B') (h2 : B' ≤ w.heap.size) : Env A B' w :=
  ⟨h.n, h.m, h.q, h.d, h.r, h.row, h.apart, fun a ha => Nat.lt_of_lt_of_le (h.lt a ha) h1, Nat.le_trans h.lo h1, h2⟩
theorem ErrK.ok {A : Whys} {op name : ByteArray} {step code : Int} {r : Value} {K K' : List (Nat × Obj)} (h : ErrK A op name step code r K K') (hc : code = 0) : r = .nilIface ∧ K' = K := by
  rcases h with ⟨_, h1, h2⟩ | ⟨hn, _⟩
  · exact ⟨h1, h2⟩
  · exact absurd hc hn
theorem ErrK.bad {A : Whys} {op name : ByteArray} {step code : Int} {r : Value} {K K' : List (Nat × Obj)} (h : ErrK A op name step code r K K') (hc : code ≠ 0) : ∃ p, r = failV p ∧ K' = (p, failObj A op name step code) :: K := by
  rcases h with ⟨h0, _⟩ | ⟨_, p, h1, h2⟩
  · exact absurd h0 hc
  · exact ⟨p, h1, h2⟩
theorem ok_nil (q s : Nat) (r : Bool) : DS.ok ⟨q, s, r, []⟩ := fun x hx => by cases hx
def kA : ByteArray := ⟨#[97]⟩
def kH : ByteArray := ⟨#[104, 101, 108, 108, 111]⟩
theorem knA1 {A : Whys} {w0 w : World} {d : Nat} (h : Dk A w0 d ⟨10, 0, true, []⟩ [] [] w) :
    Calls Tryz.prog 11 #[.pointer (some ⟨d, 0, none⟩), .string kA, .string kH] w fun e w' => e = .returned .nilIface ∧ Dk A w0 d ⟨10, 1, true, []⟩ [⟨kA, L kH, 0⟩] [] w' := by
  refine (AppendD h (ok_nil _ _ _) (by decide) kA kH (by decide)).mono ?_
  rintro e w' ⟨r, K', rfl, hD, hE⟩
  obtain ⟨rfl, rfl⟩ := hE.ok (by decide)
  exact ⟨rfl, hD⟩
theorem knA2 {A : Whys} {w0 w : World} {d : Nat} (h : Dk A w0 d ⟨10, 1, true, []⟩ [⟨kA, L kH, 0⟩] [] w) :
    Calls Tryz.prog 11 #[.pointer (some ⟨d, 0, none⟩), .string ⟨#[65]⟩, .string ⟨#[120]⟩] w fun e w' => ∃ p, e = .returned (failV p) ∧ Dk A w0 d ⟨10, 2, true, []⟩ [⟨kA, L kH, 0⟩] [(p, failObj A sApp ⟨#[65]⟩ 2 90)] w' := by
  refine (AppendD h (ok_nil _ _ _) (by decide) ⟨#[65]⟩ ⟨#[120]⟩ (by decide)).mono ?_
  rintro e w' ⟨r, K', rfl, hD, hE⟩
  obtain ⟨p, rfl, rfl⟩ := hE.bad (by decide)
  exact ⟨p, rfl, hD⟩
theorem knR {A : Whys} {w0 w : World} {d : Nat} {K : List (Nat × Obj)} (h : Dk A w0 d ⟨10, 2, true, []⟩ [⟨kA, L kH, 0⟩] K w) :
    Calls Tryz.prog 12 #[.pointer (some ⟨d, 0, none⟩), .string kA] w fun e w' => e = .returned (.tuple #[.string kH, .nilIface]) ∧ Dk A w0 d ⟨10, 3, true, []⟩ [⟨kA, L kH, 0⟩] K w' := by
  refine (ReadD h (ok_nil _ _ _) (by decide) kA (by decide)).mono ?_
  rintro e w' ⟨r, K', rfl, hD, hE⟩
  obtain ⟨rfl, rfl⟩ := hE.ok (by decide)
  exact ⟨by
    have : readT ⟨10, 2, true, []⟩ [⟨kA, L kH, 0⟩] kA = kH := by decide
    rw [this], hD⟩
set_option maxHeartbeats 4000000 in
theorem known_any {A : Whys} {B : Nat} {w : World} (he : Env A B w) : Calls Tryz.prog 6 #[] w fun e w' => e = .returned (.bool true) ∧ Below w.heap.size w w' := by
  have he0 := he.up he.hi (Nat.le_refl _)
  have HN := Lib.hid (NewD (q := 10) (Below.refl _ w) he0 (by decide) (by decide))
  have H1 := Lib.hid (fun d W (h : Dk A w d ⟨10, 0, true, []⟩ [] [] W) => knA1 h)
  have H2 := Lib.hid (fun d W (h : Dk A w d ⟨10, 1, true, []⟩ [⟨kA, L kH, 0⟩] [] W) => knA2 h)
  have H3 := Lib.hid (fun d W K (h : Dk A w d ⟨10, 2, true, []⟩ [⟨kA, L kH, 0⟩] K W) => knR h)
  have HI : Hid (∀ d W p, Dk A w d ⟨10, 3, true, []⟩ [⟨kA, L kH, 0⟩] [(p, failObj A sApp ⟨#[65]⟩ 2 90)] W → Calls Tryz.prog 13 #[failV p, whyV (A.at 90)] W fun e w' => e = .returned (.bool true) ∧ w' = W) := Lib.hid (fun d W p h => by
    have h1 := IsD h (List.mem_singleton.2 rfl) 90
    rw [decide_eq_true rfl] at h1
    exact h1)
  have HU : Hid (∀ d W K, Dk A w d ⟨10, 3, true, []⟩ [⟨kA, L kH, 0⟩] K W → Calls Tryz.prog 14 #[.pointer (some ⟨d, 0, none⟩)] W fun e w' => e = .returned (.int .i64 5) ∧ w' = W) := Lib.hid (fun d W K h => by
    have h1 := UsedD h
    have e : usedP [⟨kA, L kH, 0⟩] = 5 := by decide
    rw [e] at h1
    exact h1)
  have HS : Hid (∀ d W K, Dk A w d ⟨10, 3, true, []⟩ [⟨kA, L kH, 0⟩] K W → Calls Tryz.prog 15 #[.pointer (some ⟨d, 0, none⟩)] W fun e w' => e = .returned (.int .i64 3) ∧ w' = W) := Lib.hid (fun d W K h => StepsD h)
  have hkH : (kH.toList == [104, 101, 108, 108, 111]) = true := by
    rw [toList_L]; decide
  have HB : Hid (∀ d W S P K, Dk A w d S P K W → Below w.heap.size w W) := Lib.hid (fun d W S P K h => by obtain ⟨m, sv, clk, F, _, _, hb, _⟩ := h; exact hb)
  have HE : Hid (∀ d W S P K, Dk A w d S P K W → W.cell? ⟨0, 0, none⟩ = some (whyV (A.at 90))) := Lib.hid (fun d W S P K h => by obtain ⟨m, sv, clk, F, _, _, _, he, _⟩ := h; exact he.n)
  clear he he0
  go_enter Tryz.func6, Tryz.ntmps6
  go_upto_region 7 with (first | (go_at_call 9; refine HN.out.mono ?_; rintro e w1 ⟨d, rfl, h1⟩; have K1 := Lib.hid h1; clear h1) | (go_at_call 12; refine (H3.out _ _ _ K3.out).mono ?_; rintro e w4 ⟨rfl, h4⟩; have K4 := Lib.hid h4; clear h4) | (go_at_call 11; first | (refine (H2.out _ _ K2.out).mono ?_; rintro e w3 ⟨p, rfl, h3⟩; have K3 := Lib.hid h3; clear h3) | (refine (H1.out _ _ K1.out).mono ?_; rintro e w2 ⟨rfl, h2⟩; have K2 := Lib.hid h2; clear h2)))
  have ce := HE.out _ _ _ _ _ K4.out
  have HI5 := Lib.hid (HI.out _ _ _ K4.out)
  unfold whyV failV at *
  go_wp2_with (first | (go_at_call 13; refine HI5.out.mono ?_; rintro e w5 ⟨rfl, hw5⟩; subst w5) | (go_at_call 14; refine (HU.out _ _ _ K4.out).mono ?_; rintro e w5 ⟨rfl, hw5⟩; subst w5) | (go_at_call 15; refine (HS.out _ _ _ K4.out).mono ?_; rintro e w5 ⟨rfl, hw5⟩; subst w5))
  go_ret
  exact ⟨rfl, HB.out _ _ _ _ _ K4.out⟩
end Go.Proofs.YtgadmfbilmlnkabGreatDoor
