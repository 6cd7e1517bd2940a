/- DiskRenames: the walk. -/
import Derived.Test.YtgadmfbilmlnkaaDoorD9zd
namespace Go.Proofs.YtgadmfbilmlnkaaDoor
open Go.RowKit Go.Lib

theorem Dk.below {A : Whys} {w0 w : World} {d : Nat} {S : DS} {P : List PF} {K : List (Nat × Obj)} (h : Dk A w0 d S P K w) : Below w0.heap.size w0 w := by obtain ⟨m, sv, clk, F, _, _, hb, _⟩ := h; exact hb
theorem Dk.env {A : Whys} {w0 w : World} {d : Nat} {S : DS} {P : List PF} {K : List (Nat × Obj)} (h : Dk A w0 d S P K w) : Env A w0.heap.size w := by obtain ⟨m, sv, clk, F, _, _, _, he, _⟩ := h; exact he
set_option maxHeartbeats 4000000 in
theorem ren_big {A : Whys} {B : Nat} {w : World} (he : Env A B w) (old data : ByteArray) (part rest at_ : Int) (hbig : 20000 < old.size ∨ 20000 < data.size) :
    Calls Tryd.prog 3 #[.string old, .string data, .int .i64 part, .int .i64 rest, .int .i64 at_] w fun e w' => e = .returned (.bool true) ∧ Below w.heap.size w w' := by
  have HK := Lib.hid (known_any he)
  have HN := Lib.hid (fun W (hb : Below w.heap.size w W) => NewD (A := A) (w0 := w) (w := W) hb ((he.up he.hi (Nat.le_refl _)).below hb) 100000 (by decide) (by decide))
  have HB : Hid (∀ d W S P K, Dk A w d S P K W → Below w.heap.size w W) := Lib.hid (fun d W S P K h => h.below)
  clear he
  by_cases ho : 20000 < old.size
  · clear hbig
    go_enter Tryd.func3, Tryd.ntmps3
    go_wp2_with (first | (go_at_call 8; refine HK.out.mono ?_; rintro e w1 ⟨rfl, hb1⟩; have HB1 := Lib.hid hb1; clear hb1) | (go_at_call 9; refine (HN.out _ HB1.out).mono ?_; rintro e w2 ⟨d, rfl, h2⟩; have K2 := Lib.hid h2; clear h2))
    go_ret
    exact ⟨rfl, HB.out _ _ _ _ _ K2.out⟩
  · have hd : 20000 < data.size := by omega
    clear hbig
    go_enter Tryd.func3, Tryd.ntmps3
    go_wp2_with (first | (go_at_call 8; refine HK.out.mono ?_; rintro e w1 ⟨rfl, hb1⟩; have HB1 := Lib.hid hb1; clear hb1) | (go_at_call 9; refine (HN.out _ HB1.out).mono ?_; rintro e w2 ⟨d, rfl, h2⟩; have K2 := Lib.hid h2; clear h2))
    go_ret
    exact ⟨rfl, HB.out _ _ _ _ _ K2.out⟩
theorem and_one (x : Int) : bits .and .i64 x 1 = 0 ∨ bits .and .i64 x 1 = 1 := by
  have key : ∀ y : BitVec 64, y &&& BitVec.ofInt 64 1 = 0#64 ∨ y &&& BitVec.ofInt 64 1 = 1#64 := by
    intro y
    have h1 : (y &&& BitVec.ofInt 64 1).toNat = y.toNat % 2 := by
      rw [BitVec.toNat_and]
      have : (BitVec.ofInt 64 1).toNat = 1 := by decide
      rw [this, Nat.and_one_is_mod]
    rcases Nat.mod_two_eq_zero_or_one y.toNat with h | h
    · exact .inl (BitVec.eq_of_toNat_eq (by rw [h1, h]; rfl))
    · exact .inr (BitVec.eq_of_toNat_eq (by rw [h1, h]; rfl))
  show IntKind.i64.wrap ((BitVec.ofInt 64 x &&& BitVec.ofInt 64 1).toNat : Int) = 0 ∨ IntKind.i64.wrap ((BitVec.ofInt 64 x &&& BitVec.ofInt 64 1).toNat : Int) = 1
  rcases key (BitVec.ofInt 64 x) with h | h
  · left; rw [h]; decide
  · right; rw [h]; decide
theorem k_two (x : Int) : wrap64 (1 + bits .and .i64 x 1) = 1 ∨ wrap64 (1 + bits .and .i64 x 1) = 2 := by
  rcases and_one x with h | h
  · left; rw [h]; unfold wrap64; decide
  · right; rw [h]; unfold wrap64; decide
theorem rnP {A : Whys} {w0 w : World} {d : Nat} {P : List PF} {K : List (Nat × Obj)} (h : Dk A w0 d ⟨100000, 4, true, []⟩ P K w) (k y z : Int) (hk : 1 ≤ k) :
    Calls Tryd.prog 12 #[.pointer (some ⟨d, 0, none⟩), .slice (some ⟨w.heap.size, 0, none⟩) 1 1] (w.alloc (.cells #[.int .i64 k, .int .i64 y, .int .i64 z] 32)) fun e w' => e = .returned (.tuple #[]) ∧ Dk A w0 d ⟨100000, 4, true, [(k, y, z)]⟩ P K w' := by
  have hh := heap_alloc_new w (.cells #[.int .i64 k, .int .i64 y, .int .i64 z] 32)
  have hp : planP [(k, y, z)] = [(k, y, z)] := by
    unfold planP
    simp [hk]
  have := PlanD h (by show 1 ≤ 100000; decide) [(k, y, z)] #[.int .i64 k, .int .i64 y, .int .i64 z] (by show 1 ≤ 1000000000; decide) (by
    intro i hi s hs
    have hi : i < 1 := hi
    obtain rfl : i = 0 := by omega
    injection hs with hs
    subst hs
    exact ⟨cell_of hh 0, cell_of hh 1, cell_of hh 2⟩) 1
  rw [hp] at this
  exact this
theorem rnRd {A : Whys} {w0 w : World} {d n : Nat} (done : Prop) [Decidable done] (old data : ByteArray) (K : List (Nat × Obj)) (hn : n < 1000000000) (h : Dk A w0 d ⟨100000, n, true, []⟩ (renP done (L old) (L data)) K w) :
    Calls Tryd.prog 18 #[.pointer (some ⟨d, 0, none⟩), .string bx] w fun e w' => e = .returned (.tuple #[.string (if done then data else old), .nilIface]) ∧ Dk A w0 d ⟨100000, n + 1, true, []⟩ (renP done (L old) (L data)) K w' := by
  have e : S (if done then L data else L old) = (if done then data else old) := by split <;> rw [S_L]
  rw [← e]
  exact rn9 _ K _ (renP_find done (L old) (L data)) hn h
theorem rnSz {A : Whys} {w0 w : World} {d n : Nat} (done : Prop) [Decidable done] (old data : ByteArray) (K : List (Nat × Obj)) (h : Dk A w0 d ⟨100000, n, true, []⟩ (renP done (L old) (L data)) K w) :
    Calls Tryd.prog 19 #[.pointer (some ⟨d, 0, none⟩), .string tm] w fun e w' => e = .returned (.int .i64 (if done then -1 else (data.size : Int))) ∧ w' = w := by
  have := SizeD h tm
  rw [size_tm, L_length] at this
  exact this
set_option maxHeartbeats 8000000 in
theorem ren_walk {A : Whys} {B : Nat} {w : World} (he : Env A B w) (old data : ByteArray) (part rest at_ : Int) (ho : old.size ≤ 20000) (hd : data.size ≤ 20000) (hp : inI part) (hr : inI rest) :
    Calls Tryd.prog 3 #[.string old, .string data, .int .i64 part, .int .i64 rest, .int .i64 at_] w fun e w' => e = .returned (.bool true) ∧ Below w.heap.size w w' := by
  have HK := Lib.hid (known_any he)
  have HN := Lib.hid (fun W (hb : Below w.heap.size w W) => NewD (A := A) (w0 := w) (w := W) hb ((he.up he.hi (Nat.le_refl _)).below hb) 100000 (by decide) (by decide))
  have HB : Hid (∀ d W S P K, Dk A w d S P K W → Below w.heap.size w W) := Lib.hid (fun d W S P K h => h.below)
  have H1 := Lib.hid (fun d W (h : Dk A w d ⟨100000, 0, true, []⟩ [] [] W) => rn1 h old ho)
  have H2 := Lib.hid (fun d W (h : Dk A w d ⟨100000, 1, true, []⟩ [⟨bx, L old, 0⟩] [] W) => rn2 (L old) h)
  have H3 := Lib.hid (fun d W (h : Dk A w d ⟨100000, 2, true, []⟩ [dur bx (L old)] [] W) => rn3 (L old) h (by rw [L_length]; exact ho) data hd)
  have H4 := Lib.hid (fun d W (h : Dk A w d ⟨100000, 3, true, []⟩ [dur bx (L old), ⟨tm, L data, 0⟩] [] W) => rn4 (L old) (L data) h)
  clear he
  go_enter Tryd.func3, Tryd.ntmps3
  go_upto_region 14 with (first | (go_at_call 8; refine HK.out.mono ?_; rintro e w1 ⟨rfl, hb1⟩; have HB1 := Lib.hid hb1; clear hb1) | (go_at_call 9; refine (HN.out _ HB1.out).mono ?_; rintro e w2 ⟨d, rfl, h2⟩; have K2 := Lib.hid h2; clear h2) | (go_at_call 11; first | (refine (H4.out _ _ K5.out).mono ?_; rintro e w6 ⟨rfl, h6⟩; have K6 := Lib.hid h6; clear h6) | (refine (H2.out _ _ K3.out).mono ?_; rintro e w4 ⟨rfl, h4⟩; have K4 := Lib.hid h4; clear h4)) | (go_at_call 10; first | (refine (H3.out _ _ K4.out).mono ?_; rintro e w5 ⟨rfl, h5⟩; have K5 := Lib.hid h5; clear h5) | (refine (H1.out _ _ K2.out).mono ?_; rintro e w3 ⟨rfl, h3⟩; have K3 := Lib.hid h3; clear h3)))
  have HP := Lib.hid (fun (d : Nat) (W : World) (k : Int) (hk : 1 ≤ k) P K (h : Dk A w d ⟨100000, 4, true, []⟩ P K W) => rnP h k part rest hk)
  rcases k_two at_ with hk | hk
  · rw [hk]
    have H5 := Lib.hid (fun d W (h : Dk A w d ⟨100000, 4, true, [(1, part, rest)]⟩ [dur bx (L old), dur tm (L data)] [] W) => rn5 (L old) (L data) part rest ⟨hp, hr⟩ h)
    have H7 := Lib.hid (fun d W P K (h : Dk A w d ⟨100000, 5, false, []⟩ P K W) => rn7 P K h)
    go_upto_region 17 with (first | (go_at_call 12; refine (HP.out _ _ 1 (by decide) _ _ K6.out).mono ?_; rintro e w7 ⟨rfl, h7⟩; have K7 := Lib.hid h7; clear h7) | (go_at_call 13; refine (H5.out _ _ K7.out).mono ?_; rintro e w8 ⟨p8, rfl, h8⟩; have K8 := Lib.hid h8; clear h8) | (go_at_call 14; refine (H7.out _ _ _ _ K8.out).mono ?_; rintro e w9 ⟨p9, rfl, h9⟩; have K9 := Lib.hid h9; clear h9))
    have ce : w9.cell? ⟨0, 0, none⟩ = some (whyV (A.at 93)) := K9.out.env.d
    have HI : Hid (∀ p, p = p8 ∨ p = p9 → Calls Tryd.prog 15 #[failV p, whyV (A.at 93)] w9 fun e w' => e = .returned (.bool true) ∧ w' = w9) := Lib.hid (by
      rintro p (rfl | rfl)
      · have h1 := IsD K9.out (p := p) (op := sRename) (name := tm) (step := 5) (code := 93) (by simp) 93
        rw [decide_eq_true rfl] at h1
        exact h1
      · have h1 := IsD K9.out (p := p) (op := sRemove) (name := nb) (step := 0) (code := 93) (by simp) 93
        rw [decide_eq_true rfl] at h1
        exact h1)
    have HD9 : Hid (Calls Tryd.prog 16 #[.pointer (some ⟨d, 0, none⟩)] w9 fun e w' => e = .returned (.bool true) ∧ w' = w9) := Lib.hid (DownD K9.out)
    have HS9 := Lib.hid (StartD K9.out (by show 1 ≤ 100000; decide))
    have HB9 : Hid (∀ W S P K, Dk A w d S P K W → Below w.heap.size w W) := Lib.hid (fun W S P K h => h.below)
    by_cases hpart : 1 ≤ part
    · have HR := Lib.hid (fun W K (h : Dk A w d ⟨100000, 5, true, []⟩ (renP (1 ≤ part) (L old) (L data)) K W) => rnRd (1 ≤ part) old data K (by decide) h)
      have HZ := Lib.hid (fun W K (h : Dk A w d ⟨100000, 6, true, []⟩ (renP (1 ≤ part) (L old) (L data)) K W) => rnSz (1 ≤ part) old data K h)
      have HQ := Lib.hid (fun W P K (h : Dk A w d ⟨100000, 6, true, []⟩ P K W) => QuotaD h)
      rw [if_pos hpart] at HR HZ
      unfold whyV failV at *
      go_wp2_with (first | (go_at_call 15; refine (HI.out _ (by first | exact .inl rfl | exact .inr rfl)).mono ?_; rintro e w5 ⟨rfl, hw5⟩; subst w5) | (go_at_call 16; refine HD9.out.mono ?_; rintro e w5 ⟨rfl, hw5⟩; subst w5) | (go_at_call 17; refine HS9.out.mono ?_; rintro e w10 ⟨rfl, h10⟩; have K10 := Lib.hid h10; clear h10) | (go_at_call 18; refine (HR.out _ _ K10.out).mono ?_; rintro e w11 ⟨rfl, h11⟩; have K11 := Lib.hid h11; clear h11) | (go_at_call 19; refine (HZ.out _ _ K11.out).mono ?_; rintro e w5 ⟨rfl, hw5⟩; subst w5) | (go_at_call 20; refine (HQ.out _ _ _ K11.out).mono ?_; rintro e w5 ⟨rfl, hw5⟩; subst w5))
      go_ret
      exact ⟨rfl, HB9.out _ _ _ _ K11.out⟩
    · have HR := Lib.hid (fun W K (h : Dk A w d ⟨100000, 5, true, []⟩ (renP (1 ≤ part) (L old) (L data)) K W) => rnRd (1 ≤ part) old data K (by decide) h)
      have HZ := Lib.hid (fun W K (h : Dk A w d ⟨100000, 6, true, []⟩ (renP (1 ≤ part) (L old) (L data)) K W) => rnSz (1 ≤ part) old data K h)
      have HQ := Lib.hid (fun W P K (h : Dk A w d ⟨100000, 6, true, []⟩ P K W) => QuotaD h)
      rw [if_neg hpart] at HR HZ
      unfold whyV failV at *
      go_wp2_with (first | (go_at_call 15; refine (HI.out _ (by first | exact .inl rfl | exact .inr rfl)).mono ?_; rintro e w5 ⟨rfl, hw5⟩; subst w5) | (go_at_call 16; refine HD9.out.mono ?_; rintro e w5 ⟨rfl, hw5⟩; subst w5) | (go_at_call 17; refine HS9.out.mono ?_; rintro e w10 ⟨rfl, h10⟩; have K10 := Lib.hid h10; clear h10) | (go_at_call 18; refine (HR.out _ _ K10.out).mono ?_; rintro e w11 ⟨rfl, h11⟩; have K11 := Lib.hid h11; clear h11) | (go_at_call 19; refine (HZ.out _ _ K11.out).mono ?_; rintro e w5 ⟨rfl, hw5⟩; subst w5) | (go_at_call 20; refine (HQ.out _ _ _ K11.out).mono ?_; rintro e w5 ⟨rfl, hw5⟩; subst w5))
      go_ret
      exact ⟨rfl, HB9.out _ _ _ _ K11.out⟩
  · rw [hk]
    have H5 := Lib.hid (fun d W (h : Dk A w d ⟨100000, 4, true, [(2, part, rest)]⟩ [dur bx (L old), dur tm (L data)] [] W) => rn6 (L old) (L data) part rest ⟨hp, hr⟩ h)
    have H7 := Lib.hid (fun d W (h : Dk A w d ⟨100000, 5, true, [(1, part, rest)]⟩ [dur bx (L data)] [] W) => rn8 (L data) part rest ⟨hp, hr⟩ h)
    go_upto_region 17 with (first | (go_at_call 12; refine (HP.out _ _ 2 (by decide) _ _ K6.out).mono ?_; rintro e w7 ⟨rfl, h7⟩; have K7 := Lib.hid h7; clear h7) | (go_at_call 13; refine (H5.out _ _ K7.out).mono ?_; rintro e w8 ⟨rfl, h8⟩; have K8 := Lib.hid h8; clear h8) | (go_at_call 14; refine (H7.out _ _ K8.out).mono ?_; rintro e w9 ⟨p9, rfl, h9⟩; have K9 := Lib.hid h9; clear h9))
    have ce : w9.cell? ⟨0, 0, none⟩ = some (whyV (A.at 93)) := K9.out.env.d
    have HI : Hid (∀ v b, (v = .nilIface ∧ b = false) ∨ (v = failV p9 ∧ b = true) → Calls Tryd.prog 15 #[v, whyV (A.at 93)] w9 fun e w' => e = .returned (.bool b) ∧ w' = w9) := Lib.hid (by
      rintro v b (⟨rfl, rfl⟩ | ⟨rfl, rfl⟩)
      · exact is_nil _ _
      · have h1 := IsD K9.out (p := p9) (op := sRemove) (name := nb) (step := 6) (code := 93) (by simp) 93
        rw [decide_eq_true rfl] at h1
        exact h1)
    have HD9 : Hid (Calls Tryd.prog 16 #[.pointer (some ⟨d, 0, none⟩)] w9 fun e w' => e = .returned (.bool true) ∧ w' = w9) := Lib.hid (DownD K9.out)
    have HS9 := Lib.hid (StartD K9.out (by show 1 ≤ 100000; decide))
    have HB9 : Hid (∀ W S P K, Dk A w d S P K W → Below w.heap.size w W) := Lib.hid (fun W S P K h => h.below)
    have HR := Lib.hid (fun W K (h : Dk A w d ⟨100000, 6, true, []⟩ (renP True (L old) (L data)) K W) => rnRd True old data K (by decide) h)
    have HZ := Lib.hid (fun W K (h : Dk A w d ⟨100000, 7, true, []⟩ (renP True (L old) (L data)) K W) => rnSz True old data K h)
    have HQ := Lib.hid (fun W P K (h : Dk A w d ⟨100000, 7, true, []⟩ P K W) => QuotaD h)
    rw [if_pos trivial] at HR HZ
    unfold whyV failV at *
    go_wp2_with (first | (go_at_call 15; refine (HI.out _ _ (by first | exact .inl ⟨rfl, rfl⟩ | exact .inr ⟨rfl, rfl⟩)).mono ?_; rintro e w5 ⟨rfl, hw5⟩; subst w5) | (go_at_call 16; refine HD9.out.mono ?_; rintro e w5 ⟨rfl, hw5⟩; subst w5) | (go_at_call 17; refine HS9.out.mono ?_; rintro e w10 ⟨rfl, h10⟩; have K10 := Lib.hid h10; clear h10) | (go_at_call 18; refine (HR.out _ _ K10.out).mono ?_; rintro e w11 ⟨rfl, h11⟩; have K11 := Lib.hid h11; clear h11) | (go_at_call 19; refine (HZ.out _ _ K11.out).mono ?_; rintro e w5 ⟨rfl, hw5⟩; subst w5) | (go_at_call 20; refine (HQ.out _ _ _ K11.out).mono ?_; rintro e w5 ⟨rfl, hw5⟩; subst w5))
    go_ret
    exact ⟨rfl, HB9.out _ _ _ _ K11.out⟩
theorem DiskRenames_walk (old data : ByteArray) (part rest at_ : Int) (w : World) (he : ∃ A B, Env A B w) (hp1 : -9223372036854775808 ≤ part) (hp2 : part ≤ 9223372036854775807) (hr1 : -9223372036854775808 ≤ rest) (hr2 : rest ≤ 9223372036854775807) :
    Calls Tryd.prog 3 #[.string old, .string data, .int .i64 part, .int .i64 rest, .int .i64 at_] w fun e w' => e = .returned (.bool true) ∧ Below w.heap.size w w' := by
  obtain ⟨A, B, he⟩ := he
  by_cases h : 20000 < old.size ∨ 20000 < data.size
  · exact ren_big he old data part rest at_ h
  · exact ren_walk he old data part rest at_ (by omega) (by omega) ⟨hp1, hp2⟩ ⟨hr1, hr2⟩
end Go.Proofs.YtgadmfbilmlnkaaDoor
