/- DiskRenames: the walk. -/
import Derived.Test.YtgadmfbilmlnkabGreatDoorD9zd
namespace Go.Proofs.YtgadmfbilmlnkabGreatDoor
open Go.RowKit Go.Lib

theorem Dk.below {A : Whys} {w0 w : World} {d : Nat} {S : DS} {P : List PF} {K : List (Nat × Obj)} (h : Dk A w0 d S P K w) : Below w0.heap.size w0 w := by obtain ⟨m, sv, clk, F, _, _, hb, _⟩ := h; exact hb
theorem Dk.env {A : Whys} {w0 w : World} {d : Nat} {S : DS} {P : List PF} {K : List (Nat × Obj)} (h : Dk A w0 d S P K w) : Env A w0.heap.size w := by obtain ⟨m, sv, clk, F, _, _, _, he, _⟩ := h; exact he
theorem and_one (x : Int) : bits .and .i64 x 1 = 0 ∨ bits .and .i64 x 1 = 1 := by
  have key : ∀ y : BitVec 64, y &&& BitVec.ofInt 64 1 = 0#64 ∨ y &&& BitVec.ofInt 64 1 = 1#64 := by
    intro y
    have h1 : (y &&& BitVec.ofInt 64 1).toNat = y.toNat % 2 := by
      rw [BitVec.toNat_and]
      have : (BitVec.ofInt 64 1).toNat = 1 := by decide
      rw [this, Nat.and_one_is_mod]
    rcases Nat.mod_two_eq_zero_or_one y.toNat with h | h
    · exact .inl (BitVec.eq_of_toNat_eq (by rw [h1, h]; rfl))
    · exact .inr (BitVec.eq_of_toNat_eq (by rw [h1, h]; rfl))
  show IntKind.i64.wrap ((BitVec.ofInt 64 x &&& BitVec.ofInt 64 1).toNat : Int) = 0 ∨ IntKind.i64.wrap ((BitVec.ofInt 64 x &&& BitVec.ofInt 64 1).toNat : Int) = 1
  rcases key (BitVec.ofInt 64 x) with h | h
  · left; rw [h]; decide
  · right; rw [h]; decide
theorem k_two (x : Int) : wrap64 (1 + bits .and .i64 x 1) = 1 ∨ wrap64 (1 + bits .and .i64 x 1) = 2 := by
  rcases and_one x with h | h
  · left; rw [h]; unfold wrap64; decide
  · right; rw [h]; unfold wrap64; decide
theorem rnP {A : Whys} {w0 w : World} {d : Nat} {P : List PF} {K : List (Nat × Obj)} (h : Dk A w0 d ⟨100000, 4, true, []⟩ P K w) (k y z : Int) (hk : 1 ≤ k) :
    Calls Tryz.prog 21 #[.pointer (some ⟨d, 0, none⟩), .slice (some ⟨w.heap.size, 0, none⟩) 1 1] (w.alloc (.cells #[.int .i64 k, .int .i64 y, .int .i64 z] 61)) fun e w' => e = .returned (.tuple #[]) ∧ Dk A w0 d ⟨100000, 4, true, [(k, y, z)]⟩ P K w' := by
  have hh := heap_alloc_new w (.cells #[.int .i64 k, .int .i64 y, .int .i64 z] 61)
  have hp : planP [(k, y, z)] = [(k, y, z)] := by
    unfold planP
    simp [hk]
  have := PlanD h (by show 1 ≤ 100000; decide) [(k, y, z)] #[.int .i64 k, .int .i64 y, .int .i64 z] (by show 1 ≤ 1000000000; decide) (by
    intro i hi s hs
    have hi : i < 1 := hi
    obtain rfl : i = 0 := by omega
    injection hs with hs
    subst hs
    exact ⟨cell_of hh 0, cell_of hh 1, cell_of hh 2⟩) 1
  rw [hp] at this
  exact this
theorem rnRd {A : Whys} {w0 w : World} {d n : Nat} (done : Prop) [Decidable done] (old data : ByteArray) (K : List (Nat × Obj)) (hn : n < 1000000000) (h : Dk A w0 d ⟨100000, n, true, []⟩ (renP done (L old) (L data)) K w) :
    Calls Tryz.prog 12 #[.pointer (some ⟨d, 0, none⟩), .string bx] w fun e w' => e = .returned (.tuple #[.string (if done then data else old), .nilIface]) ∧ Dk A w0 d ⟨100000, n + 1, true, []⟩ (renP done (L old) (L data)) K w' := by
  have e : S (if done then L data else L old) = (if done then data else old) := by split <;> rw [S_L]
  rw [← e]
  exact rn9 _ K _ (renP_find done (L old) (L data)) hn h
theorem rnSz {A : Whys} {w0 w : World} {d n : Nat} (done : Prop) [Decidable done] (old data : ByteArray) (K : List (Nat × Obj)) (h : Dk A w0 d ⟨100000, n, true, []⟩ (renP done (L old) (L data)) K w) :
    Calls Tryz.prog 60 #[.pointer (some ⟨d, 0, none⟩), .string tm] w fun e w' => e = .returned (.int .i64 (if done then -1 else (data.size : Int))) ∧ w' = w := by
  have := SizeD h tm
  rw [size_tm, L_length] at this
  exact this
end Go.Proofs.YtgadmfbilmlnkabGreatDoor
