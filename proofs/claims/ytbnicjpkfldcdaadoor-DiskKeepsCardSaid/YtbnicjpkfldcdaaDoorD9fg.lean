/- Names and Peek of a disk that is kept. -/
import Derived.Test.YtbnicjpkfldcdaaDoorD9ya
import Derived.Test.YtbnicjpkfldcdaaDoorD9xa
namespace Go.Proofs.YtbnicjpkfldcdaaDoor
open Go.RowKit Go.Lib Go.Sort

theorem NamesD {A : Whys} {w0 w : World} {d : Nat} {S : DS} {P : List PF} {K : List (Nat × Obj)} (h : Dk A w0 d S P K w) (hP : P.length ≤ 1000000) :
    Calls Tryd.prog 28 #[.pointer (some ⟨d, 0, none⟩)] w fun e w' => ∃ (v : Value) (Ts : List (List UInt8)), e = .returned v ∧ Ts.Perm (P.map fun p => L p.name) ∧ Ts.Pairwise (fun x y => x ≤ y) ∧ w'.ownsRow w.heap.size 9 1 v Ts.length (Ts.map encStr) ∧ Below w.heap.size w w' := by
  obtain ⟨m, sv, clk, F, hD, rfl, hb, he, hK⟩ := h
  refine (Names_any hD (by simpa using hP)).mono ?_
  rintro e w' ⟨v, Ts, rfl, h1, h2, h3, h4⟩
  refine ⟨v, Ts, rfl, ?_, h2, h3, h4⟩
  rw [List.map_map]
  exact h1
theorem Peek_none {A : Whys} {w0 w : World} {d : Nat} {S : DS} {K : List (Nat × Obj)} (h : Dk A w0 d S [] K w) (n : ByteArray) :
    Calls Tryd.prog 15 #[.pointer (some ⟨d, 0, none⟩), .string n] w fun e w' => e = .returned (.tuple #[.string ⟨#[]⟩, .bool false]) ∧ w' = w := by
  obtain ⟨m, sv, clk, F, hD, hF, hb, he, hK⟩ := h
  have hF : F = [] := List.map_eq_nil_iff.1 hF
  subst hF
  have HF := Lib.hid (find_no hD n (fun g hg => by cases hg))
  clear hD hb he hK
  go_enter Tryd.func15, Tryd.ntmps15
  go_wp2_with (go_at_call 32; refine HF.out.mono ?_; rintro e w2 ⟨rfl, hw2⟩; subst w2)
  go_ret2
  exact ⟨rfl, rfl⟩
end Go.Proofs.YtbnicjpkfldcdaaDoor
