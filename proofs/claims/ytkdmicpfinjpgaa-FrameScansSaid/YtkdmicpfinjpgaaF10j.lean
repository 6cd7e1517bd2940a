/- frame: known. -/
import Derived.Test.YtkdmicpfinjpgaaF10i
namespace Go.Proofs.Ytkdmicpfinjpgaa
open Go.RowKit

theorem frm_known : frm 1 5 [97, 98] = [183, 1, 0, 0, 0, 5, 0, 0, 0, 2, 190, 53, 2, 41, 97, 98, 232, 90, 215, 49] := by decide +kernel
theorem crc_known : crc [49, 50, 51, 52, 53, 54, 55, 56, 57] = 3421780262 := by decide +kernel
theorem num_any (n : Int) (w : World) : Calls Try.prog 9 #[.int .i64 n] w fun e w' => e = .returned (.int .i64 n) ∧ w = w' := by
  go_enter Try.func9, Try.ntmps9
  go_wp2
  go_ret
  exact ⟨rfl, rfl⟩
set_option maxHeartbeats 1000000 in
theorem known1 (B k j : Nat) (w : World) (hk : k ≤ 100) (hc : w.cell? ⟨B, 0, none⟩ = some (.int .i64 (k : Int))) (hf : w.frozen? ⟨B, 0, none⟩ = false) (hp : B < w.heap.size) :
    Calls Try.prog 24 #[.int .i64 20, frV j 5 0 ⟨#[97, 98]⟩, .pointer (some ⟨B, 0, none⟩)] w fun e w' => e = .returned (.bool true) ∧ w' = (w.setCell ⟨B, 0, none⟩ (.int .i64 ((k + 1 : Nat) : Int))).alloc (.cells #[.int .i64 (j : Int), .int .i64 5, .int .i64 0, .string ⟨#[97, 98]⟩] 47) := by
  unfold frV
  have ht : (ByteArray.mk #[97, 98]).toList = [97, 98] := by decide +kernel
  go_enter Try.func24, Try.ntmps24
  go_wp2
  go_ret
  exact ⟨rfl, rfl⟩
/-- Known's own frame and one byte more. -/
def kS : ByteArray := S (frm 1 5 [97, 98])
def kX : ByteArray := S (frm 1 5 [97, 98] ++ [120])
theorem keeps {W W' : World} {b : Nat} {o : Obj} (h : Below W.heap.size W W') (hb : W.heap[b]? = some o) : W'.heap[b]? = some o := by
  rw [h.block b (Array.getElem?_eq_some_iff.1 hb).1]; exact hb
theorem heap_lt {W : World} {b : Nat} {o : Obj} (hb : W.heap[b]? = some o) : b < W.heap.size := (Array.getElem?_eq_some_iff.1 hb).1
/-- What known has in memory while its scan goes: how often it was told a frame, the text, the table. -/
structure Kn (w2 : World) (c : Nat) (W : World) : Prop where
  below : Below w2.heap.size w2 W
  num : W.heap[w2.heap.size]? = some (.cells #[.int .i64 (c : Int)] 3)
  str : W.heap[w2.heap.size + 1]? = some (.cells #[.string kX] 9)
  tab : W.heap[w2.heap.size + 2 + 2]? = some (.cells (tabC 256) 54)
theorem kX_frame : isF (L kX) ∧ (frAt (L kX) 0).ends = 20 ∧ (frAt (L kX) 0).kind = 1 ∧ (frAt (L kX) 0).num = 5 ∧ (frAt (L kX) 0).body = [97, 98] := by
  have h : okF 1 5 [97, 98] := by decide
  have h1 := isF_frm h [120]
  obtain ⟨g0, g1, g2, g6, _, _, _, _, gb⟩ := frm_bits 1 5 [97, 98] [120] (by decide) (by decide) (by decide)
  have e : L kX = frm 1 5 [97, 98] ++ [120] := rfl
  rw [e]
  refine ⟨h1, ?_, g1, g2, gb⟩
  rw [(frAt_ends (l := frm 1 5 [97, 98] ++ [120]) (i := 0) h1).1, show (0 + 6) = 6 from rfl, g6]
  rfl
theorem kX_end : ¬ isF ((L kX).drop 20) := by
  intro h
  have := h.1
  rw [List.length_drop, show (L kX).length = 21 from by show (frm 1 5 [97, 98] ++ [120]).length = 21; rw [List.length_append, frm_length]; rfl] at this
  omega
set_option maxHeartbeats 2000000 in
theorem known_any (w : World) : Calls Try.prog 12 #[] w fun e w' => e = .returned (.bool true) ∧ Below w.heap.size w w' := by
  have hmf : ∀ (fn : Fn) (first cap : Array Value) (w : World), (Instr.makeFunc fn first cap).run Try.prog w = .ok (.func fn first cap) w := fun _ _ _ _ => rfl
  have hnf : ∀ (k : Fn) (a b : Array Value) (w : World), Sem.run Try.prog (binOp BinOp.eql 39 (Value.func k a b) Value.nilFunc) w = .ok (.bool false) w := fun _ _ _ _ => by kernel_rfl
  have hE : ∀ W, Calls Try.prog 8 #[.int .i64 1, .int .i64 5, .string ⟨#[97, 98]⟩] W fun e w' => e = .returned (.tuple #[.string kS, .int .i64 0]) ∧ Below W.heap.size W w' := fun W => Encode_ok 1 5 ⟨#[97, 98]⟩ W (by decide)
  have hS : ∀ W, Calls Try.prog 23 #[.string ⟨#[49, 50, 51, 52, 53, 54, 55, 56, 57]⟩] W fun e w' => e = .returned (.int .i64 3421780262) ∧ Below W.heap.size W w' := fun W => by
    have := Sum_any ⟨#[49, 50, 51, 52, 53, 54, 55, 56, 57]⟩ W (by decide)
    rw [show L ⟨#[49, 50, 51, 52, 53, 54, 55, 56, 57]⟩ = [49, 50, 51, 52, 53, 54, 55, 56, 57] from rfl, crc_known] at this
    exact this
  have hZ : ∀ W, Calls Try.prog 10 #[.int .i64 20] W fun e w' => e = .returned (.int .i64 38) ∧ W = w' := fun W => Size_nat 20 W (by decide)
  have k1 : kS.size = 20 := by show (frm 1 5 [97, 98]).length = 20; rw [frm_length]; rfl
  have k2 : (kS[0]'(by rw [k1]; decide)).toNat = 183 := by
    have : kS[0]'(by rw [k1]; decide) = (frm 1 5 [97, 98])[0]'(by rw [frm_length]; decide) := rfl
    rw [this]; simp only [frm_known]; rfl
  have k3 : (kS[5]'(by rw [k1]; decide)).toNat = 5 := by
    have : kS[5]'(by rw [k1]; decide) = (frm 1 5 [97, 98])[5]'(by rw [frm_length]; decide) := rfl
    rw [this]; simp only [frm_known]; rfl
  have k4 : kS.extract 14 16 = ⟨#[97, 98]⟩ := by
    have : L (kS.extract 14 16) = [97, 98] := by rw [L_extract, show L kS = frm 1 5 [97, 98] from rfl, frm_known]; rfl
    exact (congrArg S this : S (L (kS.extract 14 16)) = S [97, 98])
  have k5 : kS ++ (⟨#[120]⟩ : ByteArray) = kX := by
    apply ByteArray.ext; unfold kS kX S; simp [ByteArray.data_append]
  have HE := Lib.hid hE
  have HS := Lib.hid hS
  have HZ := Lib.hid hZ
  have kk : (ByteArray.mk #[97, 98]).toList = [97, 98] := by decide +kernel
  clear hE hS hZ
  generalize kS = s at *
  go_enter Try.func12, Try.ntmps12
  go_wp2_with fail
  refine (HE.out _).mono ?_
  rintro e w1 ⟨rfl, hb1⟩
  have HB1 := Lib.hid hb1
  clear hb1 HE
  go_wp2_with (go_at_call 9; with_reducible refine (num_any _ _).mono ?_; rintro e w2 ⟨rfl, rfl⟩)
  refine (HS.out _).mono ?_
  rintro e w2 ⟨rfl, hb2⟩
  have hb3 := HB1.out.trans (hb2.mono HB1.out.size)
  have HB := Lib.hid hb3
  clear hb2 hb3 HB1 HS
  go_wp2_with fail
  refine (HZ.out _).mono ?_
  rintro e w3 ⟨rfl, rfl⟩
  clear HZ
  go_wp2_with fail
  refine (Scan_any kX _).mono ?_
  rintro e w3 ⟨rfl, hw3⟩
  have hsz : (w2.alloc (.cells #[.int .i64 0] 3)).heap.size = w2.heap.size + 1 := by simp
  rw [hsz]
  have hK : ∀ W, Below w3.heap.size w3 W → W.heap[w3.heap.size + 2]? = some (.cells (tabC 256) 54) → Kn w2 0 W := by
    intro W hb ht
    have h1 : w3.heap[w2.heap.size]? = some (.cells #[.int .i64 0] 3) := by
      rw [hw3]; exact heap_alloc_two w2 _ _
    have h2 : w3.heap[w2.heap.size + 1]? = some (.cells #[.string kX] 9) := by
      rw [hw3, ← hsz]; exact heap_alloc_last _ _
    have h3 : w3.heap.size = w2.heap.size + 2 := by rw [hw3]; simp
    have h4 : Below w2.heap.size w2 w3 := by rw [hw3]; exact ((Below.refl _ _).alloc (Nat.le_refl _) _).alloc (by simp) _
    rw [h3] at ht
    exact ⟨h4.trans (hb.mono (by rw [h3]; omega)), keeps hb h1, keeps hb h2, ht⟩
  have h3 : w3.heap.size = w2.heap.size + 2 := by rw [hw3]; simp
  have HK := Lib.hid hK
  have H3 := Lib.hid h3
  clear hK hw3 hsz h3
  go_wp2_with fail
  have hscan := scanK kX ⟨w2.heap.size + 1, 0, none⟩ ⟨w2.heap.size, 0, none⟩ w3 (by decide +kernel)
    (fun i a W => (i = 0 ∧ Kn w2 0 W) ∨ (i = 20 ∧ Kn w2 1 W)) (fun _ => False)
    (fun i a W h => by rw [H3.out]; rcases h with h | h <;> exact h.2.tab)
    (fun i a W h => by rcases h with h | h <;> exact cell_of_row _ _ 0 _ _ _ h.2.str)
    (fun i a W W' h hb => by
      rcases h with ⟨h0, h⟩ | ⟨h0, h⟩
      · exact .inl ⟨h0, h.below.trans (hb.mono h.below.size), keeps hb h.num, keeps hb h.str, keeps hb h.tab⟩
      · exact .inr ⟨h0, h.below.trans (hb.mono h.below.size), keeps hb h.num, keeps hb h.str, keeps hb h.tab⟩)
    (fun i a W hF hn h => by
      rcases h with ⟨rfl, h⟩ | ⟨rfl, h⟩
      · obtain ⟨_, q1, q2, q3, q4⟩ := kX_frame
        rw [q1, q2, q3, q4]
        refine (known1 w2.heap.size 0 1 W (by decide) (cell_of_row _ _ 0 _ _ _ h.num) (frozen_of_row _ _ 0 _ _ h.num) (heap_lt h.num)).mono ?_
        rintro e W' ⟨rfl, rfl⟩
        refine ⟨true, rfl, fun _ => .inr ⟨rfl, ?_⟩, fun hx => by cases hx⟩
        have hz : W.heap.size = (W.setCell ⟨w2.heap.size, 0, none⟩ (.int .i64 ((0 + 1 : Nat) : Int))).heap.size := by simp
        have hne1 : w2.heap.size + 1 ≠ w2.heap.size := by omega
        have hne2 : w2.heap.size + 2 + 2 ≠ w2.heap.size := by omega
        refine ⟨(h.below.setCell (p := ⟨w2.heap.size, 0, none⟩) (Nat.le_refl _) _).alloc (by rw [← hz]; exact h.below.size) _, ?_, ?_, ?_⟩
        · rw [Below.heap_alloc _ _ _ (by rw [← hz]; exact heap_lt h.num), heap_setCell_same _ _ 0 _ _ _ h.num]; rfl
        · rw [Below.heap_alloc _ _ _ (by rw [← hz]; exact heap_lt h.str), heap_setCell_other _ _ _ _ hne1]; exact h.str
        · rw [Below.heap_alloc _ _ _ (by rw [← hz]; exact heap_lt h.tab), heap_setCell_other _ _ _ _ hne2]; exact h.tab
      · exact absurd hF kX_end)
    (fun W hb ht => .inl ⟨rfl, HK.out W hb ht⟩)
  refine hscan.mono ?_
  clear hscan
  rintro e w4 ⟨rfl, h4⟩
  have hk : Kn w2 1 w4 := by
    rcases h4 with ⟨i, a, h | h, hno⟩ | h
    · obtain ⟨rfl, h⟩ := h
      exact absurd ⟨kX_frame.1, fun h => absurd h (Nat.lt_irrefl 0)⟩ hno
    · exact h.2
    · exact absurd h id
  have hc := cell_of_row _ _ 0 _ _ _ hk.num
  have HKN := Lib.hid hk
  clear h4 hk HK H3 hmf hnf
  go_wp2_with fail
  go_ret
  exact ⟨rfl, HB.out.trans (HKN.out.below.mono HB.out.size)⟩
end Go.Proofs.Ytkdmicpfinjpgaa
