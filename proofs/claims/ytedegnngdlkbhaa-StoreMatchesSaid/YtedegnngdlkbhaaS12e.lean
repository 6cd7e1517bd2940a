/- store: begun$1, begun. -/
import Derived.Test.YtedegnngdlkbhaaS12d
import Derived.Laws.MakeOwn
import Derived.OwnWalk
namespace Go.Proofs.Ytedegnngdlkbhaa
open Go.RowKit

def zrow (n : Nat) : Obj := .cells (Array.replicate n (.int .u64 0)) 45
theorem Try.infoWord : (Try.prog.info? 45).map (fun i => (i.zero, i.size, i.bytes)) = some (some (.int .u64 0), 1, 8) := by kernel_rfl
theorem make_words (n : Nat) (hn : n ≤ 1099511627776) (w : World) :
    (Instr.makeSlice 31 (.int .i64 (n : Int)) (.int .i64 (n : Int))).run Try.prog w = .ok (.slice (some ⟨w.heap.size, 0, none⟩) n n) (w.alloc (zrow n)) := by
  obtain ⟨i0, hi, hz0, hz1, hz2⟩ := info_parts Try.infoWord
  have h := run_make (P := Try.prog) w 31 45 i0 (.int .u64 0) Try.underlying31 hi hz0 .i64 .i64 (n : Int) (n : Int) (by omega) (Int.le_refl _) (by rw [hz2]; omega) (by omega)
  rw [h]
  have e : madeCells (Value.int .u64 0).cells (((n : Int)).toNat * i0.size) = Array.replicate n (.int .u64 0) := by
    rw [hz1, Int.toNat_natCast, Nat.mul_one]
    apply Array.ext
    · simp [madeCells]
    · intro i h1 h2
      simp [madeCells, Value.cells, Nat.mod_one]
  rw [e, Int.toNat_natCast]; rfl

set_option maxHeartbeats 400000 in
theorem none_any (b m n : Nat) (w : World) (hn : n = m / 64 + 1) (hnn : n ≤ 1099511627776) (hc : w.cell? ⟨b, 0, none⟩ = some (.int .i64 (m : Int))) :
    Calls Try.prog 20 #[.pointer (some ⟨b, 0, none⟩)] w fun e w' => e = .returned (.slice (some ⟨w.heap.size, 0, none⟩) n n) ∧ w' = w.alloc (zrow n) := by
  have hm := make_words n hnn w
  have e1 : (m : Int) / 64 + 1 = (n : Int) := by omega
  clear hn
  go_enter Try.func20, Try.ntmps20
  go_wp2
  go_ret
  exact ⟨rfl, rfl⟩

def wzc : Array Value := Array.replicate 259 (.slice none 0 0) ++ #[.int .i64 0, .int .i64 0]
theorem Try.infoWalk : (Try.prog.info? 36).map (fun i => i.zero) = some (some (.agg wzc)) := by kernel_rfl
theorem wz_zero (w : World) : (zeroValue 36).run Try.prog w = .ok (.agg wzc) w := by
  obtain ⟨i, hi, hz⟩ := Option.map_eq_some_iff.1 Try.infoWalk
  simp [zeroValue, typeInfo, hi, hz]

/-- What begun has made of the pattern so far. -/
structure Bg (H m n : Nat) (ah : Nat → Option Nat) (q : List UInt8) (X : World) : Prop where
  wk : Wk X (H + 2) (H + 1) (H + 3) (H + 4) n ah q (fun _ => false) 0 0
  box : X.heap[H]? = some (.cells #[.int .i64 (m : Int)] 3 (0, 0))
  hi : ∀ c, c < 256 → ∀ B, ah c = some B → H + 5 ≤ B ∧ B < X.heap.size ∧ ∀ c', c' < 256 → ah c' = some B → c' = c
  size : H + 5 ≤ X.heap.size
theorem PlR.zrow {w : World} {B n : Nat} (h : w.heap[B]? = some (zrow n)) : PlR w B n (fun _ => false) := by
  unfold Go.Proofs.Ytedegnngdlkbhaa.zrow at h
  refine ⟨fun i hi => ?_, fun i _ => frozen_of_row w _ i _ _ h⟩
  rw [cell_of_row w _ i _ _ _ h]
  have e : wd (fun _ => false) i = 0 := (wd_zero _ _).2 (fun _ _ => rfl)
  rw [e]; simp [hi]
theorem PlR.congr {w : World} {B n : Nat} {f g : Nat → Bool} (h : PlR w B n f) (e : ∀ j, f j = g j) : PlR w B n g := by
  have : f = g := funext e
  rw [← this]; exact h
theorem Bg.drew {H m n : Nat} {ah : Nat → Option Nat} {q : List UInt8} {X : World} (h : Bg H m n ah q X) : Bg H m n ah q X.drew := ⟨h.wk.drew, h.box, h.hi, h.size⟩
theorem set_other (X : World) (B k : Nat) (v : Value) (b : Nat) (h : b ≠ B) : (X.setCell ⟨B, k, none⟩ v).heap[b]? = X.heap[b]? := Below.heap_setCell _ _ _ _ h
theorem add_words (f : Nat → Bool) (k i : Nat) (h : i ≠ k / 64) : wd f i = wd (fun j => f j || j == k) i :=
  wd_congr _ _ _ (fun b _ => by
    have : (64 * i + b == k) = false := by rw [beq_eq_false_iff_ne]; omega
    rw [this, Bool.or_false])
/-- A row that took a place. -/
theorem PlR.took {X : World} {B n k : Nat} {f : Nat → Bool} (h : PlR X B n f) (hk : k / 64 < n) : PlR (X.setCell ⟨B, k / 64, none⟩ (.int .u64 ((wd (fun j => f j || j == k) (k / 64) : Nat) : Int))).drew B n (fun j => f j || j == k) :=
  (h.set (k / 64) hk _ rfl (fun i _ hi => add_words f k i hi)).drew
theorem any_letter (q : List UInt8) (c : UInt8) (hc : isW c = false) (j : Nat) : anyA q j = anyA (q ++ [c]) j := by unfold anyA; rw [wAt_snoc, hc]; simp
theorem pass_letter (q : List UInt8) (c : UInt8) (hc : isW c = false) (j : Nat) : passA q j = passA (q ++ [c]) j := by unfold passA; rw [wAt_snoc, hc]; simp
theorem any_pct (q : List UInt8) (j : Nat) : anyA q j = anyA (q ++ [37]) j := by unfold anyA; rw [wAt_snoc]; simp
theorem any_star (q : List UInt8) (j : Nat) : (anyA q j || j == (ltr q).length) = anyA (q ++ [42]) j := by
  have e := wAt_snoc (fun c => c == 42) q 42 j
  unfold anyA; rw [e]; rfl
theorem pass_wild (q : List UInt8) (c : UInt8) (hc : isW c = true) (j : Nat) : (passA q j || j == (ltr q).length) = passA (q ++ [c]) j := by
  have e := wAt_snoc (fun _ => true) q c j
  unfold passA; rw [e, hc]; rfl
theorem has_wild (q : List UInt8) (c a : UInt8) (hc : isW c = true) (j : Nat) : hasL q a j = hasL (q ++ [c]) a j := by unfold hasL; rw [ltr_snoc, hc]; rfl
theorem has_letter (q : List UInt8) (c : UInt8) (hc : isW c = false) (j : Nat) : (hasL q c j || j == (ltr q).length) = hasL (q ++ [c]) c j := by
  unfold hasL; rw [ltr_snoc, hc]
  simp only [Bool.false_eq_true, if_false]
  by_cases h : j < (ltr q).length
  · rw [List.getElem?_append_left h]
    have : (j == (ltr q).length) = false := by rw [beq_eq_false_iff_ne]; omega
    rw [this, Bool.or_false]
  · by_cases e : j = (ltr q).length
    · subst e; simp
    · have h1 : (j == (ltr q).length) = false := by rw [beq_eq_false_iff_ne]; exact e
      rw [List.getElem?_eq_none (by omega), List.getElem?_eq_none (by simp; omega), h1, Bool.or_false]
theorem has_other (q : List UInt8) (c a : UInt8) (hc : isW c = false) (ha : a ≠ c) (j : Nat) : hasL q a j = hasL (q ++ [c]) a j := by
  unfold hasL; rw [ltr_snoc, hc]
  simp only [Bool.false_eq_true, if_false]
  by_cases h : j < (ltr q).length
  · rw [List.getElem?_append_left h]
  · rw [List.getElem?_eq_none (by omega)]
    by_cases e : j = (ltr q).length
    · subst e; simp; exact fun e => ha e.symm
    · rw [List.getElem?_eq_none (by simp; omega)]
theorem Bg.pct {H m n : Nat} {ah : Nat → Option Nat} {q : List UInt8} {X : World} (h : Bg H m n ah q X) (hk : (ltr q).length / 64 < n) :
    Bg H m n ah (q ++ [37]) (X.setCell ⟨H + 3, (ltr q).length / 64, none⟩ (.int .u64 ((wd (fun j => passA q j || j == (ltr q).length) ((ltr q).length / 64) : Nat) : Int))).drew := by
  have o : ∀ b, b ≠ H + 3 → (X.setCell ⟨H + 3, (ltr q).length / 64, none⟩ (.int .u64 ((wd (fun j => passA q j || j == (ltr q).length) ((ltr q).length / 64) : Nat) : Int))).drew.heap[b]? = X.heap[b]? := fun b hb => set_other _ _ _ _ b hb
  exact ⟨⟨h.wk.blk.same (o _ (by omega)), (h.wk.pas.took hk).congr (pass_wild q 37 rfl), (h.wk.any.same (o _ (by omega))).congr (any_pct q), h.wk.att.same (o _ (by omega)),
    fun c hc B hB => ⟨((h.wk.ahs c hc B hB).1.same (o _ (by have := (h.hi c hc B hB).1; omega))).congr (has_wild q 37 _ rfl), (h.wk.ahs c hc B hB).2⟩, fun c hc e j => by rw [← has_wild q 37 _ rfl]; exact h.wk.ahn c hc e j, h.wk.d1, h.wk.d2, h.wk.d3, h.wk.d4, h.wk.d5⟩,
    (o _ (by omega)).trans h.box, fun c hc B hB => ⟨(h.hi c hc B hB).1, by simpa [World.setCell] using (h.hi c hc B hB).2.1, (h.hi c hc B hB).2.2⟩, by simpa [World.setCell] using h.size⟩
theorem Bg.star {H m n : Nat} {ah : Nat → Option Nat} {q : List UInt8} {X : World} (h : Bg H m n ah q X) (hk : (ltr q).length / 64 < n) :
    Bg H m n ah (q ++ [42]) ((X.setCell ⟨H + 4, (ltr q).length / 64, none⟩ (.int .u64 ((wd (fun j => anyA q j || j == (ltr q).length) ((ltr q).length / 64) : Nat) : Int))).drew.setCell ⟨H + 3, (ltr q).length / 64, none⟩ (.int .u64 ((wd (fun j => passA q j || j == (ltr q).length) ((ltr q).length / 64) : Nat) : Int))).drew := by
  have o1 : ∀ b, b ≠ H + 4 → (X.setCell ⟨H + 4, (ltr q).length / 64, none⟩ (.int .u64 ((wd (fun j => anyA q j || j == (ltr q).length) ((ltr q).length / 64) : Nat) : Int))).drew.heap[b]? = X.heap[b]? := fun b hb => set_other _ _ _ _ b hb
  have a1 := h.wk.any.took hk
  have s1 : (X.setCell ⟨H + 4, (ltr q).length / 64, none⟩ (.int .u64 ((wd (fun j => anyA q j || j == (ltr q).length) ((ltr q).length / 64) : Nat) : Int))).drew.heap.size = X.heap.size := by simp [World.setCell]
  generalize (X.setCell ⟨H + 4, (ltr q).length / 64, none⟩ (.int .u64 ((wd (fun j => anyA q j || j == (ltr q).length) ((ltr q).length / 64) : Nat) : Int))).drew = Y at o1 a1 s1
  have o2 : ∀ b, b ≠ H + 3 → (Y.setCell ⟨H + 3, (ltr q).length / 64, none⟩ (.int .u64 ((wd (fun j => passA q j || j == (ltr q).length) ((ltr q).length / 64) : Nat) : Int))).drew.heap[b]? = Y.heap[b]? := fun b hb => set_other _ _ _ _ b hb
  have o : ∀ b, b ≠ H + 3 → b ≠ H + 4 → (Y.setCell ⟨H + 3, (ltr q).length / 64, none⟩ (.int .u64 ((wd (fun j => passA q j || j == (ltr q).length) ((ltr q).length / 64) : Nat) : Int))).drew.heap[b]? = X.heap[b]? := fun b h1 h2 => (o2 b h1).trans (o1 b h2)
  exact ⟨⟨h.wk.blk.same (o _ (by omega) (by omega)), ((h.wk.pas.same (o1 _ (by omega))).took hk).congr (pass_wild q 42 rfl), (a1.same (o2 _ (by omega))).congr (any_star q), h.wk.att.same (o _ (by omega) (by omega)),
    fun c hc B hB => ⟨((h.wk.ahs c hc B hB).1.same (o _ (by have := (h.hi c hc B hB).1; omega) (by have := (h.hi c hc B hB).1; omega))).congr (has_wild q 42 _ rfl), (h.wk.ahs c hc B hB).2⟩, fun c hc e j => by rw [← has_wild q 42 _ rfl]; exact h.wk.ahn c hc e j, h.wk.d1, h.wk.d2, h.wk.d3, h.wk.d4, h.wk.d5⟩,
    (o _ (by omega) (by omega)).trans h.box, fun c hc B hB => ⟨(h.hi c hc B hB).1, by simpa [World.setCell, s1] using (h.hi c hc B hB).2.1, (h.hi c hc B hB).2.2⟩, by simpa [World.setCell, s1] using h.size⟩
theorem Bg.letter {H m n : Nat} {ah : Nat → Option Nat} {q : List UInt8} {X : World} (h : Bg H m n ah q X) (hk : (ltr q).length / 64 < n) (c : UInt8) (hc : isW c = false) (B : Nat) (hB : ah c.toNat = some B) :
    Bg H m n ah (q ++ [c]) (X.setCell ⟨B, (ltr q).length / 64, none⟩ (.int .u64 ((wd (fun j => hasL q c j || j == (ltr q).length) ((ltr q).length / 64) : Nat) : Int))).drew := by
  have hB5 := (h.hi c.toNat c.toNat_lt B hB).1
  have o : ∀ b, b ≠ B → (X.setCell ⟨B, (ltr q).length / 64, none⟩ (.int .u64 ((wd (fun j => hasL q c j || j == (ltr q).length) ((ltr q).length / 64) : Nat) : Int))).drew.heap[b]? = X.heap[b]? := fun b hb => set_other _ _ _ _ b hb
  refine ⟨⟨h.wk.blk.same (o _ (by omega)), (h.wk.pas.same (o _ (by omega))).congr (pass_letter q c hc), (h.wk.any.same (o _ (by omega))).congr (any_letter q c hc), h.wk.att.same (o _ (by omega)),
    fun c' hc' B' hB' => ⟨?_, (h.wk.ahs c' hc' B' hB').2⟩, fun c' hc' e j => ?_, h.wk.d1, h.wk.d2, h.wk.d3, h.wk.d4, h.wk.d5⟩,
    (o _ (by omega)).trans h.box, fun c hc B hB => ⟨(h.hi c hc B hB).1, by simpa [World.setCell] using (h.hi c hc B hB).2.1, (h.hi c hc B hB).2.2⟩, by simpa [World.setCell] using h.size⟩
  · by_cases e : c' = c.toNat
    · subst e
      rw [hB] at hB'
      obtain rfl := Option.some.inj hB'
      have := (h.wk.ahs c.toNat hc' B hB).1
      rw [UInt8.ofNat_toNat] at this ⊢
      exact (this.took hk).congr (has_letter q c hc)
    · have hne : B' ≠ B := fun e' => by subst e'; exact e ((h.hi c.toNat c.toNat_lt B' hB).2.2 c' hc' hB')
      refine ((h.wk.ahs c' hc' B' hB').1.same (o _ hne)).congr (has_other q c _ hc (fun e' => e ?_))
      rw [← e', UInt8.toNat_ofNat_of_lt' hc']
  · rw [← has_other q c _ hc (fun e' => ?_)]
    · exact h.wk.ahn c' hc' e j
    · rw [← e', UInt8.toNat_ofNat_of_lt' hc', e] at hB; cases hB
theorem Bg.grow {H m n : Nat} {ah : Nat → Option Nat} {q : List UInt8} {X : World} (h : Bg H m n ah q X) (c : UInt8) (hB : ah c.toNat = none) :
    Bg H m n (fun x => if x = c.toNat then some X.heap.size else ah x) q ((X.alloc (zrow n)).setCell ⟨H + 2, c.toNat, none⟩ (.slice (some ⟨X.heap.size, 0, none⟩) n n)) := by
  have hs := h.size
  have hc8 := c.toNat_lt
  have hc8' : c.toNat < 256 := hc8
  have o1 : ∀ b, b < X.heap.size → (X.alloc (zrow n)).heap[b]? = X.heap[b]? := fun b hb => Below.heap_alloc _ _ _ hb
  have o2 : ∀ b, b ≠ H + 2 → ((X.alloc (zrow n)).setCell ⟨H + 2, c.toNat, none⟩ (.slice (some ⟨X.heap.size, 0, none⟩) n n)).heap[b]? = (X.alloc (zrow n)).heap[b]? := fun b hb => set_other _ _ _ _ b hb
  have o : ∀ b, b < X.heap.size → b ≠ H + 2 → ((X.alloc (zrow n)).setCell ⟨H + 2, c.toNat, none⟩ (.slice (some ⟨X.heap.size, 0, none⟩) n n)).heap[b]? = X.heap[b]? := fun b h1 h2 => (o2 b h2).trans (o1 b h1)
  have zs : ((X.alloc (zrow n)).setCell ⟨H + 2, c.toNat, none⟩ (.slice (some ⟨X.heap.size, 0, none⟩) n n)).heap.size = X.heap.size + 1 := by simp [World.setCell]
  refine ⟨⟨?_, h.wk.pas.same (o _ (by omega) (by omega)), h.wk.any.same (o _ (by omega) (by omega)), h.wk.att.same (o _ (by omega) (by omega)), fun c' hc' B' hB' => ?_, fun c' hc' e j => ?_, h.wk.d1, h.wk.d2, h.wk.d3, h.wk.d4, h.wk.d5⟩,
    (o _ (by omega) (by omega)).trans h.box, fun c' hc' B' hB' => ?_, by omega⟩
  · refine (h.wk.blk.same (o1 _ (by omega))).put c.toNat _ (by omega) (fun c' hc' => ?_) (by rw [if_neg (by omega)]) (by rw [if_neg (by omega)]) (by rw [if_neg (by omega)]) (by rw [if_neg (by omega)]) (by rw [if_neg (by omega)])
    by_cases e : c' = c.toNat
    · subst e; simp [sl]
    · simp [e]
  · by_cases e : c' = c.toNat
    · subst e
      simp only [if_true] at hB'
      obtain rfl := Option.some.inj hB'
      refine ⟨?_, by omega, by omega⟩
      have hz : PlR ((X.alloc (zrow n)).setCell ⟨H + 2, c.toNat, none⟩ (.slice (some ⟨X.heap.size, 0, none⟩) n n)) X.heap.size n (fun _ => false) := by
        apply PlR.zrow
        rw [o2 _ (by omega)]; exact heap_alloc_new _ _
      refine hz.congr (fun j => ?_)
      rw [h.wk.ahn c.toNat hc' hB j]
    · simp only [if_neg e] at hB'
      exact ⟨(h.wk.ahs c' hc' B' hB').1.same (o _ (h.hi c' hc' B' hB').2.1 (by have := (h.hi c' hc' B' hB').1; omega)), (h.wk.ahs c' hc' B' hB').2⟩
  · by_cases e' : c' = c.toNat
    · subst e'; simp at e
    · simp only [if_neg e'] at e; exact h.wk.ahn c' hc' e j
  · by_cases e : c' = c.toNat
    · subst e
      simp only [if_true] at hB'
      obtain rfl := Option.some.inj hB'
      refine ⟨by omega, by omega, fun c'' hc'' e'' => ?_⟩
      by_cases e : c'' = c.toNat
      · exact e
      · simp only [if_neg e] at e''
        have := (h.hi c'' hc'' _ e'').2.1; omega
    · simp only [if_neg e] at hB'
      have hh := h.hi c' hc' B' hB'
      refine ⟨hh.1, by omega, fun c'' hc'' e'' => ?_⟩
      by_cases e2 : c'' = c.toNat
      · subst e2
        simp only [if_true] at e''
        have := Option.some.inj e''
        omega
      · simp only [if_neg e2] at e''
        exact hh.2.2 c'' hc'' e''

end Go.Proofs.Ytedegnngdlkbhaa
