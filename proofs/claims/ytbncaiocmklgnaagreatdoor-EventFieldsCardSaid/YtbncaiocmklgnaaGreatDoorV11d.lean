/- event, plain: insertion sort as a fold; it is stable. -/
import Derived.Test.YtbncaiocmklgnaaGreatDoorV11c
namespace Go.Proofs.YtbncaiocmklgnaaGreatDoor
open Go.RowKit Go.Sort

section
variable {α : Type} (lt : α → α → Bool)
/-- An element goes among those ahead of it, the last one first. -/
def insRev (x : α) : List α → List α
  | [] => [x]
  | y :: t => if lt x y = true then y :: insRev x t else x :: y :: t
def sortL (l : List α) : List α := (l.foldl (fun rp x => insRev lt x rp) []).reverse
theorem insRev_length (x : α) (l : List α) : (insRev lt x l).length = l.length + 1 := by
  induction l with
  | nil => rfl
  | cons y t ih =>
    unfold insRev
    split
    · simp [ih]
    · simp
theorem foldl_insRev_length (l : List α) : ∀ rp : List α, (l.foldl (fun rp x => insRev lt x rp) rp).length = rp.length + l.length := by
  induction l with
  | nil => intro rp; simp
  | cons x l ih =>
    intro rp
    rw [List.foldl_cons, ih, insRev_length]
    simp; omega
theorem sortL_length (l : List α) : (sortL lt l).length = l.length := by
  unfold sortL
  rw [List.length_reverse, foldl_insRev_length]
  simp
variable [Inhabited α]
theorem get_mid (A : List α) (x : α) (C : List α) : ((A ++ x :: C).toArray)[A.length]! = x := by simp
theorem get_midp (A : List α) (y x : α) (C : List α) : ((A ++ y :: x :: C).toArray)[A.length + 1]! = x := by simp
theorem swp_mid (A : List α) (y x : α) (C : List α) : swp (A ++ y :: x :: C).toArray (A.length + 1) A.length = (A ++ x :: y :: C).toArray := by
  unfold swp
  rw [get_mid, get_midp]
  apply Array.ext'
  simp
theorem insInner_list (x : α) : ∀ (n : Nat) (A C : List α), A.length = n → insInner lt 0 n (A ++ x :: C).toArray = ((insRev lt x A.reverse).reverse ++ C).toArray := by
  intro n
  induction n with
  | zero =>
    intro A C h
    obtain rfl := List.eq_nil_of_length_eq_zero h
    rfl
  | succ n ih =>
    intro A C h
    obtain ⟨A', y, rfl⟩ : ∃ A' y, A = A' ++ [y] := by
      refine ⟨A.dropLast, A.getLast (by intro e; rw [e] at h; simp at h), (List.dropLast_concat_getLast _).symm⟩
    have hl : A'.length = n := by simpa using h
    subst hl
    rw [List.append_assoc]
    show insInner lt 0 (A'.length + 1) (A' ++ y :: x :: C).toArray = _
    unfold insInner
    rw [get_midp, get_mid, swp_mid]
    have hd : decide (A'.length + 1 > 0) = true := by simp
    rw [hd, Bool.true_and, List.reverse_append]
    show _ = ((insRev lt x (y :: A'.reverse)).reverse ++ C).toArray
    unfold insRev
    cases hlt : lt x y with
    | true =>
      rw [if_pos rfl, if_pos rfl, ih A' (y :: C) rfl]
      simp
    | false =>
      rw [if_neg (by decide), if_neg (by decide)]
      simp
theorem insOuter_list : ∀ (R SA : List α) (b : Nat), b = SA.length + R.length → insOuter lt 0 b SA.length (SA ++ R).toArray = (R.foldl (fun rp x => insRev lt x rp) SA.reverse).reverse.toArray := by
  intro R
  induction R with
  | nil =>
    intro SA b hb
    unfold insOuter
    rw [if_neg (by simp at hb; omega)]
    simp
  | cons x R ih =>
    intro SA b hb
    unfold insOuter
    rw [if_pos (by simp at hb; omega), insInner_list lt x SA.length SA R rfl]
    have hl : (insRev lt x SA.reverse).reverse.length = SA.length + 1 := by rw [List.length_reverse, insRev_length, List.length_reverse]
    have := ih (insRev lt x SA.reverse).reverse b (by rw [hl]; simp at hb; omega)
    rw [hl] at this
    rw [this, List.reverse_reverse]
    rfl
theorem sort_list (l : List α) : Sort.insertionSort lt l.toArray 0 l.length = (sortL lt l).toArray := by
  unfold Sort.insertionSort sortL
  cases l with
  | nil =>
    unfold insOuter
    rw [if_neg (by simp)]
    rfl
  | cons x R =>
    have := insOuter_list lt R [x] (x :: R).length (by simp; omega)
    exact this
end
/-- The keywords in their order. -/
def sortT (l : List Tx) : List Tx := sortL (ltOf cmpT) l
theorem sortT_length (l : List Tx) : (sortT l).length = l.length := sortL_length _ l
/-- A row of texts that may be written to, in block g. -/
structure RowAt (B g : Nat) (l : List Tx) (W0 w : World) : Prop where
  holds : Holds encT w g 0 l.toArray
  lt : g < w.heap.size
  lo : B ≤ g
  below : Below B W0 w
theorem SW.toBelow {B : Nat} {W0 w w' : World} {g : Nat} {d : Array Tx} (h : SW encT w g 0 d w') (hb : Below B W0 w) (hB : B ≤ g) (hg : g < w.heap.size) : Below B W0 w' := by
  obtain ⟨n, os, rfl⟩ := h
  have hsz : (putRow encT (Sort.ahead w n) g 0 d).heap.size = w.heap.size := by simp
  refine hb.trans ⟨rfl, rfl, rfl, ?_, fun k hk => ?_⟩
  · unfold sortWorld; rw [size_grow, hsz]; omega
  · unfold sortWorld
    rw [heap_grow_old _ _ (by rw [hsz]; omega)]
    unfold putRow mapBlock
    simp only [heap_ahead]
    rw [Array.getElem?_modify, if_neg (by omega)]
set_option maxHeartbeats 2000000 in
theorem stable_any {B g : Nat} {l : List Tx} {W0 w : World} (h : RowAt B g l W0 w) (hl : l.length < 20) (cap : Nat) :
    Calls Tryz.prog 20 #[.slice (some ⟨g, 0, none⟩) l.length cap, .func (.func 21) #[] #[]] w fun e w' => e = .returned (.tuple #[]) ∧ RowAt B g (sortT l) W0 w' := by
  have hR : Row1 encT w g 0 l.toArray := ⟨encT_one, h.holds, h.lt⟩
  have eg : ∀ args w, (callFunc 21 args).run Tryz.prog w = .ok (.enter 21 args) w := fun _ _ => by kernel_rfl
  have hIns := Any.insertionSortCmpFunc_s Tryz.laysIns encT cmpT 21 #[] g 0 cap 0 l.length l.toArray l.toArray w w eg (cmp_lays g 0 _ w) hR rfl (SW.start h.holds) (Nat.zero_le _) (by simp) (by simp; omega)
  rw [sort_list] at hIns
  have HI : Hid (Calls Tryz.prog 56 #[.slice (some ⟨g, 0, none⟩) l.length cap, .int .i64 0, .int .i64 (l.length : Nat), .func (.func 21) #[] #[]] w fun e w' => e = .returned (.tuple #[]) ∧ RowAt B g (sortT l) W0 w') := Lib.hid (by
    refine Calls.mono hIns ?_
    rintro e w' ⟨rfl, hS⟩
    refine ⟨rfl, ?_, SW.lt hS h.lt, h.lo, SW.toBelow hS h.below h.lo h.lt⟩
    exact SW.holds hS h.lt h.holds (by simp [sortT_length]))
  have h20 : ¬ (20 : Int) ≤ (l.length : Int) := by omega
  have h21 : ¬ (20 : Int) < (l.length : Int) := by omega
  clear hIns eg hR h
  have HC : Hid (Calls Tryz.prog 41 #[.slice (some ⟨g, 0, none⟩) l.length cap, .int .i64 (l.length : Nat), .func (.func 21) #[] #[]] w fun e w' => e = .returned (.tuple #[]) ∧ RowAt B g (sortT l) W0 w') := Lib.hid (by
    go_enter Tryz.func41, Tryz.ntmps41
    go_wp2
    refine wp_loop_rounds 1 ?_
    rw [rounds_succ]
    go_wp2_with fail
    refine HI.out.mono ?_
    rintro e w1 ⟨rfl, h1⟩
    have H1 := Lib.hid h1
    clear h1
    go_wp2_with fail
    refine wp_loop_rounds 1 ?_
    rw [rounds_succ]
    go_wp2_with fail
    first | go_end0 | (simp only [Exit.inBlock, Exit.then]; refine bodyPost_ret (results_none rfl _ _ _) rfl ?_) | refine bodyPost_ret (results_none rfl _ _ _) rfl ?_
    exact ⟨rfl, H1.out⟩)
  clear HI
  go_enter Tryz.func20, Tryz.ntmps20
  go_wp2_with fail
  refine HC.out.mono ?_
  rintro e w1 ⟨rfl, h1⟩
  have H1 := Lib.hid h1
  clear h1
  go_wp2_with fail
  first | go_end0 | (simp only [Exit.inBlock, Exit.then]; refine bodyPost_ret (results_none rfl _ _ _) rfl ?_) | refine bodyPost_ret (results_none rfl _ _ _) rfl ?_
  exact ⟨rfl, H1.out⟩
end Go.Proofs.YtbncaiocmklgnaaGreatDoor
