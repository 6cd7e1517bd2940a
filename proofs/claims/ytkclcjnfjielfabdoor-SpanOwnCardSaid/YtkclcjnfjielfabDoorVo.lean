/- span: what a world must hold; the text of an end, of a piece. -/
import Derived.Test.YtkclcjnfjielfabDoorVn
import Derived.Deep.RegionHeld3
import Derived.Lib.LaidTab
namespace Go.Proofs.YtkclcjnfjielfabDoor
open Go.RowKit

/-- What a world must hold: the table of powers, the two errors. -/
structure Env (w : World) : Prop where
  pow : Lib.TabIs Tryd.prog w "internal/strconv.uint64pow10" .u64 Lib.pow10Tab
  syn : ∃ te pe, w.cell? ⟨0, 0, none⟩ = some (.iface te pe)
  rng : ∃ te pe, w.cell? ⟨1, 0, none⟩ = some (.iface te pe)
theorem Tryd.gPow : Tryd.prog.globalNamed "internal/strconv.uint64pow10" = some 2 := by kernel_rfl
theorem tab_on {n : String} {g : Nat} {k : IntKind} {zs : List Int} {w w' : World} (hg : Tryd.prog.globalNamed n = some g) (h : Lib.TabIs Tryd.prog w n k zs) (hb : Below w.heap.size w w') : Lib.TabIs Tryd.prog w' n k zs := by
  unfold Lib.TabIs World.var? at *
  rw [hg] at *
  simp only [Option.bind_some] at *
  have hlt : g < w.heap.size := by
    rcases Nat.lt_or_ge g w.heap.size with k | k
    · exact k
    · rw [Array.getElem?_eq_none k] at h; cases h
  rw [hb.block g hlt]
  exact h
theorem Env.on {w w' : World} (h : Env w) (hb : Below w.heap.size w w') : Env w' := by
  refine ⟨tab_on Tryd.gPow h.pow hb, ?_, ?_⟩
  · obtain ⟨te, pe, k⟩ := h.syn
    exact ⟨te, pe, by rw [hb.cell (block_lt_of_cell k)]; exact k⟩
  · obtain ⟨te, pe, k⟩ := h.rng
    exact ⟨te, pe, by rw [hb.cell (block_lt_of_cell k)]; exact k⟩
theorem Env.alloc {w : World} (h : Env w) (o : Obj) : Env (w.alloc o) := h.on ((Below.refl _ _).alloc (Nat.le_refl _) o)
theorem Env.drew {w : World} (h : Env w) : Env w.drew := h.on (Below.refl _ _).drew
theorem below_grow' {w : World} {k : Nat} {os : Array Obj} : Below w.heap.size w (Sort.grow (w.drewN k) os) := by
  refine ⟨rfl, rfl, rfl, ?_, fun i hi => ?_⟩
  · show _ ≤ (w.heap ++ os).size
    rw [Array.size_append]; exact Nat.le_add_right _ _
  · show (w.heap ++ os)[i]? = _
    rw [Array.getElem?_append_left hi]

def endT (x : Int) : List UInt8 := if x = 0 then [42] else Lib.itoa x
def pieceT (p : Rg) : List UInt8 := if p.1 = p.2 then endT p.1 else endT p.1 ++ [58] ++ endT p.2
theorem itoa_len {x : Int} (h0 : 0 ≤ x) (h1 : x ≤ 4294967295) : (Lib.itoa x).length ≤ 10 := by
  obtain ⟨u, rfl⟩ := Int.eq_ofNat_of_zero_le h0
  rw [Lib.itoa_nonneg, Lib.decDigits_length]
  have key : ∀ k u : Nat, u < 10 ^ (k + 1) → Lib.nDigits u ≤ k + 1 := by
    intro k
    induction k with
    | zero => intro u hu; rw [Lib.nDigits_small (by simpa using hu)]; omega
    | succ k ih =>
      intro u hu
      by_cases hs : u < 10
      · rw [Lib.nDigits_small hs]; omega
      · rw [Lib.nDigits_big hs]
        have := ih (u / 10) (by rw [Nat.pow_succ] at hu; omega)
        omega
  exact key 9 u (by omega)
theorem endT_len {x : Int} (h0 : 0 ≤ x) (h1 : x ≤ 4294967295) : (endT x).length ≤ 10 := by
  unfold endT; split
  · simp
  · exact itoa_len h0 h1
set_option maxHeartbeats 1000000 in
theorem endText_any (x : Int) (w : World) (he : Env w) (h0 : 0 ≤ x) (h1 : x ≤ 4294967295) :
    Calls Tryd.prog 63 #[.int .i64 x] w fun e w' => e = .returned (.string (S (endT x))) ∧ Below w.heap.size w w' := by
  unfold endT
  by_cases hx : x = 0
  · rw [if_pos hx]
    subst hx
    go_enter Tryd.func63, Tryd.ntmps63
    go_wp2
    go_ret
    exact ⟨rfl, Below.refl _ _⟩
  · rw [if_neg hx]
    have hx2 : (x == 0) = false := by simpa using hx
    have HI := Lib.hid (Tryd.strconv_Itoa x (by omega) (by omega) w he.pow)
    clear he hx
    go_enter Tryd.func63, Tryd.ntmps63
    go_wp2_with (go_at_call 71; refine HI.out.mono ?_; rintro e w1 ⟨rfl, k, os, rfl⟩)
    go_ret
    exact ⟨rfl, below_grow'⟩
abbrev ptS (w : World) (bp : Nat) (a b : Int) : World → Prop := fun X => X.cell? ⟨bp, 0, none⟩ = some (.int .i64 a) ∧ X.cell? ⟨bp, 1, none⟩ = some (.int .i64 b) ∧ Env X ∧ Below w.heap.size w X ∧ bp < X.heap.size
theorem ptS.on {w : World} {bp : Nat} {a b : Int} {X Y : World} (h : ptS w bp a b X) (hb : Below X.heap.size X Y) : ptS w bp a b Y := by
  obtain ⟨h3, h4, h5, h6, h8⟩ := h
  have := hb.size
  exact ⟨by rw [hb.cell (p := ⟨bp, 0, none⟩) h8]; exact h3, by rw [hb.cell (p := ⟨bp, 1, none⟩) h8]; exact h4, h5.on hb, h6.trans (hb.mono h6.size), by omega⟩
theorem S_append (a b : List UInt8) : S a ++ S b = S (a ++ b) := by
  apply ByteArray.ext
  simp [S]
set_option maxRecDepth 100000 in
set_option maxHeartbeats 1000000 in
theorem pieceText_any (a b : Int) (w : World) (he : Env w) (hp : pieceB (a, b) = true) :
    Calls Tryd.prog 42 #[rgV a b] w fun e w' => e = .returned (.string (S (pieceT (a, b)))) ∧ Below w.heap.size w w' := by
  have hb := (pieceB_iff (a, b)).1 hp
  obtain ⟨a0, a1, b0, b1⟩ := hb
  change 0 ≤ a at a0; change a ≤ 4294967295 at a1; change 0 ≤ b at b0; change b ≤ 4294967295 at b1
  clear hp
  by_cases hab : a = b
  · subst hab
    have HE : Hid (pieceT (a, a) = endT a) := Lib.hid (by unfold pieceT; rw [if_pos rfl])
    have HT := Lib.hid (fun X hX => endText_any a X hX a0 a1)
    have HV := Lib.hid he
    clear he
    go_enter Tryd.func42, Tryd.ntmps42
    go_wp2_with (go_at_call 63; refine (HT.out _ (HV.out.alloc _)).mono ?_; rintro e w1 ⟨rfl, hb1⟩)
    go_ret
    exact ⟨by rw [HE.out]; rfl, ((Below.refl _ _).alloc (Nat.le_refl _) _).trans (hb1.mono (by simp))⟩
  · have hab2 : (a == b) = false := by simpa using hab
    have HE : Hid (pieceT (a, b) = endT a ++ [58] ++ endT b) := Lib.hid (by unfold pieceT; rw [if_neg (by exact hab)])
    have HA := Lib.hid (fun X (hX : ptS w w.heap.size a b X) => (endText_any a X hX.2.2.1 a0 a1).mono (fun e w' ⟨h1, h2⟩ => (⟨h1, ptS.on hX h2⟩ : _ ∧ ptS w w.heap.size a b w')))
    have HB := Lib.hid (fun X (hX : ptS w w.heap.size a b X) => (endText_any b X hX.2.2.1 b0 b1).mono (fun e w' ⟨h1, h2⟩ => (⟨h1, ptS.on hX h2⟩ : _ ∧ ptS w w.heap.size a b w')))
    have la := endT_len a0 a1
    have lb := endT_len b0 b1
    have H0 : Hid (ptS w w.heap.size a b (w.alloc (.cells #[.int .i64 a, .int .i64 b] 63)).drew) := Lib.hid (by
      refine ptS.on (X := w.alloc (.cells #[.int .i64 a, .int .i64 b] 63)) ⟨by simp, by simp, he.alloc _, (Below.refl _ _).alloc (Nat.le_refl _) _, by simp⟩ (Below.refl _ _).drew)
    have sa : (S (endT a)).size ≤ 10 := la
    have sb : (S (endT b)).size ≤ 10 := lb
    have ea : ∃ s1, s1 = S (endT a) := ⟨_, rfl⟩
    obtain ⟨s1, es1⟩ := ea
    have eb : ∃ s2, s2 = S (endT b) := ⟨_, rfl⟩
    obtain ⟨s2, es2⟩ := eb
    rw [← es1] at HA sa
    rw [← es2] at HB sb
    have ES1 := Lib.hid es1
    have ES2 := Lib.hid es2
    have hc1 : ¬ 9223372036854775807 < s1.size + 1 := by omega
    have hc2 : ¬ 9223372036854775807 < s1.size + 1 + s2.size := by omega
    clear he hab la lb es1 es2
    go_enter Tryd.func42, Tryd.ntmps42
    go_wp2_with fail
    go_region_held3 (ptS w w.heap.size a b) (first | with_reducible exact H0.out | with_reducible assumption) (first | (go_at_call 63; with_reducible refine (HA.out _ ?_).mono ?_; with_reducible assumption; rintro e w1 ⟨rfl, h1⟩) | (go_at_call 63; with_reducible refine (HB.out _ ?_).mono ?_; with_reducible assumption; rintro e w2 ⟨rfl, h2⟩))
    go_wp2_with fail
    go_ret
    refine ⟨ret_str ?_, h2.2.2.2.1⟩
    rw [HE.out, ES1.out, ES2.out, ← S_append, ← S_append]
    rfl

set_option maxHeartbeats 1000000 in
theorem isSetC_any (a b : Int) (w : World) :
    Calls Tryd.prog 62 #[rgV a b] w fun e w' => e = .returned (.bool (!pieceB (a, b))) ∧ Below w.heap.size w w' := by
  have HP := Lib.hid (isPiece_any a b)
  generalize pieceB (a, b) = q at *
  go_enter Tryd.func62, Tryd.ntmps62
  go_wp2_with (go_at_call 46; refine (HP.out _).mono ?_; rintro e w1 ⟨rfl, hb1⟩)
  go_ret
  exact ⟨rfl, ((Below.refl _ _).alloc (Nat.le_refl _) _).trans (hb1.mono (by simp))⟩
def setB (l : List Rg) : Bool := decide (0 < l.length) && l.all pieceB
theorem not_any (l : List Rg) : (!(l.any fun p => !pieceB p)) = l.all pieceB := by
  induction l with
  | nil => rfl
  | cons p r ih => simp only [List.any_cons, List.all_cons, Bool.not_or, Bool.not_not, ih]
set_option maxHeartbeats 1000000 in
theorem isSet_any (v : Value) (l : List Rg) (w : World) (hr : Rgs w v l) :
    Calls Tryd.prog 41 #[v] w fun e w' => e = .returned (.bool (setB l)) ∧ Below w.heap.size w w' := by
  have H := Lib.hid (containsFunc_any 62 #[] (enters_of Tryd.func62 (by kernel_rfl) rfl) (fun p => !pieceB p) v l w hr (fun a b X _ => isSetC_any a b X))
  obtain ⟨ao, cap, hv, _⟩ := hr.shape
  subst hv
  have HN := Lib.hid (not_any l)
  clear hr
  by_cases h0 : 0 < l.length
  · have hz : (0 : Int) < (l.length : Int) := by omega
    have HS : Hid (setB l = l.all pieceB) := Lib.hid (by unfold setB; rw [decide_eq_true h0, Bool.true_and])
    generalize (l.any fun p => !pieceB p) = q at *
    generalize l.all pieceB = q2 at *
    go_enter Tryd.func41, Tryd.ntmps41
    go_wp2_with (go_at_call 44; refine H.out.mono ?_; rintro e w1 ⟨rfl, hb1⟩)
    go_ret
    exact ⟨ret_bool (by rw [HS.out]; exact HN.out), hb1⟩
  · have hz : ¬ (0 : Int) < (l.length : Int) := by omega
    have HS : Hid (setB l = false) := Lib.hid (by unfold setB; rw [decide_eq_false h0, Bool.false_and])
    go_enter Tryd.func41, Tryd.ntmps41
    go_wp2_with fail
    go_ret
    exact ⟨ret_bool HS.out.symm, Below.refl _ _⟩
end Go.Proofs.YtkclcjnfjielfabDoor
