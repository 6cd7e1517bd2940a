/- lex: announce, String, Put, Nstring; the reference's decimal, quote, String, Put, Nstring. -/
import Derived.Test.YtliiapdakojomabDoorXp
namespace Go.Proofs.YtliiapdakojomabDoor
open Go.RowKit

def annL (n : Nat) : List UInt8 := [123] ++ Lib.decDigits n ++ [125]
def strL (l : List UInt8) : List UInt8 := if l.all quotC then quoteL l else annL l.length ++ [13, 10] ++ l
def putL (l : List UInt8) : List UInt8 := if isAstr l then l else strL l
def nstrL (b : Bool) (l : List UInt8) : List UInt8 := if b then strL l else nilL
theorem dec_len (n : Nat) : (Lib.decDigits n).length ≤ n + 1 := by
  induction n using Nat.strongRecOn with
  | _ n ih =>
    rw [Lib.decDigits]
    split
    · simp
    · have := ih (n / 10) (by omega)
      rw [List.length_append, List.length_singleton]; omega
set_option maxHeartbeats 400000 in
theorem announce_any (s : ByteArray) (w : World) (he : Env w) (hs : s.size ≤ 140737488355328) :
    Calls Tryd.prog 45 #[.string s] w fun e w' => e = .returned (.string (S (annL s.size))) ∧ Below w.heap.size w w' := by
  have hI := Lib.hid (fun W hW => Itoa_any s.size W hW hs)
  have HE := Lib.hid he
  have HA : Hid ((⟨#[123]⟩ : ByteArray) ++ S (Lib.decDigits s.size) ++ ⟨#[125]⟩ = S (annL s.size)) := Lib.hid (by
    show S [123] ++ S (Lib.decDigits s.size) ++ S [125] = _
    rw [S_app, S_app]; rfl)
  clear he
  have hd : (S (Lib.decDigits s.size)).size ≤ 140737488355329 := by rw [S_size]; have := dec_len s.size; omega
  generalize S (Lib.decDigits s.size) = d at *
  go_enter Tryd.func45, Tryd.ntmps45
  go_wp2_with (go_at_call 69; refine (hI.out _ HE.out).mono ?_; rintro e w1 ⟨rfl, hb1⟩)
  go_ret
  exact ⟨ret_str HA.out, hb1⟩
set_option maxHeartbeats 1000000 in
theorem lString_any (s : ByteArray) (w : World) (he : Env w) (hs : s.size ≤ 1048576) :
    Calls Tryd.prog 14 #[.string s] w fun e w' => e = .returned (.string (S (strL (L s)))) ∧ Below w.heap.size w w' := by
  have hA := Lib.hid (fun W => isAll_at 16 16 s W (by simp) (by omega))
  cases hq : (L s).all quotC with
  | true =>
    rw [allB_quot, hq] at hA
    have HR : Hid (strL (L s) = [] ++ quoteL (L s)) := Lib.hid (by unfold strL; rw [hq]; rfl)
    have hQ := Lib.hid (appendQuoted_any s w.heap.size (.slice none 0 0) [] w w (Own.nil (Below.refl _ _) (Nat.le_refl _)) (by omega) (by simp))
    go_enter Tryd.func14, Tryd.ntmps14
    go_wp2_with fail
    refine (hA.out _).mono ?_
    rintro e w1 ⟨rfl, rfl⟩
    go_wp2_with fail
    refine hQ.out.mono ?_
    rintro e w2 ⟨v2, rfl, hown⟩
    have hcv := hown.back
    go_wp2
    go_ret
    exact ⟨ret_str (by rw [HR.out]; rfl), hown.below⟩
  | false =>
    rw [allB_quot, hq] at hA
    have hN := Lib.hid (fun W hW => announce_any s W hW (by omega))
    have HR : Hid (S (annL s.size) ++ ⟨#[13, 10]⟩ ++ s = S (strL (L s))) := Lib.hid (by
      show S (annL s.size) ++ S [13, 10] ++ S (L s) = _
      rw [S_app, S_app]; unfold strL; rw [hq]; rfl)
    have hd : (S (annL s.size)).size ≤ 2000000 := by rw [S_size]; unfold annL; have := dec_len s.size; rw [List.length_append, List.length_append, List.length_singleton, List.length_singleton]; omega
    generalize S (annL s.size) = d at *
    have HE := Lib.hid he
    clear he
    go_enter Tryd.func14, Tryd.ntmps14
    go_wp2_with fail
    refine (hA.out _).mono ?_
    rintro e w1 ⟨rfl, rfl⟩
    go_wp2_with fail
    refine (hN.out _ HE.out).mono ?_
    rintro e w2 ⟨rfl, hb2⟩
    go_wp2
    go_ret
    exact ⟨ret_str HR.out, hb2⟩
set_option maxHeartbeats 1000000 in
theorem lPut_any (s : ByteArray) (w : World) (he : Env w) (hs : s.size ≤ 1048576) :
    Calls Tryd.prog 15 #[.string s] w fun e w' => e = .returned (.string (S (putL (L s)))) ∧ Below w.heap.size w w' := by
  have hA := Lib.hid (fun W => lIs2 s W (by omega))
  cases hq : isAstr (L s) with
  | true =>
    rw [hq] at hA
    have HR : Hid (s = S (putL (L s))) := Lib.hid (by unfold putL; rw [hq]; rfl)
    go_enter Tryd.func15, Tryd.ntmps15
    go_wp2_with fail
    refine (hA.out _).mono ?_
    rintro e w1 ⟨rfl, hb1⟩
    go_wp2
    go_ret
    exact ⟨ret_str HR.out, hb1⟩
  | false =>
    rw [hq] at hA
    have HR : Hid (S (strL (L s)) = S (putL (L s))) := Lib.hid (by unfold putL; rw [hq]; rfl)
    have hN := Lib.hid (fun W hW => lString_any s W hW hs)
    have HE := Lib.hid he
    clear he
    go_enter Tryd.func15, Tryd.ntmps15
    go_wp2_with fail
    refine (hA.out _).mono ?_
    rintro e w1 ⟨rfl, hb1⟩
    go_wp2_with fail
    refine (hN.out _ (HE.out.on hb1)).mono ?_
    rintro e w2 ⟨rfl, hb2⟩
    go_wp2
    go_ret
    exact ⟨ret_str HR.out, hb1.trans (hb2.mono hb1.size)⟩
set_option maxHeartbeats 1000000 in
theorem lNstring_any (b : Bool) (s : ByteArray) (w : World) (he : Env w) (hs : s.size ≤ 1048576) :
    Calls Tryd.prog 17 #[.agg #[.bool b, .string s]] w fun e w' => e = .returned (.string (S (nstrL b (L s)))) ∧ Below w.heap.size w w' := by
  have hN := Lib.hid (fun W hW => lString_any s W hW hs)
  cases b with
  | false =>
    go_enter Tryd.func17, Tryd.ntmps17
    go_wp2
    go_ret
    exact ⟨rfl, (Below.refl _ _).alloc (Nat.le_refl _) _⟩
  | true =>
    have hb0 : Below w.heap.size w (w.alloc (.cells #[.bool true, .string s] 41)) := (Below.refl _ _).alloc (Nat.le_refl _) _
    go_enter Tryd.func17, Tryd.ntmps17
    go_wp2_with fail
    refine (hN.out _ (he.on hb0)).mono ?_
    rintro e w2 ⟨rfl, hb2⟩
    go_wp2
    go_ret
    exact ⟨rfl, hb0.trans (hb2.mono hb0.size)⟩
end Go.Proofs.YtliiapdakojomabDoor
