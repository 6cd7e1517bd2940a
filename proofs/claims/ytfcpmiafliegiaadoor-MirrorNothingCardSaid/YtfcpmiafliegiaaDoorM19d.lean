/- mirror: may something be told; what an EXISTS changes. -/
import Derived.Test.YtfcpmiafliegiaaDoorM19c
namespace Go.Proofs.YtfcpmiafliegiaaDoor
open Go.RowKit

def tellB (k : Option AK) (sel : Bool) : Bool := k.isSome && sel && !opn k
set_option maxRecDepth 10000 in
theorem mayTell_any (P : Nat) (q : Value) (sel : Bool) (k : Option AK) (w : World) (hq : w.cell? ⟨P, 0, none⟩ = some q) (hs1 : w.cell? ⟨P, 1, none⟩ = some (.bool sel)) (hP : P < w.heap.size) (hh : Hand w q k) :
    Calls Tryd.prog 43 #[.pointer (some ⟨P, 0, none⟩)] w fun e w' => e = .returned (.bool (tellB k sel)) ∧ Below w.heap.size w w' := by
  cases k with
  | none =>
    have H := Lib.hid (first_none P q w hq hP hh)
    clear hq hh hs1
    unfold akC AK0 at H
    show Calls _ _ _ _ fun e w' => e = .returned (.bool false) ∧ Below w.heap.size w w'
    go_enter Tryd.func43, Tryd.ntmps43
    go_wp2_with (go_at_call 35; refine H.out.mono ?_; rintro e w1 ⟨rfl, hb1⟩; have HB1 := Lib.hid hb1; clear hb1)
    go_ret
    first | exact ⟨rfl, third_below HB1.out _⟩ | exact third_below HB1.out _
  | some k =>
    have H := Lib.hid (first_some P q k w hq hP hh)
    have HO : Hid (∀ X, Below w.heap.size w X → Calls Tryd.prog 28 #[.pointer (some ⟨P, 0, none⟩)] X fun e w' => e = .returned (.bool (opn (some k))) ∧ Below X.heap.size X w') := Lib.hid (fun X hX => isOpening_any P q (some k) X (by rw [hX.cell (p := ⟨P, 0, none⟩) hP]; exact hq) (Nat.lt_of_lt_of_le hP hX.size) (hh.on hX))
    have HS : Hid (∀ X, Below w.heap.size w X → X.cell? ⟨P, 1, none⟩ = some (.bool sel)) := Lib.hid (fun X hX => by rw [hX.cell (p := ⟨P, 1, none⟩) hP]; exact hs1)
    obtain ⟨g, o, n, c, rfl, hn, hg, ⟨sa, sn, sc, hs⟩, _⟩ := hh
    obtain ⟨b, hb⟩ : ∃ b, opn (some k) = b := ⟨_, rfl⟩
    unfold tellB
    rw [hb] at HO ⊢
    unfold akC at H
    obtain ⟨kt, kv, ku, ks, kst⟩ := k
    simp only at hs H
    subst hs
    clear hq hn hg hb hs1
    cases sel with
    | false =>
      show Calls _ _ _ _ fun e w' => e = .returned (.bool false) ∧ Below w.heap.size w w'
      go_enter Tryd.func43, Tryd.ntmps43
      go_wp2_with (first | (go_at_call 35; refine H.out.mono ?_; rintro e w1 ⟨rfl, hb1⟩; have hs3 := HS.out _ (third_below hb1 (.cells #[.string kt, .int .i64 kv, .bool ku, .bool ks, .slice sa sn sc] 78)); have HB1 := Lib.hid hb1; clear hb1))
      go_ret
      first | exact ⟨rfl, third_below HB1.out _⟩ | exact third_below HB1.out _
    | true =>
      show Calls _ _ _ _ fun e w' => e = .returned (.bool (!b)) ∧ Below w.heap.size w w'
      go_enter Tryd.func43, Tryd.ntmps43
      go_wp2_with (first | (go_at_call 35; refine H.out.mono ?_; rintro e w1 ⟨rfl, hb1⟩; have hs3 := HS.out _ (third_below hb1 (.cells #[.string kt, .int .i64 kv, .bool ku, .bool ks, .slice sa sn sc] 78)); have HB1 := Lib.hid hb1; clear hb1) | (go_at_call 28; refine (HO.out _ (third_below HB1.out _)).mono ?_; rintro e w2 ⟨rfl, hb2⟩; have HB2 := Lib.hid hb2; clear hb2))
      go_ret
      first | exact ⟨rfl, (third_below HB1.out _).trans (HB2.out.mono (third_below HB1.out _).size)⟩ | exact (third_below HB1.out _).trans (HB2.out.mono (third_below HB1.out _).size)
/-- An answer's cells. -/
structure AN where
  k : Int
  tag : ByteArray
  out : Int
  code : Int
  args : Value
  text : ByteArray
  num : Int
  nm : ByteArray
  nums : Value
  flags : Value
  data : Value
  twigs : Value
  set : Value
  pairs : Value
  uid : Bool
  ms : Int
def anC (a : AN) : Array Value := #[.int .i64 a.k, .string a.tag, .int .i64 a.out, .int .i64 a.code, a.args, .string a.text, .int .i64 a.num, .string a.nm, a.nums, a.flags, a.data, a.twigs, a.set, a.pairs, .bool a.uid, .int .i64 a.ms]
def anO (a : AN) : Obj := .cells (anC a) 43
def fnV (n : Nat) (caps : Array Value) : Value := .func (.func n) #[] caps
/-- The table of kinds. -/
def kndA : Array Value := #[.nilFunc, fnV 30 #[], fnV 31 #[], fnV 31 #[], fnV 31 #[], fnV 31 #[], fnV 31 #[], fnV 31 #[], fnV 31 #[], fnV 31 #[], fnV 31 #[], fnV 32 #[], fnV 31 #[], fnV 33 #[], fnV 34 #[], fnV 31 #[], fnV 31 #[], fnV 31 #[], .nilFunc]
end Go.Proofs.YtfcpmiafliegiaaDoor
