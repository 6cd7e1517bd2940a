/- mirror: a mirror in memory; calls of a nil one; the first that waits. -/
import Derived.Test.YtlmlbcnjohjnlaaDoorM19a
namespace Go.Proofs.YtlmlbcnjohjnlaaDoor
open Go.RowKit

/-- A mirror's block. -/
def mirC (q : Value) (sel : Bool) (v n h : Int) (rows was : Value) (bg : Bool) : Array Value := #[q, .bool sel, .int .i64 v, .int .i64 n, .int .i64 h, rows, was, .bool bg]
def mirO (q : Value) (sel : Bool) (v n h : Int) (rows was : Value) (bg : Bool) : Obj := .cells (mirC q sel v n h rows was bg) 75
structure MirF (P : Nat) (q : Value) (sel : Bool) (v n h : Int) (rows was : Value) (bg : Bool) (w : World) : Prop where
  c0 : w.cell? ⟨P, 0, none⟩ = some q
  c1 : w.cell? ⟨P, 1, none⟩ = some (.bool sel)
  c2 : w.cell? ⟨P, 2, none⟩ = some (.int .i64 v)
  c3 : w.cell? ⟨P, 3, none⟩ = some (.int .i64 n)
  c4 : w.cell? ⟨P, 4, none⟩ = some (.int .i64 h)
  c5 : w.cell? ⟨P, 5, none⟩ = some rows
  c6 : w.cell? ⟨P, 6, none⟩ = some was
  c7 : w.cell? ⟨P, 7, none⟩ = some (.bool bg)
theorem mir_cells {P : Nat} {q : Value} {sel : Bool} {v n h : Int} {rows was : Value} {bg : Bool} {w : World} (e : w.heap[P]? = some (mirO q sel v n h rows was bg)) : MirF P q sel v n h rows was bg w := by
  unfold mirO mirC at e
  exact ⟨cell_of e 0, cell_of e 1, cell_of e 2, cell_of e 3, cell_of e 4, cell_of e 5, cell_of e 6, cell_of e 7⟩
/-- An asked command. -/
structure AK where
  tag : ByteArray
  verb : Int
  uid : Bool
  sil : Bool
  set : Value
def akC (a : AK) : Array Value := #[.string a.tag, .int .i64 a.verb, .bool a.uid, .bool a.sil, a.set]
def AK0 : AK := ⟨⟨#[]⟩, 0, false, false, .slice none 0 0⟩
theorem Tryd.sizeAk : (Tryd.prog.info? 78).map (·.size) = some 5 := by kernel_rfl
/-- What is at hand: nothing, or the first of a list. -/
def Hand (w : World) (q : Value) : Option AK → Prop
  | none => ∃ a c, q = .slice a 0 c
  | some k => ∃ g o n c, q = .slice (some ⟨g, o, none⟩) (n + 1) c ∧ n + 1 < 4294967296 ∧ g < w.heap.size ∧ (∃ sa sn sc, k.set = .slice sa sn sc) ∧ w.cell? ⟨g, o, none⟩ = some (.string k.tag) ∧ w.cell? ⟨g, o + 1, none⟩ = some (.int .i64 k.verb) ∧ w.cell? ⟨g, o + 2, none⟩ = some (.bool k.uid) ∧ w.cell? ⟨g, o + 3, none⟩ = some (.bool k.sil) ∧ w.cell? ⟨g, o + 4, none⟩ = some k.set
theorem Hand.on {w w' : World} {q : Value} {k : Option AK} (h : Hand w q k) (hb : Below w.heap.size w w') : Hand w' q k := by
  cases k with
  | none => exact h
  | some k =>
    obtain ⟨g, o, n, c, rfl, hn, hg, hs, h0, h1, h2, h3, h4⟩ := h
    refine ⟨g, o, n, c, rfl, hn, Nat.lt_of_lt_of_le hg hb.size, hs, ?_, ?_, ?_, ?_, ?_⟩
    · rw [hb.cell (p := ⟨g, o, none⟩) hg]; exact h0
    · rw [hb.cell (p := ⟨g, o + 1, none⟩) hg]; exact h1
    · rw [hb.cell (p := ⟨g, o + 2, none⟩) hg]; exact h2
    · rw [hb.cell (p := ⟨g, o + 3, none⟩) hg]; exact h3
    · rw [hb.cell (p := ⟨g, o + 4, none⟩) hg]; exact h4

theorem num_any (n : Int) (w : World) : Calls Tryd.prog 7 #[.int .i64 n] w fun e w' => e = .returned (.int .i64 n) ∧ w' = w := by
  go_enter Tryd.func7, Tryd.ntmps7
  go_wp2_with fail
  go_ret
  first | exact ⟨rfl, rfl⟩ | trivial
/-- A sight's cells. -/
def siC (sel : Bool) (v n h : Int) (us fl kn : Value) : Array Value := #[.bool sel, .int .i64 v, .int .i64 n, .int .i64 h, us, fl, kn]
def si0 : Array Value := siC false 0 0 0 (.slice none 0 0) (.slice none 0 0) (.slice none 0 0)
theorem Tryd.sizeSi : (Tryd.prog.info? 47).map (·.size) = some 7 := by kernel_rfl
theorem New_any (w : World) : Calls Tryd.prog 14 #[] w fun e w' => e = .returned (.pointer (some ⟨w.heap.size, 0, none⟩)) ∧ w' = w.alloc (mirO (.slice none 0 0) false 0 0 0 (.slice none 0 0) (.map none) false) := by
  go_enter Tryd.func14, Tryd.ntmps14
  go_wp2_with fail
  go_ret
  first | exact ⟨rfl, rfl⟩ | trivial
theorem opens_any (k : AK) (w : World) : Calls Tryd.prog 36 #[.agg (akC k)] w fun e w' => e = .returned (.bool (k.verb == 5 || k.verb == 6)) ∧ Below w.heap.size w w' := by
  have q : Below w.heap.size w (w.alloc (.cells (akC k) 78)) := (Below.refl _ _).alloc (Nat.le_refl _) _
  by_cases h5 : k.verb = 5
  · have e5 : (k.verb == 5) = true := by simp [h5]
    unfold akC at q ⊢
    obtain ⟨t, v, u, s, st⟩ := k
    simp only at h5 e5 q ⊢
    subst h5
    go_enter Tryd.func36, Tryd.ntmps36
    go_wp2_with fail
    go_ret
    first | exact ⟨rfl, q⟩ | exact q
  · have e5 : (k.verb == 5) = false := by simp [h5]
    unfold akC at q ⊢
    obtain ⟨t, v, u, s, st⟩ := k
    simp only at h5 e5 q ⊢
    go_enter Tryd.func36, Tryd.ntmps36
    go_wp2_with fail
    go_ret
    first | exact ⟨rfl, q⟩ | exact q | (simp [e5]; exact q)
end Go.Proofs.YtlmlbcnjohjnlaaDoor

/- mirror: the first that waits; is a SELECT at hand; may something be told. -/
namespace Go.Proofs.YtlmlbcnjohjnlaaDoor
open Go.RowKit

def akZ : Obj := .cells #[.string ⟨#[]⟩, .int .i64 0, .bool false, .bool false, .slice none 0 0] 78
theorem two_below (w : World) (o o' : Obj) : Below w.heap.size w ((w.alloc o).alloc o') := ((Below.refl _ _).alloc (Nat.le_refl _) _).alloc (by simp) _
theorem first_none (P : Nat) (q : Value) (w : World) (hq : w.cell? ⟨P, 0, none⟩ = some q) (hP : P < w.heap.size) (hh : Hand w q none) :
    Calls Tryd.prog 35 #[.pointer (some ⟨P, 0, none⟩)] w fun e w' => e = .returned (.tuple #[.agg (akC AK0), .bool false]) ∧ Below w.heap.size w w' := by
  obtain ⟨a, c, rfl⟩ := hh
  have q2 := two_below w akZ akZ
  have c2 : ((w.alloc akZ).alloc akZ).cell? ⟨P, 0, none⟩ = some (.slice a 0 c) := by rw [q2.cell (p := ⟨P, 0, none⟩) hP]; exact hq
  unfold akZ at c2
  have Q2 := Lib.hid q2
  clear q2 hq
  go_enter Tryd.func35, Tryd.ntmps35
  go_wp2_with fail
  refine bodyPost_ret (res2 Tryd.results35 _ _ w.heap.size 78 (akC AK0) (0, 0) _ rfl ?_ Tryd.underlying78 rfl Tryd.sizeAk) rfl ⟨rfl, Q2.out⟩
  rw [Below.heap_alloc _ _ _ (by simp)]
  exact heap_new _ _
set_option maxRecDepth 10000 in
theorem first_some (P : Nat) (q : Value) (k : AK) (w : World) (hq : w.cell? ⟨P, 0, none⟩ = some q) (hP : P < w.heap.size) (hh : Hand w q (some k)) :
    Calls Tryd.prog 35 #[.pointer (some ⟨P, 0, none⟩)] w fun e w' => e = .returned (.tuple #[.agg (akC k), .bool true]) ∧ Below w.heap.size w w' := by
  obtain ⟨g, o, n, c, rfl, hn, hg, ⟨sa, sn, sc, hs⟩, h0, h1, h2, h3, h4⟩ := hh
  obtain ⟨kt, kv, ku, ks, kst⟩ := k
  simp only at hs h0 h1 h2 h3 h4
  subst hs
  have q2 := two_below w akZ akZ
  obtain ⟨Y, hY⟩ : ∃ Y, (w.alloc akZ).alloc akZ = Y := ⟨_, rfl⟩
  rw [hY] at q2
  have cq : Y.cell? ⟨P, 0, none⟩ = some (.slice (some ⟨g, o, none⟩) (n + 1) c) := by rw [q2.cell (p := ⟨P, 0, none⟩) hP]; exact hq
  have k0 : Y.cell? ⟨g, o, none⟩ = some (.string kt) := by rw [q2.cell (p := ⟨g, o, none⟩) hg]; exact h0
  have k1 : Y.cell? ⟨g, o + 1, none⟩ = some (.int .i64 kv) := by rw [q2.cell (p := ⟨g, o + 1, none⟩) hg]; exact h1
  have k2 : Y.cell? ⟨g, o + 2, none⟩ = some (.bool ku) := by rw [q2.cell (p := ⟨g, o + 2, none⟩) hg]; exact h2
  have k3 : Y.cell? ⟨g, o + 3, none⟩ = some (.bool ks) := by rw [q2.cell (p := ⟨g, o + 3, none⟩) hg]; exact h3
  have k4 : Y.cell? ⟨g, o + 4, none⟩ = some (.slice sa sn sc) := by rw [q2.cell (p := ⟨g, o + 4, none⟩) hg]; exact h4
  have r0 : Y.heap[w.heap.size]? = some akZ := by rw [← hY, Below.heap_alloc _ _ _ (by simp)]; exact heap_new _ _
  have R0 := Lib.hid r0
  have Q2 := Lib.hid q2
  have HY := Lib.hid hY
  have H1 : Hid ((#[.string kt, .int .i64 kv, .bool ku, .bool ks, .slice sa sn sc] : Array Value).all (·.oneCell') = true) := Lib.hid (by simp [Value.oneCell'])
  have n1 : ¬ ((n : Int) + 1 = 0) := by omega
  have n2 : (0 : Int) < (n : Int) + 1 := by omega
  clear q2 hq h0 h1 h2 h3 h4 hn r0 hY
  go_enter Tryd.func35, Tryd.ntmps35
  go_upto_region 2 with fail
  rw [show (w.alloc (.cells #[.string ⟨#[]⟩, .int .i64 0, .bool false, .bool false, .slice none 0 0] 78)).alloc (.cells #[.string ⟨#[]⟩, .int .i64 0, .bool false, .bool false, .slice none 0 0] 78) = Y from HY.out]
  go_wp2_with (first | (refine wpList_store_row rfl 78 _ _ rfl w.heap.size #[.string kt, .int .i64 kv, .bool ku, .bool ks, .slice sa sn sc] rfl rfl 78 _ R0.out Tryd.sizeAk rfl H1.out ?_))
  refine bodyPost_ret (res2 Tryd.results35 _ _ w.heap.size 78 #[.string kt, .int .i64 kv, .bool ku, .bool ks, .slice sa sn sc] (0, 0) _ rfl (setRow_heap _ _ _ _ _ _ R0.out) Tryd.underlying78 rfl Tryd.sizeAk) rfl ⟨rfl, ?_⟩
  have := Q2.out
  exact ⟨this.os, this.tape, this.output, by simpa [World.setRow] using this.size, fun b hb => by rw [setRow_other _ _ _ _ (by omega)]; exact this.block b hb⟩
def opn : Option AK → Bool
  | none => false
  | some k => k.verb == 5 || k.verb == 6
theorem third_below {w w' : World} (h : Below w.heap.size w w') (o : Obj) : Below w.heap.size w (w'.alloc o) := h.alloc h.size _
set_option maxRecDepth 10000 in
theorem isOpening_any (P : Nat) (q : Value) (k : Option AK) (w : World) (hq : w.cell? ⟨P, 0, none⟩ = some q) (hP : P < w.heap.size) (hh : Hand w q k) :
    Calls Tryd.prog 28 #[.pointer (some ⟨P, 0, none⟩)] w fun e w' => e = .returned (.bool (opn k)) ∧ Below w.heap.size w w' := by
  cases k with
  | none =>
    have H := Lib.hid (first_none P q w hq hP hh)
    clear hq hh
    go_enter Tryd.func28, Tryd.ntmps28
    unfold akC AK0 at H
    go_wp2_with (go_at_call 35; refine H.out.mono ?_; rintro e w1 ⟨rfl, hb1⟩; have HB1 := Lib.hid hb1; clear hb1)
    go_ret
    first | exact ⟨rfl, third_below HB1.out _⟩ | exact third_below HB1.out _
  | some k =>
    have H := Lib.hid (first_some P q k w hq hP hh)
    have HO : Hid (∀ X, Calls Tryd.prog 36 #[.agg (akC k)] X fun e w' => e = .returned (.bool (k.verb == 5 || k.verb == 6)) ∧ Below X.heap.size X w') := Lib.hid (fun X => opens_any k X)
    obtain ⟨g, o, n, c, rfl, hn, hg, ⟨sa, sn, sc, hs⟩, _⟩ := hh
    show Calls _ _ _ _ fun e w' => e = .returned (.bool (k.verb == 5 || k.verb == 6)) ∧ Below w.heap.size w w'
    obtain ⟨b, hb⟩ : ∃ b, (k.verb == 5 || k.verb == 6) = b := ⟨_, rfl⟩
    rw [hb] at HO ⊢
    unfold akC at H HO
    obtain ⟨kt, kv, ku, ks, kst⟩ := k
    simp only at hs H HO
    subst hs
    clear hq hn hg hb
    go_enter Tryd.func28, Tryd.ntmps28
    go_wp2_with (first | (go_at_call 35; refine H.out.mono ?_; rintro e w1 ⟨rfl, hb1⟩; have HB1 := Lib.hid hb1; clear hb1) | (go_at_call 36; refine (HO.out _).mono ?_; rintro e w2 ⟨rfl, hb2⟩; have HB2 := Lib.hid hb2; clear hb2))
    go_ret
    first | exact ⟨rfl, (third_below HB1.out _).trans (HB2.out.mono (third_below HB1.out _).size)⟩ | exact (third_below HB1.out _).trans (HB2.out.mono (third_below HB1.out _).size)
end Go.Proofs.YtlmlbcnjohjnlaaDoor

/- mirror: may something be told; what an EXISTS changes. -/
namespace Go.Proofs.YtlmlbcnjohjnlaaDoor
open Go.RowKit

def tellB (k : Option AK) (sel : Bool) : Bool := k.isSome && sel && !opn k
set_option maxRecDepth 10000 in
theorem mayTell_any (P : Nat) (q : Value) (sel : Bool) (k : Option AK) (w : World) (hq : w.cell? ⟨P, 0, none⟩ = some q) (hs1 : w.cell? ⟨P, 1, none⟩ = some (.bool sel)) (hP : P < w.heap.size) (hh : Hand w q k) :
    Calls Tryd.prog 43 #[.pointer (some ⟨P, 0, none⟩)] w fun e w' => e = .returned (.bool (tellB k sel)) ∧ Below w.heap.size w w' := by
  cases k with
  | none =>
    have H := Lib.hid (first_none P q w hq hP hh)
    clear hq hh hs1
    unfold akC AK0 at H
    show Calls _ _ _ _ fun e w' => e = .returned (.bool false) ∧ Below w.heap.size w w'
    go_enter Tryd.func43, Tryd.ntmps43
    go_wp2_with (go_at_call 35; refine H.out.mono ?_; rintro e w1 ⟨rfl, hb1⟩; have HB1 := Lib.hid hb1; clear hb1)
    go_ret
    first | exact ⟨rfl, third_below HB1.out _⟩ | exact third_below HB1.out _
  | some k =>
    have H := Lib.hid (first_some P q k w hq hP hh)
    have HO : Hid (∀ X, Below w.heap.size w X → Calls Tryd.prog 28 #[.pointer (some ⟨P, 0, none⟩)] X fun e w' => e = .returned (.bool (opn (some k))) ∧ Below X.heap.size X w') := Lib.hid (fun X hX => isOpening_any P q (some k) X (by rw [hX.cell (p := ⟨P, 0, none⟩) hP]; exact hq) (Nat.lt_of_lt_of_le hP hX.size) (hh.on hX))
    have HS : Hid (∀ X, Below w.heap.size w X → X.cell? ⟨P, 1, none⟩ = some (.bool sel)) := Lib.hid (fun X hX => by rw [hX.cell (p := ⟨P, 1, none⟩) hP]; exact hs1)
    obtain ⟨g, o, n, c, rfl, hn, hg, ⟨sa, sn, sc, hs⟩, _⟩ := hh
    obtain ⟨b, hb⟩ : ∃ b, opn (some k) = b := ⟨_, rfl⟩
    unfold tellB
    rw [hb] at HO ⊢
    unfold akC at H
    obtain ⟨kt, kv, ku, ks, kst⟩ := k
    simp only at hs H
    subst hs
    clear hq hn hg hb hs1
    cases sel with
    | false =>
      show Calls _ _ _ _ fun e w' => e = .returned (.bool false) ∧ Below w.heap.size w w'
      go_enter Tryd.func43, Tryd.ntmps43
      go_wp2_with (first | (go_at_call 35; refine H.out.mono ?_; rintro e w1 ⟨rfl, hb1⟩; have hs3 := HS.out _ (third_below hb1 (.cells #[.string kt, .int .i64 kv, .bool ku, .bool ks, .slice sa sn sc] 78)); have HB1 := Lib.hid hb1; clear hb1))
      go_ret
      first | exact ⟨rfl, third_below HB1.out _⟩ | exact third_below HB1.out _
    | true =>
      show Calls _ _ _ _ fun e w' => e = .returned (.bool (!b)) ∧ Below w.heap.size w w'
      go_enter Tryd.func43, Tryd.ntmps43
      go_wp2_with (first | (go_at_call 35; refine H.out.mono ?_; rintro e w1 ⟨rfl, hb1⟩; have hs3 := HS.out _ (third_below hb1 (.cells #[.string kt, .int .i64 kv, .bool ku, .bool ks, .slice sa sn sc] 78)); have HB1 := Lib.hid hb1; clear hb1) | (go_at_call 28; refine (HO.out _ (third_below HB1.out _)).mono ?_; rintro e w2 ⟨rfl, hb2⟩; have HB2 := Lib.hid hb2; clear hb2))
      go_ret
      first | exact ⟨rfl, (third_below HB1.out _).trans (HB2.out.mono (third_below HB1.out _).size)⟩ | exact (third_below HB1.out _).trans (HB2.out.mono (third_below HB1.out _).size)
/-- An answer's cells. -/
structure AN where
  k : Int
  tag : ByteArray
  out : Int
  code : Int
  args : Value
  text : ByteArray
  num : Int
  nm : ByteArray
  nums : Value
  flags : Value
  data : Value
  twigs : Value
  set : Value
  pairs : Value
  uid : Bool
  ms : Int
def anC (a : AN) : Array Value := #[.int .i64 a.k, .string a.tag, .int .i64 a.out, .int .i64 a.code, a.args, .string a.text, .int .i64 a.num, .string a.nm, a.nums, a.flags, a.data, a.twigs, a.set, a.pairs, .bool a.uid, .int .i64 a.ms]
def anO (a : AN) : Obj := .cells (anC a) 43
def fnV (n : Nat) (caps : Array Value) : Value := .func (.func n) #[] caps
/-- The table of kinds. -/
def kndA : Array Value := #[.nilFunc, fnV 30 #[], fnV 31 #[], fnV 31 #[], fnV 31 #[], fnV 31 #[], fnV 31 #[], fnV 31 #[], fnV 31 #[], fnV 31 #[], fnV 31 #[], fnV 32 #[], fnV 31 #[], fnV 33 #[], fnV 34 #[], fnV 31 #[], fnV 31 #[], fnV 31 #[], .nilFunc]
end Go.Proofs.YtlmlbcnjohjnlaaDoor
