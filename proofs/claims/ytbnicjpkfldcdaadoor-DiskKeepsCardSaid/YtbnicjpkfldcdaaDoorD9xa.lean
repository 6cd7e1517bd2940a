/- postbaglaw9: does. -/
import Derived.Test.YtbnicjpkfldcdaaDoorD9x
namespace Go.Proofs.YtbnicjpkfldcdaaDoor
open Go.RowKit Go.Lib

theorem Dk.up {A : Whys} {w0 w w' : World} {d : Nat} {S : DS} {P : List PF} {K : List (Nat × Obj)} (h : Dk A w0 d S P K w) (hb : Below w.heap.size w w') : Dk A w0 d S P K w' := by
  obtain ⟨m, sv, clk, F, hD, rfl, hb0, he, hK⟩ := h
  exact ⟨m, sv, clk, F, hD.below hb, rfl, hb0.trans (hb.mono hb0.size), he.below (hb.mono hb0.size), fun x hx => ⟨by rw [hb.block _ (lt_of_heap (hK x hx).1)]; exact (hK x hx).1, (hK x hx).2⟩⟩
theorem Dk.forget {A : Whys} {w0 w : World} {d : Nat} {S : DS} {P : List PF} {K : List (Nat × Obj)} (h : Dk A w0 d S P K w) : Dk A w0 d S P [] w := by
  obtain ⟨m, sv, clk, F, hD, rfl, hb0, he, hK⟩ := h
  exact ⟨m, sv, clk, F, hD, rfl, hb0, he, fun x hx => by cases hx⟩
/-- One call of a script. -/
structure ActR where
  kind : Int
  on : Int
  name : ByteArray
  dest : ByteArray
  data : ByteArray
  n : Int
  sa : Option Addr
  sn : Nat
  sc : Nat
def ActR.cells (q : ActR) : Array Value := #[.int .i64 q.kind, .int .i64 q.on, .string q.name, .string q.dest, .string q.data, .int .i64 q.n, .slice q.sa q.sn q.sc]
theorem lookC_93 (P : List PF) (n : ByteArray) : lookC P n ≠ 93 := by
  unfold lookC
  split
  · split <;> decide
  · decide
theorem appCode_93 (S : DS) (P : List PF) (n s : ByteArray) : appCode S P n s ≠ 93 := by
  unfold appCode
  split
  · split <;> decide
  · decide
theorem renC_93 (P : List PF) (a b : ByteArray) : renC P a b ≠ 93 := by
  unfold renC
  split
  · exact lookC_93 P a
  · decide
theorem truC_93 (P : List PF) (n : ByteArray) (k : Int) : truC P n k ≠ 93 := by
  unfold truC
  split
  · split <;> decide
  · exact lookC_93 P n
/-- Behind one operation, whichever it was. -/
def Done (A : Whys) (w0 : World) (d : Nat) (S : DS) (K : List (Nat × Obj)) (r : Value) (w' : World) : Prop :=
  ∃ P' K' op nm code, Dk A w0 d S.next P' K' w' ∧ ErrK A op nm (errS S) (errC S code) r K K' ∧ code ≠ 93
set_option maxHeartbeats 4000000 in
theorem does_any {A : Whys} {w0 w : World} {d : Nat} {S : DS} {P : List PF} {K : List (Nat × Obj)} (h : Dk A w0 d S P K w) (hok : S.ok) (hn : S.steps < 1000000000) (q : ActR) (hns : q.name.size ≤ 140737488355328) (hts : q.dest.size ≤ 140737488355328) :
    Calls Tryd.prog 8 #[.pointer (some ⟨d, 0, none⟩), .agg q.cells] w fun e w' => ∃ s r, e = .returned (.tuple #[.string s, r]) ∧ Done A w0 d S K r w' := by
  obtain ⟨kind, on, name, dest, data, n, sa, sn, sc⟩ := q
  simp only [ActR.cells] at *
  have hbx : Below w.heap.size w (w.alloc (.cells #[.int .i64 kind, .int .i64 on, .string name, .string dest, .string data, .int .i64 n, .slice sa sn sc] 35)) := (Below.refl _ _).alloc (Nat.le_refl _) _
  have hob := heap_alloc_new w (.cells #[.int .i64 kind, .int .i64 on, .string name, .string dest, .string data, .int .i64 n, .slice sa sn sc] 35)
  obtain ⟨W, hW⟩ : ∃ W, w.alloc (.cells #[.int .i64 kind, .int .i64 on, .string name, .string dest, .string data, .int .i64 n, .slice sa sn sc] 35) = W := ⟨_, rfl⟩
  rw [hW] at hbx hob
  have c0 := cell_of hob 0
  have c2 := cell_of hob 2
  have c3 := cell_of hob 3
  have c4 := cell_of hob 4
  have c5 := cell_of hob 5
  simp only [List.getElem?_toArray, List.getElem?_cons_zero, List.getElem?_cons_succ] at c0 c2 c3 c4 c5
  have hD := h.up hbx
  have HW := Lib.hid hW
  by_cases h1 : kind = 1
  · subst h1
    have HC := Lib.hid (AppendD hD hok hn name data hns)
    have H9 := Lib.hid (appCode_93 S P name data)
    clear h hok hn hns hts hbx hob hD hW
    go_enter Tryd.func8, Tryd.ntmps8
    go_upto_region 1 with fail
    rw [HW.out]
    go_wp2_with (go_at_call 16; refine HC.out.mono ?_; rintro e w2 ⟨r, K', rfl, hD2, hE2⟩; have HE := Lib.hid (And.intro hD2 hE2); clear hD2 hE2)
    go_ret2
    exact ⟨_, r, rfl, _, K', _, _, _, HE.out.1, HE.out.2, H9.out⟩
  by_cases h2 : kind = 2
  · subst h2
    clear h1
    have HC := Lib.hid (SyncD hD hok hn name hns)
    have H9 := Lib.hid (lookC_93 P name)
    clear h hok hn hns hts hbx hob hD hW
    go_enter Tryd.func8, Tryd.ntmps8
    go_upto_region 1 with fail
    rw [HW.out]
    go_wp2_with (go_at_call 22; refine HC.out.mono ?_; rintro e w2 ⟨r, K', rfl, hD2, hE2⟩; have HE := Lib.hid (And.intro hD2 hE2); clear hD2 hE2)
    go_ret2
    exact ⟨_, r, rfl, _, K', _, _, _, HE.out.1, HE.out.2, H9.out⟩
  by_cases h3 : kind = 3
  · subst h3
    clear h1
    clear h2
    have HC := Lib.hid (ReadD hD hok hn name hns)
    have H9 := Lib.hid (lookC_93 P name)
    clear h hok hn hns hts hbx hob hD hW
    go_enter Tryd.func8, Tryd.ntmps8
    go_upto_region 1 with fail
    rw [HW.out]
    go_wp2_with (go_at_call 17; refine HC.out.mono ?_; rintro e w2 ⟨r, K', rfl, hD2, hE2⟩; have HE := Lib.hid (And.intro hD2 hE2); clear hD2 hE2)
    go_ret2
    exact ⟨_, r, rfl, _, K', _, _, _, HE.out.1, HE.out.2, H9.out⟩
  by_cases h4 : kind = 4
  · subst h4
    clear h1
    clear h2
    clear h3
    have HC := Lib.hid (RenameD hD hok hn name dest hns hts)
    have H9 := Lib.hid (renC_93 P name dest)
    clear h hok hn hns hts hbx hob hD hW
    go_enter Tryd.func8, Tryd.ntmps8
    go_upto_region 1 with fail
    rw [HW.out]
    go_wp2_with (go_at_call 23; refine HC.out.mono ?_; rintro e w2 ⟨r, K', rfl, hD2, hE2⟩; have HE := Lib.hid (And.intro hD2 hE2); clear hD2 hE2)
    go_ret2
    exact ⟨_, r, rfl, _, K', _, _, _, HE.out.1, HE.out.2, H9.out⟩
  by_cases h5 : kind = 5
  · subst h5
    clear h1
    clear h2
    clear h3
    clear h4
    have HC := Lib.hid (RemoveD hD hok hn name hns)
    have H9 := Lib.hid (lookC_93 P name)
    clear h hok hn hns hts hbx hob hD hW
    go_enter Tryd.func8, Tryd.ntmps8
    go_upto_region 1 with fail
    rw [HW.out]
    go_wp2_with (go_at_call 24; refine HC.out.mono ?_; rintro e w2 ⟨r, K', rfl, hD2, hE2⟩; have HE := Lib.hid (And.intro hD2 hE2); clear hD2 hE2)
    go_ret2
    exact ⟨_, r, rfl, _, K', _, _, _, HE.out.1, HE.out.2, H9.out⟩
  have b1 := beqI_no h1
  have b2 := beqI_no h2
  have b3 := beqI_no h3
  have b4 := beqI_no h4
  have b5 := beqI_no h5
  have HC := Lib.hid (TruncateD hD hok hn name n hns)
  have H9 := Lib.hid (truC_93 P name n)
  clear h hok hn hns hts hbx hob hD hW
  go_enter Tryd.func8, Tryd.ntmps8
  go_upto_region 1 with fail
  rw [HW.out]
  go_wp2_with (go_at_call 25; refine HC.out.mono ?_; rintro e w2 ⟨r, K', rfl, hD2, hE2⟩; have HE := Lib.hid (And.intro hD2 hE2); clear hD2 hE2)
  go_ret2
  exact ⟨_, r, rfl, _, K', _, _, _, HE.out.1, HE.out.2, H9.out⟩
end Go.Proofs.YtbnicjpkfldcdaaDoor
