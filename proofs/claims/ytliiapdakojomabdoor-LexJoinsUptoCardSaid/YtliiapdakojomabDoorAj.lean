/- lex: the scanner's begin. -/
import Derived.Test.YtliiapdakojomabDoorAi
import Derived.Deep.DeepCutAuto
namespace Go.Proofs.YtliiapdakojomabDoor
open Go.RowKit

theorem wp_gen {P : Program} {c : Code} {Q : Exit → Act → World → Prop} {a : Act} {W : World} (h : ∀ Y, Y = W → c.wp P Q a Y) : c.wp P Q a W := h W rfl
theorem Tryd.sizeWord : (Tryd.prog.info? 33).map (·.size) = some 4 := by kernel_rfl
/-- All but one block is as it was. -/
structure But (P : Nat) (w w' : World) : Prop where
  size : w.heap.size ≤ w'.heap.size
  blk : ∀ g, g < w.heap.size → g ≠ P → w'.heap[g]? = w.heap[g]?
theorem But.of {P : Nat} {w w' : World} (h : Below w.heap.size w w') : But P w w' := ⟨h.size, fun g hg _ => h.block g hg⟩
theorem But.set (P i : Nat) (v : Value) (w : World) : But P w (w.setCell ⟨P, i, none⟩ v) := ⟨by simp, fun g _ hne => heap_setCell_other w ⟨P, i, none⟩ g v (by simpa using hne)⟩
theorem But.then {P : Nat} {a b c : World} (h : But P a b) (k : But P b c) : But P a c := ⟨Nat.le_trans h.size k.size, fun g hg hne => (k.blk g (Nat.lt_of_lt_of_le hg h.size) hne).trans (h.blk g hg hne)⟩
/-- A block that is new is written over. -/
theorem But.row {P R : Nat} {a b : World} (h : But P a b) (hR : a.heap.size ≤ R) (cs : Array Value) : But P a (b.setRow R cs) := ⟨by have := h.size; simpa [World.setRow] using this, fun g hg hne => (setRow_other b R g cs (by omega)).trans (h.blk g hg hne)⟩
theorem word_one (k : Int) (t : ByteArray) (a : Option Addr) (n c : Nat) (g : Bool) : (#[.int .i64 k, .string t, .slice a n c, .bool g] : Array Value).all (·.oneCell') = true := by simp [Value.oneCell']
def wordV (k : Int) (t : ByteArray) (v : Value) (g : Bool) : Array Value := #[.int .i64 k, .string t, v, .bool g]
theorem SmX.setBegun {B P : Nat} {line : ByteArray} {vl : Value} {s : Sc} {ob oc : Nat} {fs : List Wc} {D : Nat → Prop} {W0 w : World} (h : SmX B P line vl s ob oc fs D W0 w) (k : Nat) : SmX B P line vl { s with begun := k } ob oc fs D W0 (w.setCell ⟨P, 3, none⟩ (.int .i64 k)) := by
  have hb := But.set P 3 (.int .i64 k) w
  refine h.put hb.size hb.blk (h.below.setCell (by exact h.bP) _) rfl rfl h.lits ?_
  have := heap_setCell_same w P 3 _ _ (.int .i64 k) h.blk
  simpa using this
theorem SmX.setPos {B P : Nat} {line : ByteArray} {vl : Value} {s : Sc} {ob oc : Nat} {fs : List Wc} {D : Nat → Prop} {W0 w : World} (h : SmX B P line vl s ob oc fs D W0 w) (k : Nat) : SmX B P line vl { s with pos := k } ob oc fs D W0 (w.setCell ⟨P, 1, none⟩ (.int .i64 k)) := by
  have hb := But.set P 1 (.int .i64 k) w
  refine h.put hb.size hb.blk (h.below.setCell (by exact h.bP) _) rfl rfl h.lits ?_
  have := heap_setCell_same w P 1 _ _ (.int .i64 k) h.blk
  simpa using this
theorem SmX.free {B P : Nat} {line : ByteArray} {vl : Value} {s : Sc} {ob oc : Nat} {fs : List Wc} {D : Nat → Prop} {W0 w : World} (h : SmX B P line vl s ob oc fs D W0 w) (i : Nat) : w.frozen? ⟨P, i, none⟩ = false := frozen_of_row w P i _ _ h.blk
theorem below_rowW {B : Nat} {a w : World} (h : Below B a w) {R : Nat} (hR : B ≤ R) (cs : Array Value) : Below B a (w.setRow R cs) := below_setRow h hR cs
set_option maxRecDepth 100000 in
set_option maxHeartbeats 2000000 in
theorem begin_any {B P : Nat} {line : ByteArray} {vl : Value} {s : Sc} {ob oc : Nat} {fs : List Wc} {D : Nat → Prop} {W0 w : World} (k : Int) (h : SmX B P line vl s ob oc fs D W0 w) (hn : s.under.length ≤ 100) (hp : s.pos ≤ line.size) (hs : line.size ≤ 140737488355328) (hbg : s.begun ≤ 1000) :
    Calls Tryd.prog 57 #[.pointer (some ⟨P, 0, none⟩), .int .i64 k] w fun e w' => e = .returned (.agg #[.int .i64 k, .string ⟨#[]⟩, .slice none 0 0, .bool (s.word (L line))]) ∧ SmX B P line vl { s with begun := s.begun + 1 } ob oc fs D W0 w' ∧ But P w w' := by
  go_enter Tryd.func57, Tryd.ntmps57
  go_upto_region 1 with fail
  refine wp_gen (fun Y hY => ?_)
  have hYb : Below w.heap.size w Y := by rw [hY]; exact (Below.refl _ _).alloc (Nat.le_refl _) _
  obtain ⟨R, hR⟩ : ∃ R, R = w.heap.size := ⟨_, rfl⟩
  have hRY : Y.heap[R]? = some (.cells #[.int .i64 0, .string ⟨#[]⟩, .slice none 0 0, .bool false] 33 (0, 0)) := by rw [hY, hR]; exact heap_alloc_new w _
  have hY1 := h.on hYb
  have hPR : P ≠ R := by have := h.plt; omega
  have hPw := h.plt
  have HW := Lib.hid ((hY1.setBegun (s.begun + 1)).word hn hp hs)
  have HS2 := Lib.hid (hY1.setBegun (s.begun + 1))
  have HRZ : Hid ((Y.setCell ⟨P, 3, none⟩ (.int .i64 (s.begun + 1 : Nat))).heap[R]? = some (.cells #[.int .i64 0, .string ⟨#[]⟩, .slice none 0 0, .bool false] 33 (0, 0))) := Lib.hid ((heap_setCell_other Y ⟨P, 3, none⟩ R _ (by simpa using hPR.symm)).trans hRY)
  have HBT := Lib.hid ((But.of (P := P) hYb).then (But.set P 3 (.int .i64 (s.begun + 1 : Nat)) Y))
  obtain ⟨c0, c1, c2, c3, c4⟩ := hY1.sv
  have f3 := hY1.free 3
  have hword : ({ s with begun := s.begun + 1 } : Sc).word (L line) = s.word (L line) := rfl
  rw [hword] at HW
  obtain ⟨wb, hwb⟩ : ∃ b, b = s.word (L line) := ⟨_, rfl⟩
  rw [← hwb] at HW
  have HWB := Lib.hid hwb
  clear hwb
  have hbz : ((s.begun + 1 : Nat) : Int) = (s.begun : Int) + 1 := by omega
  rw [hbz] at HW HS2 HRZ HBT
  have H := Lib.hid h
  clear hY hYb hY1 hword hRY h
  go_wp2_with fail
  refine HW.out.mono ?_
  rintro e w3 ⟨rfl, hb3⟩
  have HR3 : Hid (w3.heap[R]? = some (.cells #[.int .i64 0, .string ⟨#[]⟩, .slice none 0 0, .bool false] 33 (0, 0))) := Lib.hid (by rw [hb3.block R (Array.getElem?_eq_some_iff.1 HRZ.out).1]; exact HRZ.out)
  have HS3 := Lib.hid (HS2.out.on hb3)
  have HB3 := Lib.hid (HBT.out.then (But.of (P := P) hb3))
  clear hb3 HW HS2 HRZ HBT c0 c1 c2 c3 c4 f3
  subst hR
  go_wp2_with (refine wpList_store_row rfl 33 _ _ rfl w.heap.size #[.int .i64 k, .string ⟨#[]⟩, .slice none 0 0, .bool wb] rfl rfl 33 _ HR3.out Tryd.sizeWord rfl (word_one _ _ _ _ _ _) ?_)
  have hbt := HB3.out.row (R := w.heap.size) (Nat.le_refl _) #[.int .i64 k, .string ⟨#[]⟩, .slice none 0 0, .bool wb]
  have hbB := H.out.bP
  have hfin : SmX B P line vl { s with begun := s.begun + 1 } ob oc fs D W0 (w3.setRow w.heap.size #[.int .i64 k, .string ⟨#[]⟩, .slice none 0 0, .bool wb]) :=
    H.out.put hbt.size hbt.blk (below_rowW HS3.out.below (by omega) _) rfl rfl H.out.lits ((setRow_other w3 w.heap.size P _ hPR).trans HS3.out.blk)
  exact bodyPost_ret (v := .agg #[.int .i64 k, .string ⟨#[]⟩, .slice none 0 0, .bool wb]) (results_cell_row Tryd.results57 _ _ w.heap.size 33 #[.int .i64 k, .string ⟨#[]⟩, .slice none 0 0, .bool wb] (0, 0) _ rfl (setRow_heap _ _ _ _ _ _ HR3.out) Tryd.underlying33 rfl Tryd.sizeWord) rfl ⟨by rw [HWB.out], hfin, hbt⟩
end Go.Proofs.YtliiapdakojomabDoor
