/- The desk's mailed. -/
import Derived.Test.YtflkhnmggmfhfaaGreatD16e
namespace Go.Proofs.YtflkhnmggmfhfaaGreat
open Go.RowKit

set_option maxRecDepth 100000 in
set_option maxHeartbeats 8000000 in
theorem mailed_any {D n : Nat} {v : DV} {c : DC} {w : World} (lv : Value) (ml : List MLE) (h : DK D v { c with M := layM ml n ml.length } w) (hln : ml.length ≤ n) (hn : n ≤ 1000000) (hr : MailsAt w lv ml) (hf : ∀ m ∈ ml, ∃ fl, Txs w (.slice m.fa m.fn m.fc) fl ∧ fl.length ≤ 9223372036854775807) :
    Calls Tryz.prog 40 #[.pointer (some ⟨D, 0, none⟩), lv] w fun e w' => e = .returned (.bool true) ∧ Below w.heap.size w w' := by
  obtain ⟨ma, mc, rfl, hcs⟩ := hr
  have HM := Lib.hid hcs
  have HF := Lib.hid hf
  obtain ⟨c0w, _⟩ := h.cells
  have hrow := h.mails
  have hlen : ({ c with M := layM ml n ml.length } : DC).M.length = n := layM_length ml n ml.length
  rw [hlen] at hrow
  obtain ⟨sa, sc, es⟩ := ownsRow_shape hrow
  rw [es] at c0w hrow
  have HR : Hid (∀ k, k < n → ∃ g, sa = some ⟨g, 0, none⟩ ∧ g < w.heap.size ∧ w.rangeAt g (k * 13) (mlA (if k < ml.length then ml.getD k ML0 else fillM k)).toList) := Lib.hid (fun k hk => by
    rcases hrow.2 with ⟨e, h0⟩ | ⟨g, cap, cur, e, _⟩
    · omega
    · injection e with e1 e2 e3
      subst e1
      refine ⟨g, rfl, (hrow.lt g rfl).2, fun j u hu => ?_⟩
      have hj13 : j < 13 := by have := (List.getElem?_eq_some_iff.1 hu).1; simpa [mlA] using this
      have hc := mlC_at (layM ml n ml.length) k j (by rw [layM_length]; exact hk) hj13
      rw [layM_at ml hk hln] at hc
      rw [hrow.cellAt (k * 13 + j) (by omega), hc, ← Array.getElem?_toList]
      exact hu)
  have hD := lt_of_heap h.self
  clear h hcs hrow es hlen hf
  go_enter Tryz.func40, Tryz.ntmps40
  go_wp2_with fail
  go_loopw [5] (fun i wr => ∃ (k : Nat) (X : World), X = wr ∧ k ≤ n ∧ i = .int .i64 k ∧ Below w.heap.size w X) (fun i _ => n - (intOf i).toNat)
  case atStart => exact ⟨0, _, rfl, Nat.zero_le _, rfl, Below.refl _ _⟩
  case round =>
    obtain ⟨k, X, hX, hk, rfl, hbX⟩ := hrel
    subst hX
    have c0x : X.cell? ⟨D, 0, none⟩ = some (.slice sa n sc) := by rw [hbX.cell (p := ⟨D, 0, none⟩) hD]; exact c0w
    by_cases hlt : k < n
    · have hlti : (k : Int) < (n : Int) := by omega
      obtain ⟨g, rfl, hg, hcr⟩ := HR.out k hlt
      have hkw : IntKind.i64.wrap (400000 + (k : Int)) = 400000 + (k : Int) := by simp only [IntKind.wrap, IntKind.signed, IntKind.bits]; simp; omega
      obtain ⟨Y1, hY1⟩ : ∃ Y1, X.alloc (.cells #[.int .i64 (-1), .int .i64 (400000 + (k : Int)), .int .i64 0, .slice none 0 0, .bool false, .int .i64 0, .int .i64 0, .int .i64 0, .int .i64 0, .int .i64 0, .int .i64 0, .int .i64 0, .string ⟨#[]⟩] 88) = Y1 := ⟨_, rfl⟩
      have hb1 : Below X.heap.size X Y1 := by rw [← hY1]; exact (Below.refl _ _).alloc (Nat.le_refl _) _
      have h1 : Y1.heap[X.heap.size]? = some (.cells (mlA (fillM k)) 88 (0, 0)) := by rw [← hY1]; exact heap_new _ _
      by_cases hkl : k < ml.length
      · rw [if_pos hkl] at hcr
        have hkli : (k : Int) < (ml.length : Int) := by omega
        obtain ⟨g2, o2, hq2, hg2, hcc⟩ := HM.out (by omega)
        obtain ⟨m, hm⟩ : ∃ m, ml.getD k ML0 = m := ⟨_, rfl⟩
        have hTx := HF.out m (by rw [← hm, List.getD_eq_getElem?_getD, List.getElem?_eq_getElem hkl]; exact List.getElem_mem hkl)
        have hcl := hcc k hkl
        rw [hm] at hcr hcl
        have HCl : Hid (Y1.rangeAt g2 (o2 + k * 13) (mlA m).toList) := Lib.hid (fun i u hu => by
          rw [(hbX.trans (hb1.mono hbX.size)).cell (p := ⟨g2, o2 + k * 13 + i, none⟩) hg2]
          exact hcl i u (by rw [← Array.getElem?_toList]; exact hu))
        obtain ⟨Y2, hY2⟩ : ∃ Y2, Y1.setRow X.heap.size (mlA m) = Y2 := ⟨_, rfl⟩
        have hB1 : Y2.heap[X.heap.size]? = some (.cells (mlA m) 88 (0, 0)) := by rw [← hY2]; exact setRow_heap _ _ _ _ _ _ h1
        have hb2 : Below X.heap.size X Y2 := by
          rw [← hY2]
          exact ⟨hb1.os, hb1.tape, hb1.output, by have := hb1.size; simp; omega, fun b hb => by rw [setRow_other _ _ _ _ (by omega)]; exact hb1.block b hb⟩
        subst hq2
        have HOne1 := Lib.hid (mlA_one m)
        have H1 := Lib.hid h1
        have HY2 := Lib.hid hY2
        have HY1 := Lib.hid hY1
        have hQ0 : Hid (∀ q : Nat, True) := Lib.hid (fun _ => trivial)
        clear hcc hcl hb1 h1 hY2 hY1 hm hQ0
        go_upto_region 5 with fail
        rw [show X.alloc (.cells #[.int .i64 (-1), .int .i64 (400000 + (k : Int)), .int .i64 0, .slice none 0 0, .bool false, .int .i64 0, .int .i64 0, .int .i64 0, .int .i64 0, .int .i64 0, .int .i64 0, .int .i64 0, .string ⟨#[]⟩] 88) = Y1 from HY1.out]
        clear HY1
        go_upto_region 7 with (first | (refine wpList_load_mid rfl 88 _ rfl g2 (o2 + k * 13) rfl _ _ HCl.out Tryz.underlying88 rfl (Tryz.sizeMl m) ?_) | (refine wpList_store_row rfl 88 _ _ rfl X.heap.size (mlA m) rfl rfl 88 _ H1.out (Tryz.sizeMlA m) rfl HOne1.out ?_))
        (try rw [HY2.out])
        clear HY2 HCl H1 HOne1
        have hCd : Y2.rangeAt g (k * 13) (mlA m).toList := fun i u hu => by
          rw [(hbX.trans (hb2.mono hbX.size)).cell (p := ⟨g, k * 13 + i, none⟩) hg]
          exact hcr i u hu
        have HCd := Lib.hid hCd
        have c0y : Y2.cell? ⟨D, 0, none⟩ = some (.slice (some ⟨g, 0, none⟩) n sc) := by rw [(hbX.trans (hb2.mono hbX.size)).cell (p := ⟨D, 0, none⟩) hD]; exact c0w
        obtain ⟨Y3, hY3⟩ : ∃ Y3, (Y2.alloc (.cells #[.int .i64 0, .int .i64 0, .int .i64 0, .slice none 0 0, .bool false, .int .i64 0, .int .i64 0, .int .i64 0, .int .i64 0, .int .i64 0, .int .i64 0, .int .i64 0, .string ⟨#[]⟩] 88)).setRow Y2.heap.size (mlA m) = Y3 := ⟨_, rfl⟩
        obtain ⟨hb3, hn3⟩ := box_below hY3
        have h1n : Y3.heap[X.heap.size]? = some (.cells (mlA m) 88 (0, 0)) := by rw [hb3.block _ (lt_of_heap hB1)]; exact hB1
        have a0 : Y3.cell? ⟨X.heap.size, 0, none⟩ = some (.int .i64 m.s) := cell_of h1n 0
        have b0 : Y3.cell? ⟨Y2.heap.size, 0, none⟩ = some (.int .i64 m.s) := cell_of hn3 0
        have a1 : Y3.cell? ⟨X.heap.size, 1, none⟩ = some (.int .i64 m.u) := cell_of h1n 1
        have b1 : Y3.cell? ⟨Y2.heap.size, 1, none⟩ = some (.int .i64 m.u) := cell_of hn3 1
        have a2 : Y3.cell? ⟨X.heap.size, 2, none⟩ = some (.int .i64 m.m) := cell_of h1n 2
        have b2 : Y3.cell? ⟨Y2.heap.size, 2, none⟩ = some (.int .i64 m.m) := cell_of hn3 2
        have a3 : Y3.cell? ⟨X.heap.size, 3, none⟩ = some (.slice m.fa m.fn m.fc) := cell_of h1n 3
        have b3 : Y3.cell? ⟨Y2.heap.size, 3, none⟩ = some (.slice m.fa m.fn m.fc) := cell_of hn3 3
        have a4 : Y3.cell? ⟨X.heap.size, 4, none⟩ = some (.bool m.rc) := cell_of h1n 4
        have b4 : Y3.cell? ⟨Y2.heap.size, 4, none⟩ = some (.bool m.rc) := cell_of hn3 4
        have a5 : Y3.cell? ⟨X.heap.size, 5, none⟩ = some (.int .i64 m.y) := cell_of h1n 5
        have b5 : Y3.cell? ⟨Y2.heap.size, 5, none⟩ = some (.int .i64 m.y) := cell_of hn3 5
        have a6 : Y3.cell? ⟨X.heap.size, 6, none⟩ = some (.int .i64 m.mo) := cell_of h1n 6
        have b6 : Y3.cell? ⟨Y2.heap.size, 6, none⟩ = some (.int .i64 m.mo) := cell_of hn3 6
        have a7 : Y3.cell? ⟨X.heap.size, 7, none⟩ = some (.int .i64 m.d) := cell_of h1n 7
        have b7 : Y3.cell? ⟨Y2.heap.size, 7, none⟩ = some (.int .i64 m.d) := cell_of hn3 7
        have a8 : Y3.cell? ⟨X.heap.size, 8, none⟩ = some (.int .i64 m.h) := cell_of h1n 8
        have b8 : Y3.cell? ⟨Y2.heap.size, 8, none⟩ = some (.int .i64 m.h) := cell_of hn3 8
        have a9 : Y3.cell? ⟨X.heap.size, 9, none⟩ = some (.int .i64 m.mi) := cell_of h1n 9
        have b9 : Y3.cell? ⟨Y2.heap.size, 9, none⟩ = some (.int .i64 m.mi) := cell_of hn3 9
        have a10 : Y3.cell? ⟨X.heap.size, 10, none⟩ = some (.int .i64 m.se) := cell_of h1n 10
        have b10 : Y3.cell? ⟨Y2.heap.size, 10, none⟩ = some (.int .i64 m.se) := cell_of hn3 10
        have a11 : Y3.cell? ⟨X.heap.size, 11, none⟩ = some (.int .i64 m.z) := cell_of h1n 11
        have b11 : Y3.cell? ⟨Y2.heap.size, 11, none⟩ = some (.int .i64 m.z) := cell_of hn3 11
        have a12 : Y3.cell? ⟨X.heap.size, 12, none⟩ = some (.string m.raw) := cell_of h1n 12
        have b12 : Y3.cell? ⟨Y2.heap.size, 12, none⟩ = some (.string m.raw) := cell_of hn3 12
        have HWd : Hid (Calls Tryz.prog 50 #[.slice m.fa m.fn m.fc, .slice m.fa m.fn m.fc] Y3 (fun e w' => e = .returned (.bool true) ∧ ∃ q, w' = Y3.drewN q)) := Lib.hid (by
          obtain ⟨fl, hfl, hfz⟩ := hTx
          have ht : Txs Y3 (.slice m.fa m.fn m.fc) fl := (hfl.on hbX).on (hb2.trans (hb3.mono hb2.size))
          exact wordsL_dr _ _ fl Y3 ht ht hfz)
        have HBd : Hid (∀ q, Below w.heap.size w (Y3.drewN q)) := Lib.hid (fun q => below_drewN (hbX.trans ((hb2.trans (hb3.mono hb2.size)).mono hbX.size)) q)
        have HOne := Lib.hid (mlA_one m)
        have HY3 := Lib.hid hY3
        have q0 : (m.s != m.s) = false := by simp
        have q1 : (m.u != m.u) = false := by simp
        have q2 : (m.m != m.m) = false := by simp
        have q4 : (m.rc != m.rc) = false := by simp
        have q5 : (m.y == m.y) = true := by simp
        have q6 : (m.mo == m.mo) = true := by simp
        have q7 : (m.d == m.d) = true := by simp
        have q8 : (m.h == m.h) = true := by simp
        have q9 : (m.mi == m.mi) = true := by simp
        have q10 : (m.se == m.se) = true := by simp
        have q11 : (m.z == m.z) = true := by simp
        have q12 : (m.raw.toList == m.raw.toList) = true := by simp
        have q13 : (m.raw.toList != m.raw.toList) = false := by simp
        clear hcr hCd hbX hb2 hb3 h1n hn3 hTx hB1 hY3
        go_upto_region 8 with (first | (refine wpList_load_mid rfl 88 _ rfl g (k * 13) rfl _ _ HCd.out Tryz.underlying88 rfl (Tryz.sizeMl m) ?_) | (refine wpList_store_row rfl 88 _ _ rfl Y2.heap.size (mlA m) rfl rfl 88 _ (heap_new _ _) (Tryz.sizeMlA m) rfl HOne.out ?_))
        (try rw [HY3.out])
        clear HY3 HCd
        generalize m.s = x0 at *
        generalize m.u = x1 at *
        generalize m.m = x2 at *
        generalize m.rc = x3 at *
        generalize m.y = x4 at *
        generalize m.mo = x5 at *
        generalize m.d = x6 at *
        generalize m.h = x7 at *
        generalize m.mi = x8 at *
        generalize m.se = x9 at *
        generalize m.z = x10 at *
        generalize m.raw = x11 at *
        generalize m.fa = x12 at *
        generalize m.fn = x13 at *
        generalize m.fc = x14 at *
        go_wp2_with (go_at_call 50; refine HWd.out.mono ?_; rintro e w5 ⟨rfl, q, hq⟩; have HQ := Lib.hid (hq ▸ HBd.out q); clear hq)
        go_roundw
        case rel => exact ⟨k + 1, _, rfl, by omega, by go_num, HQ.out⟩
        case measure => simp [intOf]; omega
      · rw [if_neg hkl] at hcr
        have hkli : ¬ (k : Int) < (ml.length : Int) := by omega
        have hTx : ∃ fl, Txs w (.slice (fillM k).fa (fillM k).fn (fillM k).fc) fl ∧ fl.length ≤ 9223372036854775807 := ⟨[], ⟨none, 0, rfl, fun q => by simp at q⟩, by simp⟩
        obtain ⟨m, hm⟩ : ∃ m, fillM k = m := ⟨_, rfl⟩
        rw [hm] at hcr hTx h1
        have hB1 := h1
        have hb2 := hb1
        obtain ⟨Y2, hY2⟩ : ∃ Y2, Y1 = Y2 := ⟨_, rfl⟩
        have HY1 : Hid (X.alloc (.cells #[.int .i64 (-1), .int .i64 (400000 + (k : Int)), .int .i64 0, .slice none 0 0, .bool false, .int .i64 0, .int .i64 0, .int .i64 0, .int .i64 0, .int .i64 0, .int .i64 0, .int .i64 0, .string ⟨#[]⟩] 88) = Y2) := Lib.hid (by rw [hY1, hY2])
        rw [hY2] at hB1 hb2
        clear hm hY1 hb1 h1 hY2
        go_upto_region 5 with fail
        rw [show X.alloc (.cells #[.int .i64 (-1), .int .i64 (400000 + (k : Int)), .int .i64 0, .slice none 0 0, .bool false, .int .i64 0, .int .i64 0, .int .i64 0, .int .i64 0, .int .i64 0, .int .i64 0, .int .i64 0, .string ⟨#[]⟩] 88) = Y2 from HY1.out]
        clear HY1
        go_upto_region 7 with fail
        have hCd : Y2.rangeAt g (k * 13) (mlA m).toList := fun i u hu => by
          rw [(hbX.trans (hb2.mono hbX.size)).cell (p := ⟨g, k * 13 + i, none⟩) hg]
          exact hcr i u hu
        have HCd := Lib.hid hCd
        have c0y : Y2.cell? ⟨D, 0, none⟩ = some (.slice (some ⟨g, 0, none⟩) n sc) := by rw [(hbX.trans (hb2.mono hbX.size)).cell (p := ⟨D, 0, none⟩) hD]; exact c0w
        obtain ⟨Y3, hY3⟩ : ∃ Y3, (Y2.alloc (.cells #[.int .i64 0, .int .i64 0, .int .i64 0, .slice none 0 0, .bool false, .int .i64 0, .int .i64 0, .int .i64 0, .int .i64 0, .int .i64 0, .int .i64 0, .int .i64 0, .string ⟨#[]⟩] 88)).setRow Y2.heap.size (mlA m) = Y3 := ⟨_, rfl⟩
        obtain ⟨hb3, hn3⟩ := box_below hY3
        have h1n : Y3.heap[X.heap.size]? = some (.cells (mlA m) 88 (0, 0)) := by rw [hb3.block _ (lt_of_heap hB1)]; exact hB1
        have a0 : Y3.cell? ⟨X.heap.size, 0, none⟩ = some (.int .i64 m.s) := cell_of h1n 0
        have b0 : Y3.cell? ⟨Y2.heap.size, 0, none⟩ = some (.int .i64 m.s) := cell_of hn3 0
        have a1 : Y3.cell? ⟨X.heap.size, 1, none⟩ = some (.int .i64 m.u) := cell_of h1n 1
        have b1 : Y3.cell? ⟨Y2.heap.size, 1, none⟩ = some (.int .i64 m.u) := cell_of hn3 1
        have a2 : Y3.cell? ⟨X.heap.size, 2, none⟩ = some (.int .i64 m.m) := cell_of h1n 2
        have b2 : Y3.cell? ⟨Y2.heap.size, 2, none⟩ = some (.int .i64 m.m) := cell_of hn3 2
        have a3 : Y3.cell? ⟨X.heap.size, 3, none⟩ = some (.slice m.fa m.fn m.fc) := cell_of h1n 3
        have b3 : Y3.cell? ⟨Y2.heap.size, 3, none⟩ = some (.slice m.fa m.fn m.fc) := cell_of hn3 3
        have a4 : Y3.cell? ⟨X.heap.size, 4, none⟩ = some (.bool m.rc) := cell_of h1n 4
        have b4 : Y3.cell? ⟨Y2.heap.size, 4, none⟩ = some (.bool m.rc) := cell_of hn3 4
        have a5 : Y3.cell? ⟨X.heap.size, 5, none⟩ = some (.int .i64 m.y) := cell_of h1n 5
        have b5 : Y3.cell? ⟨Y2.heap.size, 5, none⟩ = some (.int .i64 m.y) := cell_of hn3 5
        have a6 : Y3.cell? ⟨X.heap.size, 6, none⟩ = some (.int .i64 m.mo) := cell_of h1n 6
        have b6 : Y3.cell? ⟨Y2.heap.size, 6, none⟩ = some (.int .i64 m.mo) := cell_of hn3 6
        have a7 : Y3.cell? ⟨X.heap.size, 7, none⟩ = some (.int .i64 m.d) := cell_of h1n 7
        have b7 : Y3.cell? ⟨Y2.heap.size, 7, none⟩ = some (.int .i64 m.d) := cell_of hn3 7
        have a8 : Y3.cell? ⟨X.heap.size, 8, none⟩ = some (.int .i64 m.h) := cell_of h1n 8
        have b8 : Y3.cell? ⟨Y2.heap.size, 8, none⟩ = some (.int .i64 m.h) := cell_of hn3 8
        have a9 : Y3.cell? ⟨X.heap.size, 9, none⟩ = some (.int .i64 m.mi) := cell_of h1n 9
        have b9 : Y3.cell? ⟨Y2.heap.size, 9, none⟩ = some (.int .i64 m.mi) := cell_of hn3 9
        have a10 : Y3.cell? ⟨X.heap.size, 10, none⟩ = some (.int .i64 m.se) := cell_of h1n 10
        have b10 : Y3.cell? ⟨Y2.heap.size, 10, none⟩ = some (.int .i64 m.se) := cell_of hn3 10
        have a11 : Y3.cell? ⟨X.heap.size, 11, none⟩ = some (.int .i64 m.z) := cell_of h1n 11
        have b11 : Y3.cell? ⟨Y2.heap.size, 11, none⟩ = some (.int .i64 m.z) := cell_of hn3 11
        have a12 : Y3.cell? ⟨X.heap.size, 12, none⟩ = some (.string m.raw) := cell_of h1n 12
        have b12 : Y3.cell? ⟨Y2.heap.size, 12, none⟩ = some (.string m.raw) := cell_of hn3 12
        have HWd : Hid (Calls Tryz.prog 50 #[.slice m.fa m.fn m.fc, .slice m.fa m.fn m.fc] Y3 (fun e w' => e = .returned (.bool true) ∧ ∃ q, w' = Y3.drewN q)) := Lib.hid (by
          obtain ⟨fl, hfl, hfz⟩ := hTx
          have ht : Txs Y3 (.slice m.fa m.fn m.fc) fl := (hfl.on hbX).on (hb2.trans (hb3.mono hb2.size))
          exact wordsL_dr _ _ fl Y3 ht ht hfz)
        have HBd : Hid (∀ q, Below w.heap.size w (Y3.drewN q)) := Lib.hid (fun q => below_drewN (hbX.trans ((hb2.trans (hb3.mono hb2.size)).mono hbX.size)) q)
        have HOne := Lib.hid (mlA_one m)
        have HY3 := Lib.hid hY3
        have q0 : (m.s != m.s) = false := by simp
        have q1 : (m.u != m.u) = false := by simp
        have q2 : (m.m != m.m) = false := by simp
        have q4 : (m.rc != m.rc) = false := by simp
        have q5 : (m.y == m.y) = true := by simp
        have q6 : (m.mo == m.mo) = true := by simp
        have q7 : (m.d == m.d) = true := by simp
        have q8 : (m.h == m.h) = true := by simp
        have q9 : (m.mi == m.mi) = true := by simp
        have q10 : (m.se == m.se) = true := by simp
        have q11 : (m.z == m.z) = true := by simp
        have q12 : (m.raw.toList == m.raw.toList) = true := by simp
        have q13 : (m.raw.toList != m.raw.toList) = false := by simp
        clear hcr hCd hbX hb2 hb3 h1n hn3 hTx hB1 hY3
        go_upto_region 8 with (first | (refine wpList_load_mid rfl 88 _ rfl g (k * 13) rfl _ _ HCd.out Tryz.underlying88 rfl (Tryz.sizeMl m) ?_) | (refine wpList_store_row rfl 88 _ _ rfl Y2.heap.size (mlA m) rfl rfl 88 _ (heap_new _ _) (Tryz.sizeMlA m) rfl HOne.out ?_))
        (try rw [HY3.out])
        clear HY3 HCd
        generalize m.s = x0 at *
        generalize m.u = x1 at *
        generalize m.m = x2 at *
        generalize m.rc = x3 at *
        generalize m.y = x4 at *
        generalize m.mo = x5 at *
        generalize m.d = x6 at *
        generalize m.h = x7 at *
        generalize m.mi = x8 at *
        generalize m.se = x9 at *
        generalize m.z = x10 at *
        generalize m.raw = x11 at *
        generalize m.fa = x12 at *
        generalize m.fn = x13 at *
        generalize m.fc = x14 at *
        go_wp2_with (go_at_call 50; refine HWd.out.mono ?_; rintro e w5 ⟨rfl, q, hq⟩; have HQ := Lib.hid (hq ▸ HBd.out q); clear hq)
        go_roundw
        case rel => exact ⟨k + 1, _, rfl, by omega, by go_num, HQ.out⟩
        case measure => simp [intOf]; omega
    · obtain rfl : k = n := by omega
      have HB2 := Lib.hid hbX
      clear hbX
      go_wp2_with fail
      go_ret
      exact ⟨rfl, HB2.out⟩
end Go.Proofs.YtflkhnmggmfhfaaGreat
