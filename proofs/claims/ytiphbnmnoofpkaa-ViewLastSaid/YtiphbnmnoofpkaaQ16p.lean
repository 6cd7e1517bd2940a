/- view: flagged. -/
import Derived.Test.YtiphbnmnoofpkaaQ16o
namespace Go.Proofs.Ytiphbnmnoofpkaa
open Go.RowKit

def ME0 : ME := ⟨0, none, 0, []⟩
def foldM (n : Int) (own : Bool) (ms : List ME) (l : List PR) : List PR := (ms.map ME.pl).foldl (fun l m => l.map (turnR n own m)) l
theorem foldM_snoc (n : Int) (own : Bool) (ms : List ME) (m : ME) (l : List PR) : foldM n own (ms ++ [m]) l = (foldM n own ms l).map (turnR n own m.pl) := by simp [foldM]
theorem take_snocM (ms : List ME) (k : Nat) (hk : k < ms.length) : ms.take (k + 1) = ms.take k ++ [ms.getD k ME0] := by
  rw [List.take_succ_eq_append_getElem hk]; simp [hk]
section
variable {P : Nat} {val : Int} {rv cv : Value} {R : List RE} {C : List Int} {w : World} {N : Nat}
set_option maxHeartbeats 1000000 in
set_option maxRecDepth 20000 in
theorem flagged_any (h : VAt P val rv cv R C w) (hk : VOK R C N) (hN : N ≤ 1000000) (e : EV) (own : Bool) (ms : List ME) (hm : MksAt w e.vm ms) (hout : MksOut (fpV P rv cv R) e.vm ms) (hM : ms.length ≤ 1000000) :
    Calls Try.prog 42 #[.pointer (some ⟨P, 0, none⟩), .agg (evA e), .bool own] w fun r w' => r = .returned (.tuple #[]) ∧ ∃ R', VO P val R' C (fpV P rv cv R) w w' ∧ R'.map RE.pl = (if e.bx = val then foldM e.n own ms (R.map RE.pl) else R.map RE.pl) ∧ uidR R' = uidR R := by
  obtain ⟨W1, hW1⟩ : ∃ W1, w.alloc (.cells (evA e) 38) = W1 := ⟨_, rfl⟩
  have h1 : W1.heap[w.heap.size]? = some (.cells (evA e) 38 (0, 0)) := by rw [← hW1]; exact heap_new _ _
  have hb1 : Below w.heap.size w W1 := by rw [← hW1]; exact below_box (Below.refl _ _) (Nat.le_refl _) _
  obtain ⟨_, _, c2, _, _, _, c9⟩ := evA_cells h1
  have hV1 := h.on hb1
  have d1 := hV1.cells.c1
  by_cases hx : e.bx = val
  · have hxb : (e.bx != val) = false := by simpa using hx
    rw [if_pos hx]
    have hwz : w.heap.size < W1.heap.size := lt_of_heap h1
    have hmW := hm.on hb1
    obtain ⟨am, cm, hvm, hmr⟩ := hmW.row
    rw [hvm] at c9
    have HMR := Lib.hid hmr
    have HFL := Lib.hid hmW.fls
    have HOut := Lib.hid hout
    have HVM := Lib.hid hvm
    have HK := Lib.hid hk
    have H1 := Lib.hid h1
    have HB1 := Lib.hid hb1
    have HEO : Hid (w.heap.size ∉ fpV P rv cv R) := Lib.hid (fun hm => by have := h.lt hm; omega)
    have H0 : Hid (VO P val R C (fpV P rv cv R) W1 W1.drew) := Lib.hid ⟨rv, cv, hV1.on (Below.refl _ _).drew, FO.below (Below.refl _ _).drew⟩
    clear h hm hout h1 hb1 hV1 hx hmW hmr hvm hk
    go_enter Try.func42, Try.ntmps42
    go_upto_region 1 with fail
    (try rw [hW1])
    clear hW1
    go_region
    go_wp2_with fail
    clear c2 c9 d1 hxb
    go_loopw [20] (fun i wr => ∃ (k : Nat) (R1 : List RE), k ≤ ms.length ∧ i = .int .i64 k ∧ VO P val R1 C (fpV P rv cv R) W1 wr ∧ Hid (R1.map RE.pl = foldM e.n own (ms.take k) (R.map RE.pl) ∧ uidR R1 = uidR R)) (fun i _ => ms.length - (intOf i).toNat)
    case atStart => exact ⟨0, R, Nat.zero_le _, rfl, H0.out, Lib.hid ⟨rfl, rfl⟩⟩
    case round =>
      obtain ⟨k, R1, hk, rfl, hO, HR1⟩ := hrel
      by_cases hlt : k < ms.length
      · have hlti : (k : Int) < (ms.length : Int) := by omega
        obtain ⟨g, off, rfl, hg, hcc⟩ := HMR.out (by omega)
        obtain ⟨rv1, cv1, q1, f1⟩ := hO
        have hgo : g ∉ fpV P rv cv R := HOut.out.1 (by omega) g (by rw [HVM.out]; rfl)
        obtain ⟨ck0, ck1⟩ := hcc k hlt
        rw [← World.cell?_of_block (a := ⟨g, off + k * 2, none⟩) (f1.keep hg hgo)] at ck0
        rw [← World.cell?_of_block (a := ⟨g, off + k * 2 + 1, none⟩) (f1.keep hg hgo)] at ck1
        have hmm : ms.getD k ME0 ∈ ms := by rw [List.getD_eq_getElem?_getD, List.getElem?_eq_getElem hlt]; exact List.getElem_mem hlt
        have hfl : FlAt wr (ms.getD k ME0) := (HFL.out _ hmm).hold f1.1.size (fun hne b hb hl => f1.keep hl (HOut.out.2 _ hmm hne b hb))
        have hEv : wr.heap[w.heap.size]? = some (.cells (evA e) 38 (0, 0)) := by rw [f1.keep hwz HEO.out]; exact H1.out
        have HS : Hid (foldM e.n own (ms.take (k + 1)) (R.map RE.pl) = (R1.map RE.pl).map (turnR e.n own ((ms.getD k ME0).uid, (ms.getD k ME0).fl))) := Lib.hid (by rw [take_snocM ms k hlt, foldM_snoc, HR1.out.1]; rfl)
        have hk1 : VOK R1 C N := ⟨by rw [HR1.out.2]; exact HK.out.rise, by rw [HR1.out.2]; exact HK.out.top, by
          have := HK.out.len
          have e2 := congrArg List.length HR1.out.2
          rw [uidR_length, uidR_length] at e2
          omega⟩
        change wr.cell? ⟨g, off + k * 2, none⟩ = some (.int .i64 (ms.getD k ME0).uid) at ck0
        change wr.cell? ⟨g, off + k * 2 + 1, none⟩ = some (.slice (ms.getD k ME0).fa (ms.getD k ME0).fl.length (ms.getD k ME0).fc) at ck1
        clear hcc hgo hmm
        generalize ms.getD k ME0 = m at *
        obtain ⟨u, fa, fc, fl⟩ := m
        dsimp only at ck0 ck1 HS hfl
        obtain ⟨Y1, hY1⟩ : ∃ Y1, wr.alloc (.cells #[.int .i64 u, .slice fa fl.length fc] 59) = Y1 := ⟨_, rfl⟩
        have hbY : Below wr.heap.size wr Y1 := by rw [← hY1]; exact (Below.refl _ _).alloc (Nat.le_refl _) _
        have hYn : Y1.heap[wr.heap.size]? = some (.cells #[.int .i64 u, .slice fa fl.length fc] 59 (0, 0)) := by rw [← hY1]; exact heap_new _ _
        have hwY : wr.heap.size < Y1.heap.size := lt_of_heap hYn
        have hqY := q1.on hbY
        have HP := Lib.hid (place_any hqY hk1 hN u)
        have hl1 := hk1.len
        have cY0 := cell_of hYn 0
        have hevl : w.heap.size < wr.heap.size := lt_of_heap hEv
        have HSkip : Hid (∀ W, Below Y1.heap.size Y1 W → VO P val R1 C (fpV P rv cv R) W1 W) := Lib.hid (fun W hb => ⟨rv1, cv1, hqY.on hb, (f1.trans (FO.below hbY)).trans (FO.below hb)⟩)
        cases hh : hitP (uidR R1) u with
        | false =>
          rw [hh] at HP
          have HN0 : Hid ((R1.map RE.pl).map (turnR e.n own (u, fl)) = R1.map RE.pl) := Lib.hid (turn_no (fun r hr er => by
            have : hitP (uidR R1) u = true := (hitP_iff hk1.rows).2 (er ▸ List.mem_map_of_mem hr)
            rw [hh] at this; cases this))
          clear hh q1 f1 hqY hfl hEv hYn hk1 hbY
          generalize ixP (uidR R1) u = ix at *
          go_upto_region 5 with fail
          (try rw [hY1])
          clear hY1
          go_wp2_with (go_at_call 29; refine HP.out.mono ?_; rintro r W ⟨rfl, hb⟩; have HO := Lib.hid (HSkip.out _ hb); clear hb)
          go_roundw
          case rel => exact ⟨k + 1, R1, by omega, by go_num, HO.out, Lib.hid ⟨by rw [HS.out, HN0.out], HR1.out.2⟩⟩
          case measure => simp [intOf]; omega
        | true =>
          rw [hh] at HP
          have hix := ixP_mem hk1.rows (hitP_mem hh)
          rw [uidR_length] at hix
          have hixl := hix.1
          obtain ⟨g2, cap2, rfl, _⟩ := q1.row_at hixl
          have hR1 : R1.length ≤ 1000000 := by omega
          have hixi : ((ixP (uidR R1) u : Nat) : Int) < (R1.length : Int) := by omega
          have H2 : Hid (∀ W, Below Y1.heap.size Y1 W → W.cell? ⟨P, 2, none⟩ = some (.slice (some ⟨g2, 0, none⟩) R1.length cap2) ∧ W.cell? ⟨g2, ixP (uidR R1) u * 4 + 1, none⟩ = some (.bool (R1.getD (ixP (uidR R1) u) RE0).gone) ∧ W.cell? ⟨g2, ixP (uidR R1) u * 4 + 3, none⟩ = some (R1.getD (ixP (uidR R1) u) RE0).ptr ∧ W.cell? ⟨w.heap.size, 0, none⟩ = some (.int .i64 e.n) ∧ W.cell? ⟨wr.heap.size, 1, none⟩ = some (.slice fa fl.length fc)) := Lib.hid (fun W hb => by
            have hW := hqY.on hb
            obtain ⟨g3, cap3, e3, _, y1, _, y3, _⟩ := hW.row_at hixl
            cases e3
            refine ⟨hW.cells.c2, y1, y3, ?_, ?_⟩
            · have hq : Y1.heap[w.heap.size]? = some (.cells (evA e) 38 (0, 0)) := by rw [hbY.block _ hevl]; exact hEv
              rw [hb.cell (p := ⟨w.heap.size, 0, none⟩) (show w.heap.size < Y1.heap.size by omega)]
              exact (evA_cells hq).1
            · rw [hb.cell (p := ⟨wr.heap.size, 1, none⟩) hwY, cell_of hYn 1]; rfl)
          have HT : Hid (∀ W, Below Y1.heap.size Y1 W → ∃ a2 c2 Y2, (Builtin.append_ #[22, 22] 22 #[.slice none 0 0, .slice fa fl.length fc]).run Try.prog W.drew = .ok (.slice a2 fl.length c2) Y2 ∧ Below W.heap.size W Y2 ∧ Y2.frozen? ⟨g2, ixP (uidR R1) u * 4 + 3, none⟩ = false ∧ (Y2.cell? ⟨g2, ixP (uidR R1) u * 4 + 3, none⟩).isSome = true ∧ g2 < Y2.heap.size ∧ VO P val (R1.set (ixP (uidR R1) u) (turnE ⟨Y2.heap.size, .slice a2 fl.length c2, e.n, fl⟩ (R1.getD (ixP (uidR R1) u) RE0))) C (fpV P rv cv R) W1 ((Y2.alloc (.cells #[.int .i64 e.n, .slice a2 fl.length c2] 99)).setCell ⟨g2, ixP (uidR R1) u * 4 + 3, none⟩ (.pointer (some ⟨Y2.heap.size, 0, none⟩)))) := Lib.hid (fun W hb => by
            have hW := hqY.on hb
            have hfW : FlAt W.drew ⟨u, fa, fc, fl⟩ := (hfl.hold hbY.size (fun _ b _ hl => hbY.block b hl)).hold hb.size (fun _ b _ hl => hb.block b hl)
            obtain ⟨a2, c2, Y2, hrun, hrow, hbl, hnw⟩ := copy_run hfW
            have hbl2 : Below W.heap.size W Y2 := ⟨hbl.os, hbl.tape, hbl.output, hbl.size, hbl.block⟩
            have hY2 := hW.on hbl2
            obtain ⟨g3, cap3, e3, _, _, _, y3, y4⟩ := hY2.row_at hixl
            cases e3
            have hb3 : Below W.heap.size W (Y2.alloc (.cells #[.int .i64 e.n, .slice a2 fl.length c2] 99)) := hbl2.alloc hbl2.size _
            obtain ⟨t1, t2⟩ := hW.turnR hixl hb3 ⟨Y2.heap.size, .slice a2 fl.length c2, e.n, fl⟩ ⟨heap_new _ _, hrow.alloc _⟩ (fun b hb' => by
              simp only [TE.blks, List.mem_cons, Option.mem_toList] at hb'
              rcases hb' with rfl | hb'
              · exact hbl2.size
              · exact hnw b hb')
            exact ⟨a2, c2, Y2, hrun, hbl2, y4 _, by rw [y3]; rfl, (hY2.rows.lt g2 rfl).2, _, _, t1, ((f1.trans (FO.below hbY)).trans (FO.below hb)).trans t2⟩)
          have HTu : Hid (∀ t : TE, uidR (R1.set (ixP (uidR R1) u) (turnE t (R1.getD (ixP (uidR R1) u) RE0))) = uidR R1) := Lib.hid (fun t => by
            rw [map_hit (f := turnE t) hk1.rows (hitP_mem hh)]
            exact uidR_map (f := atU u (turnE t)) (atU_uid (f := turnE t) (fun _ => rfl)) R1)
          cases hgn : (R1.getD (ixP (uidR R1) u) RE0).gone with
          | true =>
            have HN0 : Hid ((R1.map RE.pl).map (turnR e.n own (u, fl)) = R1.map RE.pl) := Lib.hid (turn_no (fun r hr er => .inl (by rw [at_ix hk1.rows hr er]; exact hgn)))
            rw [hgn] at H2
            clear hh q1 f1 hqY hfl hEv hYn hk1 hbY hix HT HTu hgn
            generalize (R1.getD (ixP (uidR R1) u) RE0).ptr = yp at *
            generalize ixP (uidR R1) u = ix at *
            go_upto_region 5 with fail
            (try rw [hY1])
            clear hY1
            go_wp2_with (go_at_call 29; refine HP.out.mono ?_; rintro r W ⟨rfl, hb⟩; obtain ⟨x2, x3, x4, x5, x6⟩ := H2.out _ hb; have HO := Lib.hid (HSkip.out _ hb); clear hb)
            go_roundw
            case rel => exact ⟨k + 1, R1, by omega, by go_num, HO.out, Lib.hid ⟨by rw [HS.out, HN0.out], HR1.out.2⟩⟩
            case measure => simp [intOf]; omega
          | false =>
            rw [hgn] at H2
            cases own with
            | false =>
              have HTn : Hid (∀ b v, (R1.set (ixP (uidR R1) u) (turnE ⟨b, v, e.n, fl⟩ (R1.getD (ixP (uidR R1) u) RE0))).map RE.pl = (R1.map RE.pl).map (turnR e.n false (u, fl))) := Lib.hid (fun b v => turn_hit hk1.rows (hitP_mem hh) ⟨b, v, e.n, fl⟩ false hgn (.inl rfl))
              clear hh q1 f1 hqY hfl hEv hYn hk1 hbY hix hgn HSkip
              generalize (R1.getD (ixP (uidR R1) u) RE0).ptr = yp at *
              generalize ixP (uidR R1) u = ix at *
              generalize hnr : R1.length = nr at *
              generalize hnf : fl.length = nf at *
              generalize hnum : e.n = num at *
              go_upto_region 5 with fail
              (try rw [hY1])
              clear hY1
              go_upto_region 8 with (go_at_call 29; refine HP.out.mono ?_; rintro r W ⟨rfl, hb⟩; obtain ⟨x2, x3, x4, x5, x6⟩ := H2.out _ hb; obtain ⟨a2, c2, Y2, hrun, hb2, hfz, hce, hgl, ho⟩ := HT.out _ hb; have HRun := Lib.hid hrun; have HB2 := Lib.hid hb2; have HO := Lib.hid ho; clear hb hrun hb2 ho)
              have hdr := hfz
              have HBd : Hid (Below W.heap.size W W.drew) := Lib.hid (Below.refl _ _).drew
              have HX : Hid (∀ X, Below W.heap.size W X → X.cell? ⟨P, 2, none⟩ = some (.slice (some ⟨g2, 0, none⟩) nr cap2) ∧ X.cell? ⟨w.heap.size, 0, none⟩ = some (.int .i64 num) ∧ X.cell? ⟨wr.heap.size, 1, none⟩ = some (.slice fa nf fc)) := Lib.hid (fun X hX => ⟨by rw [hX.cell (p := ⟨P, 2, none⟩) (World.block_lt_of_cell? W _ x2)]; exact x2, by rw [hX.cell (p := ⟨w.heap.size, 0, none⟩) (World.block_lt_of_cell? W _ x5)]; exact x5, by rw [hX.cell (p := ⟨wr.heap.size, 1, none⟩) (World.block_lt_of_cell? W _ x6)]; exact x6⟩)
              have HB3 : Hid (Below W.heap.size W (Y2.alloc (.cells #[.int .i64 num, .slice a2 nf c2] 99))) := Lib.hid (HB2.out.alloc HB2.out.size _)
              obtain ⟨cx, hcx⟩ := Option.isSome_iff_exists.1 hce
              have hgne : g2 ≠ Y2.heap.size := by omega
              clear hce hdr
              rw [World.setCell_alloc_past _ _ _ _ hgl] at HO
              --R Flag8a--
              refine wp_region_N 14 (fun X => Below W.heap.size W X) (by kernel_rfl) ?_
              refine wpAnyN_take (i := 0) (oi := { dst := some 56, op := Go.Op.move (Go.Operand.tmp 0), type := 28, pos := "hear.go:71", after := #[], guard := none }) (oL := { dst := none, op := Go.Op.store 73 (Go.Operand.tmp 69) (Go.Operand.tmp 67), type := 0, pos := "hear.go:71", after := #[{ on := 13, ground := Go.Ground.data }, { on := 11, ground := Go.Ground.data }, { on := 9, ground := Go.Ground.chain }, { on := 0, ground := Go.Ground.phase }, { on := 1, ground := Go.Ground.phase }, { on := 2, ground := Go.Ground.phase }, { on := 3, ground := Go.Ground.phase }, { on := 4, ground := Go.Ground.phase }, { on := 5, ground := Go.Ground.phase }, { on := 6, ground := Go.Ground.phase }, { on := 7, ground := Go.Ground.phase }, { on := 8, ground := Go.Ground.phase }, { on := 9, ground := Go.Ground.phase }, { on := 10, ground := Go.Ground.phase }, { on := 11, ground := Go.Ground.phase }], guard := none }) (v := .pointer (some ⟨P, 0, none⟩)) rfl rfl (by kernel_rfl) (by kernel_rfl) (by kernel_rfl) (by kernel_rfl) (fun _ _ _ h => h) (Or.inl ⟨by kernel_rfl, ?_⟩) HBd.out ?_
              · (intro X hX; obtain ⟨z2, z3, z4⟩ := HX.out X hX <;> (go_simp; try (with_reducible rfl)))
              (try simp only [Act.put, List.setIfInBounds_toArray, List.set_cons_zero, List.set_cons_succ])
              refine wpAnyN_take (i := 1) (oi := { dst := some 57, op := Go.Op.nilCheck (Go.Operand.tmp 56), type := 0, pos := "hear.go:71", after := #[{ on := 0, ground := Go.Ground.data }], guard := none }) (oL := { dst := none, op := Go.Op.store 73 (Go.Operand.tmp 69) (Go.Operand.tmp 67), type := 0, pos := "hear.go:71", after := #[{ on := 13, ground := Go.Ground.data }, { on := 11, ground := Go.Ground.data }, { on := 9, ground := Go.Ground.chain }, { on := 0, ground := Go.Ground.phase }, { on := 1, ground := Go.Ground.phase }, { on := 2, ground := Go.Ground.phase }, { on := 3, ground := Go.Ground.phase }, { on := 4, ground := Go.Ground.phase }, { on := 5, ground := Go.Ground.phase }, { on := 6, ground := Go.Ground.phase }, { on := 7, ground := Go.Ground.phase }, { on := 8, ground := Go.Ground.phase }, { on := 9, ground := Go.Ground.phase }, { on := 10, ground := Go.Ground.phase }, { on := 11, ground := Go.Ground.phase }], guard := none }) (v := .pointer (some ⟨P, 0, none⟩)) rfl rfl (by kernel_rfl) (by kernel_rfl) (by kernel_rfl) (by kernel_rfl) (fun _ _ _ h => h) (Or.inl ⟨by kernel_rfl, ?_⟩) HBd.out ?_
              · (intro X hX; obtain ⟨z2, z3, z4⟩ := HX.out X hX <;> (go_simp; try (with_reducible rfl)))
              (try simp only [Act.put, List.setIfInBounds_toArray, List.set_cons_zero, List.set_cons_succ])
              refine wpAnyN_take (i := 2) (oi := { dst := some 58, op := Go.Op.fieldAddr 66 (Go.Operand.tmp 57) 2, type := 0, pos := "hear.go:71", after := #[{ on := 1, ground := Go.Ground.data }], guard := none }) (oL := { dst := none, op := Go.Op.store 73 (Go.Operand.tmp 69) (Go.Operand.tmp 67), type := 0, pos := "hear.go:71", after := #[{ on := 13, ground := Go.Ground.data }, { on := 11, ground := Go.Ground.data }, { on := 9, ground := Go.Ground.chain }, { on := 0, ground := Go.Ground.phase }, { on := 1, ground := Go.Ground.phase }, { on := 2, ground := Go.Ground.phase }, { on := 3, ground := Go.Ground.phase }, { on := 4, ground := Go.Ground.phase }, { on := 5, ground := Go.Ground.phase }, { on := 6, ground := Go.Ground.phase }, { on := 7, ground := Go.Ground.phase }, { on := 8, ground := Go.Ground.phase }, { on := 9, ground := Go.Ground.phase }, { on := 10, ground := Go.Ground.phase }, { on := 11, ground := Go.Ground.phase }], guard := none }) (v := .pointer (some ⟨P, 2, none⟩)) rfl rfl (by kernel_rfl) (by kernel_rfl) (by kernel_rfl) (by kernel_rfl) (fun _ _ _ h => h) (Or.inl ⟨by kernel_rfl, ?_⟩) HBd.out ?_
              · (intro X hX; obtain ⟨z2, z3, z4⟩ := HX.out X hX <;> (go_simp; try (with_reducible rfl)))
              (try simp only [Act.put, List.setIfInBounds_toArray, List.set_cons_zero, List.set_cons_succ])
              refine wpAnyN_take (i := 3) (oi := { dst := some 59, op := Go.Op.load 64 (Go.Operand.tmp 58), type := 64, pos := "hear.go:71", after := #[{ on := 2, ground := Go.Ground.data }], guard := none }) (oL := { dst := none, op := Go.Op.store 73 (Go.Operand.tmp 69) (Go.Operand.tmp 67), type := 0, pos := "hear.go:71", after := #[{ on := 13, ground := Go.Ground.data }, { on := 11, ground := Go.Ground.data }, { on := 9, ground := Go.Ground.chain }, { on := 0, ground := Go.Ground.phase }, { on := 1, ground := Go.Ground.phase }, { on := 2, ground := Go.Ground.phase }, { on := 3, ground := Go.Ground.phase }, { on := 4, ground := Go.Ground.phase }, { on := 5, ground := Go.Ground.phase }, { on := 6, ground := Go.Ground.phase }, { on := 7, ground := Go.Ground.phase }, { on := 8, ground := Go.Ground.phase }, { on := 9, ground := Go.Ground.phase }, { on := 10, ground := Go.Ground.phase }, { on := 11, ground := Go.Ground.phase }], guard := none }) (v := .slice (some ⟨g2, 0, none⟩) nr cap2) rfl rfl (by kernel_rfl) (by kernel_rfl) (by kernel_rfl) (by kernel_rfl) (fun _ _ _ h => h) (Or.inl ⟨by kernel_rfl, ?_⟩) HBd.out ?_
              · (intro X hX; obtain ⟨z2, z3, z4⟩ := HX.out X hX <;> (go_simp; try (with_reducible rfl)))
              (try simp only [Act.put, List.setIfInBounds_toArray, List.set_cons_zero, List.set_cons_succ])
              refine wpAnyN_take (i := 4) (oi := { dst := some 60, op := Go.Op.move (Go.Operand.tmp 8), type := 3, pos := "hear.go:71", after := #[], guard := none }) (oL := { dst := none, op := Go.Op.store 73 (Go.Operand.tmp 69) (Go.Operand.tmp 67), type := 0, pos := "hear.go:71", after := #[{ on := 13, ground := Go.Ground.data }, { on := 11, ground := Go.Ground.data }, { on := 9, ground := Go.Ground.chain }, { on := 0, ground := Go.Ground.phase }, { on := 1, ground := Go.Ground.phase }, { on := 2, ground := Go.Ground.phase }, { on := 3, ground := Go.Ground.phase }, { on := 4, ground := Go.Ground.phase }, { on := 5, ground := Go.Ground.phase }, { on := 6, ground := Go.Ground.phase }, { on := 7, ground := Go.Ground.phase }, { on := 8, ground := Go.Ground.phase }, { on := 9, ground := Go.Ground.phase }, { on := 10, ground := Go.Ground.phase }, { on := 11, ground := Go.Ground.phase }], guard := none }) (v := .int .i64 (ix : Int)) rfl rfl (by kernel_rfl) (by kernel_rfl) (by kernel_rfl) (by kernel_rfl) (fun _ _ _ h => h) (Or.inl ⟨by kernel_rfl, ?_⟩) HBd.out ?_
              · (intro X hX; obtain ⟨z2, z3, z4⟩ := HX.out X hX <;> (go_simp; try (with_reducible rfl)))
              (try simp only [Act.put, List.setIfInBounds_toArray, List.set_cons_zero, List.set_cons_succ])
              refine wpAnyN_take (i := 5) (oi := { dst := some 61, op := Go.Op.fieldAddr 38 (Go.Operand.tmp 4) 0, type := 0, pos := "hear.go:71", after := #[], guard := none }) (oL := { dst := none, op := Go.Op.store 73 (Go.Operand.tmp 69) (Go.Operand.tmp 67), type := 0, pos := "hear.go:71", after := #[{ on := 13, ground := Go.Ground.data }, { on := 11, ground := Go.Ground.data }, { on := 9, ground := Go.Ground.chain }, { on := 0, ground := Go.Ground.phase }, { on := 1, ground := Go.Ground.phase }, { on := 2, ground := Go.Ground.phase }, { on := 3, ground := Go.Ground.phase }, { on := 4, ground := Go.Ground.phase }, { on := 5, ground := Go.Ground.phase }, { on := 6, ground := Go.Ground.phase }, { on := 7, ground := Go.Ground.phase }, { on := 8, ground := Go.Ground.phase }, { on := 9, ground := Go.Ground.phase }, { on := 10, ground := Go.Ground.phase }, { on := 11, ground := Go.Ground.phase }], guard := none }) (v := .pointer (some ⟨w.heap.size, 0, none⟩)) rfl rfl (by kernel_rfl) (by kernel_rfl) (by kernel_rfl) (by kernel_rfl) (fun _ _ _ h => h) (Or.inl ⟨by kernel_rfl, ?_⟩) HBd.out ?_
              · (intro X hX; obtain ⟨z2, z3, z4⟩ := HX.out X hX <;> (go_simp; try (with_reducible rfl)))
              (try simp only [Act.put, List.setIfInBounds_toArray, List.set_cons_zero, List.set_cons_succ])
              refine wpAnyN_take (i := 6) (oi := { dst := some 62, op := Go.Op.load 3 (Go.Operand.tmp 61), type := 3, pos := "hear.go:71", after := #[{ on := 5, ground := Go.Ground.data }], guard := none }) (oL := { dst := none, op := Go.Op.store 73 (Go.Operand.tmp 69) (Go.Operand.tmp 67), type := 0, pos := "hear.go:71", after := #[{ on := 13, ground := Go.Ground.data }, { on := 11, ground := Go.Ground.data }, { on := 9, ground := Go.Ground.chain }, { on := 0, ground := Go.Ground.phase }, { on := 1, ground := Go.Ground.phase }, { on := 2, ground := Go.Ground.phase }, { on := 3, ground := Go.Ground.phase }, { on := 4, ground := Go.Ground.phase }, { on := 5, ground := Go.Ground.phase }, { on := 6, ground := Go.Ground.phase }, { on := 7, ground := Go.Ground.phase }, { on := 8, ground := Go.Ground.phase }, { on := 9, ground := Go.Ground.phase }, { on := 10, ground := Go.Ground.phase }, { on := 11, ground := Go.Ground.phase }], guard := none }) (v := .int .i64 num) rfl rfl (by kernel_rfl) (by kernel_rfl) (by kernel_rfl) (by kernel_rfl) (fun _ _ _ h => h) (Or.inl ⟨by kernel_rfl, ?_⟩) HBd.out ?_
              · (intro X hX; obtain ⟨z2, z3, z4⟩ := HX.out X hX <;> (go_simp; try (with_reducible rfl)))
              (try simp only [Act.put, List.setIfInBounds_toArray, List.set_cons_zero, List.set_cons_succ])
              refine wpAnyN_take (i := 7) (oi := { dst := some 63, op := Go.Op.fieldAddr 59 (Go.Operand.tmp 7) 1, type := 0, pos := "hear.go:71", after := #[], guard := none }) (oL := { dst := none, op := Go.Op.store 73 (Go.Operand.tmp 69) (Go.Operand.tmp 67), type := 0, pos := "hear.go:71", after := #[{ on := 13, ground := Go.Ground.data }, { on := 11, ground := Go.Ground.data }, { on := 9, ground := Go.Ground.chain }, { on := 0, ground := Go.Ground.phase }, { on := 1, ground := Go.Ground.phase }, { on := 2, ground := Go.Ground.phase }, { on := 3, ground := Go.Ground.phase }, { on := 4, ground := Go.Ground.phase }, { on := 5, ground := Go.Ground.phase }, { on := 6, ground := Go.Ground.phase }, { on := 7, ground := Go.Ground.phase }, { on := 8, ground := Go.Ground.phase }, { on := 9, ground := Go.Ground.phase }, { on := 10, ground := Go.Ground.phase }, { on := 11, ground := Go.Ground.phase }], guard := none }) (v := .pointer (some ⟨wr.heap.size, 1, none⟩)) rfl rfl (by kernel_rfl) (by kernel_rfl) (by kernel_rfl) (by kernel_rfl) (fun _ _ _ h => h) (Or.inl ⟨by kernel_rfl, ?_⟩) HBd.out ?_
              · (intro X hX; obtain ⟨z2, z3, z4⟩ := HX.out X hX <;> (go_simp; try (with_reducible rfl)))
              (try simp only [Act.put, List.setIfInBounds_toArray, List.set_cons_zero, List.set_cons_succ])
              refine wpAnyN_take (i := 8) (oi := { dst := some 64, op := Go.Op.load 22 (Go.Operand.tmp 63), type := 22, pos := "hear.go:71", after := #[{ on := 7, ground := Go.Ground.data }], guard := none }) (oL := { dst := none, op := Go.Op.store 73 (Go.Operand.tmp 69) (Go.Operand.tmp 67), type := 0, pos := "hear.go:71", after := #[{ on := 13, ground := Go.Ground.data }, { on := 11, ground := Go.Ground.data }, { on := 9, ground := Go.Ground.chain }, { on := 0, ground := Go.Ground.phase }, { on := 1, ground := Go.Ground.phase }, { on := 2, ground := Go.Ground.phase }, { on := 3, ground := Go.Ground.phase }, { on := 4, ground := Go.Ground.phase }, { on := 5, ground := Go.Ground.phase }, { on := 6, ground := Go.Ground.phase }, { on := 7, ground := Go.Ground.phase }, { on := 8, ground := Go.Ground.phase }, { on := 9, ground := Go.Ground.phase }, { on := 10, ground := Go.Ground.phase }, { on := 11, ground := Go.Ground.phase }], guard := none }) (v := .slice fa nf fc) rfl rfl (by kernel_rfl) (by kernel_rfl) (by kernel_rfl) (by kernel_rfl) (fun _ _ _ h => h) (Or.inl ⟨by kernel_rfl, ?_⟩) HBd.out ?_
              · (intro X hX; obtain ⟨z2, z3, z4⟩ := HX.out X hX <;> (go_simp; try (with_reducible rfl)))
              (try simp only [Act.put, List.setIfInBounds_toArray, List.set_cons_zero, List.set_cons_succ])
              refine wpAnyN_one (i := 9) (o := { dst := some 65, op := Go.Op.call { callee := Go.Callee.builtin Go.Builtin.append, args := #[Go.Operand.const (Go.Value.slice none 0 0), Go.Operand.tmp 64], argTypes := #[22, 22] }, type := 22, pos := "hear.go:71", after := #[{ on := 8, ground := Go.Ground.data }], guard := none }) (by kernel_rfl) rfl (fun K hK => ?_)
              refine step_append_run (u := .slice none 0 0) (v := .slice fa nf fc) rfl _ _ _ rfl 22 rfl rfl rfl _ _ HRun.out ?_
              refine hK.out _ _ (fun _ => HB2.out) ?_
              clear hK K
              (try simp only [Act.put, List.setIfInBounds_toArray, List.set_cons_zero, List.set_cons_succ])
              refine wpAnyN_take (i := 10) (oi := { dst := some 66, op := Go.Op.build 99 #[(0, Go.Operand.tmp 62), (1, Go.Operand.tmp 65)], type := 99, pos := "hear.go:71", after := #[{ on := 6, ground := Go.Ground.data }, { on := 9, ground := Go.Ground.data }], guard := none }) (oL := { dst := none, op := Go.Op.store 73 (Go.Operand.tmp 69) (Go.Operand.tmp 67), type := 0, pos := "hear.go:71", after := #[{ on := 13, ground := Go.Ground.data }, { on := 11, ground := Go.Ground.data }, { on := 9, ground := Go.Ground.chain }, { on := 0, ground := Go.Ground.phase }, { on := 1, ground := Go.Ground.phase }, { on := 2, ground := Go.Ground.phase }, { on := 3, ground := Go.Ground.phase }, { on := 4, ground := Go.Ground.phase }, { on := 5, ground := Go.Ground.phase }, { on := 6, ground := Go.Ground.phase }, { on := 7, ground := Go.Ground.phase }, { on := 8, ground := Go.Ground.phase }, { on := 9, ground := Go.Ground.phase }, { on := 10, ground := Go.Ground.phase }, { on := 11, ground := Go.Ground.phase }], guard := none }) (v := .agg #[.int .i64 num, .slice a2 nf c2]) rfl rfl (by kernel_rfl) (by kernel_rfl) (by kernel_rfl) (by kernel_rfl) (fun _ _ _ h => h) (Or.inl ⟨by kernel_rfl, ?_⟩) HB2.out ?_
              · (intro X hX; obtain ⟨z2, z3, z4⟩ := HX.out X hX <;> (go_simp; try (with_reducible rfl)))
              (try simp only [Act.put, List.setIfInBounds_toArray, List.set_cons_zero, List.set_cons_succ])
              refine wpAnyN_one (i := 11) (o := { dst := some 67, op := Go.Op.box 99 (Go.Operand.tmp 66), type := 73, pos := "hear.go:71", after := #[{ on := 10, ground := Go.Ground.data }], guard := none }) (by kernel_rfl) rfl (fun K hK => ?_)
              go_simp
              refine hK.out _ _ (fun _ => HB3.out) ?_
              clear hK K
              (try simp only [Act.put, List.setIfInBounds_toArray, List.set_cons_zero, List.set_cons_succ])
              refine wpAnyN_take (i := 12) (oi := { dst := some 68, op := Go.Op.indexAddr 64 (Go.Operand.tmp 59) (Go.Operand.tmp 60), type := 0, pos := "hear.go:71", after := #[{ on := 3, ground := Go.Ground.data }, { on := 4, ground := Go.Ground.data }, { on := 0, ground := Go.Ground.phase }, { on := 1, ground := Go.Ground.phase }, { on := 2, ground := Go.Ground.phase }, { on := 3, ground := Go.Ground.phase }, { on := 4, ground := Go.Ground.phase }, { on := 5, ground := Go.Ground.phase }, { on := 6, ground := Go.Ground.phase }, { on := 7, ground := Go.Ground.phase }, { on := 8, ground := Go.Ground.phase }, { on := 9, ground := Go.Ground.phase }, { on := 10, ground := Go.Ground.phase }, { on := 11, ground := Go.Ground.phase }], guard := none }) (oL := { dst := none, op := Go.Op.store 73 (Go.Operand.tmp 69) (Go.Operand.tmp 67), type := 0, pos := "hear.go:71", after := #[{ on := 13, ground := Go.Ground.data }, { on := 11, ground := Go.Ground.data }, { on := 9, ground := Go.Ground.chain }, { on := 0, ground := Go.Ground.phase }, { on := 1, ground := Go.Ground.phase }, { on := 2, ground := Go.Ground.phase }, { on := 3, ground := Go.Ground.phase }, { on := 4, ground := Go.Ground.phase }, { on := 5, ground := Go.Ground.phase }, { on := 6, ground := Go.Ground.phase }, { on := 7, ground := Go.Ground.phase }, { on := 8, ground := Go.Ground.phase }, { on := 9, ground := Go.Ground.phase }, { on := 10, ground := Go.Ground.phase }, { on := 11, ground := Go.Ground.phase }], guard := none }) (v := .pointer (some ⟨g2, ix * 4, none⟩)) rfl rfl (by kernel_rfl) (by kernel_rfl) (by kernel_rfl) (by kernel_rfl) (fun _ _ _ h => h) (Or.inl ⟨by kernel_rfl, ?_⟩) HB3.out ?_
              · (intro X hX; obtain ⟨z2, z3, z4⟩ := HX.out X hX <;> (go_simp; try (with_reducible rfl)))
              (try simp only [Act.put, List.setIfInBounds_toArray, List.set_cons_zero, List.set_cons_succ])
              refine wpAnyN_take (i := 13) (oi := { dst := some 69, op := Go.Op.fieldAddr 75 (Go.Operand.tmp 68) 3, type := 0, pos := "hear.go:71", after := #[{ on := 12, ground := Go.Ground.data }, { on := 0, ground := Go.Ground.phase }, { on := 1, ground := Go.Ground.phase }, { on := 2, ground := Go.Ground.phase }, { on := 3, ground := Go.Ground.phase }, { on := 4, ground := Go.Ground.phase }, { on := 5, ground := Go.Ground.phase }, { on := 6, ground := Go.Ground.phase }, { on := 7, ground := Go.Ground.phase }, { on := 8, ground := Go.Ground.phase }, { on := 9, ground := Go.Ground.phase }, { on := 10, ground := Go.Ground.phase }, { on := 11, ground := Go.Ground.phase }], guard := none }) (oL := { dst := none, op := Go.Op.store 73 (Go.Operand.tmp 69) (Go.Operand.tmp 67), type := 0, pos := "hear.go:71", after := #[{ on := 13, ground := Go.Ground.data }, { on := 11, ground := Go.Ground.data }, { on := 9, ground := Go.Ground.chain }, { on := 0, ground := Go.Ground.phase }, { on := 1, ground := Go.Ground.phase }, { on := 2, ground := Go.Ground.phase }, { on := 3, ground := Go.Ground.phase }, { on := 4, ground := Go.Ground.phase }, { on := 5, ground := Go.Ground.phase }, { on := 6, ground := Go.Ground.phase }, { on := 7, ground := Go.Ground.phase }, { on := 8, ground := Go.Ground.phase }, { on := 9, ground := Go.Ground.phase }, { on := 10, ground := Go.Ground.phase }, { on := 11, ground := Go.Ground.phase }], guard := none }) (v := .pointer (some ⟨g2, ix * 4 + 3, none⟩)) rfl rfl (by kernel_rfl) (by kernel_rfl) (by kernel_rfl) (by kernel_rfl) (fun _ _ _ h => h) (Or.inl ⟨by kernel_rfl, ?_⟩) HB3.out ?_
              · (intro X hX; obtain ⟨z2, z3, z4⟩ := HX.out X hX <;> (go_simp; try (with_reducible rfl)))
              (try simp only [Act.put, List.setIfInBounds_toArray, List.set_cons_zero, List.set_cons_succ])
              refine wpAnyN_one (i := 14) (o := { dst := none, op := Go.Op.store 73 (Go.Operand.tmp 69) (Go.Operand.tmp 67), type := 0, pos := "hear.go:71", after := #[{ on := 13, ground := Go.Ground.data }, { on := 11, ground := Go.Ground.data }, { on := 9, ground := Go.Ground.chain }, { on := 0, ground := Go.Ground.phase }, { on := 1, ground := Go.Ground.phase }, { on := 2, ground := Go.Ground.phase }, { on := 3, ground := Go.Ground.phase }, { on := 4, ground := Go.Ground.phase }, { on := 5, ground := Go.Ground.phase }, { on := 6, ground := Go.Ground.phase }, { on := 7, ground := Go.Ground.phase }, { on := 8, ground := Go.Ground.phase }, { on := 9, ground := Go.Ground.phase }, { on := 10, ground := Go.Ground.phase }, { on := 11, ground := Go.Ground.phase }], guard := none }) (by kernel_rfl) rfl (fun K hK => ?_)
              go_simp
              refine hK.out _ _ (fun e => absurd (e.symm.trans (by kernel_rfl) : false = true) Bool.false_ne_true) ?_
              clear hK K
              (try simp only [Act.put, List.setIfInBounds_toArray, List.set_cons_zero, List.set_cons_succ])
              refine wpAnyN_of_H (S' := fun _ => True) _ _ _ _ (by kernel_rfl) ?_
              refine wpAnyH_done (by kernel_rfl) ?_ _
              --E Flag8a--
              go_wp2_with fail
              go_roundw
              case rel => exact ⟨k + 1, _, by omega, by go_num, HO.out, Lib.hid ⟨(HTn.out _ _).trans HS.out.symm, (HTu.out _).trans HR1.out.2⟩⟩
              case measure => simp [intOf]; omega
            | true =>
              cases htn : (R1.getD (ixP (uidR R1) u) RE0).tn with
              | none =>
                have HN0 : Hid ((R1.map RE.pl).map (turnR e.n true (u, fl)) = R1.map RE.pl) := Lib.hid (turn_no (fun r hr er => .inr ⟨rfl, by rw [at_ix hk1.rows hr er]; exact htn⟩))
                have hyp : (R1.getD (ixP (uidR R1) u) RE0).ptr = .pointer none := by unfold RE.ptr; rw [htn]; rfl
                rw [hyp] at H2
                clear hh q1 f1 hqY hfl hEv hYn hk1 hbY hix HT HTu hgn htn hyp
                generalize ixP (uidR R1) u = ix at *
                go_upto_region 5 with fail
                (try rw [hY1])
                clear hY1
                go_wp2_with (go_at_call 29; refine HP.out.mono ?_; rintro r W ⟨rfl, hb⟩; obtain ⟨x2, x3, x4, x5, x6⟩ := H2.out _ hb; have HO := Lib.hid (HSkip.out _ hb); clear hb)
                go_roundw
                case rel => exact ⟨k + 1, R1, by omega, by go_num, HO.out, Lib.hid ⟨by rw [HS.out, HN0.out], HR1.out.2⟩⟩
                case measure => simp [intOf]; omega
              | some t0 =>
                have HTn : Hid (∀ b v, (R1.set (ixP (uidR R1) u) (turnE ⟨b, v, e.n, fl⟩ (R1.getD (ixP (uidR R1) u) RE0))).map RE.pl = (R1.map RE.pl).map (turnR e.n true (u, fl))) := Lib.hid (fun b v => turn_hit hk1.rows (hitP_mem hh) ⟨b, v, e.n, fl⟩ true hgn (.inr (by rw [htn]; rfl)))
                have hyp : (R1.getD (ixP (uidR R1) u) RE0).ptr = .pointer (some ⟨t0.blk, 0, none⟩) := by unfold RE.ptr; rw [htn]; rfl
                rw [hyp] at H2
                clear hh q1 f1 hqY hfl hEv hYn hk1 hbY hix hgn htn hyp HSkip
                generalize ixP (uidR R1) u = ix at *
                generalize hnr : R1.length = nr at *
                generalize hnf : fl.length = nf at *
                generalize hnum : e.n = num at *
                go_upto_region 5 with fail
                (try rw [hY1])
                clear hY1
                go_upto_region 8 with (go_at_call 29; refine HP.out.mono ?_; rintro r W ⟨rfl, hb⟩; obtain ⟨x2, x3, x4, x5, x6⟩ := H2.out _ hb; obtain ⟨a2, c2, Y2, hrun, hb2, hfz, hce, hgl, ho⟩ := HT.out _ hb; have HRun := Lib.hid hrun; have HB2 := Lib.hid hb2; have HO := Lib.hid ho; clear hb hrun hb2 ho)
                have hdr := hfz
                have HBd : Hid (Below W.heap.size W W.drew) := Lib.hid (Below.refl _ _).drew
                have HX : Hid (∀ X, Below W.heap.size W X → X.cell? ⟨P, 2, none⟩ = some (.slice (some ⟨g2, 0, none⟩) nr cap2) ∧ X.cell? ⟨w.heap.size, 0, none⟩ = some (.int .i64 num) ∧ X.cell? ⟨wr.heap.size, 1, none⟩ = some (.slice fa nf fc)) := Lib.hid (fun X hX => ⟨by rw [hX.cell (p := ⟨P, 2, none⟩) (World.block_lt_of_cell? W _ x2)]; exact x2, by rw [hX.cell (p := ⟨w.heap.size, 0, none⟩) (World.block_lt_of_cell? W _ x5)]; exact x5, by rw [hX.cell (p := ⟨wr.heap.size, 1, none⟩) (World.block_lt_of_cell? W _ x6)]; exact x6⟩)
                have HB3 : Hid (Below W.heap.size W (Y2.alloc (.cells #[.int .i64 num, .slice a2 nf c2] 99))) := Lib.hid (HB2.out.alloc HB2.out.size _)
                obtain ⟨cx, hcx⟩ := Option.isSome_iff_exists.1 hce
                have hgne : g2 ≠ Y2.heap.size := by omega
                clear hce hdr
                rw [World.setCell_alloc_past _ _ _ _ hgl] at HO
                --R Flag8b--
                refine wp_region_N 14 (fun X => Below W.heap.size W X) (by kernel_rfl) ?_
                refine wpAnyN_take (i := 0) (oi := { dst := some 56, op := Go.Op.move (Go.Operand.tmp 0), type := 28, pos := "hear.go:71", after := #[], guard := none }) (oL := { dst := none, op := Go.Op.store 73 (Go.Operand.tmp 69) (Go.Operand.tmp 67), type := 0, pos := "hear.go:71", after := #[{ on := 13, ground := Go.Ground.data }, { on := 11, ground := Go.Ground.data }, { on := 9, ground := Go.Ground.chain }, { on := 0, ground := Go.Ground.phase }, { on := 1, ground := Go.Ground.phase }, { on := 2, ground := Go.Ground.phase }, { on := 3, ground := Go.Ground.phase }, { on := 4, ground := Go.Ground.phase }, { on := 5, ground := Go.Ground.phase }, { on := 6, ground := Go.Ground.phase }, { on := 7, ground := Go.Ground.phase }, { on := 8, ground := Go.Ground.phase }, { on := 9, ground := Go.Ground.phase }, { on := 10, ground := Go.Ground.phase }, { on := 11, ground := Go.Ground.phase }], guard := none }) (v := .pointer (some ⟨P, 0, none⟩)) rfl rfl (by kernel_rfl) (by kernel_rfl) (by kernel_rfl) (by kernel_rfl) (fun _ _ _ h => h) (Or.inl ⟨by kernel_rfl, ?_⟩) HBd.out ?_
                · (intro X hX; obtain ⟨z2, z3, z4⟩ := HX.out X hX <;> (go_simp; try (with_reducible rfl)))
                (try simp only [Act.put, List.setIfInBounds_toArray, List.set_cons_zero, List.set_cons_succ])
                refine wpAnyN_take (i := 1) (oi := { dst := some 57, op := Go.Op.nilCheck (Go.Operand.tmp 56), type := 0, pos := "hear.go:71", after := #[{ on := 0, ground := Go.Ground.data }], guard := none }) (oL := { dst := none, op := Go.Op.store 73 (Go.Operand.tmp 69) (Go.Operand.tmp 67), type := 0, pos := "hear.go:71", after := #[{ on := 13, ground := Go.Ground.data }, { on := 11, ground := Go.Ground.data }, { on := 9, ground := Go.Ground.chain }, { on := 0, ground := Go.Ground.phase }, { on := 1, ground := Go.Ground.phase }, { on := 2, ground := Go.Ground.phase }, { on := 3, ground := Go.Ground.phase }, { on := 4, ground := Go.Ground.phase }, { on := 5, ground := Go.Ground.phase }, { on := 6, ground := Go.Ground.phase }, { on := 7, ground := Go.Ground.phase }, { on := 8, ground := Go.Ground.phase }, { on := 9, ground := Go.Ground.phase }, { on := 10, ground := Go.Ground.phase }, { on := 11, ground := Go.Ground.phase }], guard := none }) (v := .pointer (some ⟨P, 0, none⟩)) rfl rfl (by kernel_rfl) (by kernel_rfl) (by kernel_rfl) (by kernel_rfl) (fun _ _ _ h => h) (Or.inl ⟨by kernel_rfl, ?_⟩) HBd.out ?_
                · (intro X hX; obtain ⟨z2, z3, z4⟩ := HX.out X hX <;> (go_simp; try (with_reducible rfl)))
                (try simp only [Act.put, List.setIfInBounds_toArray, List.set_cons_zero, List.set_cons_succ])
                refine wpAnyN_take (i := 2) (oi := { dst := some 58, op := Go.Op.fieldAddr 66 (Go.Operand.tmp 57) 2, type := 0, pos := "hear.go:71", after := #[{ on := 1, ground := Go.Ground.data }], guard := none }) (oL := { dst := none, op := Go.Op.store 73 (Go.Operand.tmp 69) (Go.Operand.tmp 67), type := 0, pos := "hear.go:71", after := #[{ on := 13, ground := Go.Ground.data }, { on := 11, ground := Go.Ground.data }, { on := 9, ground := Go.Ground.chain }, { on := 0, ground := Go.Ground.phase }, { on := 1, ground := Go.Ground.phase }, { on := 2, ground := Go.Ground.phase }, { on := 3, ground := Go.Ground.phase }, { on := 4, ground := Go.Ground.phase }, { on := 5, ground := Go.Ground.phase }, { on := 6, ground := Go.Ground.phase }, { on := 7, ground := Go.Ground.phase }, { on := 8, ground := Go.Ground.phase }, { on := 9, ground := Go.Ground.phase }, { on := 10, ground := Go.Ground.phase }, { on := 11, ground := Go.Ground.phase }], guard := none }) (v := .pointer (some ⟨P, 2, none⟩)) rfl rfl (by kernel_rfl) (by kernel_rfl) (by kernel_rfl) (by kernel_rfl) (fun _ _ _ h => h) (Or.inl ⟨by kernel_rfl, ?_⟩) HBd.out ?_
                · (intro X hX; obtain ⟨z2, z3, z4⟩ := HX.out X hX <;> (go_simp; try (with_reducible rfl)))
                (try simp only [Act.put, List.setIfInBounds_toArray, List.set_cons_zero, List.set_cons_succ])
                refine wpAnyN_take (i := 3) (oi := { dst := some 59, op := Go.Op.load 64 (Go.Operand.tmp 58), type := 64, pos := "hear.go:71", after := #[{ on := 2, ground := Go.Ground.data }], guard := none }) (oL := { dst := none, op := Go.Op.store 73 (Go.Operand.tmp 69) (Go.Operand.tmp 67), type := 0, pos := "hear.go:71", after := #[{ on := 13, ground := Go.Ground.data }, { on := 11, ground := Go.Ground.data }, { on := 9, ground := Go.Ground.chain }, { on := 0, ground := Go.Ground.phase }, { on := 1, ground := Go.Ground.phase }, { on := 2, ground := Go.Ground.phase }, { on := 3, ground := Go.Ground.phase }, { on := 4, ground := Go.Ground.phase }, { on := 5, ground := Go.Ground.phase }, { on := 6, ground := Go.Ground.phase }, { on := 7, ground := Go.Ground.phase }, { on := 8, ground := Go.Ground.phase }, { on := 9, ground := Go.Ground.phase }, { on := 10, ground := Go.Ground.phase }, { on := 11, ground := Go.Ground.phase }], guard := none }) (v := .slice (some ⟨g2, 0, none⟩) nr cap2) rfl rfl (by kernel_rfl) (by kernel_rfl) (by kernel_rfl) (by kernel_rfl) (fun _ _ _ h => h) (Or.inl ⟨by kernel_rfl, ?_⟩) HBd.out ?_
                · (intro X hX; obtain ⟨z2, z3, z4⟩ := HX.out X hX <;> (go_simp; try (with_reducible rfl)))
                (try simp only [Act.put, List.setIfInBounds_toArray, List.set_cons_zero, List.set_cons_succ])
                refine wpAnyN_take (i := 4) (oi := { dst := some 60, op := Go.Op.move (Go.Operand.tmp 8), type := 3, pos := "hear.go:71", after := #[], guard := none }) (oL := { dst := none, op := Go.Op.store 73 (Go.Operand.tmp 69) (Go.Operand.tmp 67), type := 0, pos := "hear.go:71", after := #[{ on := 13, ground := Go.Ground.data }, { on := 11, ground := Go.Ground.data }, { on := 9, ground := Go.Ground.chain }, { on := 0, ground := Go.Ground.phase }, { on := 1, ground := Go.Ground.phase }, { on := 2, ground := Go.Ground.phase }, { on := 3, ground := Go.Ground.phase }, { on := 4, ground := Go.Ground.phase }, { on := 5, ground := Go.Ground.phase }, { on := 6, ground := Go.Ground.phase }, { on := 7, ground := Go.Ground.phase }, { on := 8, ground := Go.Ground.phase }, { on := 9, ground := Go.Ground.phase }, { on := 10, ground := Go.Ground.phase }, { on := 11, ground := Go.Ground.phase }], guard := none }) (v := .int .i64 (ix : Int)) rfl rfl (by kernel_rfl) (by kernel_rfl) (by kernel_rfl) (by kernel_rfl) (fun _ _ _ h => h) (Or.inl ⟨by kernel_rfl, ?_⟩) HBd.out ?_
                · (intro X hX; obtain ⟨z2, z3, z4⟩ := HX.out X hX <;> (go_simp; try (with_reducible rfl)))
                (try simp only [Act.put, List.setIfInBounds_toArray, List.set_cons_zero, List.set_cons_succ])
                refine wpAnyN_take (i := 5) (oi := { dst := some 61, op := Go.Op.fieldAddr 38 (Go.Operand.tmp 4) 0, type := 0, pos := "hear.go:71", after := #[], guard := none }) (oL := { dst := none, op := Go.Op.store 73 (Go.Operand.tmp 69) (Go.Operand.tmp 67), type := 0, pos := "hear.go:71", after := #[{ on := 13, ground := Go.Ground.data }, { on := 11, ground := Go.Ground.data }, { on := 9, ground := Go.Ground.chain }, { on := 0, ground := Go.Ground.phase }, { on := 1, ground := Go.Ground.phase }, { on := 2, ground := Go.Ground.phase }, { on := 3, ground := Go.Ground.phase }, { on := 4, ground := Go.Ground.phase }, { on := 5, ground := Go.Ground.phase }, { on := 6, ground := Go.Ground.phase }, { on := 7, ground := Go.Ground.phase }, { on := 8, ground := Go.Ground.phase }, { on := 9, ground := Go.Ground.phase }, { on := 10, ground := Go.Ground.phase }, { on := 11, ground := Go.Ground.phase }], guard := none }) (v := .pointer (some ⟨w.heap.size, 0, none⟩)) rfl rfl (by kernel_rfl) (by kernel_rfl) (by kernel_rfl) (by kernel_rfl) (fun _ _ _ h => h) (Or.inl ⟨by kernel_rfl, ?_⟩) HBd.out ?_
                · (intro X hX; obtain ⟨z2, z3, z4⟩ := HX.out X hX <;> (go_simp; try (with_reducible rfl)))
                (try simp only [Act.put, List.setIfInBounds_toArray, List.set_cons_zero, List.set_cons_succ])
                refine wpAnyN_take (i := 6) (oi := { dst := some 62, op := Go.Op.load 3 (Go.Operand.tmp 61), type := 3, pos := "hear.go:71", after := #[{ on := 5, ground := Go.Ground.data }], guard := none }) (oL := { dst := none, op := Go.Op.store 73 (Go.Operand.tmp 69) (Go.Operand.tmp 67), type := 0, pos := "hear.go:71", after := #[{ on := 13, ground := Go.Ground.data }, { on := 11, ground := Go.Ground.data }, { on := 9, ground := Go.Ground.chain }, { on := 0, ground := Go.Ground.phase }, { on := 1, ground := Go.Ground.phase }, { on := 2, ground := Go.Ground.phase }, { on := 3, ground := Go.Ground.phase }, { on := 4, ground := Go.Ground.phase }, { on := 5, ground := Go.Ground.phase }, { on := 6, ground := Go.Ground.phase }, { on := 7, ground := Go.Ground.phase }, { on := 8, ground := Go.Ground.phase }, { on := 9, ground := Go.Ground.phase }, { on := 10, ground := Go.Ground.phase }, { on := 11, ground := Go.Ground.phase }], guard := none }) (v := .int .i64 num) rfl rfl (by kernel_rfl) (by kernel_rfl) (by kernel_rfl) (by kernel_rfl) (fun _ _ _ h => h) (Or.inl ⟨by kernel_rfl, ?_⟩) HBd.out ?_
                · (intro X hX; obtain ⟨z2, z3, z4⟩ := HX.out X hX <;> (go_simp; try (with_reducible rfl)))
                (try simp only [Act.put, List.setIfInBounds_toArray, List.set_cons_zero, List.set_cons_succ])
                refine wpAnyN_take (i := 7) (oi := { dst := some 63, op := Go.Op.fieldAddr 59 (Go.Operand.tmp 7) 1, type := 0, pos := "hear.go:71", after := #[], guard := none }) (oL := { dst := none, op := Go.Op.store 73 (Go.Operand.tmp 69) (Go.Operand.tmp 67), type := 0, pos := "hear.go:71", after := #[{ on := 13, ground := Go.Ground.data }, { on := 11, ground := Go.Ground.data }, { on := 9, ground := Go.Ground.chain }, { on := 0, ground := Go.Ground.phase }, { on := 1, ground := Go.Ground.phase }, { on := 2, ground := Go.Ground.phase }, { on := 3, ground := Go.Ground.phase }, { on := 4, ground := Go.Ground.phase }, { on := 5, ground := Go.Ground.phase }, { on := 6, ground := Go.Ground.phase }, { on := 7, ground := Go.Ground.phase }, { on := 8, ground := Go.Ground.phase }, { on := 9, ground := Go.Ground.phase }, { on := 10, ground := Go.Ground.phase }, { on := 11, ground := Go.Ground.phase }], guard := none }) (v := .pointer (some ⟨wr.heap.size, 1, none⟩)) rfl rfl (by kernel_rfl) (by kernel_rfl) (by kernel_rfl) (by kernel_rfl) (fun _ _ _ h => h) (Or.inl ⟨by kernel_rfl, ?_⟩) HBd.out ?_
                · (intro X hX; obtain ⟨z2, z3, z4⟩ := HX.out X hX <;> (go_simp; try (with_reducible rfl)))
                (try simp only [Act.put, List.setIfInBounds_toArray, List.set_cons_zero, List.set_cons_succ])
                refine wpAnyN_take (i := 8) (oi := { dst := some 64, op := Go.Op.load 22 (Go.Operand.tmp 63), type := 22, pos := "hear.go:71", after := #[{ on := 7, ground := Go.Ground.data }], guard := none }) (oL := { dst := none, op := Go.Op.store 73 (Go.Operand.tmp 69) (Go.Operand.tmp 67), type := 0, pos := "hear.go:71", after := #[{ on := 13, ground := Go.Ground.data }, { on := 11, ground := Go.Ground.data }, { on := 9, ground := Go.Ground.chain }, { on := 0, ground := Go.Ground.phase }, { on := 1, ground := Go.Ground.phase }, { on := 2, ground := Go.Ground.phase }, { on := 3, ground := Go.Ground.phase }, { on := 4, ground := Go.Ground.phase }, { on := 5, ground := Go.Ground.phase }, { on := 6, ground := Go.Ground.phase }, { on := 7, ground := Go.Ground.phase }, { on := 8, ground := Go.Ground.phase }, { on := 9, ground := Go.Ground.phase }, { on := 10, ground := Go.Ground.phase }, { on := 11, ground := Go.Ground.phase }], guard := none }) (v := .slice fa nf fc) rfl rfl (by kernel_rfl) (by kernel_rfl) (by kernel_rfl) (by kernel_rfl) (fun _ _ _ h => h) (Or.inl ⟨by kernel_rfl, ?_⟩) HBd.out ?_
                · (intro X hX; obtain ⟨z2, z3, z4⟩ := HX.out X hX <;> (go_simp; try (with_reducible rfl)))
                (try simp only [Act.put, List.setIfInBounds_toArray, List.set_cons_zero, List.set_cons_succ])
                refine wpAnyN_one (i := 9) (o := { dst := some 65, op := Go.Op.call { callee := Go.Callee.builtin Go.Builtin.append, args := #[Go.Operand.const (Go.Value.slice none 0 0), Go.Operand.tmp 64], argTypes := #[22, 22] }, type := 22, pos := "hear.go:71", after := #[{ on := 8, ground := Go.Ground.data }], guard := none }) (by kernel_rfl) rfl (fun K hK => ?_)
                refine step_append_run (u := .slice none 0 0) (v := .slice fa nf fc) rfl _ _ _ rfl 22 rfl rfl rfl _ _ HRun.out ?_
                refine hK.out _ _ (fun _ => HB2.out) ?_
                clear hK K
                (try simp only [Act.put, List.setIfInBounds_toArray, List.set_cons_zero, List.set_cons_succ])
                refine wpAnyN_take (i := 10) (oi := { dst := some 66, op := Go.Op.build 99 #[(0, Go.Operand.tmp 62), (1, Go.Operand.tmp 65)], type := 99, pos := "hear.go:71", after := #[{ on := 6, ground := Go.Ground.data }, { on := 9, ground := Go.Ground.data }], guard := none }) (oL := { dst := none, op := Go.Op.store 73 (Go.Operand.tmp 69) (Go.Operand.tmp 67), type := 0, pos := "hear.go:71", after := #[{ on := 13, ground := Go.Ground.data }, { on := 11, ground := Go.Ground.data }, { on := 9, ground := Go.Ground.chain }, { on := 0, ground := Go.Ground.phase }, { on := 1, ground := Go.Ground.phase }, { on := 2, ground := Go.Ground.phase }, { on := 3, ground := Go.Ground.phase }, { on := 4, ground := Go.Ground.phase }, { on := 5, ground := Go.Ground.phase }, { on := 6, ground := Go.Ground.phase }, { on := 7, ground := Go.Ground.phase }, { on := 8, ground := Go.Ground.phase }, { on := 9, ground := Go.Ground.phase }, { on := 10, ground := Go.Ground.phase }, { on := 11, ground := Go.Ground.phase }], guard := none }) (v := .agg #[.int .i64 num, .slice a2 nf c2]) rfl rfl (by kernel_rfl) (by kernel_rfl) (by kernel_rfl) (by kernel_rfl) (fun _ _ _ h => h) (Or.inl ⟨by kernel_rfl, ?_⟩) HB2.out ?_
                · (intro X hX; obtain ⟨z2, z3, z4⟩ := HX.out X hX <;> (go_simp; try (with_reducible rfl)))
                (try simp only [Act.put, List.setIfInBounds_toArray, List.set_cons_zero, List.set_cons_succ])
                refine wpAnyN_one (i := 11) (o := { dst := some 67, op := Go.Op.box 99 (Go.Operand.tmp 66), type := 73, pos := "hear.go:71", after := #[{ on := 10, ground := Go.Ground.data }], guard := none }) (by kernel_rfl) rfl (fun K hK => ?_)
                go_simp
                refine hK.out _ _ (fun _ => HB3.out) ?_
                clear hK K
                (try simp only [Act.put, List.setIfInBounds_toArray, List.set_cons_zero, List.set_cons_succ])
                refine wpAnyN_take (i := 12) (oi := { dst := some 68, op := Go.Op.indexAddr 64 (Go.Operand.tmp 59) (Go.Operand.tmp 60), type := 0, pos := "hear.go:71", after := #[{ on := 3, ground := Go.Ground.data }, { on := 4, ground := Go.Ground.data }, { on := 0, ground := Go.Ground.phase }, { on := 1, ground := Go.Ground.phase }, { on := 2, ground := Go.Ground.phase }, { on := 3, ground := Go.Ground.phase }, { on := 4, ground := Go.Ground.phase }, { on := 5, ground := Go.Ground.phase }, { on := 6, ground := Go.Ground.phase }, { on := 7, ground := Go.Ground.phase }, { on := 8, ground := Go.Ground.phase }, { on := 9, ground := Go.Ground.phase }, { on := 10, ground := Go.Ground.phase }, { on := 11, ground := Go.Ground.phase }], guard := none }) (oL := { dst := none, op := Go.Op.store 73 (Go.Operand.tmp 69) (Go.Operand.tmp 67), type := 0, pos := "hear.go:71", after := #[{ on := 13, ground := Go.Ground.data }, { on := 11, ground := Go.Ground.data }, { on := 9, ground := Go.Ground.chain }, { on := 0, ground := Go.Ground.phase }, { on := 1, ground := Go.Ground.phase }, { on := 2, ground := Go.Ground.phase }, { on := 3, ground := Go.Ground.phase }, { on := 4, ground := Go.Ground.phase }, { on := 5, ground := Go.Ground.phase }, { on := 6, ground := Go.Ground.phase }, { on := 7, ground := Go.Ground.phase }, { on := 8, ground := Go.Ground.phase }, { on := 9, ground := Go.Ground.phase }, { on := 10, ground := Go.Ground.phase }, { on := 11, ground := Go.Ground.phase }], guard := none }) (v := .pointer (some ⟨g2, ix * 4, none⟩)) rfl rfl (by kernel_rfl) (by kernel_rfl) (by kernel_rfl) (by kernel_rfl) (fun _ _ _ h => h) (Or.inl ⟨by kernel_rfl, ?_⟩) HB3.out ?_
                · (intro X hX; obtain ⟨z2, z3, z4⟩ := HX.out X hX <;> (go_simp; try (with_reducible rfl)))
                (try simp only [Act.put, List.setIfInBounds_toArray, List.set_cons_zero, List.set_cons_succ])
                refine wpAnyN_take (i := 13) (oi := { dst := some 69, op := Go.Op.fieldAddr 75 (Go.Operand.tmp 68) 3, type := 0, pos := "hear.go:71", after := #[{ on := 12, ground := Go.Ground.data }, { on := 0, ground := Go.Ground.phase }, { on := 1, ground := Go.Ground.phase }, { on := 2, ground := Go.Ground.phase }, { on := 3, ground := Go.Ground.phase }, { on := 4, ground := Go.Ground.phase }, { on := 5, ground := Go.Ground.phase }, { on := 6, ground := Go.Ground.phase }, { on := 7, ground := Go.Ground.phase }, { on := 8, ground := Go.Ground.phase }, { on := 9, ground := Go.Ground.phase }, { on := 10, ground := Go.Ground.phase }, { on := 11, ground := Go.Ground.phase }], guard := none }) (oL := { dst := none, op := Go.Op.store 73 (Go.Operand.tmp 69) (Go.Operand.tmp 67), type := 0, pos := "hear.go:71", after := #[{ on := 13, ground := Go.Ground.data }, { on := 11, ground := Go.Ground.data }, { on := 9, ground := Go.Ground.chain }, { on := 0, ground := Go.Ground.phase }, { on := 1, ground := Go.Ground.phase }, { on := 2, ground := Go.Ground.phase }, { on := 3, ground := Go.Ground.phase }, { on := 4, ground := Go.Ground.phase }, { on := 5, ground := Go.Ground.phase }, { on := 6, ground := Go.Ground.phase }, { on := 7, ground := Go.Ground.phase }, { on := 8, ground := Go.Ground.phase }, { on := 9, ground := Go.Ground.phase }, { on := 10, ground := Go.Ground.phase }, { on := 11, ground := Go.Ground.phase }], guard := none }) (v := .pointer (some ⟨g2, ix * 4 + 3, none⟩)) rfl rfl (by kernel_rfl) (by kernel_rfl) (by kernel_rfl) (by kernel_rfl) (fun _ _ _ h => h) (Or.inl ⟨by kernel_rfl, ?_⟩) HB3.out ?_
                · (intro X hX; obtain ⟨z2, z3, z4⟩ := HX.out X hX <;> (go_simp; try (with_reducible rfl)))
                (try simp only [Act.put, List.setIfInBounds_toArray, List.set_cons_zero, List.set_cons_succ])
                refine wpAnyN_one (i := 14) (o := { dst := none, op := Go.Op.store 73 (Go.Operand.tmp 69) (Go.Operand.tmp 67), type := 0, pos := "hear.go:71", after := #[{ on := 13, ground := Go.Ground.data }, { on := 11, ground := Go.Ground.data }, { on := 9, ground := Go.Ground.chain }, { on := 0, ground := Go.Ground.phase }, { on := 1, ground := Go.Ground.phase }, { on := 2, ground := Go.Ground.phase }, { on := 3, ground := Go.Ground.phase }, { on := 4, ground := Go.Ground.phase }, { on := 5, ground := Go.Ground.phase }, { on := 6, ground := Go.Ground.phase }, { on := 7, ground := Go.Ground.phase }, { on := 8, ground := Go.Ground.phase }, { on := 9, ground := Go.Ground.phase }, { on := 10, ground := Go.Ground.phase }, { on := 11, ground := Go.Ground.phase }], guard := none }) (by kernel_rfl) rfl (fun K hK => ?_)
                go_simp
                refine hK.out _ _ (fun e => absurd (e.symm.trans (by kernel_rfl) : false = true) Bool.false_ne_true) ?_
                clear hK K
                (try simp only [Act.put, List.setIfInBounds_toArray, List.set_cons_zero, List.set_cons_succ])
                refine wpAnyN_of_H (S' := fun _ => True) _ _ _ _ (by kernel_rfl) ?_
                refine wpAnyH_done (by kernel_rfl) ?_ _
                --E Flag8b--
                go_wp2_with fail
                go_roundw
                case rel => exact ⟨k + 1, _, by omega, by go_num, HO.out, Lib.hid ⟨(HTn.out _ _).trans HS.out.symm, (HTu.out _).trans HR1.out.2⟩⟩
                case measure => simp [intOf]; omega
      · obtain rfl : k = ms.length := by omega
        rw [List.take_of_length_le (Nat.le_refl _)] at HR1
        have HO := Lib.hid hO
        clear hO
        go_wp2
        first | refine bodyPost_end (results_none rfl _ _ _) rfl ?_ | refine bodyPost_ret (results_none rfl _ _ _) rfl ?_
        exact ⟨rfl, R1, VO.from HB1.out HO.out, HR1.out⟩
  · have hxb : (e.bx != val) = true := by simpa using hx
    rw [if_neg hx]
    have HO : Hid (VO P val R C (fpV P rv cv R) w W1.drew) := Lib.hid ⟨rv, cv, hV1.on (Below.refl _ _).drew, (FO.below hb1).trans (FO.below (Below.refl _ _).drew)⟩
    clear h h1 hb1 hV1 hx hm hout
    go_enter Try.func42, Try.ntmps42
    go_upto_region 1 with fail
    (try rw [hW1])
    clear hW1
    go_region
    all_goals
      go_wp2_with fail
      first | refine bodyPost_end (results_none rfl _ _ _) rfl ?_ | refine bodyPost_ret (results_none rfl _ _ _) rfl ?_
      exact ⟨rfl, R, HO.out, rfl, rfl⟩
end
end Go.Proofs.Ytiphbnmnoofpkaa
