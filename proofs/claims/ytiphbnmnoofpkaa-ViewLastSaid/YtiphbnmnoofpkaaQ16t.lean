/- view: tellGone. -/
import Derived.Test.YtiphbnmnoofpkaaQ16s
import Derived.WalkMore
namespace Go.Proofs.Ytiphbnmnoofpkaa
open Go.RowKit

theorem grown_stays {fp : List Nat} {w w' : World} {v : Value} (h : w.grownBy w' v.ownBlock) (hv : ∀ b, v.ownBlock = some b → b ∈ fp) : Stays fp w w' := Stays.ofGrown h hv
theorem rows_apart {w : World} {z1 z2 n1 n2 : Nat} {e1 e2 : TypeId} {v1 v2 : Value} {x1 x2 : List Value} (h1 : w.ownsRow 0 e1 z1 v1 n1 x1) (h2 : w.ownsRow 0 e2 z2 v2 n2 x2) (hne : e1 ≠ e2) {b : Nat} (e : v1.ownBlock = some b) : some b ≠ v2.ownBlock := fun e' => by
  obtain ⟨c1, k1⟩ := row_kind h1 e
  obtain ⟨c2, k2⟩ := row_kind h2 e'.symm
  exact kind_ne k1 k2 hne rfl
section
variable {P : Nat} {val : Int} {rv cv : Value} {R : List RE} {C : List Int} {w : World} {N : Nat}
/-- What tellGone has in memory. -/
structure TG (R : List RE) (T : List TDE) (tv : Value) (w : World) (k : Nat) (s1 s5 : Value) (wr : World) : Prop where
  told : TdRow wr s1 (T ++ (goneT 0 ((R.take k).map RE.pl)).map nilT)
  left : wr.ownsRow 0 75 4 s5 (stayE (R.take k)).length (rwC (stayE (R.take k)))
  stays : Stays tv.ownBlock.toList w wr
  tb : ∀ b, s1.ownBlock = some b → tv.ownBlock = some b ∨ w.heap.size ≤ b
  lb : ∀ b, s5.ownBlock = some b → w.heap.size ≤ b
theorem TG.tell {T : List TDE} {tv s1 s5 : Value} {k : Nat} {wr : World} (h : TG R T tv w k s1 s5 wr) (o : Obj) (hk : k < R.length) (hg : (R.getD k RE0).gone = true) (hl : R.length ≤ 1000000) (hT : T.length ≤ 1000000) :
    ∃ a n c W1, (Builtin.append_ #[32, 32] 32 #[s1, .slice (some ⟨wr.heap.size + 1, 0, none⟩) 1 1]).run Try.prog ((wr.alloc o).alloc (.cells #[.int .i64 1, .int .i64 (((stayE (R.take k)).length : Int) + 1), .int .i64 (R.getD k RE0).uid, .int .i64 0, .slice none 0 0] 43)) = .ok (.slice a n c) W1 ∧ TG R T tv w (k + 1) (.slice a n c) s5 W1 := by
  have hgl : (goneT 0 ((R.take k).map RE.pl)).length ≤ k := by
    have : ∀ (l : List PR) (n : Nat), (goneT n l).length ≤ l.length := by
      intro l
      induction l with
      | nil => intro n; exact Nat.le_refl _
      | cons x l ih =>
        intro n
        unfold goneT
        split
        · have := ih n; simp only [List.length_cons]; omega
        · have := ih (n + 1); simp only [List.length_cons]; omega
    have := this ((R.take k).map RE.pl) 0
    rw [List.length_map, List.length_take] at this
    omega
  obtain ⟨a, c, W1, hr, h1, h2, h3⟩ := told_app (h.told.alloc o) ⟨1, ((stayE (R.take k)).length : Int) + 1, (R.getD k RE0).uid, 0, .slice none 0 0, []⟩ none 0 0 rfl (by simp only [List.length_append, List.length_map]; omega)
  rw [show (wr.alloc o).heap.size = wr.heap.size + 1 by simp] at hr h3
  have hst : (R.take (k + 1)).map RE.pl = (R.take k).map RE.pl ++ [(R.getD k RE0).pl] := by rw [take_snocE R k hk, List.map_append]; rfl
  have hgo : (goneT 0 ((R.take (k + 1)).map RE.pl)).map nilT = (goneT 0 ((R.take k).map RE.pl)).map nilT ++ [⟨1, ((stayE (R.take k)).length : Int) + 1, (R.getD k RE0).uid, 0, .slice none 0 0, []⟩] := by
    rw [hst, goneT_snoc, if_pos (show (R.getD k RE0).pl.gone = true from hg), ← stayE_pl, List.length_map, Nat.zero_add, List.map_append]
    rfl
  have hsl : stayE (R.take (k + 1)) = stayE (R.take k) := by rw [take_snocE R k hk, stayE_snoc, if_pos hg, List.append_nil]
  have hgw : wr.grownBy W1 s1.ownBlock := ⟨h2.os, h2.tape, h2.output, Nat.le_trans (by simp) h2.size, fun b hb hne => by rw [h2.block b (by simp; omega) hne, Below.heap_alloc _ _ _ hb]⟩
  refine ⟨a, _, c, W1, hr, ?_, ?_, ?_, ?_, h.lb⟩
  · rw [hgo, ← List.append_assoc]; exact h1
  · rw [hsl]
    exact ownsRow_same h.left (fun b e => hgw.block b (h.left.lt b e).2 (rows_apart h.left h.told (by decide) e))
  · refine ⟨hgw.os.trans h.stays.os, hgw.tape.trans h.stays.tape, hgw.output.trans h.stays.output, Nat.le_trans h.stays.size hgw.size, fun b hb hn => ?_⟩
    rw [hgw.block b (Nat.lt_of_lt_of_le hb h.stays.size) (fun e => by
      rcases h.tb b e.symm with e2 | e2
      · exact hn (by simp [e2])
      · omega), h.stays.block b hb hn]
  · intro b hb
    rcases h3 b hb with e | e
    · exact h.tb b e
    · right; have := h.stays.size; omega
theorem TG.keep {T : List TDE} {tv s1 s5 : Value} {k : Nat} {wr : World} (h : TG R T tv w k s1 s5 wr) (o : Obj) (hk : k < R.length) (hg : (R.getD k RE0).gone = false) (hl : R.length ≤ 1000000) (yo : Option Addr) (hy : (R.getD k RE0).ptr = .pointer yo) :
    ∃ a n c W1, (Builtin.append_ #[64, 64] 64 #[s5, .slice (some ⟨wr.heap.size + 1, 0, none⟩) 1 1]).run Try.prog ((wr.alloc o).alloc (.cells #[.int .i64 (R.getD k RE0).uid, .bool false, .bool (R.getD k RE0).rct, .pointer yo] 75)) = .ok (.slice a n c) W1 ∧ TG R T tv w (k + 1) s1 (.slice a n c) W1 := by
  have hsl0 := stayE_len (R.take k)
  rw [List.length_take] at hsl0
  obtain ⟨a, c, W1, hr, h1, h2, h3⟩ := left_app (h.left.alloc o) (R.getD k RE0) yo hy (by omega)
  rw [hg] at hr
  rw [show (wr.alloc o).heap.size = wr.heap.size + 1 by simp] at hr h3
  have hst : (R.take (k + 1)).map RE.pl = (R.take k).map RE.pl ++ [(R.getD k RE0).pl] := by rw [take_snocE R k hk, List.map_append]; rfl
  have hgo : goneT 0 ((R.take (k + 1)).map RE.pl) = goneT 0 ((R.take k).map RE.pl) := by
    rw [hst, goneT_snoc, if_neg (show ¬ (R.getD k RE0).pl.gone = true from by
      show ¬ (R.getD k RE0).gone = true
      rw [hg]; simp), List.append_nil]
  have hsl : stayE (R.take (k + 1)) = stayE (R.take k) ++ [R.getD k RE0] := by rw [take_snocE R k hk, stayE_snoc, if_neg (by rw [hg]; simp)]
  have hgw : wr.grownBy W1 s5.ownBlock := ⟨h2.os, h2.tape, h2.output, Nat.le_trans (by simp) h2.size, fun b hb hne => by rw [h2.block b (by simp; omega) hne, Below.heap_alloc _ _ _ hb]⟩
  refine ⟨a, _, c, W1, hr, ?_, ?_, ?_, h.tb, ?_⟩
  · rw [hgo]
    exact ownsRow_same h.told (fun b e => hgw.block b (h.told.lt b e).2 (rows_apart h.told h.left (by decide) e))
  · rw [hsl]; exact h1
  · refine ⟨hgw.os.trans h.stays.os, hgw.tape.trans h.stays.tape, hgw.output.trans h.stays.output, Nat.le_trans h.stays.size hgw.size, fun b hb hn => ?_⟩
    rw [hgw.block b (Nat.lt_of_lt_of_le hb h.stays.size) (fun e => by have := h.lb b e.symm; omega), h.stays.block b hb hn]
  · intro b hb
    rcases h3 b hb with e | e
    · exact h.lb b e
    · have := h.stays.size; omega
set_option maxRecDepth 100000 in
set_option maxHeartbeats 1000000 in
theorem tellGone_any (h : VAt P val rv cv R C w) (hR : R.length ≤ 1000000) (tv : Value) (T : List TDE) (hT : TdRow w tv T) (hTl : T.length ≤ 1000000) :
    Calls Try.prog 36 #[.pointer (some ⟨P, 0, none⟩), tv] w fun e w' => ∃ tv' rv', e = .returned tv' ∧ TdRow w' tv' (T ++ (goneT 0 (R.map RE.pl)).map nilT) ∧ VAt P val rv' cv (stayE R) C w' ∧ FO (tv.ownBlock.toList ++ fpV P rv cv R) (tv'.ownBlock.toList ++ fpV P rv' cv (stayE R)) w w' := by
  have c2 := h.cells.c2
  obtain ⟨a2, k2, hv2, hcs2⟩ := rws_of h.rows
  subst hv2
  have HC := Lib.hid hcs2
  have HV := Lib.hid h
  have HT := Lib.hid hT
  have H0 : Hid (TG R T tv w 0 tv (.slice none 0 0) w) := Lib.hid ⟨by simpa [goneT] using hT, World.ownsRow_nil _ _ _ _, Stays.refl _ _, fun b e => .inl e, fun b e => by cases e⟩
  clear h hcs2 hT
  go_enter Try.func36, Try.ntmps36
  go_wp2
  go_step3
  go_wp2
  go_step3
  go_wp2
  go_loopw [1, 5, 13] (fun v1 v5 i wr => ∃ (k : Nat) (s1 s5 : Value), k ≤ R.length ∧ i = .int .i64 k ∧ s1 = v1 ∧ s5 = v5 ∧ TG R T tv w k s1 s5 wr) (fun _ _ i _ => R.length - (intOf i).toNat)
  case atStart => exact ⟨0, _, _, Nat.zero_le _, rfl, rfl, rfl, H0.out⟩
  case round =>
    clear c2
    obtain ⟨k, s1, s5, hk, rfl, hs1, hs5, hG⟩ := hrel
    subst hs1 hs5
    by_cases hlt : k < R.length
    · have hlti : (k : Int) < (R.length : Int) := by omega
      obtain ⟨b, off, rfl, hb, hcc⟩ := HC.out (by omega)
      obtain ⟨c4, c5, c6, c7⟩ := hcc k hlt
      have hbn : b ∉ tv.ownBlock.toList := fun hm => by
        rw [Option.mem_toList] at hm
        exact HV.out.told HT.out hm (mem_fpV_r rfl)
      have hbe := hG.stays.block b hb hbn
      rw [← World.cell?_of_block (a := ⟨b, off + k * 4, none⟩) hbe] at c4
      rw [← World.cell?_of_block (a := ⟨b, off + k * 4 + 1, none⟩) hbe] at c5
      rw [← World.cell?_of_block (a := ⟨b, off + k * 4 + 2, none⟩) hbe] at c6
      rw [← World.cell?_of_block (a := ⟨b, off + k * 4 + 3, none⟩) hbe] at c7
      obtain ⟨yo, hyo⟩ : ∃ yo, (R.getD k RE0).ptr = .pointer yo := ⟨_, rfl⟩
      rw [hyo] at c7
      obtain ⟨al, cl, hsl⟩ := ownsRow_shape hG.left
      have hll := stayE_len (R.take k)
      rw [List.length_take] at hll
      clear hcc hbn hbe
      cases hgn : (R.getD k RE0).gone with
      | true =>
        rw [hgn] at c5
        obtain ⟨a4, n4, k4, W4, r4, g4⟩ := hG.tell (.cells #[.int .i64 (R.getD k RE0).uid, .bool true, .bool (R.getD k RE0).rct, .pointer yo] 75) hlt hgn hR hTl
        have R4 := Lib.hid r4
        have G4 := Lib.hid g4
        subst hsl
        clear hG hgn hyo r4 g4
        generalize (stayE (R.take k)).length = nl at *
        generalize (R.getD k RE0).uid = x at *
        generalize (R.getD k RE0).rct = yr at *
        go_wp2_with (at_builtin; refine append_by_run (u := s1) (v := .slice (some ⟨wr.heap.size + 1, 0, none⟩) 1 1) rfl _ _ _ rfl 32 rfl rfl rfl _ _ R4.out ?_)
        go_roundw
        case rel => exact ⟨k + 1, _, _, by omega, by go_num, rfl, rfl, G4.out⟩
        case measure => simp [intOf]; omega
      | false =>
        rw [hgn] at c5
        obtain ⟨a4, n4, k4, W4, r4, g4⟩ := hG.keep (.cells #[.int .i64 (R.getD k RE0).uid, .bool false, .bool (R.getD k RE0).rct, .pointer yo] 75) hlt hgn hR yo hyo
        have R4 := Lib.hid r4
        have G4 := Lib.hid g4
        clear hG hgn hyo r4 g4 hsl
        generalize (R.getD k RE0).uid = x at *
        generalize (R.getD k RE0).rct = yr at *
        go_wp2_with (at_builtin; refine append_by_run (u := s5) (v := .slice (some ⟨wr.heap.size + 1, 0, none⟩) 1 1) rfl _ _ _ rfl 64 rfl rfl rfl _ _ R4.out ?_)
        go_roundw
        case rel => exact ⟨k + 1, _, _, by omega, by go_num, rfl, rfl, G4.out⟩
        case measure => simp [intOf]; omega
    · obtain rfl : k = R.length := by omega
      obtain ⟨g1, g2, g3, g4, g5⟩ := hG
      rw [List.take_of_length_le (Nat.le_refl _)] at g1 g2
      have hVr : VAt P val (.slice a2 R.length k2) cv R C wr := HV.out.hold (fun b hb => g3.block b (HV.out.lt hb) (fun hm => by
        rw [Option.mem_toList] at hm
        exact HV.out.told HT.out hm hb))
      have d2 := hVr.cells.c2
      have z2 := hVr.cells.f2
      obtain ⟨al, cl, hsl⟩ := ownsRow_shape g2
      subst hsl
      have HF : Hid (TdRow (wr.setCell ⟨P, 2, none⟩ (.slice al (stayE R).length cl)) s1 (T ++ (goneT 0 (R.map RE.pl)).map nilT) ∧ VAt P val (.slice al (stayE R).length cl) cv (stayE R) C (wr.setCell ⟨P, 2, none⟩ (.slice al (stayE R).length cl)) ∧ FO (tv.ownBlock.toList ++ fpV P (.slice a2 R.length k2) cv R) (s1.ownBlock.toList ++ fpV P (.slice al (stayE R).length cl) cv (stayE R)) w (wr.setCell ⟨P, 2, none⟩ (.slice al (stayE R).length cl))) := Lib.hid (by
        refine ⟨ownsRow_same g1 (fun b e => Below.heap_setCell _ _ _ _ (fun e' => by
          subst e'
          exact hVr.told g1 e mem_fpV_p)), hVr.newR g2 (fun r hr => (List.mem_filter.1 hr).1), Stays.setCell (p := ⟨P, 2, none⟩) (g3.mono (fun b hb => List.mem_append_left _ hb)) (.inl (List.mem_append_right _ mem_fpV_p)) _, fun b hb => ?_⟩
        rcases List.mem_append.1 hb with hb | hb
        · rw [Option.mem_toList] at hb
          rcases g4 b hb with e | e
          · exact .inl (List.mem_append_left _ (by simp [e]))
          · exact .inr e
        · rcases mem_fpV.1 hb with rfl | hb | hb | ⟨r, hr, hb⟩
          · exact .inl (List.mem_append_right _ mem_fpV_p)
          · exact .inr (g5 b hb)
          · exact .inl (List.mem_append_right _ (mem_fpV_c hb))
          · exact .inl (List.mem_append_right _ (mem_fpV_t ((List.mem_filter.1 hr).1) hb)))
      clear g1 g2 g3 g4 g5 hVr
      generalize (stayE R).length = nl at *
      go_wp2
      (try rw [Exit.noGoto_ret])
      go_ret
      exact ⟨_, _, rfl, HF.out⟩
end
end Go.Proofs.Ytiphbnmnoofpkaa
