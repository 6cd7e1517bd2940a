/- view: tellGone. -/
import Derived.Test.YtflkhnmggmfhfaaGreatQ16m
import Derived.WalkMore
namespace Go.Proofs.YtflkhnmggmfhfaaGreat
open Go.RowKit

theorem grown_stays {fp : List Nat} {w w' : World} {v : Value} (h : w.grownBy w' v.ownBlock) (hv : ∀ b, v.ownBlock = some b → b ∈ fp) : Stays fp w w' := Stays.ofGrown h hv
theorem rows_apart {w : World} {z1 z2 n1 n2 : Nat} {e1 e2 : TypeId} {v1 v2 : Value} {x1 x2 : List Value} (h1 : w.ownsRow 0 e1 z1 v1 n1 x1) (h2 : w.ownsRow 0 e2 z2 v2 n2 x2) (hne : e1 ≠ e2) {b : Nat} (e : v1.ownBlock = some b) : some b ≠ v2.ownBlock := fun e' => by
  obtain ⟨c1, k1⟩ := row_kind h1 e
  obtain ⟨c2, k2⟩ := row_kind h2 e'.symm
  exact kind_ne k1 k2 hne rfl
section
variable {P : Nat} {mk : Bool} {val : Int} {rv cv : Value} {R : List RE} {C : List Int} {w : World} {N : Nat}
/-- What tellGone has in memory. -/
structure TG (R : List RE) (T : List TDE) (tv : Value) (w : World) (k : Nat) (s1 s5 : Value) (wr : World) : Prop where
  told : TdRow wr s1 (T ++ (goneT 0 ((R.take k).map RE.pl)).map nilT)
  left : wr.ownsRow 0 82 4 s5 (stayE (R.take k)).length (rwC (stayE (R.take k)))
  stays : Stays tv.ownBlock.toList w wr
  tb : ∀ b, s1.ownBlock = some b → tv.ownBlock = some b ∨ w.heap.size ≤ b
  lb : ∀ b, s5.ownBlock = some b → w.heap.size ≤ b
theorem TG.tell {T : List TDE} {tv s1 s5 : Value} {k : Nat} {wr : World} (h : TG R T tv w k s1 s5 wr) (o : Obj) (hk : k < R.length) (hg : (R.getD k RE0).gone = true) (hl : R.length ≤ 1000000) (hT : T.length ≤ 1000000) :
    ∃ a n c W1, (Builtin.append_ #[49, 49] 49 #[s1, .slice (some ⟨wr.heap.size + 1, 0, none⟩) 1 1]).run Tryz.prog ((wr.alloc o).alloc (.cells #[.int .i64 1, .int .i64 (((stayE (R.take k)).length : Int) + 1), .int .i64 (R.getD k RE0).uid, .int .i64 0, .slice none 0 0] 92)) = .ok (.slice a n c) W1 ∧ TG R T tv w (k + 1) (.slice a n c) s5 W1 := by
  have hgl : (goneT 0 ((R.take k).map RE.pl)).length ≤ k := by
    have : ∀ (l : List PR) (n : Nat), (goneT n l).length ≤ l.length := by
      intro l
      induction l with
      | nil => intro n; exact Nat.le_refl _
      | cons x l ih =>
        intro n
        unfold goneT
        split
        · have := ih n; simp only [List.length_cons]; omega
        · have := ih (n + 1); simp only [List.length_cons]; omega
    have := this ((R.take k).map RE.pl) 0
    rw [List.length_map, List.length_take] at this
    omega
  obtain ⟨a, c, W1, hr, h1, h2, h3⟩ := told_app (h.told.alloc o) ⟨1, ((stayE (R.take k)).length : Int) + 1, (R.getD k RE0).uid, 0, .slice none 0 0, []⟩ none 0 0 rfl (by simp only [List.length_append, List.length_map]; omega)
  rw [show (wr.alloc o).heap.size = wr.heap.size + 1 by simp] at hr h3
  have hst : (R.take (k + 1)).map RE.pl = (R.take k).map RE.pl ++ [(R.getD k RE0).pl] := by rw [take_snocE R k hk, List.map_append]; rfl
  have hgo : (goneT 0 ((R.take (k + 1)).map RE.pl)).map nilT = (goneT 0 ((R.take k).map RE.pl)).map nilT ++ [⟨1, ((stayE (R.take k)).length : Int) + 1, (R.getD k RE0).uid, 0, .slice none 0 0, []⟩] := by
    rw [hst, goneT_snoc, if_pos (show (R.getD k RE0).pl.gone = true from hg), ← stayE_pl, List.length_map, Nat.zero_add, List.map_append]
    rfl
  have hsl : stayE (R.take (k + 1)) = stayE (R.take k) := by rw [take_snocE R k hk, stayE_snoc, if_pos hg, List.append_nil]
  have hgw : wr.grownBy W1 s1.ownBlock := ⟨h2.os, h2.tape, h2.output, Nat.le_trans (by simp) h2.size, fun b hb hne => by rw [h2.block b (by simp; omega) hne, Below.heap_alloc _ _ _ hb]⟩
  refine ⟨a, _, c, W1, hr, ?_, ?_, ?_, ?_, h.lb⟩
  · rw [hgo, ← List.append_assoc]; exact h1
  · rw [hsl]
    exact ownsRow_same h.left (fun b e => hgw.block b (h.left.lt b e).2 (rows_apart h.left h.told (by decide) e))
  · refine ⟨hgw.os.trans h.stays.os, hgw.tape.trans h.stays.tape, hgw.output.trans h.stays.output, Nat.le_trans h.stays.size hgw.size, fun b hb hn => ?_⟩
    rw [hgw.block b (Nat.lt_of_lt_of_le hb h.stays.size) (fun e => by
      rcases h.tb b e.symm with e2 | e2
      · exact hn (by simp [e2])
      · omega), h.stays.block b hb hn]
  · intro b hb
    rcases h3 b hb with e | e
    · exact h.tb b e
    · right; have := h.stays.size; omega
theorem TG.keep {T : List TDE} {tv s1 s5 : Value} {k : Nat} {wr : World} (h : TG R T tv w k s1 s5 wr) (o : Obj) (hk : k < R.length) (hg : (R.getD k RE0).gone = false) (hl : R.length ≤ 1000000) (yo : Option Addr) (hy : (R.getD k RE0).ptr = .pointer yo) :
    ∃ a n c W1, (Builtin.append_ #[25, 25] 25 #[s5, .slice (some ⟨wr.heap.size + 1, 0, none⟩) 1 1]).run Tryz.prog ((wr.alloc o).alloc (.cells #[.int .i64 (R.getD k RE0).uid, .bool false, .bool (R.getD k RE0).rct, .pointer yo] 82)) = .ok (.slice a n c) W1 ∧ TG R T tv w (k + 1) s1 (.slice a n c) W1 := by
  have hsl0 := stayE_len (R.take k)
  rw [List.length_take] at hsl0
  obtain ⟨a, c, W1, hr, h1, h2, h3⟩ := left_app (h.left.alloc o) (R.getD k RE0) yo hy (by omega)
  rw [hg] at hr
  rw [show (wr.alloc o).heap.size = wr.heap.size + 1 by simp] at hr h3
  have hst : (R.take (k + 1)).map RE.pl = (R.take k).map RE.pl ++ [(R.getD k RE0).pl] := by rw [take_snocE R k hk, List.map_append]; rfl
  have hgo : goneT 0 ((R.take (k + 1)).map RE.pl) = goneT 0 ((R.take k).map RE.pl) := by
    rw [hst, goneT_snoc, if_neg (show ¬ (R.getD k RE0).pl.gone = true from by
      show ¬ (R.getD k RE0).gone = true
      rw [hg]; simp), List.append_nil]
  have hsl : stayE (R.take (k + 1)) = stayE (R.take k) ++ [R.getD k RE0] := by rw [take_snocE R k hk, stayE_snoc, if_neg (by rw [hg]; simp)]
  have hgw : wr.grownBy W1 s5.ownBlock := ⟨h2.os, h2.tape, h2.output, Nat.le_trans (by simp) h2.size, fun b hb hne => by rw [h2.block b (by simp; omega) hne, Below.heap_alloc _ _ _ hb]⟩
  refine ⟨a, _, c, W1, hr, ?_, ?_, ?_, h.tb, ?_⟩
  · rw [hgo]
    exact ownsRow_same h.told (fun b e => hgw.block b (h.told.lt b e).2 (rows_apart h.told h.left (by decide) e))
  · rw [hsl]; exact h1
  · refine ⟨hgw.os.trans h.stays.os, hgw.tape.trans h.stays.tape, hgw.output.trans h.stays.output, Nat.le_trans h.stays.size hgw.size, fun b hb hn => ?_⟩
    rw [hgw.block b (Nat.lt_of_lt_of_le hb h.stays.size) (fun e => by have := h.lb b e.symm; omega), h.stays.block b hb hn]
  · intro b hb
    rcases h3 b hb with e | e
    · exact h.lb b e
    · have := h.stays.size; omega
set_option maxRecDepth 100000 in
set_option maxHeartbeats 1000000 in
theorem tellGone_any (h : VAt mk P val rv cv R C w) (hR : R.length ≤ 1000000) (tv : Value) (T : List TDE) (hT : TdRow w tv T) (hTl : T.length ≤ 1000000) :
    Calls Tryz.prog 34 #[.pointer (some ⟨P, 0, none⟩), tv] w fun e w' => ∃ tv' rv', e = .returned tv' ∧ TdRow w' tv' (T ++ (goneT 0 (R.map RE.pl)).map nilT) ∧ VAt mk P val rv' cv (stayE R) C w' ∧ FO (tv.ownBlock.toList ++ fpV P rv cv R) (tv'.ownBlock.toList ++ fpV P rv' cv (stayE R)) w w' := by
  have c2 := h.cells.c2
  obtain ⟨a2, k2, hv2, hcs2⟩ := rws_of h.rows
  subst hv2
  have HC := Lib.hid hcs2
  have HV := Lib.hid h
  have HT := Lib.hid hT
  have H0 : Hid (TG R T tv w 0 tv (.slice none 0 0) w) := Lib.hid ⟨by simpa [goneT] using hT, World.ownsRow_nil _ _ _ _, Stays.refl _ _, fun b e => .inl e, fun b e => by cases e⟩
  clear h hcs2 hT
  go_enter Tryz.func34, Tryz.ntmps34
  go_wp2
  go_step3
  go_wp2
  go_step3
  go_wp2
  go_loopw [1, 5, 13] (fun v1 v5 i wr => ∃ (k : Nat) (s1 s5 : Value), k ≤ R.length ∧ i = .int .i64 k ∧ s1 = v1 ∧ s5 = v5 ∧ TG R T tv w k s1 s5 wr) (fun _ _ i _ => R.length - (intOf i).toNat)
  case atStart => exact ⟨0, _, _, Nat.zero_le _, rfl, rfl, rfl, H0.out⟩
  case round =>
    clear c2
    obtain ⟨k, s1, s5, hk, rfl, hs1, hs5, hG⟩ := hrel
    subst hs1 hs5
    by_cases hlt : k < R.length
    · have hlti : (k : Int) < (R.length : Int) := by omega
      obtain ⟨b, off, rfl, hb, hcc⟩ := HC.out (by omega)
      obtain ⟨c4, c5, c6, c7⟩ := hcc k hlt
      have hbn : b ∉ tv.ownBlock.toList := fun hm => by
        rw [Option.mem_toList] at hm
        exact HV.out.told HT.out hm (mem_fpV_r rfl)
      have hbe := hG.stays.block b hb hbn
      rw [← World.cell?_of_block (a := ⟨b, off + k * 4, none⟩) hbe] at c4
      rw [← World.cell?_of_block (a := ⟨b, off + k * 4 + 1, none⟩) hbe] at c5
      rw [← World.cell?_of_block (a := ⟨b, off + k * 4 + 2, none⟩) hbe] at c6
      rw [← World.cell?_of_block (a := ⟨b, off + k * 4 + 3, none⟩) hbe] at c7
      obtain ⟨yo, hyo⟩ : ∃ yo, (R.getD k RE0).ptr = .pointer yo := ⟨_, rfl⟩
      rw [hyo] at c7
      obtain ⟨al, cl, hsl⟩ := ownsRow_shape hG.left
      have hll := stayE_len (R.take k)
      rw [List.length_take] at hll
      clear hcc hbn hbe
      cases hgn : (R.getD k RE0).gone with
      | true =>
        rw [hgn] at c5
        obtain ⟨a4, n4, k4, W4, r4, g4⟩ := hG.tell (.cells #[.int .i64 (R.getD k RE0).uid, .bool true, .bool (R.getD k RE0).rct, .pointer yo] 82) hlt hgn hR hTl
        have R4 := Lib.hid r4
        have G4 := Lib.hid g4
        subst hsl
        clear hG hgn hyo r4 g4
        generalize (stayE (R.take k)).length = nl at *
        generalize (R.getD k RE0).uid = x at *
        generalize (R.getD k RE0).rct = yr at *
        go_wp2_with (at_builtin; refine append_by_run (u := s1) (v := .slice (some ⟨wr.heap.size + 1, 0, none⟩) 1 1) rfl _ _ _ rfl 49 rfl rfl rfl _ _ R4.out ?_)
        go_roundw
        case rel => exact ⟨k + 1, _, _, by omega, by go_num, rfl, rfl, G4.out⟩
        case measure => simp [intOf]; omega
      | false =>
        rw [hgn] at c5
        obtain ⟨a4, n4, k4, W4, r4, g4⟩ := hG.keep (.cells #[.int .i64 (R.getD k RE0).uid, .bool false, .bool (R.getD k RE0).rct, .pointer yo] 82) hlt hgn hR yo hyo
        have R4 := Lib.hid r4
        have G4 := Lib.hid g4
        clear hG hgn hyo r4 g4 hsl
        generalize (R.getD k RE0).uid = x at *
        generalize (R.getD k RE0).rct = yr at *
        go_wp2_with (at_builtin; refine append_by_run (u := s5) (v := .slice (some ⟨wr.heap.size + 1, 0, none⟩) 1 1) rfl _ _ _ rfl 25 rfl rfl rfl _ _ R4.out ?_)
        go_roundw
        case rel => exact ⟨k + 1, _, _, by omega, by go_num, rfl, rfl, G4.out⟩
        case measure => simp [intOf]; omega
    · obtain rfl : k = R.length := by omega
      obtain ⟨g1, g2, g3, g4, g5⟩ := hG
      rw [List.take_of_length_le (Nat.le_refl _)] at g1 g2
      have hVr : VAt mk P val (.slice a2 R.length k2) cv R C wr := HV.out.hold (fun b hb => g3.block b (HV.out.lt hb) (fun hm => by
        rw [Option.mem_toList] at hm
        exact HV.out.told HT.out hm hb))
      have d2 := hVr.cells.c2
      have z2 := hVr.cells.f2
      obtain ⟨al, cl, hsl⟩ := ownsRow_shape g2
      subst hsl
      have HF : Hid (TdRow (wr.setCell ⟨P, 2, none⟩ (.slice al (stayE R).length cl)) s1 (T ++ (goneT 0 (R.map RE.pl)).map nilT) ∧ VAt mk P val (.slice al (stayE R).length cl) cv (stayE R) C (wr.setCell ⟨P, 2, none⟩ (.slice al (stayE R).length cl)) ∧ FO (tv.ownBlock.toList ++ fpV P (.slice a2 R.length k2) cv R) (s1.ownBlock.toList ++ fpV P (.slice al (stayE R).length cl) cv (stayE R)) w (wr.setCell ⟨P, 2, none⟩ (.slice al (stayE R).length cl))) := Lib.hid (by
        refine ⟨ownsRow_same g1 (fun b e => Below.heap_setCell _ _ _ _ (fun e' => by
          subst e'
          exact hVr.told g1 e mem_fpV_p)), hVr.newR g2 (fun r hr => (List.mem_filter.1 hr).1), Stays.setCell (p := ⟨P, 2, none⟩) (g3.mono (fun b hb => List.mem_append_left _ hb)) (.inl (List.mem_append_right _ mem_fpV_p)) _, fun b hb => ?_⟩
        rcases List.mem_append.1 hb with hb | hb
        · rw [Option.mem_toList] at hb
          rcases g4 b hb with e | e
          · exact .inl (List.mem_append_left _ (by simp [e]))
          · exact .inr e
        · rcases mem_fpV.1 hb with rfl | hb | hb | ⟨r, hr, hb⟩
          · exact .inl (List.mem_append_right _ mem_fpV_p)
          · exact .inr (g5 b hb)
          · exact .inl (List.mem_append_right _ (mem_fpV_c hb))
          · exact .inl (List.mem_append_right _ (mem_fpV_t ((List.mem_filter.1 hr).1) hb)))
      clear g1 g2 g3 g4 g5 hVr
      generalize (stayE R).length = nl at *
      go_wp2
      (try rw [Exit.noGoto_ret])
      go_ret
      exact ⟨_, _, rfl, HF.out⟩
end
end Go.Proofs.YtflkhnmggmfhfaaGreat

/- view: tellNew. -/
namespace Go.Proofs.YtflkhnmggmfhfaaGreat
open Go.RowKit

/-- Two things more in a row of what is told. -/
theorem told_app2 {w : World} {v : Value} {T : List TDE} (h : TdRow w v T) (t u : Td) (hl : T.length + 2 ≤ 4294967296) :
    ∃ a c W1, (Builtin.append_ #[49, 49] 49 #[v, .slice (some ⟨w.heap.size, 0, none⟩) 2 2]).run Tryz.prog (w.alloc (.cells #[.int .i64 t.kind, .int .i64 t.num, .int .i64 t.uid, .int .i64 t.mod, .slice none 0 0, .int .i64 u.kind, .int .i64 u.num, .int .i64 u.uid, .int .i64 u.mod, .slice none 0 0] 92)) = .ok (.slice a (T.length + 2) c) W1 ∧
      TdRow W1 (.slice a (T.length + 2) c) (T ++ [nilT t, nilT u]) ∧ w.grownBy W1 v.ownBlock ∧ ∀ b, (Value.slice a (T.length + 2) c).ownBlock = some b → v.ownBlock = some b ∨ w.heap.size ≤ b := by
  obtain ⟨i0, hi0, hz0, hz1, hz2⟩ := info_parts' Tryz.infoTold
  obtain ⟨cs, hcs⟩ : ∃ cs : Array Value, cs = #[.int .i64 t.kind, .int .i64 t.num, .int .i64 t.uid, .int .i64 t.mod, .slice none 0 0, .int .i64 u.kind, .int .i64 u.num, .int .i64 u.uid, .int .i64 u.mod, .slice none 0 0] := ⟨_, rfl⟩
  rw [← hcs]
  have hnew : (w.alloc (.cells cs 92)).heap[w.heap.size]? = some (.cells cs 92 (0, 0)) := heap_alloc_new w _
  obtain ⟨v', W3, hrun, hrow3, hgr, _, hat⟩ := run_append_own_at (P := Tryz.prog) (w.alloc (.cells cs 92)) 0 49 49 92 i0 _ 5 56 Tryz.underlying49 hi0 hz0 hz1 hz2 rfl (by decide) v T.length (tdC T) (h.alloc _) ⟨w.heap.size, 0, none⟩ 2 2 cs.toList (by rw [hcs]; rfl) (by
      intro j x hj
      rw [show ((⟨w.heap.size, 0, none⟩ : Addr).add j) = ⟨w.heap.size, j, none⟩ from by rw [Addr.add_lit, Nat.zero_add], cell_of hnew j]
      rw [← hj]; simp) (by
      intro x hx
      rw [hcs] at hx
      simp at hx
      rcases hx with rfl | rfl | rfl | rfl | rfl | rfl | rfl | rfl | rfl | rfl <;> rfl) (by unfold maxLen; omega) (by omega) (Nat.zero_le _)
  obtain ⟨a, c, rfl⟩ := ownsRow_shape hrow3
  refine ⟨a, c, W3, hrun, ?_, ⟨hgr.os, hgr.tape, hgr.output, by have := hgr.size; simp at this; omega, fun k hk hne => by rw [hgr.block k (by simp; omega) hne, Below.heap_alloc _ _ _ hk]⟩, fun b hb => ?_⟩
  · unfold TdRow
    rw [List.length_append, tdC_append]
    rw [show tdC [nilT t, nilT u] = cs.toList by rw [hcs]; simp [tdC, TDE.enc, nilT]]
    exact hrow3
  · rcases hat with hat | hat
    · exact .inl (by rw [← hat]; exact hb)
    · rw [hat] at hb
      simp at hb
      exact .inr (by omega)
/-- What is told of new rows. -/
def newE (R : List RE) (C : List Int) (recent : Int) : List Td := if C = [] then [] else [⟨2, ((R ++ C.map (nrE recent)).length : Int), 0, 0, []⟩, ⟨3, ((pickU RE.rct (R ++ C.map (nrE recent))).length : Int), 0, 0, []⟩]
section
variable {P : Nat} {mk : Bool} {val : Int} {rv cv : Value} {R : List RE} {C : List Int} {w : World} {N : Nat}
theorem VAt.toldPast {rv1 cv1 : Value} {R1 : List RE} {w1 : World} {tv : Value} {T : List TDE} (h : VAt mk P val rv cv R C w) (ht : TdRow w tv T) (hf : FO (fpV P rv cv R) (fpV P rv1 cv1 R1) w w1) : TdRow w1 tv T := ownsRow_same ht (fun b e => hf.keep (ht.lt b e).2 (h.told ht e))
set_option maxHeartbeats 1000000 in
set_option maxRecDepth 20000 in
theorem tellNew_any (h : VAt mk P val rv cv R C w) (hN : R.length + C.length ≤ 1000000) (tv : Value) (T : List TDE) (hT : TdRow w tv T) (hTl : T.length ≤ 2000000) (recent : Int) :
    Calls Tryz.prog 35 #[.pointer (some ⟨P, 0, none⟩), tv, .int .i64 recent] w fun e w' => ∃ tv' rv' cv', e = .returned tv' ∧ TdRow w' tv' (T ++ (newE R C recent).map nilT) ∧ VAt mk P val rv' cv' (R ++ C.map (nrE recent)) [] w' ∧ FO (tv.ownBlock.toList ++ fpV P rv cv R) (tv'.ownBlock.toList ++ fpV P rv' cv' (R ++ C.map (nrE recent))) w w' := by
  have c3 := h.cells.c3
  obtain ⟨a3, k3, hv3, _⟩ := nms_of h.com
  subst hv3
  by_cases hC : C = []
  · subst hC
    have HF : Hid (TdRow w tv (T ++ (newE R [] recent).map nilT) ∧ VAt mk P val rv (.slice a3 ([] : List Int).length k3) (R ++ ([] : List Int).map (nrE recent)) [] w ∧ FO (tv.ownBlock.toList ++ fpV P rv (.slice a3 ([] : List Int).length k3) R) (tv.ownBlock.toList ++ fpV P rv (.slice a3 ([] : List Int).length k3) (R ++ ([] : List Int).map (nrE recent))) w w) := Lib.hid ⟨by simpa [newE] using hT, by simpa using h, by simpa using FO.refl _ _⟩
    clear h hT
    go_enter Tryz.func35, Tryz.ntmps35
    go_wp2
    go_ret
    exact ⟨_, _, _, rfl, HF.out⟩
  · have hCl : 0 < C.length := List.length_pos_iff.2 hC
    have hcz : ((C.length : Int) == 0) = false := by rw [beq_eq_false_iff_ne]; omega
    have HSe := Lib.hid (settle_any h recent hN)
    have hl2 : (R ++ C.map (nrE recent)).length ≤ 1000000 := by simp only [List.length_append, List.length_map]; omega
    have HUi : Hid (∀ w1, VO mk P val (R ++ C.map (nrE recent)) [] (fpV P rv (.slice a3 C.length k3) R) w w1 → Calls Tryz.prog 32 #[.pointer (some ⟨P, 0, none⟩), .func (.func 63) #[] #[]] w1 fun e w2 => ∃ a2 c2 ar cr, e = .returned (.slice a2 (pickU RE.rct (R ++ C.map (nrE recent))).length c2) ∧ w2.cell? ⟨P, 2, none⟩ = some (.slice ar (R ++ C.map (nrE recent)).length cr) ∧
        ∃ a5 c5 W5, (Builtin.append_ #[49, 49] 49 #[tv, .slice (some ⟨w2.heap.size, 0, none⟩) 2 2]).run Tryz.prog (w2.alloc (.cells #[.int .i64 2, .int .i64 ((R ++ C.map (nrE recent)).length : Int), .int .i64 0, .int .i64 0, .slice none 0 0, .int .i64 3, .int .i64 ((pickU RE.rct (R ++ C.map (nrE recent))).length : Int), .int .i64 0, .int .i64 0, .slice none 0 0] 92)) = .ok (.slice a5 (T.length + 2) c5) W5 ∧
          ∃ rv' cv', TdRow W5 (.slice a5 (T.length + 2) c5) (T ++ (newE R C recent).map nilT) ∧ VAt mk P val rv' cv' (R ++ C.map (nrE recent)) [] W5 ∧ FO (tv.ownBlock.toList ++ fpV P rv (.slice a3 C.length k3) R) ((Value.slice a5 (T.length + 2) c5).ownBlock.toList ++ fpV P rv' cv' (R ++ C.map (nrE recent))) w W5) := Lib.hid (fun w1 ⟨rv1, cv1, q1, q2⟩ => by
      refine (recents_any q1 hl2).mono ?_
      rintro e w2 ⟨v2, rfl, ho⟩
      obtain ⟨a2, c2, rfl⟩ := ownsRow_shape ho.row
      have hV2 := q1.on ho.below
      obtain ⟨ar, cr, rfl⟩ := ownsRow_shape q1.rows
      have ht1 := h.toldPast hT q2
      have ht2 : TdRow w2 tv T := ownsRow_same ht1 (fun b e => ho.below.block b (ht1.lt b e).2)
      obtain ⟨a5, c5, W5, r5, t5, g5, o5⟩ := told_app2 ht2 ⟨2, ((R ++ C.map (nrE recent)).length : Int), 0, 0, []⟩ ⟨3, ((pickU RE.rct (R ++ C.map (nrE recent))).length : Int), 0, 0, []⟩ (by omega)
      refine ⟨a2, c2, ar, cr, rfl, hV2.cells.c2, a5, c5, W5, r5, .slice ar (R ++ C.map (nrE recent)).length cr, cv1, ?_, hV2.hold (fun b hb => g5.block b (hV2.lt hb) (fun e => hV2.told ht2 e.symm hb)), ?_, ?_⟩
      · unfold newE
        rw [if_neg hC]
        exact t5
      · refine ⟨(g5.os.trans ho.below.os).trans q2.1.os, (g5.tape.trans ho.below.tape).trans q2.1.tape, (g5.output.trans ho.below.output).trans q2.1.output, Nat.le_trans q2.1.size (Nat.le_trans ho.below.size g5.size), fun b hb hn => ?_⟩
        have hb1 := Nat.lt_of_lt_of_le hb q2.1.size
        have hb2 := Nat.lt_of_lt_of_le hb1 ho.below.size
        rw [g5.block b hb2 (fun e => hn (List.mem_append_left _ (by simp [e.symm]))), ho.below.block b hb1, q2.1.block b hb (fun e => hn (List.mem_append_right _ e))]
      · intro b hb
        rcases List.mem_append.1 hb with hb | hb
        · rw [Option.mem_toList] at hb
          rcases o5 b hb with e | e
          · exact .inl (List.mem_append_left _ (by simp [e]))
          · right; have := q2.1.size; have := ho.below.size; omega
        · rcases q2.2 b hb with e | e
          · exact .inl (List.mem_append_right _ e)
          · exact .inr e)
    clear h hT
    generalize (R ++ C.map (nrE recent)) = R2 at *
    generalize pickU RE.rct R2 = U2 at *
    generalize hn2 : U2.length = n2 at *
    generalize hr2 : R2.length = nr at *
    generalize hc2 : C.length = nc at *
    go_enter Tryz.func35, Tryz.ntmps35
    go_wp2_with (first | (go_at_call 62; refine HSe.out.mono ?_; rintro e w1 ⟨rfl, ho1⟩; have HU := Lib.hid (HUi.out _ ho1); clear ho1) | (go_at_call 32; refine HU.out.mono ?_; rintro e w2 ⟨a2, c2, ar, cr, rfl, d2, a5, c5, W5, r5, rv', cv', hf⟩; have R5 := Lib.hid r5; have HF := Lib.hid hf; clear r5 hf) | (at_builtin; refine append_by_run (u := tv) (v := .slice (some ⟨w2.heap.size, 0, none⟩) 2 2) rfl _ _ _ rfl 49 rfl rfl rfl _ _ R5.out ?_))
    go_ret
    exact ⟨_, _, _, rfl, HF.out⟩
end
end Go.Proofs.YtflkhnmggmfhfaaGreat

/- view: tellFlags. -/
namespace Go.Proofs.YtflkhnmggmfhfaaGreat
open Go.RowKit

def calmE (r : RE) : RE := if r.gone = true then r else { r with tn := none }
theorem calmE_pl (r : RE) : (calmE r).pl = calmR r.pl := by
  unfold calmE calmR
  by_cases h : r.gone = true
  · rw [if_pos h, if_pos (show r.pl.gone = true from h)]
  · rw [if_neg h, if_neg (show ¬ r.pl.gone = true from h)]; rfl
def fE (n : Nat) (r : RE) : List TDE := if r.gone = true then [] else match r.tn with | none => [] | some t => [⟨4, (n : Int) + 1, r.uid, t.num, t.fv, t.fl⟩]
def flagE : Nat → List RE → List TDE
  | _, [] => []
  | n, r :: rs => fE n r ++ flagE (n + 1) rs
theorem flagE_pl : ∀ (R : List RE) (n : Nat), (flagE n R).map TDE.pl = flagT n (R.map RE.pl)
  | [], _ => rfl
  | r :: R, n => by
    show (fE n r ++ flagE (n + 1) R).map TDE.pl = _ ++ flagT (n + 1) (R.map RE.pl)
    rw [List.map_append, flagE_pl R (n + 1)]
    congr 1
    unfold fE
    by_cases h : r.gone = true
    · rw [if_pos h, if_pos (show r.pl.gone = true from h)]; rfl
    · rw [if_neg h, if_neg (show ¬ r.pl.gone = true from h)]
      cases htn : r.tn with
      | none =>
        have : r.pl.wt = none := by show r.tn.map TE.pl = none; rw [htn]; rfl
        rw [this]; rfl
      | some t =>
        have : r.pl.wt = some t.pl := by show r.tn.map TE.pl = _; rw [htn]; rfl
        rw [this]; rfl
theorem flagE_snoc : ∀ (R : List RE) (n : Nat) (r : RE), flagE n (R ++ [r]) = flagE n R ++ fE (n + R.length) r
  | [], n, r => by show fE n r ++ [] = [] ++ fE (n + 0) r; simp
  | x :: R, n, r => by
    show fE n x ++ flagE (n + 1) (R ++ [r]) = fE n x ++ flagE (n + 1) R ++ fE (n + (R.length + 1)) r
    rw [flagE_snoc R (n + 1) r, List.append_assoc, show n + 1 + R.length = n + (R.length + 1) by omega]
theorem flagE_len : ∀ (R : List RE) (n : Nat), (flagE n R).length ≤ R.length
  | [], _ => Nat.le_refl _
  | r :: R, n => by
    have h1 := flagE_len R (n + 1)
    have h2 : (fE n r).length ≤ 1 := by
      unfold fE
      split
      · simp
      · split <;> simp
    show (fE n r ++ flagE (n + 1) R).length ≤ _
    simp only [List.length_append, List.length_cons]; omega
/-- The flags of all that is told lie there. -/
def FlT (w : World) (T : List TDE) : Prop := ∀ t ∈ T, w.ownsRow 0 9 1 t.fv t.fl.length (tcs t.fl)
def atK (R : List RE) (k : Nat) : List RE := (R.take k).map calmE ++ R.drop k
theorem atK_length (R : List RE) (k : Nat) : (atK R k).length = R.length := by
  simp only [atK, List.length_append, List.length_map, List.length_take, List.length_drop]; omega
theorem atK_get (R : List RE) (k : Nat) (hk : k < R.length) : (atK R k).getD k RE0 = R.getD k RE0 := by
  unfold atK
  rw [List.getD_eq_getElem?_getD, List.getElem?_append_right (by simp; omega), List.getD_eq_getElem?_getD]
  simp [Nat.min_eq_left (Nat.le_of_lt hk)]
theorem atK_set (R : List RE) (k : Nat) (hk : k < R.length) : (atK R k).set k (calmE (R.getD k RE0)) = atK R (k + 1) := by
  unfold atK
  rw [take_snocE R k hk, List.map_append, List.set_append_right _ _ (by simp; omega)]
  have e : k - ((R.take k).map calmE).length = 0 := by simp; omega
  rw [e, List.append_assoc]
  congr 1
  rw [List.drop_eq_getElem_cons hk]
  rfl
theorem atK_skip (R : List RE) (k : Nat) (hk : k < R.length) (h : calmE (R.getD k RE0) = R.getD k RE0) : atK R (k + 1) = atK R k := by
  rw [← atK_set R k hk, h]
  refine List.ext_getElem? (fun i => ?_)
  rw [List.getElem?_set]
  by_cases e : k = i
  · subst e
    have hl : k < (atK R k).length := by rw [atK_length]; exact hk
    have hg := atK_get R k hk
    rw [List.getD_eq_getElem?_getD, List.getElem?_eq_getElem hl] at hg
    have hg2 : (atK R k)[k] = R.getD k RE0 := hg
    rw [if_pos rfl, if_pos hl, List.getElem?_eq_getElem hl, hg2]
  · rw [if_neg e]
theorem rwC_calm (R : List RE) (i : Nat) (hi : i < R.length) (hg : (R.getD i RE0).gone = false) : (rwC R).set (i * 4 + 3) (.pointer none) = rwC (R.set i (calmE (R.getD i RE0))) := by
  induction R generalizing i with
  | nil => simp at hi
  | cons p t ih =>
    cases i with
    | zero =>
      rw [rwC_cons]
      show _ = rwC (calmE p :: t)
      have hg' : p.gone = false := hg
      have : calmE p = { p with tn := none } := by unfold calmE; rw [if_neg (by rw [hg']; simp)]
      rw [this, rwC_cons]; rfl
    | succ i =>
      have := ih i (by simpa using hi) (by simpa only [List.getD_cons_succ] using hg)
      rw [rwC_cons, show (i + 1) * 4 = i * 4 + 1 + 1 + 1 + 1 by omega]
      simp only [List.set_cons_succ, List.getD_cons_succ]
      rw [this, rwC_cons]
section
variable {P : Nat} {mk : Bool} {val : Int} {cv : Value} {R : List RE} {C : List Int} {w : World} {g cap : Nat}
theorem VAt.calmR (h : VAt mk P val (.slice (some ⟨g, 0, none⟩) R.length cap) cv R C w) {i : Nat} (hi : i < R.length) (hg : (R.getD i RE0).gone = false) :
    VAt mk P val (.slice (some ⟨g, 0, none⟩) R.length cap) cv (R.set i (calmE (R.getD i RE0))) C (w.setCell ⟨g, i * 4 + 3, none⟩ (.pointer none)) ∧
      ∀ b, b ∈ fpV P (.slice (some ⟨g, 0, none⟩) R.length cap) cv (R.set i (calmE (R.getD i RE0))) → b ∈ fpV P (.slice (some ⟨g, 0, none⟩) R.length cap) cv R := by
  obtain ⟨s1, g1⟩ := h.rows.stored (i * 4 + 3) (.pointer none)
  rw [rwC_calm R i hi hg] at s1
  have keep : ∀ b, b ≠ g → (w.setCell ⟨g, i * 4 + 3, none⟩ (.pointer none)).heap[b]? = w.heap[b]? := fun b hb => Below.heap_setCell _ _ _ _ hb
  have hgo : (Value.slice (some ⟨g, 0, none⟩) R.length cap).ownBlock = some g := rfl
  have hn : (calmE (R.getD i RE0)).tn = none := by unfold calmE; rw [if_neg (by rw [hg]; simp)]
  refine ⟨⟨?_, ?_, ?_, ?_⟩, ?_⟩
  · rw [keep P (fun e => h.pr (e ▸ hgo))]; exact h.self
  · rw [List.length_set]; exact s1
  · exact ownsRow_same h.com (fun b e => keep b (fun e' => h.rc hgo (e' ▸ e)))
  · intro r hr t ht
    rcases mem_set' hr with hr | rfl
    · exact (h.turns r hr t ht).hold (fun b hb => keep b (fun e' => (h.tt hr ht hb).2.1 (e' ▸ hgo)))
    · rw [hn] at ht; cases ht
  · intro b hb
    rcases mem_fpV.1 hb with rfl | hb | hb | ⟨r, hr, hb⟩
    · exact mem_fpV_p
    · exact mem_fpV_r hb
    · exact mem_fpV_c hb
    · rcases mem_set' hr with hr | rfl
      · exact mem_fpV_t hr hb
      · rw [blks_no hn] at hb; cases hb
end
section
variable {P : Nat} {mk : Bool} {val : Int} {cv : Value} {R : List RE} {C : List Int} {w : World} {g cap : Nat}
/-- What tellFlags has in memory. -/
structure TF (mk : Bool) (P : Nat) (val : Int) (g cap : Nat) (cv : Value) (R : List RE) (C : List Int) (T : List TDE) (tv : Value) (w : World) (k : Nat) (s1 : Value) (wr : World) : Prop where
  view : VAt mk P val (.slice (some ⟨g, 0, none⟩) R.length cap) cv (atK R k) C wr
  told : TdRow wr s1 (T ++ flagE 0 (R.take k))
  fls : FlT wr (T ++ flagE 0 (R.take k))
  fo : FO (tv.ownBlock.toList ++ fpV P (.slice (some ⟨g, 0, none⟩) R.length cap) cv R) (s1.ownBlock.toList ++ fpV P (.slice (some ⟨g, 0, none⟩) R.length cap) cv (atK R k)) w wr
theorem FlT.on {w w' : World} {T : List TDE} (h : FlT w T) (hb : Below w.heap.size w w') : FlT w' T := fun t ht => ownsRow_same (h t ht) (fun b e => hb.block b ((h t ht).lt b e).2)
theorem TF.skip {T : List TDE} {tv s1 : Value} {k : Nat} {wr wr' : World} (h : TF mk P val g cap cv R C T tv w k s1 wr) (hk : k < R.length) (hb : Below wr.heap.size wr wr') (hc : calmE (R.getD k RE0) = R.getD k RE0) (hf : fE k (R.getD k RE0) = []) : TF mk P val g cap cv R C T tv w (k + 1) s1 wr' := by
  have e1 := atK_skip R k hk hc
  have e2 : flagE 0 (R.take (k + 1)) = flagE 0 (R.take k) := by
    rw [take_snocE R k hk, flagE_snoc, Nat.zero_add, List.length_take, Nat.min_eq_left (Nat.le_of_lt hk), hf, List.append_nil]
  refine ⟨by rw [e1]; exact h.view.on hb, ?_, ?_, ?_⟩
  · rw [e2]; exact ownsRow_same h.told (fun b e => hb.block b (h.told.lt b e).2)
  · rw [e2]; exact h.fls.on hb
  · rw [e1]; exact h.fo.trans (FO.below hb)
theorem TF.tell {T : List TDE} {tv s1 : Value} {k : Nat} {wr Y : World} (h : TF mk P val g cap cv R C T tv w k s1 wr) (hk : k < R.length) (hb : Below wr.heap.size wr Y) (hYs : Y.heap.size = wr.heap.size + 1) (hg : (R.getD k RE0).gone = false) (t : TE) (ht : (R.getD k RE0).tn = some t) (fa : Option Addr) (fc : Nat) (hfv : t.fv = .slice fa t.fl.length fc) (hl : R.length ≤ 1000000) (hT : T.length ≤ 2000000) :
    ∃ a n c W1, (Builtin.append_ #[49, 49] 49 #[s1, .slice (some ⟨wr.heap.size + 1, 0, none⟩) 1 1]).run Tryz.prog (Y.drew.alloc (.cells #[.int .i64 4, .int .i64 ((k : Int) + 1), .int .i64 (R.getD k RE0).uid, .int .i64 t.num, .slice fa t.fl.length fc] 92)) = .ok (.slice a n c) W1 ∧ W1.cell? ⟨P, 2, none⟩ = some (.slice (some ⟨g, 0, none⟩) R.length cap) ∧ (W1.cell? ⟨g, k * 4 + 3, none⟩).isSome = true ∧ W1.frozen? ⟨g, k * 4 + 3, none⟩ = false ∧
      TF mk P val g cap cv R C T tv w (k + 1) (.slice a n c) (W1.setCell ⟨g, k * 4 + 3, none⟩ (.pointer none)) := by
  have hfl := flagE_len (R.take k) 0
  rw [List.length_take] at hfl
  have hbd : Below wr.heap.size wr Y.drew := hb.drew
  have ht1 : TdRow Y.drew s1 (T ++ flagE 0 (R.take k)) := ownsRow_same h.told (fun b e => hbd.block b (h.told.lt b e).2)
  obtain ⟨a, c, W1, hr, h1, h2, h3⟩ := told_app ht1 ⟨4, (k : Int) + 1, (R.getD k RE0).uid, t.num, t.fv, t.fl⟩ fa t.fl.length fc hfv (by simp only [List.length_append]; omega)
  rw [show Y.drew.heap.size = wr.heap.size + 1 from hYs] at hr h3
  have hgw : wr.grownBy W1 s1.ownBlock := ⟨h2.os.trans hbd.os, h2.tape.trans hbd.tape, h2.output.trans hbd.output, Nat.le_trans hbd.size h2.size, fun b hb' hne => by rw [h2.block b (Nat.lt_of_lt_of_le hb' hbd.size) hne, hbd.block b hb']⟩
  have hV1 : VAt mk P val (.slice (some ⟨g, 0, none⟩) R.length cap) cv (atK R k) C W1 := h.view.hold (fun b hb' => hgw.block b (h.view.lt hb') (fun e => h.view.told h.told e.symm hb'))
  have hkl : k < (atK R k).length := by rw [atK_length]; exact hk
  have hV1' : VAt mk P val (.slice (some ⟨g, 0, none⟩) (atK R k).length cap) cv (atK R k) C W1 := by rw [atK_length]; exact hV1
  have hgk := atK_get R k hk
  obtain ⟨g3, cap3, e3, _, _, _, y3, y4⟩ := hV1'.row_at hkl
  cases e3
  obtain ⟨v1, v2⟩ := hV1'.calmR hkl (by rw [hgk]; exact hg)
  rw [hgk, atK_set R k hk, atK_length] at v1 v2
  have e2 : flagE 0 (R.take (k + 1)) = flagE 0 (R.take k) ++ [⟨4, (k : Int) + 1, (R.getD k RE0).uid, t.num, t.fv, t.fl⟩] := by
    have ef : fE k (R.getD k RE0) = [⟨4, (k : Int) + 1, (R.getD k RE0).uid, t.num, t.fv, t.fl⟩] := by
      unfold fE
      rw [if_neg (by rw [hg]; simp), ht]
    rw [take_snocE R k hk, flagE_snoc, Nat.zero_add, List.length_take, Nat.min_eq_left (Nat.le_of_lt hk), ef]
  have hset : ∀ b, b ≠ g → (W1.setCell ⟨g, k * 4 + 3, none⟩ (.pointer none)).heap[b]? = W1.heap[b]? := fun b hb' => Below.heap_setCell _ _ _ _ hb'
  have hkg : ∀ {e : TypeId} {z n : Nat} {v : Value} {xs : List Value}, W1.ownsRow 0 e z v n xs → e ≠ 82 → ∀ b, v.ownBlock = some b → b ≠ g := fun hrow hne b e => by
    obtain ⟨c1, k1⟩ := row_kind hrow e
    obtain ⟨c2, k2⟩ := row_kind hV1.rows (b := g) rfl
    exact kind_ne k1 k2 hne
  have hmem : R.getD k RE0 ∈ atK R k := by rw [← hgk]; exact getD_mem' hkl
  have hfw : ∀ x ∈ T ++ flagE 0 (R.take (k + 1)), wr.ownsRow 0 9 1 x.fv x.fl.length (tcs x.fl) := fun x hx => by
    rw [e2, ← List.append_assoc, List.mem_append] at hx
    rcases hx with hx | hx
    · exact h.fls x hx
    · rw [List.mem_singleton.1 hx]
      exact (h.view.turns _ hmem t ht).row
  refine ⟨a, _, c, W1, hr, hV1.cells.c2, by rw [y3]; rfl, y4 _, v1, ?_, ?_, ?_, ?_⟩
  · rw [e2, ← List.append_assoc]
    exact ownsRow_same h1 (fun b e => hset b (hkg h1 (by decide) b e))
  · intro x hx
    have hw := hfw x hx
    have hw1 : W1.ownsRow 0 9 1 x.fv x.fl.length (tcs x.fl) := ownsRow_same hw (fun b e => hgw.block b (hw.lt b e).2 (rows_apart hw h.told (by decide) e))
    exact ownsRow_same hw1 (fun b e => hset b (hkg hw1 (by decide) b e))
  · refine Stays.setCell (p := ⟨g, k * 4 + 3, none⟩) ?_ (.inl (List.mem_append_right _ (mem_fpV_r rfl))) _
    refine h.fo.1.trans (Stays.ofGrown hgw (fp := s1.ownBlock.toList) (fun b e => by simp [e])) (fun b hb' => ?_)
    exact h.fo.2 b (List.mem_append_left _ hb')
  · intro b hb'
    rcases List.mem_append.1 hb' with hb' | hb'
    · rw [Option.mem_toList] at hb'
      rcases h3 b hb' with e | e
      · exact h.fo.2 b (List.mem_append_left _ (by simp [e]))
      · right; have := h.fo.1.size; omega
    · exact h.fo.2 b (List.mem_append_right _ (v2 b hb'))
end
end Go.Proofs.YtflkhnmggmfhfaaGreat

/- view: tellFlags, its walk. -/
namespace Go.Proofs.YtflkhnmggmfhfaaGreat
open Go.RowKit

section
variable {P : Nat} {mk : Bool} {val : Int} {rv cv : Value} {R : List RE} {C : List Int} {w : World} {N : Nat}
set_option maxRecDepth 100000 in
set_option maxHeartbeats 1000000 in
theorem tellFlags_any (h : VAt mk P val rv cv R C w) (hR : R.length ≤ 1000000) (tv : Value) (T : List TDE) (hT : TdRow w tv T) (hTf : FlT w T) (hTl : T.length ≤ 2000000) :
    Calls Tryz.prog 36 #[.pointer (some ⟨P, 0, none⟩), tv] w fun e w' => ∃ tv', e = .returned tv' ∧ TdRow w' tv' (T ++ flagE 0 R) ∧ FlT w' (T ++ flagE 0 R) ∧ VAt mk P val rv cv (R.map calmE) C w' ∧ FO (tv.ownBlock.toList ++ fpV P rv cv R) (tv'.ownBlock.toList ++ fpV P rv cv (R.map calmE)) w w' := by
  have c2 := h.cells.c2
  by_cases hR0 : R = []
  · subst hR0
    obtain ⟨a2, k2, hv2⟩ := ownsRow_shape h.rows
    subst hv2
    have HF : Hid (TdRow w tv (T ++ flagE 0 []) ∧ FlT w (T ++ flagE 0 []) ∧ VAt mk P val (.slice a2 ([] : List RE).length k2) cv (([] : List RE).map calmE) C w ∧ FO (tv.ownBlock.toList ++ fpV P (.slice a2 ([] : List RE).length k2) cv []) (tv.ownBlock.toList ++ fpV P (.slice a2 ([] : List RE).length k2) cv (([] : List RE).map calmE)) w w) := Lib.hid ⟨by simpa [flagE] using hT, by simpa [flagE] using hTf, h, FO.refl _ _⟩
    clear h hT hTf
    go_enter Tryz.func36, Tryz.ntmps36
    go_wp2
    go_step3
    go_wp2
    go_step3
    go_wp2
    refine wp_loop_rounds 1 ?_
    rw [rounds_succ]
    go_wp2
    (try rw [Exit.noGoto_ret])
    go_ret
    exact ⟨_, rfl, HF.out⟩
  · have hRp : 0 < R.length := List.length_pos_iff.2 hR0
    obtain ⟨g, cap, hv2, _⟩ := h.row_at hRp
    subst hv2
    have H0 : Hid (TF mk P val g cap cv R C T tv w 0 tv w) := Lib.hid ⟨by simpa [atK] using h, by simpa [flagE] using hT, by simpa [flagE] using hTf, by simpa [atK] using FO.refl _ _⟩
    clear h hT hTf hR0
    go_enter Tryz.func36, Tryz.ntmps36
    go_wp2
    go_step3
    go_wp2
    go_step3
    go_wp2
    go_loopw [1, 12] (fun v1 i wr => ∃ (k : Nat) (s1 : Value), k ≤ R.length ∧ i = .int .i64 k ∧ s1 = v1 ∧ TF mk P val g cap cv R C T tv w k s1 wr) (fun _ i _ => R.length - (intOf i).toNat)
    case atStart => exact ⟨0, _, Nat.zero_le _, rfl, rfl, H0.out⟩
    case round =>
      clear c2
      obtain ⟨k, s1, hk, rfl, hs1, hG⟩ := hrel
      subst hs1
      by_cases hlt : k < R.length
      · have hlti : (k : Int) < (R.length : Int) := by omega
        have hkl : k < (atK R k).length := by rw [atK_length]; exact hlt
        have hVk : VAt mk P val (.slice (some ⟨g, 0, none⟩) (atK R k).length cap) cv (atK R k) C wr := by rw [atK_length]; exact hG.view
        obtain ⟨g3, cap3, e3, c4, c5, c6, c7, _⟩ := hVk.row_at hkl
        cases e3
        rw [atK_get R k hlt] at c4 c5 c6 c7
        obtain ⟨Y, hY⟩ : ∃ Y, wr.alloc (.cells #[.int .i64 (R.getD k RE0).uid, .bool (R.getD k RE0).gone, .bool (R.getD k RE0).rct, (R.getD k RE0).ptr] 82) = Y := ⟨_, rfl⟩
        have hbY : Below wr.heap.size wr Y := by rw [← hY]; exact (Below.refl _ _).alloc (Nat.le_refl _) _
        have hYn : Y.heap[wr.heap.size]? = some (.cells #[.int .i64 (R.getD k RE0).uid, .bool (R.getD k RE0).gone, .bool (R.getD k RE0).rct, (R.getD k RE0).ptr] 82 (0, 0)) := by rw [← hY]; exact heap_new _ _
        have hYs : Y.heap.size = wr.heap.size + 1 := by rw [← hY]; simp
        have d1 : Y.cell? ⟨wr.heap.size, 1, none⟩ = some (.bool (R.getD k RE0).gone) := cell_of hYn 1
        have d3 : Y.cell? ⟨wr.heap.size, 3, none⟩ = some (R.getD k RE0).ptr := cell_of hYn 3
        have hwr : IntKind.i64.wrap ((k : Int) + 1) = (k : Int) + 1 := by rw [IntKind.wrap_i64]; omega
        clear hVk
        cases hgn : (R.getD k RE0).gone with
        | true =>
          rw [hgn] at c5 d1 hY
          obtain ⟨yo, hyo⟩ : ∃ yo, (R.getD k RE0).ptr = .pointer yo := ⟨_, rfl⟩
          rw [hyo] at c7 d3 hY
          have G4 := Lib.hid (hG.skip hlt hbY (by unfold calmE; rw [if_pos hgn]) (by unfold fE; rw [if_pos hgn]))
          clear hG hgn hyo hYn hbY
          generalize (R.getD k RE0).uid = x at *
          generalize (R.getD k RE0).rct = yr at *
          have HY := Lib.hid hY
          clear hY
          go_upto_region 4 with fail
          (try rw [HY.out])
          clear HY
          go_wp2_with fail
          go_roundw
          case rel => exact ⟨k + 1, _, by omega, by go_num, rfl, G4.out⟩
          case measure => simp [intOf]; omega
        | false =>
          rw [hgn] at c5 d1 hY
          cases htn : (R.getD k RE0).tn with
          | none =>
            have hyo : (R.getD k RE0).ptr = .pointer none := by unfold RE.ptr; rw [htn]; rfl
            rw [hyo] at c7 d3 hY
            have G4 := Lib.hid (hG.skip hlt hbY (by
              unfold calmE
              rw [if_neg (by rw [hgn]; simp)]
              generalize R.getD k RE0 = q at htn
              cases q
              simp only at htn
              rw [htn]) (by unfold fE; rw [if_neg (by rw [hgn]; simp), htn]))
            clear hG hgn hyo hYn hbY htn
            generalize (R.getD k RE0).uid = x at *
            generalize (R.getD k RE0).rct = yr at *
            have HY := Lib.hid hY
            clear hY
            go_upto_region 4 with fail
            (try rw [HY.out])
            clear HY
            go_wp2_with fail
            go_roundw
            case rel => exact ⟨k + 1, _, by omega, by go_num, rfl, G4.out⟩
            case measure => simp [intOf]; omega
          | some t =>
            have hyo : (R.getD k RE0).ptr = .pointer (some ⟨t.blk, 0, none⟩) := by unfold RE.ptr; rw [htn]; rfl
            rw [hyo] at c7 d3 hY
            have hmem : R.getD k RE0 ∈ atK R k := by rw [← atK_get R k hlt]; exact getD_mem' hkl
            have htu := hG.view.turns _ hmem t htn
            obtain ⟨fa, fc, hfv⟩ := ownsRow_shape htu.row
            obtain ⟨a1, c1, hs1⟩ := ownsRow_shape hG.told
            obtain ⟨a4, n4, k4, W4, r4, x2, x3, x4, g4⟩ := hG.tell hlt hbY hYs hgn t htn fa fc hfv hR hTl
            obtain ⟨cx, hcx⟩ := Option.isSome_iff_exists.1 x3
            have HRun := Lib.hid r4
            have G4 := Lib.hid g4
            have hto : Y.heap[t.blk]? = some (.cells #[.int .i64 t.num, .slice fa t.fl.length fc] 116 (0, 0)) := by
              rw [hbY.block _ (lt_of_heap htu.obj), htu.obj, ← hfv]; rfl
            have hXf : ∀ X, Below Y.heap.size Y X → X.cell? ⟨wr.heap.size, 0, none⟩ = some (.int .i64 (R.getD k RE0).uid) ∧ X.cell? ⟨wr.heap.size, 3, none⟩ = some (.pointer (some ⟨t.blk, 0, none⟩)) ∧ X.cell? ⟨t.blk, 0, none⟩ = some (.int .i64 t.num) ∧ X.cell? ⟨t.blk, 1, none⟩ = some (.slice fa t.fl.length fc) := fun X hX => by
              have hl1 : wr.heap.size < Y.heap.size := lt_of_heap hYn
              have hl2 : t.blk < Y.heap.size := lt_of_heap hto
              rw [hX.cell (p := ⟨wr.heap.size, 0, none⟩) hl1, hX.cell (p := ⟨wr.heap.size, 3, none⟩) hl1, hX.cell (p := ⟨t.blk, 0, none⟩) hl2, hX.cell (p := ⟨t.blk, 1, none⟩) hl2]
              exact ⟨cell_of hYn 0, d3, cell_of hto 0, cell_of hto 1⟩
            have HX := Lib.hid hXf
            have HBd : Hid (Below Y.heap.size Y Y.drew) := Lib.hid (Below.refl _ _).drew
            have HB3 : Hid (Below Y.heap.size Y (Y.drew.alloc (.cells #[.int .i64 4, .int .i64 ((k : Int) + 1), .int .i64 (R.getD k RE0).uid, .int .i64 t.num, .slice fa t.fl.length fc] 92))) := Lib.hid (((Below.refl _ _).drew).alloc (Nat.le_refl _) _)
            subst hs1
            clear hG hgn hyo hYn hbY htn hto hXf r4 g4 htu hfv hmem x3
            generalize (T ++ flagE 0 (R.take k)).length = n1 at *
            generalize (R.getD k RE0).uid = x at *
            generalize (R.getD k RE0).rct = yr at *
            generalize t.fl.length = nf at *
            generalize t.num = num at *
            generalize t.blk = tb at *
            have HY := Lib.hid hY
            clear hY
            go_upto_region 4 with fail
            (try rw [HY.out])
            clear HY
            go_upto_region 5 with fail
            --R Flags5--
            refine wp_region_N 17 (fun X => Below Y.heap.size Y X) (by kernel_rfl) ?_
            refine wpAnyN_take (i := 0) (oi := { dst := some 24, op := Go.Op.move (Go.Operand.tmp 1), type := 49, pos := "take.go:51", after := #[], guard := none }) (oL := { dst := some 41, op := Go.Op.call { callee := Go.Callee.builtin Go.Builtin.append, args := #[Go.Operand.tmp 24, Go.Operand.tmp 40], argTypes := #[49, 49] }, type := 49, pos := "take.go:51", after := #[{ on := 0, ground := Go.Ground.data }, { on := 16, ground := Go.Ground.data }], guard := none }) (v := .slice a1 n1 c1) rfl rfl (by kernel_rfl) (by kernel_rfl) (by kernel_rfl) (by kernel_rfl) (fun _ _ _ h => h) (Or.inl ⟨by kernel_rfl, ?_⟩) HBd.out ?_
            · (intro X hX; obtain ⟨z1, z2, z3, z4⟩ := HX.out X hX <;> (go_simp; try (with_reducible rfl)))
            (try simp only [Act.put, List.setIfInBounds_toArray, List.set_cons_zero, List.set_cons_succ])
            refine wpAnyN_take (i := 1) (oi := { dst := some 25, op := Go.Op.move (Go.Operand.tmp 5), type := 3, pos := "take.go:51", after := #[], guard := none }) (oL := { dst := some 41, op := Go.Op.call { callee := Go.Callee.builtin Go.Builtin.append, args := #[Go.Operand.tmp 24, Go.Operand.tmp 40], argTypes := #[49, 49] }, type := 49, pos := "take.go:51", after := #[{ on := 0, ground := Go.Ground.data }, { on := 16, ground := Go.Ground.data }], guard := none }) (v := .int .i64 (k : Int)) rfl rfl (by kernel_rfl) (by kernel_rfl) (by kernel_rfl) (by kernel_rfl) (fun _ _ _ h => h) (Or.inl ⟨by kernel_rfl, ?_⟩) HBd.out ?_
            · (intro X hX; obtain ⟨z1, z2, z3, z4⟩ := HX.out X hX <;> (go_simp; try (with_reducible rfl)))
            (try simp only [Act.put, List.setIfInBounds_toArray, List.set_cons_zero, List.set_cons_succ])
            refine wpAnyN_take (i := 2) (oi := { dst := some 26, op := Go.Op.binOp Go.BinOp.add 3 (Go.Operand.tmp 25) (Go.Operand.const (Go.Value.int Go.IntKind.i64 1)) 3, type := 3, pos := "take.go:51", after := #[{ on := 1, ground := Go.Ground.data }], guard := none }) (oL := { dst := some 41, op := Go.Op.call { callee := Go.Callee.builtin Go.Builtin.append, args := #[Go.Operand.tmp 24, Go.Operand.tmp 40], argTypes := #[49, 49] }, type := 49, pos := "take.go:51", after := #[{ on := 0, ground := Go.Ground.data }, { on := 16, ground := Go.Ground.data }], guard := none }) (v := .int .i64 ((k : Int) + 1)) rfl rfl (by kernel_rfl) (by kernel_rfl) (by kernel_rfl) (by kernel_rfl) (fun _ _ _ h => h) (Or.inl ⟨by kernel_rfl, ?_⟩) HBd.out ?_
            · (intro X hX; obtain ⟨z1, z2, z3, z4⟩ := HX.out X hX <;> (go_simp; try (with_reducible rfl)))
            (try simp only [Act.put, List.setIfInBounds_toArray, List.set_cons_zero, List.set_cons_succ])
            refine wpAnyN_take (i := 3) (oi := { dst := some 27, op := Go.Op.fieldAddr 82 (Go.Operand.tmp 6) 0, type := 0, pos := "take.go:51", after := #[], guard := none }) (oL := { dst := some 41, op := Go.Op.call { callee := Go.Callee.builtin Go.Builtin.append, args := #[Go.Operand.tmp 24, Go.Operand.tmp 40], argTypes := #[49, 49] }, type := 49, pos := "take.go:51", after := #[{ on := 0, ground := Go.Ground.data }, { on := 16, ground := Go.Ground.data }], guard := none }) (v := .pointer (some ⟨wr.heap.size, 0, none⟩)) rfl rfl (by kernel_rfl) (by kernel_rfl) (by kernel_rfl) (by kernel_rfl) (fun _ _ _ h => h) (Or.inl ⟨by kernel_rfl, ?_⟩) HBd.out ?_
            · (intro X hX; obtain ⟨z1, z2, z3, z4⟩ := HX.out X hX <;> (go_simp; try (with_reducible rfl)))
            (try simp only [Act.put, List.setIfInBounds_toArray, List.set_cons_zero, List.set_cons_succ])
            refine wpAnyN_take (i := 4) (oi := { dst := some 28, op := Go.Op.load 3 (Go.Operand.tmp 27), type := 3, pos := "take.go:51", after := #[{ on := 3, ground := Go.Ground.data }], guard := none }) (oL := { dst := some 41, op := Go.Op.call { callee := Go.Callee.builtin Go.Builtin.append, args := #[Go.Operand.tmp 24, Go.Operand.tmp 40], argTypes := #[49, 49] }, type := 49, pos := "take.go:51", after := #[{ on := 0, ground := Go.Ground.data }, { on := 16, ground := Go.Ground.data }], guard := none }) (v := .int .i64 x) rfl rfl (by kernel_rfl) (by kernel_rfl) (by kernel_rfl) (by kernel_rfl) (fun _ _ _ h => h) (Or.inl ⟨by kernel_rfl, ?_⟩) HBd.out ?_
            · (intro X hX; obtain ⟨z1, z2, z3, z4⟩ := HX.out X hX <;> (go_simp; try (with_reducible rfl)))
            (try simp only [Act.put, List.setIfInBounds_toArray, List.set_cons_zero, List.set_cons_succ])
            refine wpAnyN_take (i := 5) (oi := { dst := some 29, op := Go.Op.fieldAddr 82 (Go.Operand.tmp 6) 3, type := 0, pos := "take.go:51", after := #[], guard := none }) (oL := { dst := some 41, op := Go.Op.call { callee := Go.Callee.builtin Go.Builtin.append, args := #[Go.Operand.tmp 24, Go.Operand.tmp 40], argTypes := #[49, 49] }, type := 49, pos := "take.go:51", after := #[{ on := 0, ground := Go.Ground.data }, { on := 16, ground := Go.Ground.data }], guard := none }) (v := .pointer (some ⟨wr.heap.size, 3, none⟩)) rfl rfl (by kernel_rfl) (by kernel_rfl) (by kernel_rfl) (by kernel_rfl) (fun _ _ _ h => h) (Or.inl ⟨by kernel_rfl, ?_⟩) HBd.out ?_
            · (intro X hX; obtain ⟨z1, z2, z3, z4⟩ := HX.out X hX <;> (go_simp; try (with_reducible rfl)))
            (try simp only [Act.put, List.setIfInBounds_toArray, List.set_cons_zero, List.set_cons_succ])
            refine wpAnyN_take (i := 6) (oi := { dst := some 30, op := Go.Op.load 80 (Go.Operand.tmp 29), type := 80, pos := "take.go:51", after := #[{ on := 5, ground := Go.Ground.data }], guard := none }) (oL := { dst := some 41, op := Go.Op.call { callee := Go.Callee.builtin Go.Builtin.append, args := #[Go.Operand.tmp 24, Go.Operand.tmp 40], argTypes := #[49, 49] }, type := 49, pos := "take.go:51", after := #[{ on := 0, ground := Go.Ground.data }, { on := 16, ground := Go.Ground.data }], guard := none }) (v := .pointer (some ⟨tb, 0, none⟩)) rfl rfl (by kernel_rfl) (by kernel_rfl) (by kernel_rfl) (by kernel_rfl) (fun _ _ _ h => h) (Or.inl ⟨by kernel_rfl, ?_⟩) HBd.out ?_
            · (intro X hX; obtain ⟨z1, z2, z3, z4⟩ := HX.out X hX <;> (go_simp; try (with_reducible rfl)))
            (try simp only [Act.put, List.setIfInBounds_toArray, List.set_cons_zero, List.set_cons_succ])
            refine wpAnyN_take (i := 7) (oi := { dst := some 31, op := Go.Op.nilCheck (Go.Operand.tmp 30), type := 0, pos := "take.go:51", after := #[{ on := 6, ground := Go.Ground.data }], guard := none }) (oL := { dst := some 41, op := Go.Op.call { callee := Go.Callee.builtin Go.Builtin.append, args := #[Go.Operand.tmp 24, Go.Operand.tmp 40], argTypes := #[49, 49] }, type := 49, pos := "take.go:51", after := #[{ on := 0, ground := Go.Ground.data }, { on := 16, ground := Go.Ground.data }], guard := none }) (v := .pointer (some ⟨tb, 0, none⟩)) rfl rfl (by kernel_rfl) (by kernel_rfl) (by kernel_rfl) (by kernel_rfl) (fun _ _ _ h => h) (Or.inl ⟨by kernel_rfl, ?_⟩) HBd.out ?_
            · (intro X hX; obtain ⟨z1, z2, z3, z4⟩ := HX.out X hX <;> (go_simp; try (with_reducible rfl)))
            (try simp only [Act.put, List.setIfInBounds_toArray, List.set_cons_zero, List.set_cons_succ])
            refine wpAnyN_take (i := 8) (oi := { dst := some 32, op := Go.Op.fieldAddr 116 (Go.Operand.tmp 31) 0, type := 0, pos := "take.go:51", after := #[{ on := 7, ground := Go.Ground.data }], guard := none }) (oL := { dst := some 41, op := Go.Op.call { callee := Go.Callee.builtin Go.Builtin.append, args := #[Go.Operand.tmp 24, Go.Operand.tmp 40], argTypes := #[49, 49] }, type := 49, pos := "take.go:51", after := #[{ on := 0, ground := Go.Ground.data }, { on := 16, ground := Go.Ground.data }], guard := none }) (v := .pointer (some ⟨tb, 0, none⟩)) rfl rfl (by kernel_rfl) (by kernel_rfl) (by kernel_rfl) (by kernel_rfl) (fun _ _ _ h => h) (Or.inl ⟨by kernel_rfl, ?_⟩) HBd.out ?_
            · (intro X hX; obtain ⟨z1, z2, z3, z4⟩ := HX.out X hX <;> (go_simp; try (with_reducible rfl)))
            (try simp only [Act.put, List.setIfInBounds_toArray, List.set_cons_zero, List.set_cons_succ])
            refine wpAnyN_take (i := 9) (oi := { dst := some 33, op := Go.Op.load 3 (Go.Operand.tmp 32), type := 3, pos := "take.go:51", after := #[{ on := 8, ground := Go.Ground.data }], guard := none }) (oL := { dst := some 41, op := Go.Op.call { callee := Go.Callee.builtin Go.Builtin.append, args := #[Go.Operand.tmp 24, Go.Operand.tmp 40], argTypes := #[49, 49] }, type := 49, pos := "take.go:51", after := #[{ on := 0, ground := Go.Ground.data }, { on := 16, ground := Go.Ground.data }], guard := none }) (v := .int .i64 num) rfl rfl (by kernel_rfl) (by kernel_rfl) (by kernel_rfl) (by kernel_rfl) (fun _ _ _ h => h) (Or.inl ⟨by kernel_rfl, ?_⟩) HBd.out ?_
            · (intro X hX; obtain ⟨z1, z2, z3, z4⟩ := HX.out X hX <;> (go_simp; try (with_reducible rfl)))
            (try simp only [Act.put, List.setIfInBounds_toArray, List.set_cons_zero, List.set_cons_succ])
            refine wpAnyN_take (i := 10) (oi := { dst := some 34, op := Go.Op.fieldAddr 82 (Go.Operand.tmp 6) 3, type := 0, pos := "take.go:51", after := #[], guard := none }) (oL := { dst := some 41, op := Go.Op.call { callee := Go.Callee.builtin Go.Builtin.append, args := #[Go.Operand.tmp 24, Go.Operand.tmp 40], argTypes := #[49, 49] }, type := 49, pos := "take.go:51", after := #[{ on := 0, ground := Go.Ground.data }, { on := 16, ground := Go.Ground.data }], guard := none }) (v := .pointer (some ⟨wr.heap.size, 3, none⟩)) rfl rfl (by kernel_rfl) (by kernel_rfl) (by kernel_rfl) (by kernel_rfl) (fun _ _ _ h => h) (Or.inl ⟨by kernel_rfl, ?_⟩) HBd.out ?_
            · (intro X hX; obtain ⟨z1, z2, z3, z4⟩ := HX.out X hX <;> (go_simp; try (with_reducible rfl)))
            (try simp only [Act.put, List.setIfInBounds_toArray, List.set_cons_zero, List.set_cons_succ])
            refine wpAnyN_take (i := 11) (oi := { dst := some 35, op := Go.Op.load 80 (Go.Operand.tmp 34), type := 80, pos := "take.go:51", after := #[{ on := 10, ground := Go.Ground.data }], guard := none }) (oL := { dst := some 41, op := Go.Op.call { callee := Go.Callee.builtin Go.Builtin.append, args := #[Go.Operand.tmp 24, Go.Operand.tmp 40], argTypes := #[49, 49] }, type := 49, pos := "take.go:51", after := #[{ on := 0, ground := Go.Ground.data }, { on := 16, ground := Go.Ground.data }], guard := none }) (v := .pointer (some ⟨tb, 0, none⟩)) rfl rfl (by kernel_rfl) (by kernel_rfl) (by kernel_rfl) (by kernel_rfl) (fun _ _ _ h => h) (Or.inl ⟨by kernel_rfl, ?_⟩) HBd.out ?_
            · (intro X hX; obtain ⟨z1, z2, z3, z4⟩ := HX.out X hX <;> (go_simp; try (with_reducible rfl)))
            (try simp only [Act.put, List.setIfInBounds_toArray, List.set_cons_zero, List.set_cons_succ])
            refine wpAnyN_take (i := 12) (oi := { dst := some 36, op := Go.Op.nilCheck (Go.Operand.tmp 35), type := 0, pos := "take.go:51", after := #[{ on := 11, ground := Go.Ground.data }], guard := none }) (oL := { dst := some 41, op := Go.Op.call { callee := Go.Callee.builtin Go.Builtin.append, args := #[Go.Operand.tmp 24, Go.Operand.tmp 40], argTypes := #[49, 49] }, type := 49, pos := "take.go:51", after := #[{ on := 0, ground := Go.Ground.data }, { on := 16, ground := Go.Ground.data }], guard := none }) (v := .pointer (some ⟨tb, 0, none⟩)) rfl rfl (by kernel_rfl) (by kernel_rfl) (by kernel_rfl) (by kernel_rfl) (fun _ _ _ h => h) (Or.inl ⟨by kernel_rfl, ?_⟩) HBd.out ?_
            · (intro X hX; obtain ⟨z1, z2, z3, z4⟩ := HX.out X hX <;> (go_simp; try (with_reducible rfl)))
            (try simp only [Act.put, List.setIfInBounds_toArray, List.set_cons_zero, List.set_cons_succ])
            refine wpAnyN_take (i := 13) (oi := { dst := some 37, op := Go.Op.fieldAddr 116 (Go.Operand.tmp 36) 1, type := 0, pos := "take.go:51", after := #[{ on := 12, ground := Go.Ground.data }], guard := none }) (oL := { dst := some 41, op := Go.Op.call { callee := Go.Callee.builtin Go.Builtin.append, args := #[Go.Operand.tmp 24, Go.Operand.tmp 40], argTypes := #[49, 49] }, type := 49, pos := "take.go:51", after := #[{ on := 0, ground := Go.Ground.data }, { on := 16, ground := Go.Ground.data }], guard := none }) (v := .pointer (some ⟨tb, 1, none⟩)) rfl rfl (by kernel_rfl) (by kernel_rfl) (by kernel_rfl) (by kernel_rfl) (fun _ _ _ h => h) (Or.inl ⟨by kernel_rfl, ?_⟩) HBd.out ?_
            · (intro X hX; obtain ⟨z1, z2, z3, z4⟩ := HX.out X hX <;> (go_simp; try (with_reducible rfl)))
            (try simp only [Act.put, List.setIfInBounds_toArray, List.set_cons_zero, List.set_cons_succ])
            refine wpAnyN_take (i := 14) (oi := { dst := some 38, op := Go.Op.load 41 (Go.Operand.tmp 37), type := 41, pos := "take.go:51", after := #[{ on := 13, ground := Go.Ground.data }], guard := none }) (oL := { dst := some 41, op := Go.Op.call { callee := Go.Callee.builtin Go.Builtin.append, args := #[Go.Operand.tmp 24, Go.Operand.tmp 40], argTypes := #[49, 49] }, type := 49, pos := "take.go:51", after := #[{ on := 0, ground := Go.Ground.data }, { on := 16, ground := Go.Ground.data }], guard := none }) (v := .slice fa nf fc) rfl rfl (by kernel_rfl) (by kernel_rfl) (by kernel_rfl) (by kernel_rfl) (fun _ _ _ h => h) (Or.inl ⟨by kernel_rfl, ?_⟩) HBd.out ?_
            · (intro X hX; obtain ⟨z1, z2, z3, z4⟩ := HX.out X hX <;> (go_simp; try (with_reducible rfl)))
            (try simp only [Act.put, List.setIfInBounds_toArray, List.set_cons_zero, List.set_cons_succ])
            refine wpAnyN_take (i := 15) (oi := { dst := some 39, op := Go.Op.build 92 #[(0, Go.Operand.const (Go.Value.int Go.IntKind.i64 4)), (1, Go.Operand.tmp 26), (2, Go.Operand.tmp 28), (3, Go.Operand.tmp 33), (4, Go.Operand.tmp 38)], type := 92, pos := "take.go:51", after := #[{ on := 2, ground := Go.Ground.data }, { on := 4, ground := Go.Ground.data }, { on := 9, ground := Go.Ground.data }, { on := 14, ground := Go.Ground.data }], guard := none }) (oL := { dst := some 41, op := Go.Op.call { callee := Go.Callee.builtin Go.Builtin.append, args := #[Go.Operand.tmp 24, Go.Operand.tmp 40], argTypes := #[49, 49] }, type := 49, pos := "take.go:51", after := #[{ on := 0, ground := Go.Ground.data }, { on := 16, ground := Go.Ground.data }], guard := none }) (v := .agg #[.int .i64 4, .int .i64 ((k : Int) + 1), .int .i64 x, .int .i64 num, .slice fa nf fc]) rfl rfl (by kernel_rfl) (by kernel_rfl) (by kernel_rfl) (by kernel_rfl) (fun _ _ _ h => h) (Or.inl ⟨by kernel_rfl, ?_⟩) HBd.out ?_
            · (intro X hX; obtain ⟨z1, z2, z3, z4⟩ := HX.out X hX <;> (go_simp; try (with_reducible rfl)))
            (try simp only [Act.put, List.setIfInBounds_toArray, List.set_cons_zero, List.set_cons_succ])
            refine wpAnyN_one (i := 16) (o := { dst := some 40, op := Go.Op.buildSlice 49 1 #[(0, Go.Operand.tmp 39)], type := 49, pos := "take.go:51", after := #[{ on := 15, ground := Go.Ground.data }], guard := none }) (by kernel_rfl) rfl (fun K hK => ?_)
            go_simp
            refine hK.out _ _ (fun _ => HB3.out) ?_
            clear hK K
            (try simp only [Act.put, List.setIfInBounds_toArray, List.set_cons_zero, List.set_cons_succ])
            refine wpAnyN_one (i := 17) (o := { dst := some 41, op := Go.Op.call { callee := Go.Callee.builtin Go.Builtin.append, args := #[Go.Operand.tmp 24, Go.Operand.tmp 40], argTypes := #[49, 49] }, type := 49, pos := "take.go:51", after := #[{ on := 0, ground := Go.Ground.data }, { on := 16, ground := Go.Ground.data }], guard := none }) (by kernel_rfl) rfl (fun K hK => ?_)
            refine step_append_run (u := .slice a1 n1 c1) (v := .slice (some ⟨wr.heap.size + 1, 0, none⟩) 1 1) rfl _ _ _ rfl 49 rfl rfl rfl _ _ HRun.out ?_
            refine hK.out _ _ (fun e => absurd (e.symm.trans (by kernel_rfl) : false = true) Bool.false_ne_true) ?_
            clear hK K
            (try simp only [Act.put, List.setIfInBounds_toArray, List.set_cons_zero, List.set_cons_succ])
            refine wpAnyN_of_H (S' := fun _ => True) _ _ _ _ (by kernel_rfl) ?_
            refine wpAnyH_take (i := 18) (oi := { dst := some 1, op := Go.Op.assign (Go.Operand.tmp 41), type := 49, pos := "take.go:51", after := #[{ on := 17, ground := Go.Ground.data }, { on := 17, ground := Go.Ground.chain }, { on := 0, ground := Go.Ground.phase }, { on := 1, ground := Go.Ground.phase }, { on := 2, ground := Go.Ground.phase }, { on := 3, ground := Go.Ground.phase }, { on := 4, ground := Go.Ground.phase }, { on := 5, ground := Go.Ground.phase }, { on := 6, ground := Go.Ground.phase }, { on := 7, ground := Go.Ground.phase }, { on := 8, ground := Go.Ground.phase }, { on := 9, ground := Go.Ground.phase }, { on := 10, ground := Go.Ground.phase }, { on := 11, ground := Go.Ground.phase }, { on := 12, ground := Go.Ground.phase }, { on := 13, ground := Go.Ground.phase }, { on := 14, ground := Go.Ground.phase }, { on := 15, ground := Go.Ground.phase }, { on := 16, ground := Go.Ground.phase }, { on := 17, ground := Go.Ground.phase }], guard := none }) (v := .slice a4 n4 k4) rfl (by kernel_rfl) (by kernel_rfl) (by kernel_rfl) (fun _ _ _ h => h) (Or.inl ⟨by kernel_rfl, ?_⟩) trivial ?_
            · (intro X hX; go_simp; try (with_reducible rfl))
            (try simp only [Act.put, List.setIfInBounds_toArray, List.set_cons_zero, List.set_cons_succ])
            refine wpAnyH_done (by kernel_rfl) ?_ _
            --E Flags5--
            go_wp2_with fail
            go_roundw
            case rel => exact ⟨k + 1, _, by omega, by go_num, rfl, G4.out⟩
            case measure => simp [intOf]; omega
      · obtain rfl : k = R.length := by omega
        obtain ⟨g1, g2, g3, g4⟩ := hG
        have ea : atK R R.length = R.map calmE := by unfold atK; rw [List.take_of_length_le (Nat.le_refl _), List.drop_of_length_le (Nat.le_refl _), List.append_nil]
        rw [List.take_of_length_le (Nat.le_refl _)] at g2 g3
        rw [ea] at g1 g4
        have HF := Lib.hid (And.intro g2 (And.intro g3 (And.intro g1 g4)))
        clear g1 g2 g3 g4
        go_wp2
        (try rw [Exit.noGoto_ret])
        go_ret
        exact ⟨_, rfl, HF.out⟩
end
end Go.Proofs.YtflkhnmggmfhfaaGreat

/- view: Take. -/
namespace Go.Proofs.YtflkhnmggmfhfaaGreat
open Go.RowKit

theorem goneT_fl : ∀ (l : List PR) (n : Nat), ∀ t ∈ goneT n l, t.fl = []
  | [], _, t, h => by cases h
  | r :: l, n, t, h => by
    unfold goneT at h
    split at h
    · rcases List.mem_cons.1 h with rfl | h
      · rfl
      · exact goneT_fl l n t h
    · exact goneT_fl l (n + 1) t h
theorem nilT_pl {l : List Td} (h : ∀ t ∈ l, t.fl = []) : (l.map nilT).map TDE.pl = l := by
  rw [List.map_map]
  conv => rhs; rw [← List.map_id l]
  apply List.map_congr_left
  intro t ht
  have := h t ht
  cases t
  simp only at this
  subst this
  rfl
theorem flT_nil (w : World) (l : List Td) : FlT w (l.map nilT) := fun t ht => by
  obtain ⟨x, _, rfl⟩ := List.mem_map.1 ht
  exact World.ownsRow_nil _ _ _ _
theorem newE_eq {R : List RE} {V : PV} (h : R.map RE.pl = V.rows) (recent : Int) : newE R V.com recent = newT V recent := by
  have hr : (R ++ V.com.map (nrE recent)).map RE.pl = (settleP V recent).rows := by
    rw [List.map_append, h, List.map_map]
    rfl
  unfold newE newT
  split
  · rfl
  · have e1 : (R ++ V.com.map (nrE recent)).length = (settleP V recent).rows.length := by rw [← hr, List.length_map]
    have e2 : (pickU RE.rct (R ++ V.com.map (nrE recent))).length = ((settleP V recent).rows.filter PR.rct).length := by
      rw [← hr, List.filter_map, List.length_map]
      unfold pickU
      rw [uidR_length]
      rfl
    rw [e1, e2]
theorem newT_fl (V : PV) (recent : Int) : ∀ t ∈ newT V recent, t.fl = [] := by
  unfold newT
  split
  · intro t h; cases h
  · intro t h
    simp at h
    rcases h with rfl | rfl <;> rfl
/-- What is told, as a row in memory. -/
structure Told (w : World) (tv : Value) (T : List TDE) (l : List Td) : Prop where
  row : TdRow w tv T
  fls : FlT w T
  pl : T.map TDE.pl = l
theorem flagE_in : ∀ (R : List RE) (n : Nat) (t : TDE), t ∈ flagE n R → ∃ r ∈ R, ∃ te, r.tn = some te ∧ t.fv = te.fv
  | [], _, _, h => by cases h
  | r :: R, n, t, h => by
    rcases List.mem_append.1 (show t ∈ fE n r ++ flagE (n + 1) R from h) with h | h
    · unfold fE at h
      split at h
      · cases h
      · split at h
        · cases h
        · rename_i te hte
          simp at h
          subst h
          exact ⟨r, List.mem_cons_self, te, hte, rfl⟩
    · obtain ⟨x, hx, q⟩ := flagE_in R (n + 1) t h
      exact ⟨x, List.mem_cons_of_mem _ hx, q⟩
/-- Where what is told lies: in what was there, or in new memory. -/
def TkO (fp : List Nat) (w : World) (tv : Value) (T : List TDE) : Prop := (∀ b, tv.ownBlock = some b → b ∈ fp ∨ w.heap.size ≤ b) ∧ ∀ t ∈ T, ∀ b, t.fv.ownBlock = some b → b ∈ fp ∨ w.heap.size ≤ b
set_option maxHeartbeats 1000000 in
theorem Take_at {mk : Bool} {P : Nat} {V : PV} {fp : List Nat} {w : World} {N : Nat} (h : VWm mk P V fp w) (hk : PVok V N) (hN : N ≤ 1000000) (wh recent : Int) :
    Calls Tryz.prog 8 #[.pointer (some ⟨P, 0, none⟩), .int .i64 wh, .int .i64 recent] w fun e w' => ∃ tv T, e = .returned tv ∧ Told w' tv T (takeT V wh recent) ∧ VGm mk P (takeV V wh recent) fp w w' ∧ TkO fp w tv T := by
  obtain ⟨rv, cv, R, hV, hpl, rfl⟩ := h
  have hko := VOK.of hpl hk
  have hlen := hko.len
  by_cases h12 : wh = 1 ∨ wh = 2
  · -- what the last two steps leave
    have tail : ∀ (rv1 cv1 tv1 : Value) (V1 : PV) (R1 : List RE) (T1 : List Td) (w1 : World), R1.map RE.pl = V1.rows → VAt mk P V1.val rv1 cv1 R1 V1.com w1 → TdRow w1 tv1 (T1.map nilT) → R1.length + V1.com.length ≤ 1000000 → T1.length ≤ 1000000 → FO (fpV P rv cv R) (tv1.ownBlock.toList ++ fpV P rv1 cv1 R1) w w1 → (∀ t ∈ T1, t.fl = []) →
        Calls Tryz.prog 35 #[.pointer (some ⟨P, 0, none⟩), tv1, .int .i64 recent] w1 fun e w2 => ∃ tv2, e = .returned tv2 ∧ Calls Tryz.prog 36 #[.pointer (some ⟨P, 0, none⟩), tv2] w2 fun e w3 => ∃ tv3 T, e = .returned tv3 ∧ Told w3 tv3 T (T1 ++ (newT V1 recent ++ flagT 0 (settleP V1 recent).rows)) ∧ VGm mk P { settleP V1 recent with rows := (settleP V1 recent).rows.map calmR } (fpV P rv cv R) w w3 ∧ TkO (fpV P rv cv R) w tv3 T := by
      intro rv1 cv1 tv1 V1 R1 T1 w1 hp1 hV1 hT1 hl1 hTl f1 hfl
      refine (tellNew_any hV1 hl1 tv1 _ hT1 (by rw [List.length_map]; omega) recent).mono ?_
      rintro e w2 ⟨tv2, rv2, cv2, rfl, t2, v2, f2⟩
      refine ⟨tv2, rfl, ?_⟩
      have hr2 : (R1 ++ V1.com.map (nrE recent)).map RE.pl = (settleP V1 recent).rows := by
        rw [List.map_append, hp1, List.map_map]
        rfl
      have hnl : (newE R1 V1.com recent).length ≤ 2 := by unfold newE; split <;> simp
      rw [← List.map_append] at t2
      refine (tellFlags_any v2 (by simp only [List.length_append, List.length_map]; omega) tv2 _ t2 (flT_nil _ _) (by simp only [List.length_append, List.length_map]; omega)).mono ?_
      rintro e w3 ⟨tv3, rfl, t3, l3, v3, f3⟩
      refine ⟨tv3, _, rfl, ⟨t3, l3, ?_⟩, ?_, fun b hb => ((f1.trans f2).trans f3).2 b (List.mem_append_left _ (by simp [hb])), fun t ht b hb => ?_⟩
      · rw [List.map_append, flagE_pl, hr2, newE_eq hp1, nilT_pl (fun t ht => by
          rcases List.mem_append.1 ht with ht | ht
          · exact hfl t ht
          · exact newT_fl V1 recent t ht), List.append_assoc]
      · have ff := (f1.trans f2).trans f3
        refine ⟨_, ⟨rv2, cv2, _, v3, ?_, rfl⟩, ff.1, fun b hb => ff.2 b (List.mem_append_right _ hb)⟩
        show (List.map calmE _).map RE.pl = ((settleP V1 recent).rows.map calmR)
        rw [← hr2, List.map_map, List.map_map]
        exact List.map_congr_left fun r _ => calmE_pl r
      · rcases List.mem_append.1 ht with ht | ht
        · obtain ⟨x, _, rfl⟩ := List.mem_map.1 ht
          cases hb
        · obtain ⟨r, hr, te, hte, e⟩ := flagE_in _ _ _ ht
          rw [e] at hb
          exact (f1.trans f2).2 b (List.mem_append_right _ (mem_fpV_t hr (by rw [blks_tn hte]; simp [TE.blks, hb])))
    by_cases h2 : wh = 2
    · subst h2
      have e1 : takeT V 2 recent = goneT 0 V.rows ++ (newT (goneV V 2) recent ++ flagT 0 (settleP (goneV V 2) recent).rows) := by simp [takeT, goneD]
      have e2 : takeV V 2 recent = { settleP (goneV V 2) recent with rows := (settleP (goneV V 2) recent).rows.map calmR } := by simp [takeV]
      have e3 : goneV V 2 = { V with rows := stayR V.rows } := by simp [goneV]
      rw [e1, e2]
      have gl : ∀ (l : List PR) (n : Nat), (goneT n l).length ≤ l.length := by
        intro l
        induction l with
        | nil => intro n; exact Nat.le_refl _
        | cons x l ih =>
          intro n
          unfold goneT
          split
          · have := ih n; simp only [List.length_cons]; omega
          · have := ih (n + 1); simp only [List.length_cons]; omega
      have HG : Hid (Calls Tryz.prog 34 #[.pointer (some ⟨P, 0, none⟩), .slice none 0 0] w fun e w1 => ∃ tv1, e = .returned tv1 ∧ Calls Tryz.prog 35 #[.pointer (some ⟨P, 0, none⟩), tv1, .int .i64 recent] w1 fun e w2 => ∃ tv2, e = .returned tv2 ∧ Calls Tryz.prog 36 #[.pointer (some ⟨P, 0, none⟩), tv2] w2 fun e w3 => ∃ tv3 T, e = .returned tv3 ∧ Told w3 tv3 T (goneT 0 V.rows ++ (newT (goneV V 2) recent ++ flagT 0 (settleP (goneV V 2) recent).rows)) ∧ VGm mk P { settleP (goneV V 2) recent with rows := (settleP (goneV V 2) recent).rows.map calmR } (fpV P rv cv R) w w3 ∧ TkO (fpV P rv cv R) w tv3 T) := Lib.hid (by
        refine (tellGone_any hV (by omega) (.slice none 0 0) [] (World.ownsRow_nil _ _ _ _) (by simp)).mono ?_
        rintro e w1 ⟨tv1, rv1, rfl, t1, v1, f1⟩
        refine ⟨tv1, rfl, tail rv1 cv tv1 (goneV V 2) (stayE R) (goneT 0 V.rows) w1 ?_ ?_ ?_ ?_ ?_ ?_ (goneT_fl _ _)⟩
        · rw [e3, stayE_pl, hpl]
        · rw [e3]; exact v1
        · rw [List.nil_append, hpl] at t1; exact t1
        · rw [e3]
          have := stayE_len R
          show (stayE R).length + V.com.length ≤ 1000000
          omega
        · have := gl V.rows 0
          rw [← hpl, List.length_map] at this
          rw [← hpl]; omega
        · exact f1)
      clear hV hk hko tail
      generalize goneT 0 V.rows ++ (newT (goneV V 2) recent ++ flagT 0 (settleP (goneV V 2) recent).rows) = TT at *
      generalize { settleP (goneV V 2) recent with rows := (settleP (goneV V 2) recent).rows.map calmR } = VV at *
      go_enter Tryz.func8, Tryz.ntmps8
      go_wp2_with (first | (go_at_call 31; refine (some_any _ _).mono ?_; rintro e w' ⟨rfl, hw⟩; subst w') | (go_at_call 34; refine HG.out.mono ?_; rintro e w1 ⟨tv1, rfl, hc⟩; have HC1 := Lib.hid hc; clear hc) | (go_at_call 35; refine HC1.out.mono ?_; rintro e w2 ⟨tv2, rfl, hc⟩; have HC2 := Lib.hid hc; clear hc) | (go_at_call 36; refine HC2.out.mono ?_; rintro e w3 ⟨tv3, T, rfl, hc⟩; have HF := Lib.hid hc; clear hc))
      go_ret
      exact ⟨_, _, rfl, HF.out⟩
    · have h1 : wh = 1 := by omega
      subst h1
      have e3 : goneV V 1 = V := by simp [goneV]
      have e1 : takeT V 1 recent = newT V recent ++ flagT 0 (settleP V recent).rows := by simp [takeT, goneD, e3]
      have e2 : takeV V 1 recent = { settleP V recent with rows := (settleP V recent).rows.map calmR } := by simp [takeV, e3]
      rw [e1, e2]
      have HC1 := Lib.hid (tail rv cv (.slice none 0 0) V R [] w hpl hV (World.ownsRow_nil _ _ _ _) (by omega) (by simp) (FO.refl _ _) (fun t ht => by cases ht))
      rw [List.nil_append] at HC1
      clear hV hk hko tail
      generalize newT V recent ++ flagT 0 (settleP V recent).rows = TT at *
      generalize { settleP V recent with rows := (settleP V recent).rows.map calmR } = VV at *
      go_enter Tryz.func8, Tryz.ntmps8
      go_wp2_with (first | (go_at_call 31; refine (some_any _ _).mono ?_; rintro e w' ⟨rfl, hw⟩; subst w') | (go_at_call 35; refine HC1.out.mono ?_; rintro e w2 ⟨tv2, rfl, hc⟩; have HC2 := Lib.hid hc; clear hc) | (go_at_call 36; refine HC2.out.mono ?_; rintro e w3 ⟨tv3, T, rfl, hc⟩; have HF := Lib.hid hc; clear hc))
      go_ret
      exact ⟨_, _, rfl, HF.out⟩
  · have n1 : (wh != 1) = true := by simp; omega
    have n2 : (wh != 2) = true := by simp; omega
    have e1 : takeT V wh recent = [] := by unfold takeT; rw [if_neg h12]
    have e2 : takeV V wh recent = V := by unfold takeV; rw [if_neg h12]
    rw [e1, e2]
    have HF : Hid (Told w (.slice none 0 0) [] [] ∧ VGm mk P V (fpV P rv cv R) w w ∧ TkO (fpV P rv cv R) w (.slice none 0 0) []) := Lib.hid ⟨⟨World.ownsRow_nil _ _ _ _, fun t ht => (by cases ht), rfl⟩, VGm.refl ⟨rv, cv, R, hV, hpl, rfl⟩, fun b hb => (by cases hb), fun t ht => (by cases ht)⟩
    clear hV hk hko e1 e2 h12
    go_enter Tryz.func8, Tryz.ntmps8
    go_wp2
    go_ret
    exact ⟨_, _, rfl, HF.out⟩
theorem Take_any {P : Nat} {V : PV} {fp : List Nat} {w : World} {N : Nat} (h : VW P V fp w) (hk : PVok V N) (hN : N ≤ 1000000) (wh recent : Int) :
    Calls Tryz.prog 8 #[.pointer (some ⟨P, 0, none⟩), .int .i64 wh, .int .i64 recent] w fun e w' => ∃ tv T, e = .returned tv ∧ Told w' tv T (takeT V wh recent) ∧ VG P (takeV V wh recent) fp w w' :=
  (Take_at h hk hN wh recent).mono (fun _ _ ⟨tv, T, q1, q2, q3, _⟩ => ⟨tv, T, q1, q2, q3⟩)
end Go.Proofs.YtflkhnmggmfhfaaGreat
