/- view: tellNew. -/
import Derived.Test.YtiphbnmnoofpkaaQ16t
namespace Go.Proofs.Ytiphbnmnoofpkaa
open Go.RowKit

/-- Two things more in a row of what is told. -/
theorem told_app2 {w : World} {v : Value} {T : List TDE} (h : TdRow w v T) (t u : Td) (hl : T.length + 2 ≤ 4294967296) :
    ∃ a c W1, (Builtin.append_ #[32, 32] 32 #[v, .slice (some ⟨w.heap.size, 0, none⟩) 2 2]).run Try.prog (w.alloc (.cells #[.int .i64 t.kind, .int .i64 t.num, .int .i64 t.uid, .int .i64 t.mod, .slice none 0 0, .int .i64 u.kind, .int .i64 u.num, .int .i64 u.uid, .int .i64 u.mod, .slice none 0 0] 43)) = .ok (.slice a (T.length + 2) c) W1 ∧
      TdRow W1 (.slice a (T.length + 2) c) (T ++ [nilT t, nilT u]) ∧ w.grownBy W1 v.ownBlock ∧ ∀ b, (Value.slice a (T.length + 2) c).ownBlock = some b → v.ownBlock = some b ∨ w.heap.size ≤ b := by
  obtain ⟨i0, hi0, hz0, hz1, hz2⟩ := info_parts' Try.infoTold
  obtain ⟨cs, hcs⟩ : ∃ cs : Array Value, cs = #[.int .i64 t.kind, .int .i64 t.num, .int .i64 t.uid, .int .i64 t.mod, .slice none 0 0, .int .i64 u.kind, .int .i64 u.num, .int .i64 u.uid, .int .i64 u.mod, .slice none 0 0] := ⟨_, rfl⟩
  rw [← hcs]
  have hnew : (w.alloc (.cells cs 43)).heap[w.heap.size]? = some (.cells cs 43 (0, 0)) := heap_alloc_new w _
  obtain ⟨v', W3, hrun, hrow3, hgr, _, hat⟩ := run_append_own_at (P := Try.prog) (w.alloc (.cells cs 43)) 0 32 32 43 i0 _ 5 56 Try.underlying32 hi0 hz0 hz1 hz2 rfl (by decide) v T.length (tdC T) (h.alloc _) ⟨w.heap.size, 0, none⟩ 2 2 cs.toList (by rw [hcs]; rfl) (by
      intro j x hj
      rw [show ((⟨w.heap.size, 0, none⟩ : Addr).add j) = ⟨w.heap.size, j, none⟩ from by rw [Addr.add_lit, Nat.zero_add], cell_of hnew j]
      rw [← hj]; simp) (by
      intro x hx
      rw [hcs] at hx
      simp at hx
      rcases hx with rfl | rfl | rfl | rfl | rfl | rfl | rfl | rfl | rfl | rfl <;> rfl) (by unfold maxLen; omega) (by omega) (Nat.zero_le _)
  obtain ⟨a, c, rfl⟩ := ownsRow_shape hrow3
  refine ⟨a, c, W3, hrun, ?_, ⟨hgr.os, hgr.tape, hgr.output, by have := hgr.size; simp at this; omega, fun k hk hne => by rw [hgr.block k (by simp; omega) hne, Below.heap_alloc _ _ _ hk]⟩, fun b hb => ?_⟩
  · unfold TdRow
    rw [List.length_append, tdC_append]
    rw [show tdC [nilT t, nilT u] = cs.toList by rw [hcs]; simp [tdC, TDE.enc, nilT]]
    exact hrow3
  · rcases hat with hat | hat
    · exact .inl (by rw [← hat]; exact hb)
    · rw [hat] at hb
      simp at hb
      exact .inr (by omega)
/-- What is told of new rows. -/
def newE (R : List RE) (C : List Int) (recent : Int) : List Td := if C = [] then [] else [⟨2, ((R ++ C.map (nrE recent)).length : Int), 0, 0, []⟩, ⟨3, ((pickU RE.rct (R ++ C.map (nrE recent))).length : Int), 0, 0, []⟩]
section
variable {P : Nat} {val : Int} {rv cv : Value} {R : List RE} {C : List Int} {w : World} {N : Nat}
theorem VAt.toldPast {rv1 cv1 : Value} {R1 : List RE} {w1 : World} {tv : Value} {T : List TDE} (h : VAt P val rv cv R C w) (ht : TdRow w tv T) (hf : FO (fpV P rv cv R) (fpV P rv1 cv1 R1) w w1) : TdRow w1 tv T := ownsRow_same ht (fun b e => hf.keep (ht.lt b e).2 (h.told ht e))
set_option maxHeartbeats 1000000 in
set_option maxRecDepth 20000 in
theorem tellNew_any (h : VAt P val rv cv R C w) (hN : R.length + C.length ≤ 1000000) (tv : Value) (T : List TDE) (hT : TdRow w tv T) (hTl : T.length ≤ 2000000) (recent : Int) :
    Calls Try.prog 37 #[.pointer (some ⟨P, 0, none⟩), tv, .int .i64 recent] w fun e w' => ∃ tv' rv' cv', e = .returned tv' ∧ TdRow w' tv' (T ++ (newE R C recent).map nilT) ∧ VAt P val rv' cv' (R ++ C.map (nrE recent)) [] w' ∧ FO (tv.ownBlock.toList ++ fpV P rv cv R) (tv'.ownBlock.toList ++ fpV P rv' cv' (R ++ C.map (nrE recent))) w w' := by
  have c3 := h.cells.c3
  obtain ⟨a3, k3, hv3, _⟩ := nms_of h.com
  subst hv3
  by_cases hC : C = []
  · subst hC
    have HF : Hid (TdRow w tv (T ++ (newE R [] recent).map nilT) ∧ VAt P val rv (.slice a3 ([] : List Int).length k3) (R ++ ([] : List Int).map (nrE recent)) [] w ∧ FO (tv.ownBlock.toList ++ fpV P rv (.slice a3 ([] : List Int).length k3) R) (tv.ownBlock.toList ++ fpV P rv (.slice a3 ([] : List Int).length k3) (R ++ ([] : List Int).map (nrE recent))) w w) := Lib.hid ⟨by simpa [newE] using hT, by simpa using h, by simpa using FO.refl _ _⟩
    clear h hT
    go_enter Try.func37, Try.ntmps37
    go_wp2
    go_ret
    exact ⟨_, _, _, rfl, HF.out⟩
  · have hCl : 0 < C.length := List.length_pos_iff.2 hC
    have hcz : ((C.length : Int) == 0) = false := by rw [beq_eq_false_iff_ne]; omega
    have HSe := Lib.hid (settle_any h recent hN)
    have hl2 : (R ++ C.map (nrE recent)).length ≤ 1000000 := by simp only [List.length_append, List.length_map]; omega
    have HUi : Hid (∀ w1, VO P val (R ++ C.map (nrE recent)) [] (fpV P rv (.slice a3 C.length k3) R) w w1 → Calls Try.prog 25 #[.pointer (some ⟨P, 0, none⟩), .func (.func 55) #[] #[]] w1 fun e w2 => ∃ a2 c2 ar cr, e = .returned (.slice a2 (pickU RE.rct (R ++ C.map (nrE recent))).length c2) ∧ w2.cell? ⟨P, 2, none⟩ = some (.slice ar (R ++ C.map (nrE recent)).length cr) ∧
        ∃ a5 c5 W5, (Builtin.append_ #[32, 32] 32 #[tv, .slice (some ⟨w2.heap.size, 0, none⟩) 2 2]).run Try.prog (w2.alloc (.cells #[.int .i64 2, .int .i64 ((R ++ C.map (nrE recent)).length : Int), .int .i64 0, .int .i64 0, .slice none 0 0, .int .i64 3, .int .i64 ((pickU RE.rct (R ++ C.map (nrE recent))).length : Int), .int .i64 0, .int .i64 0, .slice none 0 0] 43)) = .ok (.slice a5 (T.length + 2) c5) W5 ∧
          ∃ rv' cv', TdRow W5 (.slice a5 (T.length + 2) c5) (T ++ (newE R C recent).map nilT) ∧ VAt P val rv' cv' (R ++ C.map (nrE recent)) [] W5 ∧ FO (tv.ownBlock.toList ++ fpV P rv (.slice a3 C.length k3) R) ((Value.slice a5 (T.length + 2) c5).ownBlock.toList ++ fpV P rv' cv' (R ++ C.map (nrE recent))) w W5) := Lib.hid (fun w1 ⟨rv1, cv1, q1, q2⟩ => by
      refine (recents_any q1 hl2).mono ?_
      rintro e w2 ⟨v2, rfl, ho⟩
      obtain ⟨a2, c2, rfl⟩ := ownsRow_shape ho.row
      have hV2 := q1.on ho.below
      obtain ⟨ar, cr, rfl⟩ := ownsRow_shape q1.rows
      have ht1 := h.toldPast hT q2
      have ht2 : TdRow w2 tv T := ownsRow_same ht1 (fun b e => ho.below.block b (ht1.lt b e).2)
      obtain ⟨a5, c5, W5, r5, t5, g5, o5⟩ := told_app2 ht2 ⟨2, ((R ++ C.map (nrE recent)).length : Int), 0, 0, []⟩ ⟨3, ((pickU RE.rct (R ++ C.map (nrE recent))).length : Int), 0, 0, []⟩ (by omega)
      refine ⟨a2, c2, ar, cr, rfl, hV2.cells.c2, a5, c5, W5, r5, .slice ar (R ++ C.map (nrE recent)).length cr, cv1, ?_, hV2.hold (fun b hb => g5.block b (hV2.lt hb) (fun e => hV2.told ht2 e.symm hb)), ?_, ?_⟩
      · unfold newE
        rw [if_neg hC]
        exact t5
      · refine ⟨(g5.os.trans ho.below.os).trans q2.1.os, (g5.tape.trans ho.below.tape).trans q2.1.tape, (g5.output.trans ho.below.output).trans q2.1.output, Nat.le_trans q2.1.size (Nat.le_trans ho.below.size g5.size), fun b hb hn => ?_⟩
        have hb1 := Nat.lt_of_lt_of_le hb q2.1.size
        have hb2 := Nat.lt_of_lt_of_le hb1 ho.below.size
        rw [g5.block b hb2 (fun e => hn (List.mem_append_left _ (by simp [e.symm]))), ho.below.block b hb1, q2.1.block b hb (fun e => hn (List.mem_append_right _ e))]
      · intro b hb
        rcases List.mem_append.1 hb with hb | hb
        · rw [Option.mem_toList] at hb
          rcases o5 b hb with e | e
          · exact .inl (List.mem_append_left _ (by simp [e]))
          · right; have := q2.1.size; have := ho.below.size; omega
        · rcases q2.2 b hb with e | e
          · exact .inl (List.mem_append_right _ e)
          · exact .inr e)
    clear h hT
    generalize (R ++ C.map (nrE recent)) = R2 at *
    generalize pickU RE.rct R2 = U2 at *
    generalize hn2 : U2.length = n2 at *
    generalize hr2 : R2.length = nr at *
    generalize hc2 : C.length = nc at *
    go_enter Try.func37, Try.ntmps37
    go_wp2_with (first | (go_at_call 23; refine HSe.out.mono ?_; rintro e w1 ⟨rfl, ho1⟩; have HU := Lib.hid (HUi.out _ ho1); clear ho1) | (go_at_call 25; refine HU.out.mono ?_; rintro e w2 ⟨a2, c2, ar, cr, rfl, d2, a5, c5, W5, r5, rv', cv', hf⟩; have R5 := Lib.hid r5; have HF := Lib.hid hf; clear r5 hf) | (at_builtin; refine append_by_run (u := tv) (v := .slice (some ⟨w2.heap.size, 0, none⟩) 2 2) rfl _ _ _ rfl 32 rfl rfl rfl _ _ R5.out ?_))
    go_ret
    exact ⟨_, _, _, rfl, HF.out⟩
end
end Go.Proofs.Ytiphbnmnoofpkaa
