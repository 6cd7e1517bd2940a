/- mirror: uids rise, and rows stay, behind any step. -/
import Derived.Test.YtlmlbcnjohjnlaaDoorP19y
import Derived.Test.YtlmlbcnjohjnlaaDoorP19s
namespace Go.Proofs.YtlmlbcnjohjnlaaDoor
open Go.RowKit

/-- A row under way, beside the row that it was. -/
structure DrOk (M : PM) (i : Nat) (d : PD) : Prop where
  uid : d.r.uid = (M.rows.getD i PR0).uid ∨ (1 ≤ d.r.uid ∧ fitsM M.rows i d.r.uid = true)
  fl : d.r.kn = false → d.r.fl = []
  ku : (M.rows.getD i PR0).uid ≠ 0 → d.r.uid = (M.rows.getD i PR0).uid
  kk : (M.rows.getD i PR0).kn = true → d.r.kn = true
theorem learnD_ok {M : PM} {i : Nat} {d d' : PD} {x : ByteArray × PV} (h : DrOk M i d) (e : learnD M i d x = some d') : DrOk M i d' := by
  unfold learnD at e
  split at e
  · unfold learnUid at e
    split at e
    · cases e
    · rename_i hn
      have h1 : 1 ≤ x.2.n := by
        simp only [Bool.not_eq_true, Bool.not_eq_false', isNm, Bool.and_eq_true, decide_eq_true_eq] at hn
        exact hn.1.2
      split at e
      · split at e
        · injection e with e; subst e; exact h
        · cases e
      · rename_i h0
        have h0' : d.r.uid = 0 := by simpa using h0
        have hz : (M.rows.getD i PR0).uid = 0 := by
          by_cases k : (M.rows.getD i PR0).uid = 0
          · exact k
          · have := h.ku k; omega
        split at e
        · cases e
        · rename_i hf
          have hf' : fitsM M.rows i x.2.n = true := by simpa using hf
          split at e
          · split at e
            · injection e with e; subst e; exact ⟨.inr ⟨h1, hf'⟩, h.fl, fun k => absurd hz k, h.kk⟩
            · injection e with e; subst e; exact ⟨.inr ⟨h1, hf'⟩, fun k => by simp at k, fun k => absurd hz k, fun _ => rfl⟩
          · injection e with e; subst e; exact ⟨.inr ⟨h1, hf'⟩, h.fl, fun k => absurd hz k, h.kk⟩
  · split at e
    · unfold learnFlags at e
      split at e
      · split at e
        · injection e with e; subst e; exact ⟨h.uid, fun k => by simp at k, h.ku, fun _ => rfl⟩
        · cases e
      · cases e
    · split at e
      · unfold learnModseq at e
        split at e
        · split at e
          · split at e
            · injection e with e; subst e; exact ⟨h.uid, h.fl, h.ku, h.kk⟩
            · cases e
          · cases e
        · cases e
      · injection e with e; subst e; exact h
theorem learnAll_ok {M : PM} {i : Nat} : ∀ {data : List (ByteArray × PV)} {d d' : PD}, DrOk M i d → learnAll M i d data = some d' → DrOk M i d'
  | [], d, d', h, e => by simp [learnAll] at e; subst e; exact h
  | x :: data, d, d', h, e => by
    unfold learnAll at e
    split at e
    · cases e
    · rename_i d1 h1
      exact learnAll_ok (learnD_ok h h1) e
theorem rise_fl : ∀ {l : List PR} {a : Int} {r : PR}, rise a l → r ∈ l → r.kn = false → r.fl = []
  | x :: l, a, r, ⟨_, h2, h3⟩, hr, hk => by
    rcases List.mem_cons.1 hr with rfl | hr
    · exact h2 hk
    · exact rise_fl h3 hr hk
theorem fet_ok {M : PM} {num : Int} {data : List (ByteArray × PV)} {f : PM → PM} (hr : rise 0 M.rows) (e : fetF M num data = some f) : ∃ i d, f = putD i d ∧ i < M.rows.length ∧ DrOk M i d := by
  unfold fetF at e
  split at e
  · cases e
  · rename_i hc
    obtain ⟨d, hd, rfl⟩ := Option.map_eq_some_iff.1 e
    have hh : hasM M num = true := by
      cases h : hasM M num
      · exact absurd (Or.inr h) hc
      · rfl
    unfold hasM at hh
    simp only [Bool.and_eq_true, decide_eq_true_eq] at hh
    have hi : (num - 1).toNat < M.rows.length := by omega
    refine ⟨_, d, rfl, hi, learnAll_ok ⟨.inl rfl, fun k => ?_, fun _ => rfl, fun k => k⟩ hd⟩
    have hg : M.rows.getD (num - 1).toNat PR0 = M.rows[(num - 1).toNat] := by rw [List.getD_eq_getElem?_getD, List.getElem?_eq_getElem hi]; rfl
    simp only [hg] at k ⊢
    exact rise_fl hr (List.getElem_mem _) k
/-- What an answer does, in three kinds, where it bears no tag and is neither EXISTS nor EXPUNGE. -/
theorem chg_kinds {M : PM} {n : PN} {f : PM → PM} (hr : rise 0 M.rows) (ht : n.tag.toList.isEmpty = true) (h1 : n.k ≠ 11) (h2 : n.k ≠ 13) (e : chgP M n = some f) :
    (∀ N, (f N).sel = N.sel ∧ (f N).rows = N.rows) ∨ (∀ N, (f N).sel = false ∧ (f N).rows = []) ∨ ∃ i d, f = putD i d ∧ i < M.rows.length ∧ DrOk M i d := by
  unfold chgP at e
  split at e
  · cases e
  · split at e
    · cases e
    · split at e
      · unfold staP at e
        split at e
        · cases e
        · split at e
          · rename_i k; rw [ht] at k; cases k
          · split at e
            · injection e with e; subst e; exact .inr (.inl fun N => ⟨rfl, rfl⟩)
            · split at e
              · unfold codP at e
                split at e
                · split at e
                  · cases e
                  · split at e
                    · split at e
                      · injection e with e; subst e
                        refine .inl fun N => ?_
                        simp only
                        split
                        · exact ⟨rfl, rfl⟩
                        · split
                          · exact ⟨rfl, rfl⟩
                          · exact ⟨rfl, rfl⟩
                      · injection e with e; subst e; exact .inl fun N => ⟨rfl, rfl⟩
                    · cases e
                · injection e with e; subst e; exact .inl fun N => ⟨rfl, rfl⟩
              · injection e with e; subst e; exact .inl fun N => ⟨rfl, rfl⟩
      · split at e
        · exact .inr (.inr (fet_ok hr e))
        · injection e with e; subst e; exact .inl fun N => ⟨rfl, rfl⟩
/-- A row stays: its uid and its flags, once known. -/
def KeepR (a b : List PR) : Prop := All2 (fun r r' : PR => (r.uid ≠ 0 → r'.uid = r.uid) ∧ (r.kn = true → r'.kn = true)) a b
theorem KeepR.refl : ∀ (l : List PR), KeepR l l
  | [] => trivial
  | _ :: l => ⟨⟨fun _ => rfl, fun k => k⟩, KeepR.refl l⟩
theorem KeepR.set : ∀ (l : List PR) (i : Nat) (r : PR), i < l.length → ((l.getD i PR0).uid ≠ 0 → r.uid = (l.getD i PR0).uid) → ((l.getD i PR0).kn = true → r.kn = true) → KeepR l (l.set i r)
  | x :: l, 0, r, _, h1, h2 => ⟨⟨h1, h2⟩, KeepR.refl l⟩
  | x :: l, i + 1, r, hi, h1, h2 => ⟨⟨fun _ => rfl, fun k => k⟩, KeepR.set l i r (by simpa using hi) (by simpa using h1) (by simpa using h2)⟩
/-- As long as a mailbox stays selected, rows stay but for EXISTS and EXPUNGE. -/
theorem keep_act {M : PM} {s : PX} (hr : rise 0 M.rows) (hs2 : (actP M s).sel = true) (ht : s.kind = 2 → s.ans.tag.toList.isEmpty = true) (hn : s.kind = 2 → actK M s = 0 → s.ans.k ≠ 11 ∧ s.ans.k ≠ 13) : KeepR M.rows (actP M s).rows := by
  unfold actK at hn
  unfold actP at hs2 ⊢
  split
  · unfold askM
    split
    · exact KeepR.refl _
    · exact KeepR.refl _
  · rename_i k1
    rw [if_neg k1] at hs2
    split
    · rename_i k2
      rw [if_pos k2] at hs2
      have hn' := hn k2
      rw [if_neg k1, if_pos k2] at hn'
      unfold hearP at hs2 ⊢
      cases hc : chgP M s.ans with
      | none => exact KeepR.refl _
      | some f =>
        rw [hc] at hs2 hn'
        obtain ⟨n1, n2⟩ := hn' (by simp)
        simp only at hs2 ⊢
        cases hb : begP M s.ans with
        | true =>
          exfalso
          rw [hb] at hs2
          rcases chg_kinds hr (ht k2) n1 n2 hc with k | k | ⟨i, d, rfl, _, _⟩
          · rw [(k _).1] at hs2; simp [bgM, nopM] at hs2
          · rw [(k _).1] at hs2; cases hs2
          · simp [bgM, nopM, putD] at hs2
        | false =>
          rw [hb] at hs2
          have hbg : bgM false M = M := rfl
          rw [hbg] at hs2 ⊢
          rcases chg_kinds hr (ht k2) n1 n2 hc with k | k | ⟨i, d, rfl, hi, hd⟩
          · rw [(k _).2]; exact KeepR.refl _
          · rw [(k _).1] at hs2; cases hs2
          · exact KeepR.set _ i d.r hi hd.ku hd.kk
    · split
      · unfold resP
        split
        · exact KeepR.refl _
        · split
          · exact KeepR.refl _
          · exact KeepR.refl _
      · exact KeepR.refl _
/-- Uids rise behind any step. -/
theorem rise_done {N : PM} (h : rise 0 N.rows) (c : PA) (out : Int) : rise 0 (doneM N c out).rows := by
  unfold doneM
  simp only
  split
  · exact h
  · split
    · exact trivial
    · split
      · exact rise_forget c 0 h
      · exact h
theorem rise_bg {M : PM} (h : rise 0 M.rows) (b : Bool) : rise 0 (bgM b M).rows := by
  unfold bgM
  split
  · exact trivial
  · exact h
theorem rise_act {M : PM} {s : PX} (hr : rise 0 M.rows) : rise 0 (actP M s).rows := by
  unfold actP
  split
  · unfold askM
    split
    · exact hr
    · exact hr
  · split
    · unfold hearP
      split
      · exact hr
      · rename_i f e
        have hb := rise_bg hr (begP M s.ans)
        have e0 := e
        unfold chgP at e
        split at e
        · cases e
        · split at e
          · cases e
          · split at e
            · unfold staP at e
              split at e
              · cases e
              · split at e
                · unfold ansF at e
                  split at e
                  · cases e
                  · split at e
                    · cases e
                    · injection e with e; subst e; exact rise_done hb _ _
                · rename_i k
                  rcases chg_kinds hr (by simpa using k) (by omega) (by omega) e0 with q | q | ⟨i, d, rfl, hi, hd⟩
                  · rw [(q _).2]; exact hb
                  · rw [(q _).2]; exact trivial
                  · cases hb' : begP M s.ans with
                    | true => simp [bgM, nopM, putD, rise]
                    | false => exact rise_put hr hi hd.fl hd.uid
            · split at e
              · unfold exF at e
                split at e
                · cases e
                · split at e
                  · injection e with e; subst e; exact rise_zeros _ _
                  · split at e
                    · cases e
                    · injection e with e; subst e; exact rise_app hb
              · split at e
                · unfold expF at e
                  split at e
                  · cases e
                  · injection e with e; subst e; exact rise_erase _ hb
                · split at e
                  · obtain ⟨i, d, rfl, hi, hd⟩ := fet_ok hr e
                    cases hb' : begP M s.ans with
                    | true => simp [bgM, nopM, putD, rise]
                    | false => exact rise_put hr hi hd.fl hd.uid
                  · injection e with e; subst e; exact hb
    · split
      · unfold resP
        split
        · exact hr
        · split
          · exact hr
          · exact hr
      · exact hr
end Go.Proofs.YtlmlbcnjohjnlaaDoor

/- mirror: rises, of a sight of a mirror whose uids rise. -/
namespace Go.Proofs.YtlmlbcnjohjnlaaDoor
open Go.RowKit

theorem rise_at {L : List PR} (h : rise 0 L) {j : Nat} (hj : j < L.length) : (L[j].uid ≠ 0 → lastU 0 (L.take j) < L[j].uid) ∧ (L[j].kn = false → L[j].fl = []) := by
  have e : L = L.take j ++ L.drop j := (List.take_append_drop j L).symm
  rw [e] at h
  have h2 := (rise_split.1 h).2
  rw [List.drop_eq_getElem_cons hj] at h2
  exact ⟨h2.1, h2.2.1⟩
theorem lastU_take {L : List PR} {j : Nat} (hj : j < L.length) : lastU 0 (L.take (j + 1)) = if L[j].uid = 0 then lastU 0 (L.take j) else L[j].uid := by
  rw [List.take_add_one, List.getElem?_eq_getElem hj]
  exact lastU_snoc _ _ _
set_option maxRecDepth 20000 in
set_option maxHeartbeats 4000000 in
theorem rises_L (L : List PR) (hr : rise 0 L) (sel : Bool) (v nx h : Int) (us fl kn : Value) (w : World) (hs : SiA w us fl kn ⟨sel, v, nx, h, L.map (·.uid), L.map (·.fl), L.map (·.kn)⟩) :
    Calls Tryd.prog 16 #[.agg (siC sel v nx h us fl kn)] w fun e w' => e = .returned (.bool true) ∧ Below w.heap.size w w' := by
  obtain ⟨ua, uc, eu, hul, huc⟩ := hs.u
  obtain ⟨ka, kc, ek, hkl, hkc⟩ := hs.k
  obtain ⟨fvs, ⟨fa, fc, ef, hfl, hfc⟩, hall⟩ := hs.f
  have hfe := hall.length
  simp only [List.length_map] at eu ek hul huc hkl hkc hfe
  rw [hfe] at ef hfl hfc
  subst eu ek ef
  obtain ⟨n, hn⟩ : ∃ n, L.length = n := ⟨_, rfl⟩
  obtain ⟨Y, hY⟩ : ∃ Y, w.alloc (.cells (siC sel v nx h (.slice ua n uc) (.slice fa n fc) (.slice ka n kc)) 47) = Y := ⟨_, rfl⟩
  have b0 : Below w.heap.size w Y := by rw [← hY]; exact (Below.refl _ _).alloc (Nat.le_refl _) _
  have r0 : Y.heap[w.heap.size]? = some (.cells (siC sel v nx h (.slice ua n uc) (.slice fa n fc) (.slice ka n kc)) 47 (0, 0)) := by rw [← hY]; exact heap_new _ _
  have x4 : Y.cell? ⟨w.heap.size, 4, none⟩ = some (.slice ua n uc) := by unfold siC at r0; exact cell_of r0 4
  have x5 : Y.cell? ⟨w.heap.size, 5, none⟩ = some (.slice fa n fc) := by unfold siC at r0; exact cell_of r0 5
  have x6 : Y.cell? ⟨w.heap.size, 6, none⟩ = some (.slice ka n kc) := by unfold siC at r0; exact cell_of r0 6
  rw [hn] at hul huc hkl hkc hfl hfc ⊢
  have HC : Hid (∀ j (_ : j < n), ∃ gu ou gf of gk ok u b ta m tc, ua = some ⟨gu, ou, none⟩ ∧ fa = some ⟨gf, of, none⟩ ∧ ka = some ⟨gk, ok, none⟩ ∧ Y.cell? ⟨gu, ou + j, none⟩ = some (.int .i64 u) ∧ Y.cell? ⟨gf, of + j, none⟩ = some (.slice ta m tc) ∧ Y.cell? ⟨gk, ok + j, none⟩ = some (.bool b) ∧ m ≤ 1000000 ∧ (u ≠ 0 → lastU 0 (L.take j) < u) ∧ (b = false → m = 0) ∧ lastU 0 (L.take (j + 1)) = if u = 0 then lastU 0 (L.take j) else u) := Lib.hid (fun j hj => by
    obtain ⟨gu, ou, e1, g1, c1⟩ := huc (by omega)
    obtain ⟨gk, ok, e2, g2, c2⟩ := hkc (by omega)
    obtain ⟨gf, of, e3, g3, c3⟩ := hfc (by omega)
    have hjL : j < L.length := by omega
    obtain ⟨q1, q2⟩ := rise_at hr hjL
    have hfv : fvs[j]? = some (fvs[j]'(by omega)) := List.getElem?_eq_getElem _
    obtain ⟨t, ht, ta, tc, et, hl, _⟩ := hall.get j _ hfv
    have ht' : t = L[j].fl := by
      rw [List.getElem?_map, List.getElem?_eq_getElem hjL] at ht
      simpa using ht.symm
    rw [List.length_map] at et hl
    refine ⟨gu, ou, gf, of, gk, ok, L[j].uid, L[j].kn, ta, t.length, tc, e1, e3, e2, ?_, ?_, ?_, hl, q1, fun hb => by rw [ht', q2 hb]; rfl, lastU_take hjL⟩
    · rw [b0.cell (p := ⟨gu, ou + j, none⟩) g1]
      exact c1 j _ (by rw [List.map_map, List.getElem?_map, List.getElem?_eq_getElem hjL]; rfl)
    · rw [b0.cell (p := ⟨gf, of + j, none⟩) g3, ← et]
      exact c3 j _ hfv
    · rw [b0.cell (p := ⟨gk, ok + j, none⟩) g2]
      exact c2 j _ (by rw [List.map_map, List.getElem?_map, List.getElem?_eq_getElem hjL]; rfl))
  have HN := Lib.hid hul
  have B0 := Lib.hid b0
  have HY := Lib.hid hY
  clear hY b0 r0 hs huc hkc hfc hall hul hkl hfl hfe hn hr
  unfold siC at HY ⊢
  go_enter Tryd.func16, Tryd.ntmps16
  go_upto_region 1 with fail
  rw [HY.out]
  clear HY
  go_wp2_with fail
  go_loopw [3, 4] (fun x i wr => ∃ (j : Nat), x = .int .i64 (lastU 0 (L.take j)) ∧ i = .int .i64 j ∧ j ≤ n ∧ wr = Y) (fun _ i _ => n - (intOf i).toNat)
  case atStart => exact ⟨0, rfl, rfl, Nat.zero_le _, rfl⟩
  case round =>
    obtain ⟨j, rfl, rfl, hj, rfl⟩ := hrel
    obtain ⟨la, hla⟩ : ∃ z, lastU 0 (L.take j) = z := ⟨_, rfl⟩
    rw [hla]
    by_cases hlt : j < n
    · have hlti : (j : Int) < (n : Int) := by omega
      have hjb : (n : Int) ≤ 1000000 := by have := HN.out; omega
      obtain ⟨gu, ou, gf, of, gk, ok, u, b, ta, m, tc, rfl, rfl, rfl, c1, c2, c3, hm, q1, q2, q3⟩ := HC.out j hlt
      rw [hla] at q1 q3
      clear hla
      have HQ3 := Lib.hid q3
      clear q3
      by_cases hu : u = 0
      · subst hu
        clear q1
        cases b with
        | true =>
          clear q2
          go_wp2_with fail
          go_roundw
          case rel => exact ⟨j + 1, by rw [HQ3.out]; rfl, by go_num, by omega, trivial⟩
          case measure => simp [intOf]; omega
        | false =>
          obtain rfl : m = 0 := q2 rfl
          clear q2
          go_wp2_with fail
          go_roundw
          case rel => exact ⟨j + 1, by rw [HQ3.out]; rfl, by go_num, by omega, trivial⟩
          case measure => simp [intOf]; omega
      · have q1' := q1 hu
        have d0 : (u != 0) = true := by simpa using hu
        have d1 : decide (u ≤ la) = false := by simpa using q1'
        have HU := Lib.hid hu
        clear q1 q1' hu
        cases b with
        | true =>
          clear q2
          go_wp2_with fail
          go_roundw
          case rel => exact ⟨j + 1, by rw [HQ3.out, if_neg HU.out], by go_num, by omega, trivial⟩
          case measure => simp [intOf]; omega
        | false =>
          obtain rfl : m = 0 := q2 rfl
          clear q2
          go_wp2_with fail
          go_roundw
          case rel => exact ⟨j + 1, by rw [HQ3.out, if_neg HU.out], by go_num, by omega, trivial⟩
          case measure => simp [intOf]; omega
    · have hlti : ¬ (j : Int) < (n : Int) := by omega
      clear hla
      go_wp2_with fail
      go_ret
      exact ⟨rfl, B0.out⟩
end Go.Proofs.YtlmlbcnjohjnlaaDoor
