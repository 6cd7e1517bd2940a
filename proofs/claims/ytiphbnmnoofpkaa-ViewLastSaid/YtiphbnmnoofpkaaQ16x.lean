/- view: Take. -/
import Derived.Test.YtiphbnmnoofpkaaQ16w
namespace Go.Proofs.Ytiphbnmnoofpkaa
open Go.RowKit

theorem goneT_fl : ∀ (l : List PR) (n : Nat), ∀ t ∈ goneT n l, t.fl = []
  | [], _, t, h => by cases h
  | r :: l, n, t, h => by
    unfold goneT at h
    split at h
    · rcases List.mem_cons.1 h with rfl | h
      · rfl
      · exact goneT_fl l n t h
    · exact goneT_fl l (n + 1) t h
theorem nilT_pl {l : List Td} (h : ∀ t ∈ l, t.fl = []) : (l.map nilT).map TDE.pl = l := by
  rw [List.map_map]
  conv => rhs; rw [← List.map_id l]
  apply List.map_congr_left
  intro t ht
  have := h t ht
  cases t
  simp only at this
  subst this
  rfl
theorem flT_nil (w : World) (l : List Td) : FlT w (l.map nilT) := fun t ht => by
  obtain ⟨x, _, rfl⟩ := List.mem_map.1 ht
  exact World.ownsRow_nil _ _ _ _
theorem newE_eq {R : List RE} {V : PV} (h : R.map RE.pl = V.rows) (recent : Int) : newE R V.com recent = newT V recent := by
  have hr : (R ++ V.com.map (nrE recent)).map RE.pl = (settleP V recent).rows := by
    rw [List.map_append, h, List.map_map]
    rfl
  unfold newE newT
  split
  · rfl
  · have e1 : (R ++ V.com.map (nrE recent)).length = (settleP V recent).rows.length := by rw [← hr, List.length_map]
    have e2 : (pickU RE.rct (R ++ V.com.map (nrE recent))).length = ((settleP V recent).rows.filter PR.rct).length := by
      rw [← hr, List.filter_map, List.length_map]
      unfold pickU
      rw [uidR_length]
      rfl
    rw [e1, e2]
theorem newT_fl (V : PV) (recent : Int) : ∀ t ∈ newT V recent, t.fl = [] := by
  unfold newT
  split
  · intro t h; cases h
  · intro t h
    simp at h
    rcases h with rfl | rfl <;> rfl
/-- What is told, as a row in memory. -/
structure Told (w : World) (tv : Value) (T : List TDE) (l : List Td) : Prop where
  row : TdRow w tv T
  fls : FlT w T
  pl : T.map TDE.pl = l
set_option maxHeartbeats 1000000 in
theorem Take_any {P : Nat} {V : PV} {fp : List Nat} {w : World} {N : Nat} (h : VW P V fp w) (hk : PVok V N) (hN : N ≤ 1000000) (wh recent : Int) :
    Calls Try.prog 17 #[.pointer (some ⟨P, 0, none⟩), .int .i64 wh, .int .i64 recent] w fun e w' => ∃ tv T, e = .returned tv ∧ Told w' tv T (takeT V wh recent) ∧ VG P (takeV V wh recent) fp w w' := by
  obtain ⟨rv, cv, R, hV, hpl, rfl⟩ := h
  have hko := VOK.of hpl hk
  have hlen := hko.len
  by_cases h12 : wh = 1 ∨ wh = 2
  · -- what the last two steps leave
    have tail : ∀ (rv1 cv1 tv1 : Value) (V1 : PV) (R1 : List RE) (T1 : List Td) (w1 : World), R1.map RE.pl = V1.rows → VAt P V1.val rv1 cv1 R1 V1.com w1 → TdRow w1 tv1 (T1.map nilT) → R1.length + V1.com.length ≤ 1000000 → T1.length ≤ 1000000 → FO (fpV P rv cv R) (tv1.ownBlock.toList ++ fpV P rv1 cv1 R1) w w1 → (∀ t ∈ T1, t.fl = []) →
        Calls Try.prog 37 #[.pointer (some ⟨P, 0, none⟩), tv1, .int .i64 recent] w1 fun e w2 => ∃ tv2, e = .returned tv2 ∧ Calls Try.prog 38 #[.pointer (some ⟨P, 0, none⟩), tv2] w2 fun e w3 => ∃ tv3 T, e = .returned tv3 ∧ Told w3 tv3 T (T1 ++ (newT V1 recent ++ flagT 0 (settleP V1 recent).rows)) ∧ VG P { settleP V1 recent with rows := (settleP V1 recent).rows.map calmR } (fpV P rv cv R) w w3 := by
      intro rv1 cv1 tv1 V1 R1 T1 w1 hp1 hV1 hT1 hl1 hTl f1 hfl
      refine (tellNew_any hV1 hl1 tv1 _ hT1 (by rw [List.length_map]; omega) recent).mono ?_
      rintro e w2 ⟨tv2, rv2, cv2, rfl, t2, v2, f2⟩
      refine ⟨tv2, rfl, ?_⟩
      have hr2 : (R1 ++ V1.com.map (nrE recent)).map RE.pl = (settleP V1 recent).rows := by
        rw [List.map_append, hp1, List.map_map]
        rfl
      have hnl : (newE R1 V1.com recent).length ≤ 2 := by unfold newE; split <;> simp
      rw [← List.map_append] at t2
      refine (tellFlags_any v2 (by simp only [List.length_append, List.length_map]; omega) tv2 _ t2 (flT_nil _ _) (by simp only [List.length_append, List.length_map]; omega)).mono ?_
      rintro e w3 ⟨tv3, rfl, t3, l3, v3, f3⟩
      refine ⟨tv3, _, rfl, ⟨t3, l3, ?_⟩, ?_⟩
      · rw [List.map_append, flagE_pl, hr2, newE_eq hp1, nilT_pl (fun t ht => by
          rcases List.mem_append.1 ht with ht | ht
          · exact hfl t ht
          · exact newT_fl V1 recent t ht), List.append_assoc]
      · have ff := (f1.trans f2).trans f3
        refine ⟨_, ⟨rv2, cv2, _, v3, ?_, rfl⟩, ff.1, fun b hb => ff.2 b (List.mem_append_right _ hb)⟩
        show (List.map calmE _).map RE.pl = ((settleP V1 recent).rows.map calmR)
        rw [← hr2, List.map_map, List.map_map]
        exact List.map_congr_left fun r _ => calmE_pl r
    by_cases h2 : wh = 2
    · subst h2
      have e1 : takeT V 2 recent = goneT 0 V.rows ++ (newT (goneV V 2) recent ++ flagT 0 (settleP (goneV V 2) recent).rows) := by simp [takeT, goneD]
      have e2 : takeV V 2 recent = { settleP (goneV V 2) recent with rows := (settleP (goneV V 2) recent).rows.map calmR } := by simp [takeV]
      have e3 : goneV V 2 = { V with rows := stayR V.rows } := by simp [goneV]
      rw [e1, e2]
      have gl : ∀ (l : List PR) (n : Nat), (goneT n l).length ≤ l.length := by
        intro l
        induction l with
        | nil => intro n; exact Nat.le_refl _
        | cons x l ih =>
          intro n
          unfold goneT
          split
          · have := ih n; simp only [List.length_cons]; omega
          · have := ih (n + 1); simp only [List.length_cons]; omega
      have HG : Hid (Calls Try.prog 36 #[.pointer (some ⟨P, 0, none⟩), .slice none 0 0] w fun e w1 => ∃ tv1, e = .returned tv1 ∧ Calls Try.prog 37 #[.pointer (some ⟨P, 0, none⟩), tv1, .int .i64 recent] w1 fun e w2 => ∃ tv2, e = .returned tv2 ∧ Calls Try.prog 38 #[.pointer (some ⟨P, 0, none⟩), tv2] w2 fun e w3 => ∃ tv3 T, e = .returned tv3 ∧ Told w3 tv3 T (goneT 0 V.rows ++ (newT (goneV V 2) recent ++ flagT 0 (settleP (goneV V 2) recent).rows)) ∧ VG P { settleP (goneV V 2) recent with rows := (settleP (goneV V 2) recent).rows.map calmR } (fpV P rv cv R) w w3) := Lib.hid (by
        refine (tellGone_any hV (by omega) (.slice none 0 0) [] (World.ownsRow_nil _ _ _ _) (by simp)).mono ?_
        rintro e w1 ⟨tv1, rv1, rfl, t1, v1, f1⟩
        refine ⟨tv1, rfl, tail rv1 cv tv1 (goneV V 2) (stayE R) (goneT 0 V.rows) w1 ?_ ?_ ?_ ?_ ?_ ?_ (goneT_fl _ _)⟩
        · rw [e3, stayE_pl, hpl]
        · rw [e3]; exact v1
        · rw [List.nil_append, hpl] at t1; exact t1
        · rw [e3]
          have := stayE_len R
          show (stayE R).length + V.com.length ≤ 1000000
          omega
        · have := gl V.rows 0
          rw [← hpl, List.length_map] at this
          rw [← hpl]; omega
        · exact f1)
      clear hV hk hko tail
      generalize goneT 0 V.rows ++ (newT (goneV V 2) recent ++ flagT 0 (settleP (goneV V 2) recent).rows) = TT at *
      generalize { settleP (goneV V 2) recent with rows := (settleP (goneV V 2) recent).rows.map calmR } = VV at *
      go_enter Try.func17, Try.ntmps17
      go_wp2_with (first | (go_at_call 24; refine (some_any _ _).mono ?_; rintro e w' ⟨rfl, hw⟩; subst w') | (go_at_call 36; refine HG.out.mono ?_; rintro e w1 ⟨tv1, rfl, hc⟩; have HC1 := Lib.hid hc; clear hc) | (go_at_call 37; refine HC1.out.mono ?_; rintro e w2 ⟨tv2, rfl, hc⟩; have HC2 := Lib.hid hc; clear hc) | (go_at_call 38; refine HC2.out.mono ?_; rintro e w3 ⟨tv3, T, rfl, hc⟩; have HF := Lib.hid hc; clear hc))
      go_ret
      exact ⟨_, _, rfl, HF.out⟩
    · have h1 : wh = 1 := by omega
      subst h1
      have e3 : goneV V 1 = V := by simp [goneV]
      have e1 : takeT V 1 recent = newT V recent ++ flagT 0 (settleP V recent).rows := by simp [takeT, goneD, e3]
      have e2 : takeV V 1 recent = { settleP V recent with rows := (settleP V recent).rows.map calmR } := by simp [takeV, e3]
      rw [e1, e2]
      have HC1 := Lib.hid (tail rv cv (.slice none 0 0) V R [] w hpl hV (World.ownsRow_nil _ _ _ _) (by omega) (by simp) (FO.refl _ _) (fun t ht => by cases ht))
      rw [List.nil_append] at HC1
      clear hV hk hko tail
      generalize newT V recent ++ flagT 0 (settleP V recent).rows = TT at *
      generalize { settleP V recent with rows := (settleP V recent).rows.map calmR } = VV at *
      go_enter Try.func17, Try.ntmps17
      go_wp2_with (first | (go_at_call 24; refine (some_any _ _).mono ?_; rintro e w' ⟨rfl, hw⟩; subst w') | (go_at_call 37; refine HC1.out.mono ?_; rintro e w2 ⟨tv2, rfl, hc⟩; have HC2 := Lib.hid hc; clear hc) | (go_at_call 38; refine HC2.out.mono ?_; rintro e w3 ⟨tv3, T, rfl, hc⟩; have HF := Lib.hid hc; clear hc))
      go_ret
      exact ⟨_, _, rfl, HF.out⟩
  · have n1 : (wh != 1) = true := by simp; omega
    have n2 : (wh != 2) = true := by simp; omega
    have e1 : takeT V wh recent = [] := by unfold takeT; rw [if_neg h12]
    have e2 : takeV V wh recent = V := by unfold takeV; rw [if_neg h12]
    rw [e1, e2]
    have HF : Hid (Told w (.slice none 0 0) [] [] ∧ VG P V (fpV P rv cv R) w w) := Lib.hid ⟨⟨World.ownsRow_nil _ _ _ _, fun t ht => (by cases ht), rfl⟩, VG.refl ⟨rv, cv, R, hV, hpl, rfl⟩⟩
    clear hV hk hko e1 e2 h12
    go_enter Try.func17, Try.ntmps17
    go_wp2
    go_ret
    exact ⟨_, _, rfl, HF.out⟩
end Go.Proofs.Ytiphbnmnoofpkaa
