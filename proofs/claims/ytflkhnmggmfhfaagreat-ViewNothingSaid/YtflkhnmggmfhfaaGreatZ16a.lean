/- view: a nil view. -/
import Derived.Test.YtflkhnmggmfhfaaGreatN16e
namespace Go.Proofs.YtflkhnmggmfhfaaGreat
open Go.RowKit

/-- Nothing. -/
def VZ : PV := ⟨0, [], []⟩
theorem VZ_ok : PVok VZ 0 := ⟨trivial, fun x hx => (by simp [VZ, uidsP] at hx), by simp [VZ]⟩
def zeroC : Array Value := #[.bool false, .int .i64 0, .slice none 0 0, .slice none 0 0]
theorem zero_at (w : World) : VAt false w.heap.size 0 (.slice none 0 0) (.slice none 0 0) [] [] (w.alloc (.cells #[.bool false, .int .i64 0, .slice none 0 0, .slice none 0 0] 28)) :=
  ⟨heap_new _ _, World.ownsRow_nil _ _ _ _, World.ownsRow_nil _ _ _ _, fun r hr => (by cases hr)⟩
theorem someN (w : World) : Calls Tryz.prog 31 #[.pointer none] w fun e w' => e = .returned (.pointer (some ⟨w.heap.size, 0, none⟩)) ∧ w' = w.alloc (.cells #[.bool false, .int .i64 0, .slice none 0 0, .slice none 0 0] 28) := by
  go_enter Tryz.func31, Tryz.ntmps31
  go_wp2
  go_ret
  exact ⟨rfl, rfl⟩
theorem HearN (w : World) (e : EV) (own : Bool) : Calls Tryz.prog 12 #[.pointer none, .agg (evA e), .bool own] w fun r w' => r = .returned (.tuple #[]) ∧ Below w.heap.size w w' := by
  obtain ⟨W1, hW1⟩ : ∃ W1, w.alloc (.cells (evA e) 45) = W1 := ⟨_, rfl⟩
  have HB : Hid (Below w.heap.size w W1) := Lib.hid (by rw [← hW1]; exact below_box (Below.refl _ _) (Nat.le_refl _) _)
  go_enter Tryz.func12, Tryz.ntmps12
  go_upto_region 1 with fail
  (try rw [hW1])
  clear hW1
  go_wp2_with fail
  first | refine bodyPost_end (results_none rfl _ _ _) rfl ?_ | refine bodyPost_ret (results_none rfl _ _ _) rfl ?_
  exact ⟨rfl, HB.out⟩
/-- A zero view hears nothing. -/
theorem HearZ {P : Nat} {V : PV} {fp : List Nat} {w : World} (h : VWm false P V fp w) (e : EV) (own : Bool) : Calls Tryz.prog 12 #[.pointer (some ⟨P, 0, none⟩), .agg (evA e), .bool own] w fun r w' => r = .returned (.tuple #[]) ∧ Below w.heap.size w w' := by
  obtain ⟨W1, hW1⟩ : ∃ W1, w.alloc (.cells (evA e) 45) = W1 := ⟨_, rfl⟩
  have hb : Below w.heap.size w W1 := by rw [← hW1]; exact below_box (Below.refl _ _) (Nat.le_refl _) _
  have HB := Lib.hid hb
  have d0 : W1.cell? ⟨P, 0, none⟩ = some (.bool false) := by
    obtain ⟨rv, cv, R, hV, _, rfl⟩ := h
    exact (hV.on hb).cells.c0
  clear h hb
  go_enter Tryz.func12, Tryz.ntmps12
  go_upto_region 1 with fail
  (try rw [hW1])
  clear hW1
  go_wp2_with fail
  first | refine bodyPost_end (results_none rfl _ _ _) rfl ?_ | refine bodyPost_ret (results_none rfl _ _ _) rfl ?_
  exact ⟨rfl, HB.out⟩
set_option maxHeartbeats 400000 in
theorem UidsN (w : World) : Calls Tryz.prog 7 #[.pointer none] w fun e w' => ∃ v', e = .returned v' ∧ OwnI w.heap.size v' (uidsP VZ) w w' := by
  obtain ⟨W1, hW1⟩ : ∃ W1, w.alloc (.cells #[.bool false, .int .i64 0, .slice none 0 0, .slice none 0 0] 28) = W1 := ⟨_, rfl⟩
  have hz := zero_at w
  rw [hW1] at hz
  have hb : Below w.heap.size w W1 := by rw [← hW1]; exact (Below.refl _ _).alloc (Nat.le_refl _) _
  have HS := Lib.hid (someN w)
  rw [hW1] at HS
  have H : Hid (Calls Tryz.prog 32 #[.pointer (some ⟨w.heap.size, 0, none⟩), .func (.func 33) #[] #[]] W1 fun e w' => ∃ v', e = .returned v' ∧ OwnI w.heap.size v' (uidsP VZ) w w') := Lib.hid ((uidsF_any 33 (enters_of Tryz.func33 (by kernel_rfl) rfl) (fun _ => true) hz (by simp) (fun r o X _ => uidsC_any _ _ _ _ _)).mono (fun _ _ ⟨v', q1, q2⟩ => ⟨v', q1, (q2.mono hb.size).shift hb⟩))
  clear hz hb hW1
  go_enter Tryz.func7, Tryz.ntmps7
  go_wp2_with (first | (go_at_call 31; refine HS.out.mono ?_; rintro e w' ⟨rfl, hw⟩; subst w') | (go_at_call 32; refine H.out.mono ?_; rintro e w1 ⟨v1, rfl, ho⟩; have HO := Lib.hid ho; clear ho))
  go_ret
  exact ⟨_, rfl, HO.out⟩
theorem zok : VOK ([] : List RE) [] 0 := ⟨trivial, fun x hx => (by simp [uidR] at hx), by simp⟩
set_option maxHeartbeats 400000 in
theorem SeqN (w : World) (u : Int) : Calls Tryz.prog 25 #[.pointer none, .int .i64 u] w fun e w' => e = .returned (.tuple #[.int .i64 (seqI (uidsP VZ) u), .int .i64 (seqE (uidsP VZ) u)]) ∧ Below w.heap.size w w' := by
  obtain ⟨W1, hW1⟩ : ∃ W1, w.alloc (.cells #[.bool false, .int .i64 0, .slice none 0 0, .slice none 0 0] 28) = W1 := ⟨_, rfl⟩
  have hz := zero_at w
  rw [hW1] at hz
  have hb : Below w.heap.size w W1 := by rw [← hW1]; exact (Below.refl _ _).alloc (Nat.le_refl _) _
  have HS := Lib.hid (someN w)
  rw [hW1] at HS
  have H := Lib.hid ((place_any hz zok (by omega) u).mono (fun _ _ ⟨q1, q2⟩ => (⟨q1, hb.trans (q2.mono hb.size)⟩ : _ ∧ Below w.heap.size w _)))
  have hh : hitP (uidsP VZ) u = false := by
    cases hq : hitP (uidsP VZ) u with
    | false => rfl
    | true => have := hitP_mem hq; simp [VZ, uidsP] at this
  have hh2 : hitP (uidR ([] : List RE)) u = false := hh
  rw [hh2] at H
  unfold seqI seqE
  rw [hh]
  simp only [Bool.false_eq_true, if_false]
  clear hz hb hW1 hh hh2
  generalize ixP (uidR ([] : List RE)) u = ix at *
  go_enter Tryz.func25, Tryz.ntmps25
  go_wp2_with (first | (go_at_call 31; refine HS.out.mono ?_; rintro e w' ⟨rfl, hw⟩; subst w') | (go_at_call 60; refine H.out.mono ?_; rintro e w1 ⟨rfl, hb⟩))
  go_ret2
  exact ⟨rfl, hb⟩
set_option maxHeartbeats 400000 in
theorem GoneN (w : World) (u : Int) : Calls Tryz.prog 26 #[.pointer none, .int .i64 u] w fun e w' => e = .returned (.bool (atP VZ u).gone) ∧ Below w.heap.size w w' := by
  obtain ⟨W1, hW1⟩ : ∃ W1, w.alloc (.cells #[.bool false, .int .i64 0, .slice none 0 0, .slice none 0 0] 28) = W1 := ⟨_, rfl⟩
  have hz := zero_at w
  rw [hW1] at hz
  have hb : Below w.heap.size w W1 := by rw [← hW1]; exact (Below.refl _ _).alloc (Nat.le_refl _) _
  have HS := Lib.hid (someN w)
  rw [hW1] at HS
  have H := Lib.hid ((at_any hz zok (by omega) u).mono (fun _ _ ⟨q1, q2⟩ => (⟨q1, hb.trans (q2.mono hb.size)⟩ : _ ∧ Below w.heap.size w _)))
  rw [← (atP_pl (R := []) (V := VZ) rfl u).1]
  clear hz hb hW1
  have q1 := fld1
  have q2 := fld2
  obtain ⟨yo, hyo⟩ : ∃ yo, (atR ([] : List RE) u).ptr = .pointer yo := ⟨_, rfl⟩
  rw [hyo] at H
  clear hyo
  generalize (atR ([] : List RE) u).uid = x at *
  generalize (atR ([] : List RE) u).gone = yg at *
  generalize (atR ([] : List RE) u).rct = yr at *
  go_enter Tryz.func26, Tryz.ntmps26
  go_wp2_with (first | (go_at_call 31; refine HS.out.mono ?_; rintro e w' ⟨rfl, hw⟩; subst w') | (go_at_call 61; refine H.out.mono ?_; rintro e w1 ⟨rfl, hb⟩))
  go_ret
  exact ⟨rfl, hb⟩
set_option maxHeartbeats 400000 in
theorem RecentN (w : World) (u : Int) : Calls Tryz.prog 28 #[.pointer none, .int .i64 u] w fun e w' => e = .returned (.bool (atP VZ u).rct) ∧ Below w.heap.size w w' := by
  obtain ⟨W1, hW1⟩ : ∃ W1, w.alloc (.cells #[.bool false, .int .i64 0, .slice none 0 0, .slice none 0 0] 28) = W1 := ⟨_, rfl⟩
  have hz := zero_at w
  rw [hW1] at hz
  have hb : Below w.heap.size w W1 := by rw [← hW1]; exact (Below.refl _ _).alloc (Nat.le_refl _) _
  have HS := Lib.hid (someN w)
  rw [hW1] at HS
  have H := Lib.hid ((at_any hz zok (by omega) u).mono (fun _ _ ⟨q1, q2⟩ => (⟨q1, hb.trans (q2.mono hb.size)⟩ : _ ∧ Below w.heap.size w _)))
  rw [← (atP_pl (R := []) (V := VZ) rfl u).2]
  clear hz hb hW1
  have q1 := fld1
  have q2 := fld2
  obtain ⟨yo, hyo⟩ : ∃ yo, (atR ([] : List RE) u).ptr = .pointer yo := ⟨_, rfl⟩
  rw [hyo] at H
  clear hyo
  generalize (atR ([] : List RE) u).uid = x at *
  generalize (atR ([] : List RE) u).gone = yg at *
  generalize (atR ([] : List RE) u).rct = yr at *
  go_enter Tryz.func28, Tryz.ntmps28
  go_wp2_with (first | (go_at_call 31; refine HS.out.mono ?_; rintro e w' ⟨rfl, hw⟩; subst w') | (go_at_call 61; refine H.out.mono ?_; rintro e w1 ⟨rfl, hb⟩))
  go_ret
  exact ⟨rfl, hb⟩
set_option maxHeartbeats 1000000 in
theorem take_tail {mk : Bool} {P : Nat} {rv cv : Value} {R : List RE} {w : World} (recent : Int) : ∀ (rv1 cv1 tv1 : Value) (V1 : PV) (R1 : List RE) (T1 : List Td) (w1 : World), R1.map RE.pl = V1.rows → VAt mk P V1.val rv1 cv1 R1 V1.com w1 → TdRow w1 tv1 (T1.map nilT) → R1.length + V1.com.length ≤ 1000000 → T1.length ≤ 1000000 → FO (fpV P rv cv R) (tv1.ownBlock.toList ++ fpV P rv1 cv1 R1) w w1 → (∀ t ∈ T1, t.fl = []) →
        Calls Tryz.prog 35 #[.pointer (some ⟨P, 0, none⟩), tv1, .int .i64 recent] w1 fun e w2 => ∃ tv2, e = .returned tv2 ∧ Calls Tryz.prog 36 #[.pointer (some ⟨P, 0, none⟩), tv2] w2 fun e w3 => ∃ tv3 T, e = .returned tv3 ∧ Told w3 tv3 T (T1 ++ (newT V1 recent ++ flagT 0 (settleP V1 recent).rows)) ∧ VGm mk P { settleP V1 recent with rows := (settleP V1 recent).rows.map calmR } (fpV P rv cv R) w w3 ∧ TkO (fpV P rv cv R) w tv3 T := by
  intro rv1 cv1 tv1 V1 R1 T1 w1 hp1 hV1 hT1 hl1 hTl f1 hfl
  refine (tellNew_any hV1 hl1 tv1 _ hT1 (by rw [List.length_map]; omega) recent).mono ?_
  rintro e w2 ⟨tv2, rv2, cv2, rfl, t2, v2, f2⟩
  refine ⟨tv2, rfl, ?_⟩
  have hr2 : (R1 ++ V1.com.map (nrE recent)).map RE.pl = (settleP V1 recent).rows := by
    rw [List.map_append, hp1, List.map_map]
    rfl
  have hnl : (newE R1 V1.com recent).length ≤ 2 := by unfold newE; split <;> simp
  rw [← List.map_append] at t2
  refine (tellFlags_any v2 (by simp only [List.length_append, List.length_map]; omega) tv2 _ t2 (flT_nil _ _) (by simp only [List.length_append, List.length_map]; omega)).mono ?_
  rintro e w3 ⟨tv3, rfl, t3, l3, v3, f3⟩
  refine ⟨tv3, _, rfl, ⟨t3, l3, ?_⟩, ?_, fun b hb => ((f1.trans f2).trans f3).2 b (List.mem_append_left _ (by simp [hb])), fun t ht b hb => ?_⟩
  · rw [List.map_append, flagE_pl, hr2, newE_eq hp1, nilT_pl (fun t ht => by
      rcases List.mem_append.1 ht with ht | ht
      · exact hfl t ht
      · exact newT_fl V1 recent t ht), List.append_assoc]
  · have ff := (f1.trans f2).trans f3
    refine ⟨_, ⟨rv2, cv2, _, v3, ?_, rfl⟩, ff.1, fun b hb => ff.2 b (List.mem_append_right _ hb)⟩
    show (List.map calmE _).map RE.pl = ((settleP V1 recent).rows.map calmR)
    rw [← hr2, List.map_map, List.map_map]
    exact List.map_congr_left fun r _ => calmE_pl r
  · rcases List.mem_append.1 ht with ht | ht
    · obtain ⟨x, _, rfl⟩ := List.mem_map.1 ht
      cases hb
    · obtain ⟨r, hr, te, hte, e⟩ := flagE_in _ _ _ ht
      rw [e] at hb
      exact (f1.trans f2).2 b (List.mem_append_right _ (mem_fpV_t hr (by rw [blks_tn hte]; simp [TE.blks, hb])))
set_option maxHeartbeats 1000000 in
theorem take_two {mk : Bool} {P : Nat} {V : PV} {rv cv : Value} {R : List RE} {w : World} {N : Nat} (hV : VAt mk P V.val rv cv R V.com w) (hpl : R.map RE.pl = V.rows) (hk : PVok V N) (hN : N ≤ 1000000) (recent : Int) :
    Calls Tryz.prog 34 #[.pointer (some ⟨P, 0, none⟩), .slice none 0 0] w fun e w1 => ∃ tv1, e = .returned tv1 ∧ Calls Tryz.prog 35 #[.pointer (some ⟨P, 0, none⟩), tv1, .int .i64 recent] w1 fun e w2 => ∃ tv2, e = .returned tv2 ∧ Calls Tryz.prog 36 #[.pointer (some ⟨P, 0, none⟩), tv2] w2 fun e w3 => ∃ tv3 T, e = .returned tv3 ∧ Told w3 tv3 T (goneT 0 V.rows ++ (newT (goneV V 2) recent ++ flagT 0 (settleP (goneV V 2) recent).rows)) ∧ VGm mk P { settleP (goneV V 2) recent with rows := (settleP (goneV V 2) recent).rows.map calmR } (fpV P rv cv R) w w3 ∧ TkO (fpV P rv cv R) w tv3 T := by
  have hko := VOK.of hpl hk
  have hlen := hko.len
  have tail := take_tail (mk := mk) (P := P) (rv := rv) (cv := cv) (R := R) (w := w) recent
  have e3 : goneV V 2 = { V with rows := stayR V.rows } := by simp [goneV]
  have gl : ∀ (l : List PR) (n : Nat), (goneT n l).length ≤ l.length := by
    intro l
    induction l with
    | nil => intro n; exact Nat.le_refl _
    | cons x l ih =>
      intro n
      unfold goneT
      split
      · have := ih n; simp only [List.length_cons]; omega
      · have := ih (n + 1); simp only [List.length_cons]; omega
  refine (tellGone_any hV (by omega) (.slice none 0 0) [] (World.ownsRow_nil _ _ _ _) (by simp)).mono ?_
  rintro e w1 ⟨tv1, rv1, rfl, t1, v1, f1⟩
  refine ⟨tv1, rfl, tail rv1 cv tv1 (goneV V 2) (stayE R) (goneT 0 V.rows) w1 ?_ ?_ ?_ ?_ ?_ ?_ (goneT_fl _ _)⟩
  · rw [e3, stayE_pl, hpl]
  · rw [e3]; exact v1
  · rw [List.nil_append, hpl] at t1; exact t1
  · rw [e3]
    have := stayE_len R
    show (stayE R).length + V.com.length ≤ 1000000
    omega
  · have := gl V.rows 0
    rw [← hpl, List.length_map] at this
    rw [← hpl]; omega
  · exact f1
set_option maxHeartbeats 1000000 in
theorem TakeN (w : World) (wh recent : Int) :
    Calls Tryz.prog 8 #[.pointer none, .int .i64 wh, .int .i64 recent] w fun e w' => ∃ tv T, e = .returned tv ∧ Told w' tv T (takeT VZ wh recent) ∧ Below w.heap.size w w' := by
  obtain ⟨V, hVe⟩ : ∃ V, VZ = V := ⟨_, rfl⟩
  rw [hVe]
  obtain ⟨R, hRe⟩ : ∃ R : List RE, [] = R := ⟨_, rfl⟩
  have hpl : R.map RE.pl = V.rows := by rw [← hVe, ← hRe]; rfl
  have hk : PVok V 0 := by rw [← hVe]; exact VZ_ok
  obtain ⟨P, hP⟩ : ∃ P, w.heap.size = P := ⟨_, rfl⟩
  obtain ⟨Wa, hWa⟩ : ∃ Wa, w.alloc (.cells #[.bool false, .int .i64 0, .slice none 0 0, .slice none 0 0] 28) = Wa := ⟨_, rfl⟩
  have HS : Hid (Calls Tryz.prog 31 #[.pointer none] w fun e w' => e = .returned (.pointer (some ⟨P, 0, none⟩)) ∧ w' = Wa) := Lib.hid (by rw [← hP, ← hWa]; exact someN w)
  have hba : Below w.heap.size w Wa := by rw [← hWa]; exact (Below.refl _ _).alloc (Nat.le_refl _) _
  have hV : VAt false P V.val (.slice none 0 0) (.slice none 0 0) R V.com Wa := by rw [← hP, ← hWa, ← hVe, ← hRe]; exact zero_at w
  have hlow : ∀ b, b ∈ fpV P (.slice none 0 0) (.slice none 0 0) R → w.heap.size ≤ b := fun b hb => by
    rw [← hRe] at hb
    rcases mem_fpV.1 hb with e | e | e | ⟨r, hr, _⟩
    · omega
    · cases e
    · cases e
    · cases hr
  have HFo : Hid (∀ (V' : PV) (X : World), VGm false P V' (fpV P (.slice none 0 0) (.slice none 0 0) R) Wa X → Below w.heap.size w X) := Lib.hid (fun V' X q => by
    obtain ⟨fp', _, q2⟩ := q
    exact hba.trans (q2.1.below (fun b hb => hlow b hb) hba.size))
  have HB := Lib.hid hba
  by_cases h2 : wh = 2
  · subst h2
    have e1 : takeT V 2 recent = goneT 0 V.rows ++ (newT (goneV V 2) recent ++ flagT 0 (settleP (goneV V 2) recent).rows) := by simp [takeT, goneD]
    rw [e1]
    have HG := Lib.hid (take_two hV hpl hk (by omega) recent)
    clear hV hk hpl hba hlow e1 hVe hRe hP hWa
    generalize goneT 0 V.rows ++ (newT (goneV V 2) recent ++ flagT 0 (settleP (goneV V 2) recent).rows) = TT at *
    generalize { settleP (goneV V 2) recent with rows := (settleP (goneV V 2) recent).rows.map calmR } = VV at *
    go_enter Tryz.func8, Tryz.ntmps8
    go_wp2_with (first | (go_at_call 31; refine HS.out.mono ?_; rintro e w' ⟨rfl, hw⟩; subst w') | (go_at_call 34; refine HG.out.mono ?_; rintro e w1 ⟨tv1, rfl, hc⟩; have HC1 := Lib.hid hc; clear hc) | (go_at_call 35; refine HC1.out.mono ?_; rintro e w2 ⟨tv2, rfl, hc⟩; have HC2 := Lib.hid hc; clear hc) | (go_at_call 36; refine HC2.out.mono ?_; rintro e w3 ⟨tv3, T, rfl, hc⟩; have HF := Lib.hid hc; clear hc))
    go_ret
    exact ⟨_, _, rfl, HF.out.1, HFo.out _ _ HF.out.2.1⟩
  · by_cases h1 : wh = 1
    · subst h1
      have e3 : goneV V 1 = V := by simp [goneV]
      have e1 : takeT V 1 recent = newT V recent ++ flagT 0 (settleP V recent).rows := by simp [takeT, goneD, e3]
      rw [e1]
      have HC1 := Lib.hid (take_tail (mk := false) (P := P) (rv := .slice none 0 0) (cv := .slice none 0 0) (R := R) (w := Wa) recent (.slice none 0 0) (.slice none 0 0) (.slice none 0 0) V R [] Wa hpl hV (World.ownsRow_nil _ _ _ _) (by rw [← hRe, ← hVe]; simp [VZ]) (by simp) (FO.refl _ _) (fun t ht => by cases ht))
      rw [List.nil_append] at HC1
      clear hV hk hpl hba hlow e1 e3 hVe hRe hP hWa h2
      generalize newT V recent ++ flagT 0 (settleP V recent).rows = TT at *
      generalize { settleP V recent with rows := (settleP V recent).rows.map calmR } = VV at *
      go_enter Tryz.func8, Tryz.ntmps8
      go_wp2_with (first | (go_at_call 31; refine HS.out.mono ?_; rintro e w' ⟨rfl, hw⟩; subst w') | (go_at_call 35; refine HC1.out.mono ?_; rintro e w2 ⟨tv2, rfl, hc⟩; have HC2 := Lib.hid hc; clear hc) | (go_at_call 36; refine HC2.out.mono ?_; rintro e w3 ⟨tv3, T, rfl, hc⟩; have HF := Lib.hid hc; clear hc))
      go_ret
      exact ⟨_, _, rfl, HF.out.1, HFo.out _ _ HF.out.2.1⟩
    · have n1 : (wh != 1) = true := by simp; omega
      have n2 : (wh != 2) = true := by simp; omega
      have e1 : takeT V wh recent = [] := by unfold takeT; rw [if_neg (by omega)]
      rw [e1]
      have HF : Hid (Told w (.slice none 0 0) [] []) := Lib.hid ⟨World.ownsRow_nil _ _ _ _, fun t ht => (by cases ht), rfl⟩
      clear hV hk hpl hba hlow e1 hVe hRe hP hWa h1 h2
      go_enter Tryz.func8, Tryz.ntmps8
      go_wp2
      go_ret
      exact ⟨_, _, rfl, HF.out, Below.refl _ _⟩
set_option maxHeartbeats 1000000 in
theorem FindN (w : World) (v : Value) (l : List Rg) (hr : Rgs w v l) (hl : l.length ≤ 1000000) (uid : Bool) :
    Calls Tryz.prog 19 #[.pointer none, v, .bool uid] w fun e w' => ∃ v', e = .returned (.tuple #[v', .bool (findG VZ l uid), .int .i64 (findE VZ l uid)]) ∧ OwnI w.heap.size v' (findL VZ l uid) w w' := by
  obtain ⟨V, hVe⟩ : ∃ V, VZ = V := ⟨_, rfl⟩
  rw [hVe]
  obtain ⟨R, hRe⟩ : ∃ R : List RE, [] = R := ⟨_, rfl⟩
  have hpl : R.map RE.pl = V.rows := by rw [← hVe, ← hRe]; rfl
  have hk : PVok V 0 := by rw [← hVe]; exact VZ_ok
  have hko := VOK.of hpl hk
  have hlen := hko.len
  have hrl : R.length = V.rows.length := by rw [← hpl, List.length_map]
  obtain ⟨W1, hW1⟩ : ∃ W1, w.alloc (.cells #[.pointer none] 24) = W1 := ⟨_, rfl⟩
  have h1 : W1.heap[w.heap.size]? = some (.cells #[.pointer none] 24 (0, 0)) := by rw [← hW1]; exact heap_new _ _
  have hb1 : Below w.heap.size w W1 := by rw [← hW1]; exact (Below.refl _ _).alloc (Nat.le_refl _) _
  have c0 : W1.cell? ⟨w.heap.size, 0, none⟩ = some (.pointer none) := cell_of h1 0
  obtain ⟨P, hP⟩ : ∃ P, W1.heap.size = P := ⟨_, rfl⟩
  obtain ⟨Wa, hWa⟩ : ∃ Wa, W1.alloc (.cells #[.bool false, .int .i64 0, .slice none 0 0, .slice none 0 0] 28) = Wa := ⟨_, rfl⟩
  have HSm : Hid (Calls Tryz.prog 31 #[.pointer none] W1 fun e w' => e = .returned (.pointer (some ⟨P, 0, none⟩)) ∧ w' = Wa) := Lib.hid (by rw [← hP, ← hWa]; exact someN W1)
  have hba : Below W1.heap.size W1 Wa := by rw [← hWa]; exact (Below.refl _ _).alloc (Nat.le_refl _) _
  have hVa : VAt false P V.val (.slice none 0 0) (.slice none 0 0) R V.com Wa := by rw [← hP, ← hWa, ← hVe, ← hRe]; exact zero_at W1
  have h1a : Wa.heap[w.heap.size]? = some (.cells #[.pointer none] 24 (0, 0)) := by rw [hba.block _ (lt_of_heap h1)]; exact h1
  obtain ⟨W2, hW2⟩ : ∃ W2, Wa.setCell ⟨w.heap.size, 0, none⟩ (.pointer (some ⟨P, 0, none⟩)) = W2 := ⟨_, rfl⟩
  have h2 : W2.heap[w.heap.size]? = some (.cells #[.pointer (some ⟨P, 0, none⟩)] 24 (0, 0)) := by rw [← hW2, heap_setCell_at _ h1a]; rfl
  have hb2 : Below w.heap.size w W2 := by rw [← hW2]; exact (hb1.trans (hba.mono hb1.size)).setCell (Nat.le_refl _) _
  have c1 : Wa.cell? ⟨w.heap.size, 0, none⟩ = some (.pointer none) := cell_of h1a 0
  have f1 : Wa.frozen? ⟨w.heap.size, 0, none⟩ = false := frozen_of h1a 0
  have c2 : W2.cell? ⟨w.heap.size, 0, none⟩ = some (.pointer (some ⟨P, 0, none⟩)) := cell_of h2 0
  have hV2 : VAt false P V.val (.slice none 0 0) (.slice none 0 0) R V.com W2 := hVa.hold (fun b hb => by
    rw [← hRe] at hb
    have hbP : b = P := by
      rcases mem_fpV.1 hb with e | e | e | ⟨r, hr, _⟩
      · exact e
      · cases e
      · cases e
      · cases hr
    rw [← hW2]
    exact Below.heap_setCell Wa _ _ _ (by show b ≠ w.heap.size; have := lt_of_heap h1; omega))
  have hr2 := hr.on hb2
  have HB2 := Lib.hid hb2
  have hall := And.intro c0 (And.intro c1 f1)
  clear hall
  clear hVa hba h1 h1a hb1 hVe hRe hP hWa
  cases uid with
  | true =>
    have HU := Lib.hid (notGone_any hV2 (by omega))
    have HO : Hid (∀ v1 w1, OwnI W2.heap.size v1 (pickU (fun r => !r.gone) R) W2 w1 → Calls Tryz.prog 54 #[v, v1] w1 fun e w' => ∃ v', e = .returned v' ∧ OwnI w.heap.size v' (findL V l true) w w') := Lib.hid (fun v1 w1 ho => by
      have hpu := pickU_length (fun r => !r.gone) R
      refine (of_any v v1 l _ w1 (hr2.on ho.below) (ho.ints (by omega)) hl (by omega) (fun n hn => ?_)).mono ?_
      · have : n < 4294967295 := hko.top n (List.mem_append_left _ (by
          unfold pickU uidR at hn
          obtain ⟨r, hr', rfl⟩ := List.mem_map.1 hn
          exact List.mem_map_of_mem (List.mem_filter.1 hr').1))
        omega
      · rintro e w' ⟨v', rfl, ho'⟩
        refine ⟨v', rfl, ?_⟩
        have e1 : findL V l true = ofL l (pickU (fun r => !r.gone) R) := by unfold findL; rw [if_pos rfl, pick_left hpl]
        rw [e1]
        exact (ho'.mono (Nat.le_trans hb2.size ho.base)).shift (hb2.trans (ho.below.mono hb2.size)))
    clear hV2 hr hr2 hb2 h2 hk hko
    have hg : findG V l true = false := rfl
    have he : findE V l true = 0 := rfl
    rw [hg, he]
    go_enter Tryz.func19, Tryz.ntmps19
    go_upto_region 1 with fail
    (try rw [hW1])
    clear hW1
    go_upto_region 2 with (go_at_call 31; refine HSm.out.mono ?_; rintro e w' ⟨rfl, hw⟩; subst w')
    (try rw [hW2])
    clear hW2
    go_wp2_with (first | (go_at_call 32; refine HU.out.mono ?_; rintro e w1 ⟨v1, rfl, ho1⟩; have HC := Lib.hid (HO.out _ _ ho1); clear ho1) | (go_at_call 54; refine HC.out.mono ?_; rintro e w3 ⟨v3, rfl, ho3⟩; have HF := Lib.hid ho3; clear ho3))
    refine bodyPost_ret (v := .tuple #[v3, .bool false, .int .i64 0]) (by simp [results, Tryz.results19, go_sem]) rfl ⟨_, rfl, HF.out⟩
  | false =>
    have HCF := Lib.hid (containsFunc_any 56 #[.pointer (some ⟨w.heap.size, 0, none⟩)] (enters_of Tryz.func56 (by kernel_rfl) rfl) (fun p => !takesB R.length p) v l W2 hr2 (fun a b X hX => notTakes (hV2.on hX) w.heap.size (by rw [hX.cell (p := ⟨w.heap.size, 0, none⟩) (lt_of_heap h2)]; exact c2) a b))
    cases hbad : badF V l with
    | true =>
      have hg : findG V l false = false := by unfold findG; simp [hbad]
      have he : findE V l false = 160 := by unfold findE; simp [hbad]
      have hL : findL V l false = [] := by unfold findL; simp [hbad]
      rw [hg, he, hL]
      have hb : (l.any fun p => !takesB R.length p) = true := by rw [hrl]; exact hbad
      rw [hb] at HCF
      clear hV2 hr hr2 hb2 h2 hk hko hbad hb hg he hL
      go_enter Tryz.func19, Tryz.ntmps19
      go_upto_region 1 with fail
      (try rw [hW1])
      clear hW1
      go_upto_region 2 with (go_at_call 31; refine HSm.out.mono ?_; rintro e w' ⟨rfl, hw⟩; subst w')
      (try rw [hW2])
      clear hW2
      go_wp2_with (go_at_call 55; refine HCF.out.mono ?_; rintro e w1 ⟨rfl, hb⟩; have HB3 := Lib.hid (HB2.out.trans (hb.mono HB2.out.size)); clear hb)
      refine bodyPost_ret (v := .tuple #[.slice none 0 0, .bool false, .int .i64 160]) (by simp [results, Tryz.results19, go_sem]) rfl ⟨_, rfl, OwnI.nil HB3.out HB3.out.size⟩
    | false =>
      have he : findE V l false = 0 := by unfold findE; simp [hbad]
      rw [he]
      have hb : (l.any fun p => !takesB R.length p) = false := by rw [hrl]; exact hbad
      rw [hb] at HCF
      have HNu : Hid (∀ w1, Below W2.heap.size W2 w1 → w1.cell? ⟨w.heap.size, 0, none⟩ = some (.pointer (some ⟨P, 0, none⟩)) ∧ Calls Tryz.prog 58 #[.pointer (some ⟨P, 0, none⟩), v] w1 fun e w' => ∃ v', e = .returned (.tuple #[v', .bool (findG V l false)]) ∧ OwnI w.heap.size v' (findL V l false) w w') := Lib.hid (fun w1 hX => by
        refine ⟨by rw [hX.cell (p := ⟨w.heap.size, 0, none⟩) (lt_of_heap h2)]; exact c2, ?_⟩
        refine (numbered_any (hV2.on hX) (by omega) v l (hr2.on hX) hl).mono ?_
        rintro e w' ⟨v', rfl, ho⟩
        have e1 : goneN R (numL R.length l) = findG V l false := by
          unfold findG goneN
          simp only [Bool.false_eq_true, if_false, hbad, hrl]
          congr 1
          funext k
          exact (rowP_pl hpl k).2
        have e2 : uidN R (numL R.length l) = findL V l false := by
          unfold findL uidN
          simp only [Bool.false_eq_true, if_false, hbad, hrl]
          exact List.map_congr_left fun k _ => (rowP_pl hpl k).1
        rw [e1, ]
        rw [e2] at ho
        exact ⟨v', rfl, (ho.mono (Nat.le_trans hb2.size hX.size)).shift (hb2.trans (hX.mono hb2.size))⟩)
      clear hV2 hr hr2 hb2 h2 hk hko hbad hb he
      generalize findG V l false = gg at *
      generalize findL V l false = LL at *
      go_enter Tryz.func19, Tryz.ntmps19
      go_upto_region 1 with fail
      (try rw [hW1])
      clear hW1
      go_upto_region 2 with (go_at_call 31; refine HSm.out.mono ?_; rintro e w' ⟨rfl, hw⟩; subst w')
      (try rw [hW2])
      clear hW2
      go_wp2_with (first | (go_at_call 55; refine HCF.out.mono ?_; rintro e w1 ⟨rfl, hb⟩; obtain ⟨y1, y2⟩ := HNu.out _ hb; have HC := Lib.hid y2; clear hb y2) | (go_at_call 58; refine HC.out.mono ?_; rintro e w3 ⟨v3, rfl, ho3⟩; have HF := Lib.hid ho3; clear ho3))
      refine bodyPost_ret (v := .tuple #[v3, .bool gg, .int .i64 0]) (by simp [results, Tryz.results19, go_sem]) rfl ⟨_, rfl, HF.out⟩
end Go.Proofs.YtflkhnmggmfhfaaGreat
