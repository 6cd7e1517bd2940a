/- view: settle, following, uids. -/
import Derived.Test.YtiphbnmnoofpkaaQ16f
namespace Go.Proofs.Ytiphbnmnoofpkaa
open Go.RowKit

def nrE (recent u : Int) : RE := ⟨u, false, decide (recent ≤ u), none⟩
theorem nrE_pl (recent u : Int) : (nrE recent u).pl = newR recent u := rfl
def folN (f : Int) (k : Nat) : List Int := (List.range k).map fun (i : Nat) => f + (i : Int)
theorem folN_length (f : Int) (k : Nat) : (folN f k).length = k := by simp [folN]
theorem folN_succ (f : Int) (k : Nat) : folN f (k + 1) = folN f k ++ [f + k] := by simp [folN, List.range_succ]
theorem folN_cons (f : Int) (k : Nat) : folN f (k + 1) = f :: folN (f + 1) k := by
  simp only [folN, List.range_succ_eq_map, List.map_cons, List.map_map]
  congr 1
  · simp
  · apply List.map_congr_left
    intro i _
    simp only [Function.comp]
    omega
theorem fol_eq : ∀ (c k : Nat) (f : Int), k ≤ c → (∀ i : Nat, i < k → f + i < 4294967295) → (k = c ∨ ¬ f + k < 4294967295) → fol f c = folN f k
  | 0, k, f, h, _, _ => by
    have : k = 0 := by omega
    subst this
    rfl
  | c + 1, 0, f, _, _, h => by
    have h1 : ¬ f < 4294967295 := by
      rcases h with h | h
      · omega
      · simpa using h
    show (if f < 4294967295 then f :: fol (f + 1) c else []) = []
    rw [if_neg h1]
  | c + 1, k + 1, f, h, h2, h3 => by
    have h1 : f < 4294967295 := by have := h2 0 (by omega); simpa using this
    show (if f < 4294967295 then f :: fol (f + 1) c else []) = _
    rw [if_pos h1, folN_cons, fol_eq c k (f + 1) (by omega) (fun i hi => by have := h2 (i + 1) (by omega); push_cast at this; omega) (by
      rcases h3 with h3 | h3
      · left; omega
      · right; push_cast at h3; omega)]
section
variable {P : Nat} {val : Int} {rv cv : Value} {R : List RE} {C : List Int} {w : World} {N : Nat}
set_option maxRecDepth 100000 in
set_option maxHeartbeats 2000000 in
theorem settle_any (h : VAt P val rv cv R C w) (recent : Int) (hN : R.length + C.length ≤ 1000000) :
    Calls Try.prog 23 #[.pointer (some ⟨P, 0, none⟩), .int .i64 recent] w fun e w' => e = .returned (.tuple #[]) ∧ VO P val (R ++ C.map (nrE recent)) [] (fpV P rv cv R) w w' := by
  obtain ⟨av, kv, hve, hvs⟩ := nms_of h.com
  subst hve
  have c3 := h.cells.c3
  have H0 := Lib.hid h
  clear h hvs
  go_enter Try.func23, Try.ntmps23
  go_wp2
  go_loopw [11] (fun i wr => ∃ k : Nat, k ≤ C.length ∧ i = .int .i64 k ∧ ∃ rv1, VAt P val rv1 (.slice av C.length kv) (R ++ (C.take k).map (nrE recent)) C wr ∧ FO (fpV P rv (.slice av C.length kv) R) (fpV P rv1 (.slice av C.length kv) (R ++ (C.take k).map (nrE recent))) w wr) (fun i _ => C.length - (intOf i).toNat)
  case atStart => exact ⟨0, Nat.zero_le _, rfl, rv, by simpa using H0.out, by simpa using FO.refl _ _⟩
  case round =>
    clear c3
    obtain ⟨k, hk, rfl, rv1, h1, f1⟩ := hrel
    by_cases hlt : k < C.length
    · have hlti : (k : Int) < (C.length : Int) := by omega
      have hst : (C.take (k + 1)).map (nrE recent) = (C.take k).map (nrE recent) ++ [nrE recent (C.getD k 0)] := by rw [take_snocI C k hlt, List.map_append]; rfl
      have hll : (R ++ (C.take k).map (nrE recent)).length ≤ 1000000 := by simp only [List.length_append, List.length_map, List.length_take]; omega
      obtain ⟨av2, kv2, hve2, hvs2⟩ := nms_of h1.com
      obtain ⟨g, off, hg0, hg, hcc⟩ := hvs2 (by omega)
      cases hve2
      subst hg0
      have ck := hcc k hlt
      obtain ⟨a4, k4, W4, r4, s4, h4, f4⟩ := h1.addR (nrE recent (C.getD k 0)) rfl (by omega)
      have c2 := h1.cells.c2
      have d2 := (selfV_cells s4).c2
      have g2 := (selfV_cells s4).f2
      rw [List.append_assoc, ← hst] at h4 f4
      have HO4 := Lib.hid h4
      have HF4 := Lib.hid (f1.trans f4)
      have r5 : (Builtin.append_ #[64, 64] 64 #[rv1, .slice (some ⟨wr.heap.size, 0, none⟩) 1 1]).run Try.prog (wr.alloc (.cells #[.int .i64 (C.getD k 0), .bool false, .bool (decide (recent ≤ C.getD k 0)), .pointer none] 75)) = .ok (.slice a4 ((R ++ (C.take k).map (nrE recent)).length + 1) k4) W4 := r4
      have R4 := Lib.hid r5
      clear hst h1 f1 r4 r5 s4 h4 f4 hcc hvs2
      generalize C.getD k 0 = u at *
      generalize (R ++ (C.take k).map (nrE recent)).length = nD at *
      by_cases h5 : recent ≤ u
      · rw [decide_eq_true h5] at R4
        go_wp2_with (at_builtin; refine append_by_run (u := rv1) (v := .slice (some ⟨wr.heap.size, 0, none⟩) 1 1) rfl _ _ _ rfl 64 rfl rfl rfl _ _ R4.out ?_)
        go_roundw
        case rel => exact ⟨k + 1, by omega, by go_num, _, HO4.out, HF4.out⟩
        case measure => simp [intOf]; omega
      · rw [decide_eq_false h5] at R4
        go_wp2_with (at_builtin; refine append_by_run (u := rv1) (v := .slice (some ⟨wr.heap.size, 0, none⟩) 1 1) rfl _ _ _ rfl 64 rfl rfl rfl _ _ R4.out ?_)
        go_roundw
        case rel => exact ⟨k + 1, by omega, by go_num, _, HO4.out, HF4.out⟩
        case measure => simp [intOf]; omega
    · obtain rfl : k = C.length := by omega
      rw [List.take_of_length_le (Nat.le_refl _)] at h1 f1
      obtain ⟨h2, f2⟩ := h1.noC
      have c3 := h1.cells.c3
      have g3 := h1.cells.f3
      have HO : Hid (VO P val (R ++ C.map (nrE recent)) [] (fpV P rv (.slice av C.length kv) R) w (wr.setCell ⟨P, 3, none⟩ (.slice none 0 0))) := Lib.hid ⟨_, _, h2, f1.trans f2⟩
      clear h1 f1 h2 f2
      go_wp2
      first | refine bodyPost_end (results_none rfl _ _ _) rfl ?_ | refine bodyPost_ret (results_none rfl _ _ _) rfl ?_
      exact ⟨rfl, HO.out⟩
end
set_option maxRecDepth 100000 in
set_option maxHeartbeats 2000000 in
theorem following_any (f : Int) (c : Nat) (w : World) (hf : -9223372036854775808 ≤ f) (hc : c ≤ 1000000) :
    Calls Try.prog 54 #[.int .i64 f, .int .i64 (c : Int)] w fun e w' => ∃ v', e = .returned v' ∧ OwnI w.heap.size v' (fol f c) w w' := by
  have HFE := Lib.hid (fol_eq c)
  go_enter Try.func54, Try.ntmps54
  go_wp2
  go_loopw [5, 6] (fun v5 n wr => ∃ k : Nat, k ≤ c ∧ n = .int .i64 (f + k) ∧ OwnI w.heap.size v5 (folN f k) w wr ∧ Hid (∀ i : Nat, i < k → f + i < 4294967295)) (fun v5 _ _ => c - (match v5 with | .slice _ n _ => n | _ => 0))
  case atStart => exact ⟨0, Nat.zero_le _, by simp, OwnI.nil (Below.refl _ _) (Nat.le_refl _), Lib.hid (fun i hi => by omega)⟩
  case round =>
    obtain ⟨k, hk, rfl, hO, HK⟩ := hrel
    have hrow := hO.row
    rw [folN_length] at hrow
    obtain ⟨a5, k5, hv5⟩ := ownsRow_shape hrow
    subst hv5
    have HO := Lib.hid hO
    clear hO hrow
    by_cases h1 : k < c
    · have h1i : (k : Int) < (c : Int) := by omega
      by_cases h2 : f + (k : Int) < 4294967295
      · have hb1 : -9223372036854775808 ≤ f + (k : Int) := by omega
        have HS := Lib.hid (folN_succ f k)
        have HE : Hid (f + (k : Int) + 1 = f + ((k + 1 : Nat) : Int)) := Lib.hid (by omega)
        have HK2 : Hid (∀ i : Nat, i < k + 1 → f + i < 4294967295) := Lib.hid (fun i hi => by
          by_cases e : i = k
          · subst e; exact h2
          · exact HK.out i (by omega))
        have HL : Hid ((folN f k).length + 1 ≤ 17592186044416) := Lib.hid (by rw [folN_length]; omega)
        generalize f + (k : Int) = x at *
        go_wp2_with (at_builtin; refine appI rfl _ _ rfl x HO.out rfl rfl HL.out ?_; intro v3 w3 ho3; have HO3 := Lib.hid ho3; clear ho3)
        go_roundw
        case rel => exact ⟨k + 1, by omega, by rw [HE.out], by rw [HS.out]; exact HO3.out, HK2⟩
        case measure =>
          have h7 := HO3.out.row
          rw [List.length_append, folN_length] at h7
          obtain ⟨a7, k7, hv7⟩ := ownsRow_shape h7
          subst hv7
          simp
          omega
      · have HR := Lib.hid (HFE.out k f hk HK.out (.inr (by omega)))
        go_wp2_with fail
        go_ret
        exact ⟨_, rfl, by rw [HR.out]; exact HO.out⟩
    · have h1i : ¬ (k : Int) < (c : Int) := by omega
      have HR := Lib.hid (HFE.out k f hk HK.out (.inl (by omega)))
      go_wp2_with fail
      go_ret
      exact ⟨_, rfl, by rw [HR.out]; exact HO.out⟩
theorem take_snocE (R : List RE) (k : Nat) (hk : k < R.length) : R.take (k + 1) = R.take k ++ [R.getD k RE0] := by
  rw [List.take_succ_eq_append_getElem hk]; simp [hk]
def pickU (p : RE → Bool) (R : List RE) : List Int := uidR (R.filter p)
theorem pickU_snoc (p : RE → Bool) (R : List RE) (r : RE) : pickU p (R ++ [r]) = pickU p R ++ (if p r = true then [r.uid] else []) := by
  unfold pickU uidR
  rw [List.filter_append, List.map_append]
  congr 1
  by_cases h : p r = true
  · rw [if_pos h, List.filter_cons_of_pos h]; rfl
  · rw [if_neg h, List.filter_cons_of_neg h]; rfl
theorem pickU_length (p : RE → Bool) (R : List RE) : (pickU p R).length ≤ R.length := by
  unfold pickU; rw [uidR_length]; exact List.length_filter_le _ _
section
variable {P : Nat} {val : Int} {rv cv : Value} {R : List RE} {C : List Int} {w : World} {N : Nat}
set_option maxRecDepth 100000 in
set_option maxHeartbeats 2000000 in
theorem uidsF_any (g : Nat) (eg : ∀ args w, (callFunc g args).run Try.prog w = .ok (.enter g args) w) (p : RE → Bool) (h : VAt P val rv cv R C w) (hR : R.length ≤ 1000000)
    (hp : ∀ (r : RE) (o : Option Addr) (X : World), r.ptr = .pointer o → Calls Try.prog g #[.agg #[.int .i64 r.uid, .bool r.gone, .bool r.rct, .pointer o]] X fun e w' => e = .returned (.bool (p r)) ∧ Below X.heap.size X w') :
    Calls Try.prog 25 #[.pointer (some ⟨P, 0, none⟩), .func (.func g) #[] #[]] w fun e w' => ∃ v', e = .returned v' ∧ OwnI w.heap.size v' (pickU p R) w w' := by
  have c2 := h.cells.c2
  obtain ⟨a2, k2, hv2, hcs2⟩ := rws_of h.rows
  subst hv2
  have HC := Lib.hid hcs2
  have HP := Lib.hid hp
  have HEg := Lib.hid eg
  clear h hcs2 hp
  go_enter Try.func25, Try.ntmps25
  go_wp2
  go_loopw [5, 13] (fun v5 i wr => ∃ k : Nat, k ≤ R.length ∧ i = .int .i64 k ∧ OwnI w.heap.size v5 (pickU p (R.take k)) w wr) (fun _ i _ => R.length - (intOf i).toNat)
  case atStart => exact ⟨0, Nat.zero_le _, rfl, OwnI.nil (Below.refl _ _) (Nat.le_refl _)⟩
  case round =>
    clear c2
    obtain ⟨k, hk, rfl, hO⟩ := hrel
    by_cases hlt : k < R.length
    · have hlti : (k : Int) < (R.length : Int) := by omega
      obtain ⟨b, off, rfl, hb, hcc⟩ := HC.out (by omega)
      obtain ⟨c4, c5, c6, c7⟩ := hcc k hlt
      rw [← hO.below.cell (p := ⟨b, off + k * 4, none⟩) hb] at c4
      rw [← hO.below.cell (p := ⟨b, off + k * 4 + 1, none⟩) hb] at c5
      rw [← hO.below.cell (p := ⟨b, off + k * 4 + 2, none⟩) hb] at c6
      rw [← hO.below.cell (p := ⟨b, off + k * 4 + 3, none⟩) hb] at c7
      have HS : Hid (pickU p (R.take (k + 1)) = pickU p (R.take k) ++ (if p (R.getD k RE0) = true then [(R.getD k RE0).uid] else [])) := Lib.hid (by rw [take_snocE R k hlt, pickU_snoc])
      have hpl := pickU_length p (R.take k)
      rw [List.length_take] at hpl
      obtain ⟨yo, hyo⟩ : ∃ yo, (R.getD k RE0).ptr = .pointer yo := ⟨_, rfl⟩
      have HPk := Lib.hid (fun X => HP.out (R.getD k RE0) yo X hyo)
      rw [hyo] at c7
      have HO := Lib.hid hO
      clear hcc hyo hO
      generalize (R.getD k RE0).uid = x at *
      generalize (R.getD k RE0).gone = yg at *
      generalize (R.getD k RE0).rct = yr at *
      generalize p (R.getD k RE0) = pp at *
      generalize pickU p (R.take k) = D at *
      have HZ : Hid (∀ w2, Below (wr.alloc (.cells #[.int .i64 x, .bool yg, .bool yr, .pointer yo] 75)).heap.size (wr.alloc (.cells #[.int .i64 x, .bool yg, .bool yr, .pointer yo] 75)) w2 → w2.cell? ⟨wr.heap.size, 0, none⟩ = some (.int .i64 x)) := Lib.hid (fun w2 hb2 => by
        have hn : (wr.alloc (.cells #[.int .i64 x, .bool yg, .bool yr, .pointer yo] 75)).heap[wr.heap.size]? = some (.cells #[.int .i64 x, .bool yg, .bool yr, .pointer yo] 75 (0, 0)) := heap_alloc_new wr _
        rw [hb2.cell (p := ⟨wr.heap.size, 0, none⟩) (by simp), cell_of hn 0]
        rfl)
      cases pp with
      | true =>
        go_wp2_with (first | (go_at_fn g; refine (HPk.out _).mono ?_; rintro e w2 ⟨rfl, hb2⟩; have HO2 := Lib.hid ((HO.out.alloc (.cells #[.int .i64 x, .bool yg, .bool yr, .pointer yo] 75)).on hb2); have cz := HZ.out _ hb2; clear hb2) | (at_builtin; refine appI rfl _ _ rfl x HO2.out rfl rfl (by omega) ?_; intro v3 w3 ho3; have HO3 := Lib.hid ho3; clear ho3))
        go_roundw
        case rel => exact ⟨k + 1, by omega, by go_num, by rw [HS.out]; exact HO3.out⟩
        case measure => simp [intOf]; omega
      | false =>
        go_wp2_with (go_at_fn g; refine (HPk.out _).mono ?_; rintro e w2 ⟨rfl, hb2⟩; have HO2 := Lib.hid ((HO.out.alloc (.cells #[.int .i64 x, .bool yg, .bool yr, .pointer yo] 75)).on hb2); clear hb2)
        go_roundw
        case rel => exact ⟨k + 1, by omega, by go_num, by rw [HS.out]; simpa using HO2.out⟩
        case measure => simp [intOf]; omega
    · obtain rfl : k = R.length := by omega
      rw [List.take_of_length_le (Nat.le_refl _)] at hO
      have HO := Lib.hid hO
      clear hO
      go_wp2
      go_ret
      exact ⟨_, rfl, HO.out⟩
end
end Go.Proofs.Ytiphbnmnoofpkaa
