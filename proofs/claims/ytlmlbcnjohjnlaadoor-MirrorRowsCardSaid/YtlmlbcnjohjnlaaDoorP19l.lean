/- mirror: Resync. -/
import Derived.Test.YtlmlbcnjohjnlaaDoorP19j
import Derived.Test.YtlmlbcnjohjnlaaDoorM19t
import Derived.Test.YtlmlbcnjohjnlaaDoorSh
import Derived.Lib.AppendIntMem
import Derived.Great.BuildSlice
namespace Go.Proofs.YtlmlbcnjohjnlaaDoor
open Go.RowKit

/-- A mirror behind a Resync. -/
def resP (M : PM) (s : PS) : PM :=
  if M.sel = false ∨ M.rows.length = 0 then { M with was := fun _ => none }
  else if s.v ≠ M.v ∨ s.h ≤ 0 then { M with was := fun _ => none }
  else { M with was := remF s }
def ResO (P : Nat) (fr : List Nat) (M' : PM) (w : World) (e : Ending) (w' : World) : Prop := ∃ v, e = .returned v ∧ MG P fr M' w w'
def EnvP (w : World) : Prop := Lib.TabIs Tryd.prog w "internal/strconv.uint64pow10" .u64 Lib.pow10Tab
theorem Tryd.gPow : Tryd.prog.globalNamed "internal/strconv.uint64pow10" = some 0 := by kernel_rfl
theorem tab_on {n : String} {g : Nat} {k : IntKind} {zs : List Int} {w w' : World} (hg : Tryd.prog.globalNamed n = some g) (h : Lib.TabIs Tryd.prog w n k zs) (hb : Below w.heap.size w w') : Lib.TabIs Tryd.prog w' n k zs := by
  unfold Lib.TabIs World.var? at *
  rw [hg] at *
  simp only [Option.bind_some] at *
  have hlt : g < w.heap.size := by
    rcases Nat.lt_or_ge g w.heap.size with k | k
    · exact k
    · rw [Array.getElem?_eq_none k] at h; cases h
  rw [hb.block g hlt]
  exact h
theorem EnvP.on {w w' : World} (h : EnvP w) (hb : Below w.heap.size w w') : EnvP w' := tab_on Tryd.gPow h hb
theorem box_all {Y : World} {b : Nat} {cs : List Value} {t : TypeId} (h : Y.heap[b]? = some (.cells cs.toArray t (0, 0))) : Y.rangeAt b 0 cs := by
  intro j u hj
  rw [cell_of h]
  simpa using hj
theorem set3_box {w : World} {b o1 o2 o3 : Nat} {c : Array Value} {t : TypeId} {v1 v2 v3 : Value} (h : w.heap[b]? = some (.cells c t (0, 0))) (hc : c.size = 49) : ∃ l : List Value, l.length = 49 ∧ (((w.setCell ⟨b, o1, none⟩ v1).setCell ⟨b, o2, none⟩ v2).setCell ⟨b, o3, none⟩ v3).heap[b]? = some (.cells l.toArray t (0, 0)) := by
  rw [heap_setCell_at _ (heap_setCell_at _ (heap_setCell_at _ h))]
  exact ⟨(((c.setIfInBounds o1 v1).setIfInBounds o2 v2).setIfInBounds o3 v3).toList, by simp [hc], by rw [Array.toArray_toList]⟩
/-- What is looked at in a command's cells. -/
structure CmF (c : Array Value) : Prop where
  size : c.size = 49
  one : c.all (·.oneCell') = true
  c2 : c[2]? = some (.bool false)
  c16 : c[16]? = some (.bool false)
  c17 : c[17]? = some (.string ⟨#[]⟩)
theorem cmF (gs : Nat) (ia : Option Addr) (n ic : Nat) : CmF (cmC ⟨#[]⟩ 21 false (.slice (some ⟨gs, 0, none⟩) 1 1) (.slice ia n ic)) := ⟨rfl, by simp [cmC, Value.oneCell'], rfl, rfl, rfl⟩
def FetF (w : World) (e : Ending) (w' : World) : Prop := ∃ c : Array Value, e = .returned (.agg c) ∧ Hid (CmF c) ∧ Below w.heap.size w w'
theorem FetF.of {ks : List Int} {w : World} {e : Ending} {w' : World} (h : FetchOut ks w e w') : FetF w e w' := by
  obtain ⟨gs, ia, ic, rfl, hb, _⟩ := h
  exact ⟨_, rfl, Lib.hid (cmF gs ia _ ic), hb⟩
theorem bs_two {c3 : Array Value} {l2 : List Value} (h3 : c3.size = 49) (h2 : l2.length = 49) : ∃ (cells : Array Value) (ie : TypeInfo) (z : Value), Tryd.prog.info? 38 = some ie ∧ ie.zero = some z ∧ ¬ 2 * ie.size > 2 ^ 24 ∧ ¬ 2 * ie.size = 0 ∧ Instr.fill (fun i => some (i * ie.size, ie.size)) ((Array.range (2 * ie.size)).map (z.cells[· % z.cells.size]!)) [(0, .agg c3), (1, .agg l2.toArray)] = some cells := by
  have hz : ((Tryd.prog.info? 38).bind (·.zero)).isSome = true := by kernel_rfl
  have hs := Tryd.sizeCm
  cases hie : Tryd.prog.info? 38 with
  | none => rw [hie] at hz; cases hz
  | some ie =>
    rw [hie] at hz hs
    obtain ⟨z, hzz⟩ := Option.isSome_iff_exists.1 hz
    have hsz : ie.size = 49 := by simpa using hs
    have f2 : ∀ (l : List (Value × Nat)) (A : Array Value) (o : Nat), (l.foldl (fun cs (c, j) => cs.setIfInBounds (o + j) c) A).size = A.size := by
      intro l
      induction l with
      | nil => intro A o; rfl
      | cons x l ih => intro A o; rw [List.foldl_cons, ih]; simp
    obtain ⟨A, hA⟩ : ∃ A, (Array.range (2 * 49)).map (z.cells[· % z.cells.size]!) = A := ⟨_, rfl⟩
    have hAs : A.size = 98 := by rw [← hA]; simp
    have step : ∀ (A : Array Value) (i : Nat) (v : Value) (rest : List (Nat × Value)), v.cells.size = 49 → i * 49 + 49 ≤ A.size → ∃ B : Array Value, B.size = A.size ∧ Instr.fill (fun i => some (i * 49, 49)) A ((i, v) :: rest) = Instr.fill (fun i => some (i * 49, 49)) B rest := by
      intro A i v rest hv hA
      refine ⟨v.cells.zipIdx.foldl (fun cs (c, j) => cs.setIfInBounds (i * 49 + j) c) A, by rw [← Array.foldl_toList]; exact f2 _ _ _, ?_⟩
      rw [Instr.fill]
      exact if_neg (by simp [hv]; omega)
    obtain ⟨B1, s1, e1⟩ := step A 0 (.agg c3) [(1, .agg l2.toArray)] h3 (by omega)
    obtain ⟨B2, s2, e2⟩ := step B1 1 (.agg l2.toArray) [] (by simpa [Value.cells] using h2) (by omega)
    have hcs : Instr.fill (fun i => some (i * 49, 49)) A [(0, .agg c3), (1, .agg l2.toArray)] = some B2 := by
      rw [e1, e2]
      rfl
    exact ⟨B2, ie, z, rfl, by simpa using hzz, by omega, by omega, by rw [hsz, hA]; exact hcs⟩
theorem Itoa_ok (n : Int) (h0 : -9223372036854775808 ≤ n) (h1 : n ≤ 9223372036854775807) (w : World) (he : EnvP w) :
    Calls Tryd.prog 24 #[.int .i64 n] w fun e w' => (∃ t, e = .returned (.string t)) ∧ Below w.heap.size w w' := by
  refine (Tryd.strconv_Itoa n h0 h1 w he).mono ?_
  rintro e w' ⟨rfl, k, os, rfl⟩
  exact ⟨⟨_, rfl⟩, Lib.below_grow _ w (Nat.le_refl _) k os⟩
theorem mg_p {P : Nat} {fr : List Nat} {M : PM} {w Y X : World} (hat : MAt P fr M Y) (hs : Stays [P] w Y) (hp : P ∈ fr) (hb : Below Y.heap.size Y X) : MG P fr M w X :=
  ⟨fr, hat.bel hb, ((hs.mono (fun b e => by simp at e; exact e ▸ hp)).trans (Stays.ofBelow (fp := fr) hb) (fun _ e => .inl e)), fun _ e => .inl e⟩
theorem gather {B : Nat} {X : World} {f : Int → Option (List ByteArray)} : ∀ (F : List WE), (∀ e ∈ F, ∃ l, StrsNew B X e.fv l ∧ f e.uid = some l) → ∃ nb, (∀ e ∈ F, ∃ l, StrsIn nb X e.fv l ∧ f e.uid = some l) ∧ ∀ b, b ∈ nb → B ≤ b ∧ b < X.heap.size
  | [], _ => ⟨[], fun e he => by (cases he), fun b hb => by cases hb⟩
  | e :: F, h => by
    obtain ⟨nb, h1, h2⟩ := gather F (fun e' he => h e' (by simp [he]))
    obtain ⟨l, ⟨nb', h3, h4⟩, h5⟩ := h e (by simp)
    refine ⟨nb ++ nb', fun e' he => ?_, fun b hb => ?_⟩
    · rcases List.mem_cons.1 he with rfl | he
      · exact ⟨l, h3.on (fun _ _ => rfl) (fun b hb => by simp [hb]), h5⟩
      · obtain ⟨l', k1, k2⟩ := h1 e' he
        exact ⟨l', k1.on (fun _ _ => rfl) (fun b hb => by simp [hb]), k2⟩
    · rcases List.mem_append.1 hb with hb | hb
      · exact h2 b hb
      · obtain ⟨k1, cs, fz, k2⟩ := h4 b hb
        exact ⟨k1, lt_of_heap k2⟩
set_option maxRecDepth 20000 in
set_option maxHeartbeats 4000000 in
theorem resync_no (P : Nat) (fr : List Nat) (M : PM) (ws : Bool) (wv wn wh : Int) (ua fa ka : Option Addr) (un fn kn uc fc kc : Nat) (w : World) (h : MAt P fr M w) (hs : M.sel = false) : Calls Tryd.prog 10 #[.pointer (some ⟨P, 0, none⟩), .agg #[.bool ws, .int .i64 wv, .int .i64 wn, .int .i64 wh, .slice ua un uc, .slice fa fn fc, .slice ka kn kc]] w (ResO P fr { M with was := fun _ => none } w) := by
  obtain ⟨q, rows, was, hM, hQ, hR, hWs⟩ := h.ex
  obtain ⟨rs, hr1, hr2, hr3⟩ := hR
  obtain ⟨ra, rc, rfl⟩ := hr1.shape
  obtain ⟨Y0, hY0⟩ : ∃ Y, w.alloc (.cells #[.bool ws, .int .i64 wv, .int .i64 wn, .int .i64 wh, .slice ua un uc, .slice fa fn fc, .slice ka kn kc] 47) = Y := ⟨_, rfl⟩
  have b0 : Below w.heap.size w Y0 := by rw [← hY0]; exact (Below.refl _ _).alloc (Nat.le_refl _) _
  have rS : Y0.heap[w.heap.size]? = some (.cells #[.bool ws, .int .i64 wv, .int .i64 wn, .int .i64 wh, .slice ua un uc, .slice fa fn fc, .slice ka kn kc] 47 (0, 0)) := by rw [← hY0]; exact heap_new _ _
  have yM := bel_at b0 (lt_of_heap hM) hM
  have hPw := lt_of_heap hM
  obtain ⟨Y1, hY1⟩ : ∃ Y, Y0.setCell ⟨P, 6, none⟩ (.map none) = Y := ⟨_, rfl⟩
  have c6 := (mir_cells yM).c6
  have f6 := mir_fz yM 6
  have M1 : Y1.heap[P]? = some (mirO q M.sel M.v M.n M.h (.slice ra M.rows.length rc) (.map none) M.bg) := by rw [← hY1]; exact mir_set6 yM _
  have rS1 : Y1.heap[w.heap.size]? = some (.cells #[.bool ws, .int .i64 wv, .int .i64 wn, .int .i64 wh, .slice ua un uc, .slice fa fn fc, .slice ka kn kc] 47 (0, 0)) := by rw [← hY1, Below.heap_setCell _ _ _ _ (by show w.heap.size ≠ P; omega)]; exact rS
  have hbw : ∀ b, b ≠ P → Y1.heap[b]? = Y0.heap[b]? := fun b hb => by rw [← hY1]; exact Below.heap_setCell _ _ _ _ hb
  have s1 : Stays [P] w Y1 := by rw [← hY1]; exact (Stays.ofBelow b0).setCell (.inl (by simp)) _
  have m1 := (mir_cells M1).c1
  have m2 := (mir_cells M1).c2
  have m5 := (mir_cells M1).c5
  have hat : MAt P fr { M with was := fun _ => none } Y1 := by
    have kt : KeepT [75] w Y1 := KeepT.of s1 (fun b hb => by simp at hb; subst hb; exact ⟨_, _, _, hM, by simp⟩)
    exact ⟨⟨q, _, _, M1, hQ.kt kt (by decide) (by decide) (fun _ e => e), RIn.kt ⟨rs, hr1, hr2, hr3⟩ kt (by decide) (by decide) (fun _ e => e), WasIn.nil⟩, h.pin, fun b hb => Nat.lt_of_lt_of_le (h.lt b hb) s1.size⟩
  rw [hs] at m1
  clear hs m5
  have HF := Lib.hid (And.intro hat (And.intro s1 h.pin))
  have HY0 := Lib.hid hY0
  have HY1 := Lib.hid hY1
  clear hY0 hY1 b0 rS yM rS1 s1 M1 hM hPw hat hbw hQ hr1 hr2 hr3 hWs h m2
  go_enter Tryd.func10, Tryd.ntmps10
  go_upto_region 3 with fail
  rw [HY0.out]
  go_upto_region 4 with fail
  rw [HY1.out]
  clear HY0 HY1 c6 f6
  go_wp2_with fail
  go_ret
  exact ⟨_, rfl, mg_p HF.out.1 HF.out.2.1 HF.out.2.2 (Below.refl _ _)⟩
set_option maxRecDepth 20000 in
set_option maxHeartbeats 4000000 in
theorem resync_empty (P : Nat) (fr : List Nat) (M : PM) (ws : Bool) (wv wn wh : Int) (ua fa ka : Option Addr) (un fn kn uc fc kc : Nat) (w : World) (h : MAt P fr M w) (hs : M.sel = true) (hl : M.rows.length = 0) : Calls Tryd.prog 10 #[.pointer (some ⟨P, 0, none⟩), .agg #[.bool ws, .int .i64 wv, .int .i64 wn, .int .i64 wh, .slice ua un uc, .slice fa fn fc, .slice ka kn kc]] w (ResO P fr { M with was := fun _ => none } w) := by
  obtain ⟨q, rows, was, hM, hQ, hR, hWs⟩ := h.ex
  obtain ⟨rs, hr1, hr2, hr3⟩ := hR
  obtain ⟨ra, rc, rfl⟩ := hr1.shape
  obtain ⟨Y0, hY0⟩ : ∃ Y, w.alloc (.cells #[.bool ws, .int .i64 wv, .int .i64 wn, .int .i64 wh, .slice ua un uc, .slice fa fn fc, .slice ka kn kc] 47) = Y := ⟨_, rfl⟩
  have b0 : Below w.heap.size w Y0 := by rw [← hY0]; exact (Below.refl _ _).alloc (Nat.le_refl _) _
  have rS : Y0.heap[w.heap.size]? = some (.cells #[.bool ws, .int .i64 wv, .int .i64 wn, .int .i64 wh, .slice ua un uc, .slice fa fn fc, .slice ka kn kc] 47 (0, 0)) := by rw [← hY0]; exact heap_new _ _
  have yM := bel_at b0 (lt_of_heap hM) hM
  have hPw := lt_of_heap hM
  obtain ⟨Y1, hY1⟩ : ∃ Y, Y0.setCell ⟨P, 6, none⟩ (.map none) = Y := ⟨_, rfl⟩
  have c6 := (mir_cells yM).c6
  have f6 := mir_fz yM 6
  have M1 : Y1.heap[P]? = some (mirO q M.sel M.v M.n M.h (.slice ra M.rows.length rc) (.map none) M.bg) := by rw [← hY1]; exact mir_set6 yM _
  have rS1 : Y1.heap[w.heap.size]? = some (.cells #[.bool ws, .int .i64 wv, .int .i64 wn, .int .i64 wh, .slice ua un uc, .slice fa fn fc, .slice ka kn kc] 47 (0, 0)) := by rw [← hY1, Below.heap_setCell _ _ _ _ (by show w.heap.size ≠ P; omega)]; exact rS
  have hbw : ∀ b, b ≠ P → Y1.heap[b]? = Y0.heap[b]? := fun b hb => by rw [← hY1]; exact Below.heap_setCell _ _ _ _ hb
  have s1 : Stays [P] w Y1 := by rw [← hY1]; exact (Stays.ofBelow b0).setCell (.inl (by simp)) _
  have m1 := (mir_cells M1).c1
  have m2 := (mir_cells M1).c2
  have m5 := (mir_cells M1).c5
  have hat : MAt P fr { M with was := fun _ => none } Y1 := by
    have kt : KeepT [75] w Y1 := KeepT.of s1 (fun b hb => by simp at hb; subst hb; exact ⟨_, _, _, hM, by simp⟩)
    exact ⟨⟨q, _, _, M1, hQ.kt kt (by decide) (by decide) (fun _ e => e), RIn.kt ⟨rs, hr1, hr2, hr3⟩ kt (by decide) (by decide) (fun _ e => e), WasIn.nil⟩, h.pin, fun b hb => Nat.lt_of_lt_of_le (h.lt b hb) s1.size⟩
  rw [hs] at m1
  rw [hl] at m5
  clear hs hl
  have HF := Lib.hid (And.intro hat (And.intro s1 h.pin))
  have HY0 := Lib.hid hY0
  have HY1 := Lib.hid hY1
  clear hY0 hY1 b0 rS yM rS1 s1 M1 hM hPw hat hbw hQ hr1 hr2 hr3 hWs h m2
  go_enter Tryd.func10, Tryd.ntmps10
  go_upto_region 3 with fail
  rw [HY0.out]
  go_upto_region 4 with fail
  rw [HY1.out]
  clear HY0 HY1 c6 f6
  go_wp2_with fail
  go_ret
  exact ⟨_, rfl, mg_p HF.out.1 HF.out.2.1 HF.out.2.2 (Below.refl _ _)⟩
end Go.Proofs.YtlmlbcnjohjnlaaDoor

/- mirror: Resync, of a sight as of now. -/
namespace Go.Proofs.YtlmlbcnjohjnlaaDoor
open Go.RowKit

set_option maxRecDepth 20000 in
set_option maxHeartbeats 4000000 in
theorem resync_near (P : Nat) (fr : List Nat) (M : PM) (ws : Bool) (wv wn wh : Int) (ua fa ka : Option Addr) (un fn kn uc fc kc : Nat) (W w : World) (h : MAt P fr M w) (hW : Below W.heap.size W w) (hfr : ∀ b, b ∈ fr → W.heap.size ≤ b) (he : EnvP W) (s : PS) (_hsv : s.v = wv ∧ s.h = wh) (hwh : wh ≤ 9223372036854775807) (hsi : SiA W (.slice ua un uc) (.slice fa fn fc) (.slice ka kn kc) s) (hs : M.sel = true) (hl : ¬ M.rows.length = 0) (hv : wv = M.v) (hh : ¬ wh ≤ 0) : Calls Tryd.prog 10 #[.pointer (some ⟨P, 0, none⟩), .agg #[.bool ws, .int .i64 wv, .int .i64 wn, .int .i64 wh, .slice ua un uc, .slice fa fn fc, .slice ka kn kc]] w (ResO P fr { M with was := remF s } w) := by
  obtain ⟨q, rows, was, hM, hQ, hR, hWs⟩ := h.ex
  obtain ⟨rs, hr1, hr2, hr3⟩ := hR
  obtain ⟨ra, rc, rfl⟩ := hr1.shape
  obtain ⟨Y0, hY0⟩ : ∃ Y, w.alloc (.cells #[.bool ws, .int .i64 wv, .int .i64 wn, .int .i64 wh, .slice ua un uc, .slice fa fn fc, .slice ka kn kc] 47) = Y := ⟨_, rfl⟩
  have b0 : Below w.heap.size w Y0 := by rw [← hY0]; exact (Below.refl _ _).alloc (Nat.le_refl _) _
  have rS : Y0.heap[w.heap.size]? = some (.cells #[.bool ws, .int .i64 wv, .int .i64 wn, .int .i64 wh, .slice ua un uc, .slice fa fn fc, .slice ka kn kc] 47 (0, 0)) := by rw [← hY0]; exact heap_new _ _
  have yM := bel_at b0 (lt_of_heap hM) hM
  have hPw := lt_of_heap hM
  obtain ⟨Y1, hY1⟩ : ∃ Y, Y0.setCell ⟨P, 6, none⟩ (.map none) = Y := ⟨_, rfl⟩
  have c6 := (mir_cells yM).c6
  have f6 := mir_fz yM 6
  have M1 : Y1.heap[P]? = some (mirO q M.sel M.v M.n M.h (.slice ra M.rows.length rc) (.map none) M.bg) := by rw [← hY1]; exact mir_set6 yM _
  have rS1 : Y1.heap[w.heap.size]? = some (.cells #[.bool ws, .int .i64 wv, .int .i64 wn, .int .i64 wh, .slice ua un uc, .slice fa fn fc, .slice ka kn kc] 47 (0, 0)) := by rw [← hY1, Below.heap_setCell _ _ _ _ (by show w.heap.size ≠ P; omega)]; exact rS
  have hbw : ∀ b, b ≠ P → Y1.heap[b]? = Y0.heap[b]? := fun b hb => by rw [← hY1]; exact Below.heap_setCell _ _ _ _ hb
  have s1 : Stays [P] w Y1 := by rw [← hY1]; exact (Stays.ofBelow b0).setCell (.inl (by simp)) _
  have m1 := (mir_cells M1).c1
  have m2 := (mir_cells M1).c2
  have m5 := (mir_cells M1).c5
  have hat : MAt P fr { M with was := fun _ => none } Y1 := by
    have kt : KeepT [75] w Y1 := KeepT.of s1 (fun b hb => by simp at hb; subst hb; exact ⟨_, _, _, hM, by simp⟩)
    exact ⟨⟨q, _, _, M1, hQ.kt kt (by decide) (by decide) (fun _ e => e), RIn.kt ⟨rs, hr1, hr2, hr3⟩ kt (by decide) (by decide) (fun _ e => e), WasIn.nil⟩, h.pin, fun b hb => Nat.lt_of_lt_of_le (h.lt b hb) s1.size⟩
  rw [hs] at m1
  have hrn : ((M.rows.length : Int) == 0) = false := by rw [beq_eq_false_iff_ne]; omega
  have hPW : W.heap.size ≤ P := hfr P h.pin
  have e : ∀ (X : World), X.heap[w.heap.size]? = some (.cells #[.bool ws, .int .i64 wv, .int .i64 wn, .int .i64 wh, .slice ua un uc, .slice fa fn fc, .slice ka kn kc] 47 (0, 0)) → X.cell? ⟨w.heap.size, 1, none⟩ = some (.int .i64 wv) ∧ X.cell? ⟨w.heap.size, 3, none⟩ = some (.int .i64 wh) := fun X hX => ⟨cell_of hX 1, cell_of hX 3⟩
  obtain ⟨e1, e3⟩ := e Y1 rS1
  have hW1 : Below W.heap.size W Y1 := by
    have k := hW.trans (b0.mono hW.size)
    exact ⟨s1.os.trans hW.os, s1.tape.trans hW.tape, s1.output.trans hW.output, Nat.le_trans hW.size s1.size, fun b hb => by rw [hbw b (by omega)]; exact k.block b hb⟩
  have d1 : (wv != M.v) = false := by simp [hv]
  have d2 : decide (wh ≤ 0) = false := by simpa using hh
  -- the sight's box and the mirror, from here on
  have HSB : Hid (∀ X, Below Y1.heap.size Y1 X → X.heap[w.heap.size]? = some (.cells #[.bool ws, .int .i64 wv, .int .i64 wn, .int .i64 wh, .slice ua un uc, .slice fa fn fc, .slice ka kn kc] 47 (0, 0))) := Lib.hid (fun X hX => bel_at hX (lt_of_heap rS1) rS1)
  have HSA : Hid (∀ X, Below Y1.heap.size Y1 X → SiA X (.slice ua un uc) (.slice fa fn fc) (.slice ka kn kc) s) := Lib.hid (fun X hX => hsi.on (hW1.trans (hX.mono hW1.size)))
  have HMA : Hid (∀ X, Below Y1.heap.size Y1 X → MAt P fr { M with was := fun _ => none } X) := Lib.hid (fun X hX => hat.bel hX)
  have HEn : Hid (∀ X X2, Below Y1.heap.size Y1 X → Stays [P] X X2 → EnvP X2) := Lib.hid (fun X X2 hX h2 => by
    have k := hW1.trans (hX.mono hW1.size)
    exact he.on ⟨h2.os.trans k.os, h2.tape.trans k.tape, h2.output.trans k.output, Nat.le_trans k.size h2.size, fun b hb => by rw [h2.block b (Nat.lt_of_lt_of_le hb k.size) (by simp; omega)]; exact k.block b hb⟩)
  have HY0 := Lib.hid hY0
  have HY1 := Lib.hid hY1
  have HS1 := Lib.hid (And.intro s1 (And.intro h.pin h.lt))
  have HZw : Hid (w.heap.size < Y1.heap.size ∧ w.heap.size ≠ P) := Lib.hid ⟨lt_of_heap rS1, by omega⟩
  have hwh0 : ¬ wh ≤ 0 := hh
  clear hY0 hY1 b0 rS yM rS1 s1 M1 hM hPw hat hbw hQ hr1 hr2 hr3 hWs h hs hl hv hW hfr he hsi hPW hW1 e
  go_enter Tryd.func10, Tryd.ntmps10
  go_upto_region 3 with fail
  rw [HY0.out]
  go_upto_region 4 with fail
  rw [HY1.out]
  clear HY0 HY1 c6 f6
  go_upto_region 6 with fail
  go_quiet (fail)
  have hZ0 : Below Y1.heap.size Y1 (Y1.drewN nq) := ⟨rfl, rfl, rfl, Nat.le_refl _, fun _ _ => rfl⟩
  generalize Y1.drewN nq = Z at *
  have HZ := Lib.hid hZ0
  have HRG : Hid (Z.rangeAt w.heap.size 0 [.bool ws, .int .i64 wv, .int .i64 wn, .int .i64 wh, .slice ua un uc, .slice fa fn fc, .slice ka kn kc]) := Lib.hid (box_range (z := 7) (cs := [.bool ws, .int .i64 wv, .int .i64 wn, .int .i64 wh, .slice ua un uc, .slice fa fn fc, .slice ka kn kc]) (HSB.out Z hZ0) 0)
  have HRm := Lib.hid (remembered_any ws wv wn wh _ _ _ s Z (HSA.out Z hZ0))
  clear hZ0 m1 m2 m5 e1 e3 d1 d2
  go_upto_region 9 with (first | (refine wpList_load_mid rfl 47 _ rfl w.heap.size 0 rfl [.bool ws, .int .i64 wv, .int .i64 wn, .int .i64 wh, .slice ua un uc, .slice fa fn fc, .slice ka kn kc] _ HRG.out Tryd.underlying47 rfl Tryd.sizeSi ?_) | (go_at_call 23; refine HRm.out.mono ?_; rintro e w5 ⟨mm, F, clk, rfl, hmb, hb5, hmp, hrm⟩; have HB5 := Lib.hid (And.intro hmb (And.intro hb5 (And.intro hmp hrm))); (have hmt := HMA.out w5 (HZ.out.trans (hb5.mono HZ.out.size))); (obtain ⟨q5, rows5, was5, hM5, hQ5, hR5, hW5⟩ := hmt.ex); (have g6 := (mir_cells hM5).c6); (have z6 := mir_fz hM5 6); (have HM5 := Lib.hid (And.intro hM5 (And.intro hQ5 (And.intro hR5 hW5)))); clear hmb hb5 hmp hrm hmt hM5 hQ5 hR5 hW5))
  refine wp_gen (fun Z2 hZ2 => ?_)
  -- the mirror remembers
  have hg : ∃ fr', MAt P fr' { M with was := remF s } Z2 ∧ (∀ b, b ∈ fr' → b ∈ fr ∨ w.heap.size ≤ b) ∧ Stays fr w Z2 ∧ EnvP Z2 ∧ Z2.heap[w.heap.size]? = some (.cells #[.bool ws, .int .i64 wv, .int .i64 wn, .int .i64 wh, .slice ua un uc, .slice fa fn fc, .slice ka kn kc] 47 (0, 0)) := by
    obtain ⟨hmb, hb5, hmp, hrm⟩ := HB5.out
    obtain ⟨hM5, hQ5, hR5, _⟩ := HM5.out
    have hY5 := HZ.out.trans (hb5.mono HZ.out.size)
    have hst : Stays [P] w5 Z2 := by rw [hZ2]; exact (Stays.refl _ _).setCell (.inl (by simp)) _
    have kt : KeepT [75] w5 Z2 := KeepT.of hst (fun b hb => by simp at hb; subst hb; exact ⟨_, _, _, hM5, by simp⟩)
    obtain ⟨nb, n1, n2⟩ := gather F hrm.mem
    have hPZ := (HS1.out.2.2 P HS1.out.2.1)
    have hzz := HZw.out
    have hmP : mm ≠ P := by have := HZ.out.size; omega
    have hm2 : Z2.heap[mm]? = some (mpI F clk) := by rw [hZ2, Below.heap_setCell _ _ _ _ (show mm ≠ (⟨P, 6, none⟩ : Addr).block from hmP)]; exact hmp
    have kz := HZ.out.size
    have lo : w.heap.size ≤ Z.heap.size := by omega
    refine ⟨fr ++ (mm :: nb), ⟨⟨q5, rows5, .map (some mm), by rw [hZ2]; exact mir_set6 hM5 _, hQ5.kt kt (by decide) (by decide) (fun b e => by simp [e]), hR5.kt kt (by decide) (by decide) (fun b e => by simp [e]), .inr ⟨mm, clk, F, rfl, by simp, hm2, fun e he => ?_, hrm.out⟩⟩, by simp [HS1.out.2.1], fun b hb => ?_⟩, fun b hb => ?_, ?_, HEn.out w5 Z2 hY5 hst, ?_⟩
    · obtain ⟨l, k1, k2⟩ := n1 e he
      exact ⟨l, k1.kt kt (by decide) (fun b e => by simp [e]), k2⟩
    · simp only [List.mem_append, List.mem_cons] at hb
      rcases hb with hb | rfl | hb
      · have := HS1.out.2.2 b hb; have := hY5.size; have := hst.size; have := HZw.out.1; omega
      · exact lt_of_heap hm2
      · exact Nat.lt_of_lt_of_le (n2 b hb).2 hst.size
    · simp only [List.mem_append, List.mem_cons] at hb
      rcases hb with hb | rfl | hb
      · exact .inl hb
      · exact .inr (Nat.le_trans lo hmb)
      · exact .inr (Nat.le_trans lo (n2 b hb).1)
    · have k1 : Stays fr w Y1 := HS1.out.1.mono (fun b e => by simp at e; exact e ▸ HS1.out.2.1)
      exact (k1.trans (Stays.ofBelow (fp := fr) hY5) (fun _ e => .inl e)).trans (hst.mono (fun b e => by simp at e; exact e ▸ HS1.out.2.1)) (fun _ e => .inl e)
    · rw [hZ2, Below.heap_setCell _ _ _ _ (show w.heap.size ≠ (⟨P, 6, none⟩ : Addr).block from HZw.out.2)]
      exact HSB.out w5 hY5
  obtain ⟨fr', g1, g2, g3, g4, g5⟩ := hg
  have FIN : Hid (∀ X v, Below Z2.heap.size Z2 X → ResO P fr { M with was := remF s } w (.returned v) X) := Lib.hid (fun X v hX => ⟨v, rfl, fr', g1.bel hX, g3.trans (Stays.ofBelow (fp := fr) hX) (fun _ e => .inl e), g2⟩)
  have HE2 : Hid (∀ X, Below Z2.heap.size Z2 X → EnvP X ∧ X.cell? ⟨w.heap.size, 3, none⟩ = some (.int .i64 wh)) := Lib.hid (fun X hX => ⟨g4.on hX, cell_of (bel_at hX (lt_of_heap g5) g5) 3⟩)
  clear hZ2 g1 g2 g3 g4 g5 g6 z6 HB5 HM5 HRG HRm HMA HSB HSA HEn HS1 HZw HZ
  -- the first command
  have HF1 : Hid (∀ Y : World, Calls Tryd.prog 22 #[.slice (some ⟨Y.heap.size, 0, none⟩) 1 1] (Y.alloc (.cells #[.int .i64 1] 3)) (FetF (Y.alloc (.cells #[.int .i64 1] 3)))) := Lib.hid (fun Y => (fetch_any [1] (by simp) Y.heap.size _ (fun j hj => by
    rw [cell_of (heap_new Y _)]
    match j, hj with
    | 0, _ => rfl) (by simp)).mono (fun _ _ k => FetF.of k))
  have HF2 : Hid (∀ Y : World, Calls Tryd.prog 22 #[.slice (some ⟨Y.heap.size, 0, none⟩) 1 1] (Y.alloc (.cells #[.int .i64 2] 3)) (FetF (Y.alloc (.cells #[.int .i64 2] 3)))) := Lib.hid (fun Y => (fetch_any [2] (by simp) Y.heap.size _ (fun j hj => by
    rw [cell_of (heap_new Y _)]
    match j, hj with
    | 0, _ => rfl) (by simp)).mono (fun _ _ k => FetF.of k))
  as_aux_lemma =>
    go_upto_region 10 with (first | (go_at_call 22; refine (HF1.out _).mono ?_; rintro e w6 ⟨c1, rfl, HC1, hb6⟩; have HB6 := Lib.hid hb6; (have HZc : Hid (49 = c1.size) := Lib.hid HC1.out.size.symm); (have HSc : Hid ((Tryd.prog.info? 38).map (·.size) = some c1.size) := Lib.hid (by rw [HC1.out.size]; exact Tryd.sizeCm)); clear hb6) | (refine wpList_store_row rfl 38 _ _ rfl w6.heap.size c1 rfl rfl 38 _ (heap_new _ _) HSc.out HZc.out HC1.out.one ?_))
    refine wp_gen (fun Z5 hZ5 => ?_)
    obtain ⟨b5, k5⟩ := box_below hZ5.symm
    have hz6 : Below Z2.heap.size Z2 w6 := ((Below.refl Z2.heap.size Z2).alloc (Nat.le_refl _) _).trans (HB6.out.mono (by simp))
    have hz5 := hz6.trans (b5.mono hz6.size)
    obtain ⟨en5, c3⟩ := HE2.out Z5 hz5
    have HIt := Lib.hid (Itoa_ok wh (by omega) hwh Z5 en5)
    have HZ5 := Lib.hid (And.intro hz5 hz6.size)
    have HK5 := Lib.hid k5
    clear hZ5 b5 k5 hz6 hz5 en5 HB6 HF1 HE2 HZc HSc
    go_upto_region 11 with (go_at_call 24; refine HIt.out.mono ?_; rintro e w7 ⟨⟨its, rfl⟩, hb7⟩; (have k7 := bel_at hb7 (lt_of_heap HK5.out) HK5.out); (have y2 := (cell_of k7 2).trans HC1.out.c2); (have y16 := (cell_of k7 16).trans HC1.out.c16); (have y17 := (cell_of k7 17).trans HC1.out.c17); (have v2 := frozen_of k7 2); (have v16 := frozen_of k7 16); (have v17 := frozen_of k7 17); have HB7 := Lib.hid (And.intro hb7 k7); clear hb7 k7)
    as_aux_lemma =>
      refine wp_gen (fun Z6 hZ6 => ?_)
      obtain ⟨l2, hl2, k6⟩ : ∃ l : List Value, l.length = 49 ∧ Z6.heap[w6.heap.size]? = some (.cells l.toArray 38 (0, 0)) := by
        rw [hZ6]
        exact set3_box HB7.out.2 HC1.out.size
      have b6 : Below Z2.heap.size Z2 Z6 := by
        have k := HZ5.out.1.trans (HB7.out.1.mono HZ5.out.1.size)
        rw [hZ6]
        exact ((k.setCell HZ5.out.2 _).setCell HZ5.out.2 _).setCell HZ5.out.2 _
      have HXc : Hid (∀ X, Below Z6.heap.size Z6 X → X.rangeAt w6.heap.size 0 l2) := Lib.hid (fun X hX => box_all (bel_at hX (lt_of_heap k6) k6))
      have HL2 := Lib.hid hl2
      have HS2 : Hid ((Tryd.prog.info? 38).map (·.size) = some l2.length) := Lib.hid (by rw [hl2]; exact Tryd.sizeCm)
      have HB6 := Lib.hid b6
      clear hZ6 k6 b6 hl2 y2 y16 y17 v2 v16 v17 c3 HIt HK5 HB7 HZ5
      refine wp_region_N 3 (fun X => Below Z6.heap.size Z6 X) (by kernel_rfl) ?_
      refine wpAnyN_take (i := 2) (oi := { dst := some 61, op := Go.Op.load 38 (Go.Operand.tmp 5), type := 38, pos := "mirror.go:68", after := #[], guard := none }) (oL := { dst := some 62, op := Go.Op.buildSlice 54 2 #[(0, Go.Operand.tmp 60), (1, Go.Operand.tmp 61)], type := 54, pos := "mirror.go:68", after := #[{ on := 1, ground := Go.Ground.data }, { on := 2, ground := Go.Ground.data }], guard := none }) (v := .agg l2.toArray) rfl rfl (by kernel_rfl) (by kernel_rfl) (by kernel_rfl) (by kernel_rfl) (fun _ _ _ h => h) (yieldsIf_load_mid (by kernel_rfl) 38 _ rfl w6.heap.size 0 rfl l2 _ HXc.out Tryd.underlying38 rfl HS2.out) ((Below.refl _ _).drew) ?_
      (try simp only [Act.put, List.setIfInBounds_toArray, List.set_cons_zero, List.set_cons_succ])
      refine wpAnyN_one (i := 0) (o := { dst := some 59, op := Go.Op.buildSlice 36 1 #[(0, Go.Operand.const (Go.Value.int Go.IntKind.i64 2))], type := 36, pos := "mirror.go:68", after := #[], guard := none }) (by kernel_rfl) rfl (fun K hK => ?_)
      go_simp
      refine hK.out _ _ (fun _ => (third_below ((Below.refl _ _).drew) _)) ?_
      clear hK K
      (try simp only [Act.put, List.setIfInBounds_toArray, List.set_cons_zero, List.set_cons_succ])
      refine wpAnyN_one (i := 1) (o := { dst := some 60, op := Go.Op.call { callee := Go.Callee.value (Go.Operand.func 22), args := #[Go.Operand.tmp 59], argTypes := #[36] }, type := 38, pos := "mirror.go:68", after := #[{ on := 0, ground := Go.Ground.data }], guard := none }) (by kernel_rfl) rfl (fun K hK => ?_)
      go_simp
      refine (HF2.out Z6.drew).mono ?_
      rintro e w8 ⟨c3, rfl, HC3, hb8⟩
      have HB8 : Hid (Below Z6.heap.size Z6 w8) := Lib.hid ((third_below ((Below.refl Z6.heap.size Z6).drew) _).trans (hb8.mono (third_below ((Below.refl Z6.heap.size Z6).drew) _).size))
      clear hb8
      refine hK.out _ _ (fun _ => HB8.out) ?_
      clear hK K
      (try simp only [Act.put, List.setIfInBounds_toArray, List.set_cons_zero, List.set_cons_succ])
      refine wpAnyN_one (i := 3) (o := { dst := some 62, op := Go.Op.buildSlice 54 2 #[(0, Go.Operand.tmp 60), (1, Go.Operand.tmp 61)], type := 54, pos := "mirror.go:68", after := #[{ on := 1, ground := Go.Ground.data }, { on := 2, ground := Go.Ground.data }], guard := none }) (by kernel_rfl) rfl (fun K hK => ?_)
      obtain ⟨cs4, ie, z, q1, q2, q3, q4, q5⟩ := bs_two HC3.out.size HL2.out
      refine wp_buildSlice 54 38 2 _ rfl cs4 ie z Tryd.underlying54 q1 q2 q3 q4 (by rw [Array.toList_map]; exact q5) ?_
      refine hK.out _ _ (fun e => absurd (e.symm.trans (by kernel_rfl) : false = true) Bool.false_ne_true) ?_
      clear hK K
      (try simp only [Act.put, List.setIfInBounds_toArray, List.set_cons_zero, List.set_cons_succ])
      refine wpAnyN_of_H (S' := fun _ => True) _ _ _ _ (by kernel_rfl) ?_
      refine wpAnyH_take (i := 4) (oi := { dst := some 4, op := Go.Op.assign (Go.Operand.tmp 62), type := 54, pos := "mirror.go:68", after := #[{ on := 3, ground := Go.Ground.data }, { on := 1, ground := Go.Ground.chain }, { on := 0, ground := Go.Ground.phase }, { on := 1, ground := Go.Ground.phase }, { on := 2, ground := Go.Ground.phase }, { on := 3, ground := Go.Ground.phase }], guard := none }) (v := .slice (some ⟨w8.heap.size, 0, none⟩) 2 2) rfl (by kernel_rfl) (by kernel_rfl) (by kernel_rfl) (fun _ _ _ h => h) (Or.inl ⟨by kernel_rfl, ?_⟩) trivial ?_
      · (intro X hX; go_simp; try (with_reducible rfl))
      (try simp only [Act.put, List.setIfInBounds_toArray, List.set_cons_zero, List.set_cons_succ])
      refine wpAnyH_done (by kernel_rfl) ?_ _
      go_wp2_with fail
      go_ret
      exact FIN.out _ _ (HB6.out.trans ((third_below HB8.out _).mono HB6.out.size))
end Go.Proofs.YtlmlbcnjohjnlaaDoor
