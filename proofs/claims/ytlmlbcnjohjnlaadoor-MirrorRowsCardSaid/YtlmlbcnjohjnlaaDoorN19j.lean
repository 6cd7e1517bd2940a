/- mirror: Hear, whatever the answer changes. -/
import Derived.Test.YtlmlbcnjohjnlaaDoorN19g
import Derived.Test.YtlmlbcnjohjnlaaDoorM19m
import Derived.Test.YtlmlbcnjohjnlaaDoorM19k
namespace Go.Proofs.YtlmlbcnjohjnlaaDoor
open Go.RowKit

/-- A function of this program. -/
def IsFn (n : Nat) : Prop := ∀ (args : Array Value) (W : World), (callFunc n args).run Tryd.prog W = .ok (.enter n args) W
/-- Behind the begin of a new picture, or not. -/
def bgM (bb : Bool) (M : PM) : PM := if bb then { nopM M with bg := true } else M
/-- A mirror behind a call; what it has new is not below B. -/
def MGb (P : Nat) (fr : List Nat) (M : PM) (B : Nat) (X X' : World) : Prop := ∃ fr', MAt P fr' M X' ∧ Stays fr X X' ∧ ∀ b, b ∈ fr' → b ∈ fr ∨ B ≤ b
theorem MG.b {P : Nat} {fr : List Nat} {M : PM} {B : Nat} {X X' : World} (h : MG P fr M X X') (hB : B ≤ X.heap.size) : MGb P fr M B X X' := by
  obtain ⟨fr', h1, h2, h3⟩ := h
  exact ⟨fr', h1, h2, fun b hb => (h3 b hb).imp id (fun e => Nat.le_trans hB e)⟩
theorem MGb.low {P : Nat} {fr : List Nat} {M : PM} {B B' : Nat} {X X' : World} (h : MGb P fr M B X X') (hB : B' ≤ B) : MGb P fr M B' X X' := by
  obtain ⟨fr', h1, h2, h3⟩ := h
  exact ⟨fr', h1, h2, fun b hb => (h3 b hb).imp id (fun e => Nat.le_trans hB e)⟩
/-- What change answers: nothing that could follow, or a function that does it. -/
def ChgOut (P : Nat) (fr : List Nat) (M : PM) (F : Option (PM → PM)) (w : World) (e : Ending) (w' : World) : Prop :=
  Below w.heap.size w w' ∧ match F with
    | none => e = .returned .nilFunc
    | some f => ∃ fn caps, e = .returned (.func (.func fn) #[] caps) ∧ IsFn fn ∧ ∀ bb X, ((bb = true → opnM M = true) ∧ Stays [P] w' X) → Stays fr w' X → MAt P fr (bgM bb M) X → Calls Tryd.prog fn caps X fun e X' => e = .returned (.tuple #[]) ∧ MGb P fr (f (bgM bb M)) w.heap.size X X'
def HearOut (P : Nat) (fr : List Nat) (c : Int) (M : PM) (w : World) (e : Ending) (w' : World) : Prop := e = .returned (.int .i64 c) ∧ MG P fr M w w'
def begB (M : PM) (a : AN) : Bool := opnM M && !M.bg && !ownBad a
theorem mg_stays {P : Nat} {fr : List Nat} {M : PM} {B : Nat} {w X w' : World} (hs : Stays fr w X) (h : MGb P fr M B X w') (hB : w.heap.size ≤ B) : MG P fr M w w' := by
  obtain ⟨fr', h1, h2, h3⟩ := h
  exact ⟨fr', h1, hs.trans h2 (fun _ e => .inl e), fun b hb => (h3 b hb).imp id (fun e => Nat.le_trans hB e)⟩
theorem hand_opn {fr : List Nat} {X : World} {v : Value} {M : PM} (h : QIn fr X v M.q) (hl : M.q.length ≤ 1000000) : ∃ k, Hand X v k ∧ opn k = opnM M ∧ (k.isSome = !M.q.isEmpty) := by
  rcases h.hand (by omega) with ⟨e, hh⟩ | ⟨c, L', k, e, hh, hk⟩
  · exact ⟨none, hh, by simp [opn, opnM, e], by simp [e]⟩
  · exact ⟨some k, hh, by simp [opn, opnM, e, opnA, hk.verb], by simp [e]⟩
theorem begins_M {P : Nat} {fr : List Nat} {M : PM} {X : World} (h : MAt P fr M X) (a : AN) (hq : M.q.length ≤ 1000000) : Calls Tryd.prog 21 #[.pointer (some ⟨P, 0, none⟩), .agg (anC a)] X fun e w' => e = .returned (.bool (begB M a)) ∧ Below X.heap.size X w' := by
  obtain ⟨q, rows, was, hM, hQ, _⟩ := h.ex
  obtain ⟨k, hh, ho, _⟩ := hand_opn hQ hq
  have hm := mir_cells hM
  have := begins_any P q M.bg k a X hm.c0 hm.c7 h.plt hh
  rw [ho] at this
  exact this
set_option maxRecDepth 20000 in
set_option maxHeartbeats 2000000 in
theorem Hear_go_true (P : Nat) (fr : List Nat) (M : PM) (a : AN) (f : PM → PM) (w : World) (h : MAt P fr M w) (hq : M.q.length ≤ 1000000) (hb : begB M a = true)
    (HC0 : Calls Tryd.prog 20 #[.pointer (some ⟨P, 0, none⟩), .agg (anC a)] (w.alloc (anO a)) (ChgOut P fr M (some f) (w.alloc (anO a)))) :
    Calls Tryd.prog 9 #[.pointer (some ⟨P, 0, none⟩), .agg (anC a)] w (HearOut P fr 0 (f (bgM true M)) w) := by
  obtain ⟨Y, hY⟩ : ∃ Y, w.alloc (anO a) = Y := ⟨_, rfl⟩
  rw [hY] at HC0
  have b0 : Below w.heap.size w Y := by rw [← hY]; exact (Below.refl _ _).alloc (Nat.le_refl _) _
  have r1 : Y.heap[w.heap.size]? = some (anO a) := by rw [← hY]; exact heap_new _ _
  have HR1 : Hid (Y.rangeAt w.heap.size 0 (anC a).toList) := Lib.hid (an_range r1)
  have HR0 : Hid (∀ X, Below Y.heap.size Y X → X.rangeAt w.heap.size 0 (anC a).toList) := Lib.hid (fun X hX => an_range (bel_at hX (lt_of_heap r1) r1))
  have HB : Hid (∀ X, Below Y.heap.size Y X → Calls Tryd.prog 21 #[.pointer (some ⟨P, 0, none⟩), .agg (anC a)] X fun e w' => e = .returned (.bool true) ∧ Below X.heap.size X w') := Lib.hid (fun X hX => by
    rw [← hb]
    exact begins_M ((h.bel b0).bel hX) a hq)
  have HMt : Hid (∀ X, Below Y.heap.size Y X → MAt P fr M X) := Lib.hid (fun X hX => (h.bel b0).bel hX)
  have HC := Lib.hid HC0
  have HOp : Hid (opnM M = true) := Lib.hid (by unfold begB at hb; simp only [Bool.and_eq_true] at hb; exact hb.1.1)
  have eqf := Tryd.eqFn3
  have HY := Lib.hid hY
  have HB0 := Lib.hid b0
  clear hY r1 HC0 b0 hb hq h
  unfold anO at HY
  go_enter Tryd.func9, Tryd.ntmps9
  go_upto_region 1 with fail
  rw [HY.out]
  clear HY
  go_upto_region 6 with (first | (refine wpList_load_mid rfl 43 _ rfl w.heap.size 0 rfl _ _ HR1.out Tryd.underlying43 rfl Tryd.sizeAn ?_) | (go_at_call 20; refine HC.out.mono ?_; rintro e w2 ⟨hb2, fn, caps, rfl, hfn, hcl⟩; have HB2 := Lib.hid hb2; have HCl := Lib.hid hcl; have HFn := Lib.hid hfn; clear hb2 hcl hfn))
  have HR2 := Lib.hid (HR0.out _ HB2.out)
  clear HR1 HC HR0
  go_upto_region 7 with (first | (refine wpList_load_mid rfl 43 _ rfl w.heap.size 0 rfl _ _ HR2.out Tryd.underlying43 rfl Tryd.sizeAn ?_) | (go_at_call 21; refine (HB.out _ HB2.out).mono ?_; rintro e w3 ⟨rfl, hd⟩; have HB3 := Lib.hid hd; clear hd))
  have hM3 := HMt.out _ (HB2.out.trans (HB3.out.mono HB2.out.size))
  obtain ⟨q, rows, was, hM, hQ, hR, hW⟩ := hM3.ex
  have m1 := (mir_cells hM).c1
  have m2 := (mir_cells hM).c2
  have m3 := (mir_cells hM).c3
  have m4 := (mir_cells hM).c4
  have m5 := (mir_cells hM).c5
  have m6 := (mir_cells hM).c6
  have m7 := (mir_cells hM).c7
  have fz := mir_fz hM
  have HM := Lib.hid hM
  have HM3 := Lib.hid hM3
  have HQ := Lib.hid hQ
  clear hM hM3 hQ hR hW HB HR2 HMt
  go_upto_region 8 with fail
  clear m1 m2 m3 m4 m5 m6 m7 fz
  refine wp_gen (fun Z hZ => ?_)
  have zs : Stays [P] w3 Z := by
    rw [hZ]
    have sp : ∀ (X : World), Stays [P] w3 X → ∀ (o : Nat) (u : Value), Stays [P] w3 (X.setCell ⟨P, o, none⟩ u) := fun X hX o u => hX.setCell (.inl (by simp)) u
    exact sp _ (sp _ (sp _ (sp _ (sp _ (sp _ (sp _ (Stays.refl _ _) _ _) _ _) _ _) _ _) _ _) _ _) _ _
  have zm : Z.heap[P]? = some (mirO q false 0 0 0 (.slice none 0 0) (.map none) true) := by
    rw [hZ]
    have k := HM.out
    unfold mirO mirC at k ⊢
    rw [heap_setCell_at _ (heap_setCell_at _ (heap_setCell_at _ (heap_setCell_at _ (heap_setCell_at _ (heap_setCell_at _ (heap_setCell_at _ k))))))]
    rfl
  have zM : MAt P fr (bgM true M) Z := ⟨⟨q, _, _, zm, HQ.out.kt (KeepT.of (ts := [75]) zs (fun b hb => by simp at hb; subst hb; exact ⟨_, _, _, HM.out, by simp⟩)) (by decide) (by decide) (fun _ e => e), RIn.nil, WasIn.nil⟩, HM3.out.pin, fun b hb => Nat.lt_of_lt_of_le (HM3.out.lt b hb) zs.size⟩
  have zS : Stays fr w2 Z := (Stays.ofBelow HB3.out).trans zs (fun b hb => by simp at hb; subst hb; exact .inl HM3.out.pin)
  have HC := Lib.hid (HCl.out true Z ⟨fun _ => HOp.out, (Stays.ofBelow (fp := [P]) HB3.out).trans zs (fun b hb => .inl hb)⟩ zS zM)
  have HZ : Hid (Stays fr w Z) := Lib.hid ((Stays.ofBelow HB0.out).trans ((Stays.ofBelow (fp := fr) HB2.out).trans zS (fun b hb => .inl hb)) (fun b hb => .inl hb))
  clear hZ zs zm zM zS HM HM3 HQ HCl
  have hcf := HFn.out caps
  go_wp2_with fail
  refine HC.out.mono ?_
  rintro e w5 ⟨rfl, hg⟩
  have HG := Lib.hid hg
  clear hg hcf
  go_wp2_with fail
  go_ret
  exact ⟨rfl, mg_stays HZ.out HG.out HB0.out.size⟩
set_option maxRecDepth 20000 in
set_option maxHeartbeats 2000000 in
theorem Hear_go_false (P : Nat) (fr : List Nat) (M : PM) (a : AN) (f : PM → PM) (w : World) (h : MAt P fr M w) (hq : M.q.length ≤ 1000000) (hb : begB M a = false)
    (HC0 : Calls Tryd.prog 20 #[.pointer (some ⟨P, 0, none⟩), .agg (anC a)] (w.alloc (anO a)) (ChgOut P fr M (some f) (w.alloc (anO a)))) :
    Calls Tryd.prog 9 #[.pointer (some ⟨P, 0, none⟩), .agg (anC a)] w (HearOut P fr 0 (f (bgM false M)) w) := by
  obtain ⟨Y, hY⟩ : ∃ Y, w.alloc (anO a) = Y := ⟨_, rfl⟩
  rw [hY] at HC0
  have b0 : Below w.heap.size w Y := by rw [← hY]; exact (Below.refl _ _).alloc (Nat.le_refl _) _
  have r1 : Y.heap[w.heap.size]? = some (anO a) := by rw [← hY]; exact heap_new _ _
  have HR1 : Hid (Y.rangeAt w.heap.size 0 (anC a).toList) := Lib.hid (an_range r1)
  have HR0 : Hid (∀ X, Below Y.heap.size Y X → X.rangeAt w.heap.size 0 (anC a).toList) := Lib.hid (fun X hX => an_range (bel_at hX (lt_of_heap r1) r1))
  have HB : Hid (∀ X, Below Y.heap.size Y X → Calls Tryd.prog 21 #[.pointer (some ⟨P, 0, none⟩), .agg (anC a)] X fun e w' => e = .returned (.bool false) ∧ Below X.heap.size X w') := Lib.hid (fun X hX => by
    rw [← hb]
    exact begins_M ((h.bel b0).bel hX) a hq)
  have HMt : Hid (∀ X, Below Y.heap.size Y X → MAt P fr M X) := Lib.hid (fun X hX => (h.bel b0).bel hX)
  have HC := Lib.hid HC0
  have eqf := Tryd.eqFn3
  have HY := Lib.hid hY
  have HB0 := Lib.hid b0
  clear hY r1 HC0 b0 hb hq h
  unfold anO at HY
  go_enter Tryd.func9, Tryd.ntmps9
  go_upto_region 1 with fail
  rw [HY.out]
  clear HY
  go_upto_region 6 with (first | (refine wpList_load_mid rfl 43 _ rfl w.heap.size 0 rfl _ _ HR1.out Tryd.underlying43 rfl Tryd.sizeAn ?_) | (go_at_call 20; refine HC.out.mono ?_; rintro e w2 ⟨hb2, fn, caps, rfl, hfn, hcl⟩; have HB2 := Lib.hid hb2; have HCl := Lib.hid hcl; have HFn := Lib.hid hfn; clear hb2 hcl hfn))
  have HR2 := Lib.hid (HR0.out _ HB2.out)
  clear HR1 HC HR0
  go_upto_region 8 with (first | (refine wpList_load_mid rfl 43 _ rfl w.heap.size 0 rfl _ _ HR2.out Tryd.underlying43 rfl Tryd.sizeAn ?_) | (go_at_call 21; refine (HB.out _ HB2.out).mono ?_; rintro e w3 ⟨rfl, hd⟩; have HB3 := Lib.hid hd; clear hd))
  have HC := Lib.hid (HCl.out false w3 ⟨fun e => absurd e (by decide), Stays.ofBelow HB3.out⟩ (Stays.ofBelow HB3.out) (HMt.out _ (HB2.out.trans (HB3.out.mono HB2.out.size))))
  have HZ : Hid (Stays fr w w3) := Lib.hid ((Stays.ofBelow HB0.out).trans ((Stays.ofBelow (fp := fr) HB2.out).trans (Stays.ofBelow (fp := fr) HB3.out) (fun b hb => .inl hb)) (fun b hb => .inl hb))
  clear HB HR2 HMt HCl
  have hcf := HFn.out caps
  go_wp2_with fail
  refine HC.out.mono ?_
  rintro e w5 ⟨rfl, hg⟩
  have HG := Lib.hid hg
  clear hg hcf
  go_wp2_with fail
  go_ret
  exact ⟨rfl, mg_stays HZ.out HG.out HB0.out.size⟩
theorem Hear_M (P : Nat) (fr : List Nat) (M : PM) (a : AN) (F : Option (PM → PM)) (w : World) (h : MAt P fr M w) (hq : M.q.length ≤ 1000000)
    (HC0 : Calls Tryd.prog 20 #[.pointer (some ⟨P, 0, none⟩), .agg (anC a)] (w.alloc (anO a)) (ChgOut P fr M F (w.alloc (anO a)))) :
    Calls Tryd.prog 9 #[.pointer (some ⟨P, 0, none⟩), .agg (anC a)] w (match F with
      | none => HearOut P fr 190 M w
      | some f => HearOut P fr 0 (f (bgM (begB M a) M)) w) := by
  cases F with
  | none =>
    refine (Hear_deny P a w (HC0.mono ?_)).mono ?_
    · rintro e w' ⟨h1, h2⟩
      exact ⟨h2, h1⟩
    · rintro e w' ⟨rfl, hb⟩
      exact ⟨rfl, MG.below h hb⟩
  | some f =>
    cases hb : begB M a with
    | true => exact Hear_go_true P fr M a f w h hq hb HC0
    | false => exact Hear_go_false P fr M a f w h hq hb HC0
end Go.Proofs.YtlmlbcnjohjnlaaDoor

/- mirror: change by the table; nothing; state. -/
namespace Go.Proofs.YtlmlbcnjohjnlaaDoor
open Go.RowKit

theorem ChgOut.low {P : Nat} {fr : List Nat} {M : PM} {F : Option (PM → PM)} {w0 w w' : World} {e : Ending} (h : ChgOut P fr M F w e w') (hb : Below w0.heap.size w0 w) : ChgOut P fr M F w0 e w' := by
  refine ⟨hb.trans (h.1.mono hb.size), ?_⟩
  cases F with
  | none => exact h.2
  | some f =>
    obtain ⟨fn, caps, h1, h2, h3⟩ := h.2
    exact ⟨fn, caps, h1, h2, fun bb X ho hX hM => (h3 bb X ho hX hM).mono (fun e X' hk => ⟨hk.1, hk.2.low hb.size⟩)⟩
theorem chg_val {P : Nat} {fr : List Nat} {M : PM} {F : Option (PM → PM)} {w w' : World} {e : Ending} (h : ChgOut P fr M F w e w') : ∃ v, e = .returned v := by
  obtain ⟨_, h⟩ := h
  cases F with
  | none => exact ⟨_, h⟩
  | some f =>
    obtain ⟨fn, caps, e, _⟩ := h
    exact ⟨_, e⟩
set_option maxRecDepth 20000 in
set_option maxHeartbeats 2000000 in
theorem change_fn (P : Nat) (fr : List Nat) (M : PM) (F : Option (PM → PM)) (a : AN) (K : Nat) (hk : a.k = (K : Int)) (hK : K < 19) (fn : Nat) (hfn : IsFn fn) (hkn : kndA[K]? = some (.func (.func fn) #[] #[])) (w : World) (H0 : ∀ X, Below w.heap.size w X → Calls Tryd.prog fn #[.pointer (some ⟨P, 0, none⟩), .agg (anC a)] X (ChgOut P fr M F X)) :
    Calls Tryd.prog 20 #[.pointer (some ⟨P, 0, none⟩), .agg (anC a)] w (ChgOut P fr M F w) := by
  have H := Lib.hid H0
  have HK := Lib.hid hk
  have HKn := Lib.hid hkn
  have HFn := Lib.hid hfn
  have n1 : ¬ (K : Int) < 0 := by omega
  have n2 : ¬ (19 : Int) ≤ (K : Int) := by omega
  have n3 : (K : Int) < 19 := by omega
  clear H0 hk hkn hfn hK
  have q1 : Below w.heap.size w (w.alloc (anO a)) := (Below.refl _ _).alloc (Nat.le_refl _) _
  obtain ⟨Y, hY⟩ : ∃ Y, w.alloc (anO a) = Y := ⟨_, rfl⟩
  have hz : Y.heap.size = w.heap.size + 1 := by rw [← hY]; simp
  have r0 : Y.heap[w.heap.size]? = some (anO a) := by rw [← hY]; exact heap_new _ _
  rw [hY] at q1
  have Q1 := Lib.hid q1
  have R0 := Lib.hid r0
  have HZ := Lib.hid hz
  have HY := Lib.hid hY
  have H1 : Hid (kndA.all (·.oneCell') = true) := Lib.hid (by kernel_rfl)
  have HS : Hid ((Tryd.prog.info? 88).map (·.size) = some kndA.size) := Lib.hid (by kernel_rfl)
  have eqf := Tryd.eqFn2
  clear q1 r0 hz hY
  unfold anO at HY
  go_enter Tryd.func20, Tryd.ntmps20
  go_upto_region 1 with fail
  rw [HY.out]
  clear HY
  go_upto_region 2 with (first | (go_at_call 27; refine (kinds_any _).mono ?_; rintro e w2 ⟨rfl, hb2⟩; have HB2 := Lib.hid hb2; clear hb2) | (refine wpList_store_row rfl 88 _ _ rfl w2.heap.size kndA rfl rfl 88 _ (heap_new _ _) HS.out rfl H1.out ?_))
  refine wp_gen (fun Y3 hY3 => ?_)
  obtain ⟨hb3, hn3⟩ := box_below hY3.symm
  have hba : Below Y.heap.size Y Y3 := HB2.out.trans (hb3.mono HB2.out.size)
  have rA : Y3.heap[w.heap.size]? = some (anO a) := bel_at hba (by rw [HZ.out]; omega) R0.out
  have c0 : Y3.cell? ⟨w.heap.size, 0, none⟩ = some (.int .i64 (K : Int)) := by rw [(an_cells rA).1, HK.out]
  have cK : Y3.cell? ⟨w2.heap.size, K, none⟩ = some (.func (.func fn) #[] #[]) := by rw [cell_of hn3]; exact HKn.out
  have HC : Hid (Y3.drew.rangeAt w.heap.size 0 (anC a).toList) := Lib.hid (an_range (X := Y3.drew) rA)
  have HB3d : Hid (Below w.heap.size w Y3.drew) := Lib.hid ((Q1.out.trans (hba.mono Q1.out.size)).drew)
  have hcf := HFn.out #[.pointer (some ⟨P, 0, none⟩), .agg (anC a).toList.toArray]
  have hcf2 := HFn.out #[.pointer (some ⟨P, 0, none⟩), .agg (anC a)]
  clear hY3 hb3 hn3 hba rA HK HZ R0 Q1 HB2 HS H1 HKn
  go_upto_region 4 with fail
  refine wp_region_N 6 (fun X => X = Y3.drew) (by kernel_rfl) ?_
  refine wpAnyN_take (i := 0) (oi := { dst := some 22, op := Go.Op.fieldAddr 43 (Go.Operand.tmp 3) 0, type := 0, pos := "hear.go:38", after := #[], guard := none }) (oL := { dst := some 28, op := Go.Op.call { callee := Go.Callee.value (Go.Operand.tmp 25), args := #[Go.Operand.tmp 26, Go.Operand.tmp 27], argTypes := #[24, 43] }, type := 1, pos := "hear.go:38", after := #[{ on := 3, ground := Go.Ground.data }, { on := 4, ground := Go.Ground.data }, { on := 5, ground := Go.Ground.data }], guard := none }) (v := .pointer (some ⟨w.heap.size, 0, none⟩)) rfl rfl (by kernel_rfl) (by kernel_rfl) (by kernel_rfl) (by kernel_rfl) (fun _ _ _ h => h) (Or.inl ⟨by kernel_rfl, ?_⟩) rfl ?_
  · (intro X hX; subst hX <;> (go_simp; try (with_reducible rfl)))
  (try simp only [Act.put, List.setIfInBounds_toArray, List.set_cons_zero, List.set_cons_succ])
  refine wpAnyN_take (i := 1) (oi := { dst := some 23, op := Go.Op.load 3 (Go.Operand.tmp 22), type := 3, pos := "hear.go:38", after := #[{ on := 0, ground := Go.Ground.data }], guard := none }) (oL := { dst := some 28, op := Go.Op.call { callee := Go.Callee.value (Go.Operand.tmp 25), args := #[Go.Operand.tmp 26, Go.Operand.tmp 27], argTypes := #[24, 43] }, type := 1, pos := "hear.go:38", after := #[{ on := 3, ground := Go.Ground.data }, { on := 4, ground := Go.Ground.data }, { on := 5, ground := Go.Ground.data }], guard := none }) (v := .int .i64 (K : Int)) rfl rfl (by kernel_rfl) (by kernel_rfl) (by kernel_rfl) (by kernel_rfl) (fun _ _ _ h => h) (Or.inl ⟨by kernel_rfl, ?_⟩) rfl ?_
  · (intro X hX; subst hX <;> (go_simp; try (with_reducible rfl)))
  (try simp only [Act.put, List.setIfInBounds_toArray, List.set_cons_zero, List.set_cons_succ])
  refine wpAnyN_take (i := 2) (oi := { dst := some 24, op := Go.Op.indexAddr 88 (Go.Operand.tmp 5) (Go.Operand.tmp 23), type := 0, pos := "hear.go:38", after := #[{ on := 1, ground := Go.Ground.data }], guard := none }) (oL := { dst := some 28, op := Go.Op.call { callee := Go.Callee.value (Go.Operand.tmp 25), args := #[Go.Operand.tmp 26, Go.Operand.tmp 27], argTypes := #[24, 43] }, type := 1, pos := "hear.go:38", after := #[{ on := 3, ground := Go.Ground.data }, { on := 4, ground := Go.Ground.data }, { on := 5, ground := Go.Ground.data }], guard := none }) (v := .pointer (some ⟨w2.heap.size, K, none⟩)) rfl rfl (by kernel_rfl) (by kernel_rfl) (by kernel_rfl) (by kernel_rfl) (fun _ _ _ h => h) (Or.inl ⟨by kernel_rfl, ?_⟩) rfl ?_
  · (intro X hX; subst hX <;> (go_simp; try (with_reducible rfl)))
  (try simp only [Act.put, List.setIfInBounds_toArray, List.set_cons_zero, List.set_cons_succ])
  refine wpAnyN_take (i := 3) (oi := { dst := some 25, op := Go.Op.load 87 (Go.Operand.tmp 24), type := 87, pos := "hear.go:38", after := #[{ on := 2, ground := Go.Ground.data }], guard := none }) (oL := { dst := some 28, op := Go.Op.call { callee := Go.Callee.value (Go.Operand.tmp 25), args := #[Go.Operand.tmp 26, Go.Operand.tmp 27], argTypes := #[24, 43] }, type := 1, pos := "hear.go:38", after := #[{ on := 3, ground := Go.Ground.data }, { on := 4, ground := Go.Ground.data }, { on := 5, ground := Go.Ground.data }], guard := none }) (v := .func (.func fn) #[] #[]) rfl rfl (by kernel_rfl) (by kernel_rfl) (by kernel_rfl) (by kernel_rfl) (fun _ _ _ h => h) (Or.inl ⟨by kernel_rfl, ?_⟩) rfl ?_
  · (intro X hX; subst hX <;> (go_simp; try (with_reducible rfl)))
  (try simp only [Act.put, List.setIfInBounds_toArray, List.set_cons_zero, List.set_cons_succ])
  refine wpAnyN_take (i := 4) (oi := { dst := some 26, op := Go.Op.move (Go.Operand.tmp 0), type := 24, pos := "hear.go:38", after := #[], guard := none }) (oL := { dst := some 28, op := Go.Op.call { callee := Go.Callee.value (Go.Operand.tmp 25), args := #[Go.Operand.tmp 26, Go.Operand.tmp 27], argTypes := #[24, 43] }, type := 1, pos := "hear.go:38", after := #[{ on := 3, ground := Go.Ground.data }, { on := 4, ground := Go.Ground.data }, { on := 5, ground := Go.Ground.data }], guard := none }) (v := .pointer (some ⟨P, 0, none⟩)) rfl rfl (by kernel_rfl) (by kernel_rfl) (by kernel_rfl) (by kernel_rfl) (fun _ _ _ h => h) (Or.inl ⟨by kernel_rfl, ?_⟩) rfl ?_
  · (intro X hX; subst hX <;> (go_simp; try (with_reducible rfl)))
  (try simp only [Act.put, List.setIfInBounds_toArray, List.set_cons_zero, List.set_cons_succ])
  refine wpAnyN_one (i := 5) (o := { dst := some 27, op := Go.Op.load 43 (Go.Operand.tmp 3), type := 43, pos := "hear.go:38", after := #[], guard := none }) (by kernel_rfl) rfl (fun K hK => ?_)
  refine wp_load_mid 43 _ rfl w.heap.size 0 rfl _ _ HC.out Tryd.underlying43 rfl Tryd.sizeAn ?_
  refine hK.out _ _ (fun _ => rfl) ?_
  clear hK K
  (try simp only [Act.put, List.setIfInBounds_toArray, List.set_cons_zero, List.set_cons_succ])
  refine wpAnyN_one (i := 6) (o := { dst := some 28, op := Go.Op.call { callee := Go.Callee.value (Go.Operand.tmp 25), args := #[Go.Operand.tmp 26, Go.Operand.tmp 27], argTypes := #[24, 43] }, type := 1, pos := "hear.go:38", after := #[{ on := 3, ground := Go.Ground.data }, { on := 4, ground := Go.Ground.data }, { on := 5, ground := Go.Ground.data }], guard := none }) (by kernel_rfl) rfl (fun K hK => ?_)
  go_simp
  refine (H.out _ HB3d.out).mono ?_
  rintro e w4 hr0
  obtain ⟨v, rfl⟩ := chg_val hr0
  have HR := Lib.hid hr0
  clear hr0
  refine hK.out _ _ (fun e => absurd (e.symm.trans (by kernel_rfl) : false = true) Bool.false_ne_true) ?_
  clear hK K
  (try simp only [Act.put, List.setIfInBounds_toArray, List.set_cons_zero, List.set_cons_succ])
  refine wpAnyN_of_H (S' := fun _ => True) _ _ _ _ (by kernel_rfl) ?_
  refine wpAnyH_take (i := 7) (oi := { dst := some 4, op := Go.Op.assign (Go.Operand.tmp 28), type := 1, pos := "hear.go:38", after := #[{ on := 6, ground := Go.Ground.data }, { on := 6, ground := Go.Ground.chain }, { on := 0, ground := Go.Ground.phase }, { on := 1, ground := Go.Ground.phase }, { on := 2, ground := Go.Ground.phase }, { on := 3, ground := Go.Ground.phase }, { on := 4, ground := Go.Ground.phase }, { on := 5, ground := Go.Ground.phase }, { on := 6, ground := Go.Ground.phase }], guard := none }) (v := v) rfl (by kernel_rfl) (by kernel_rfl) (by kernel_rfl) (fun _ _ _ h => h) (Or.inl ⟨by kernel_rfl, ?_⟩) trivial ?_
  · (intro X hX; go_simp; try (with_reducible rfl))
  (try simp only [Act.put, List.setIfInBounds_toArray, List.set_cons_zero, List.set_cons_succ])
  refine wpAnyH_done (by kernel_rfl) ?_ _
  go_wp2_with fail
  go_ret
  exact HR.out.low HB3d.out
set_option maxRecDepth 20000 in
set_option maxHeartbeats 2000000 in
theorem change_out (P : Nat) (fr : List Nat) (M : PM) (a : AN) (hk : a.k < 0 ∨ 19 ≤ a.k) (w : World) :
    Calls Tryd.prog 20 #[.pointer (some ⟨P, 0, none⟩), .agg (anC a)] w (ChgOut P fr M none w) := by
  have q1 : Below w.heap.size w (w.alloc (anO a)) := (Below.refl _ _).alloc (Nat.le_refl _) _
  obtain ⟨Y, hY⟩ : ∃ Y, w.alloc (anO a) = Y := ⟨_, rfl⟩
  have hz : Y.heap.size = w.heap.size + 1 := by rw [← hY]; simp
  have r0 : Y.heap[w.heap.size]? = some (anO a) := by rw [← hY]; exact heap_new _ _
  rw [hY] at q1
  have Q1 := Lib.hid q1
  have R0 := Lib.hid r0
  have HZ := Lib.hid hz
  have HY := Lib.hid hY
  have H1 : Hid (kndA.all (·.oneCell') = true) := Lib.hid (by kernel_rfl)
  have HS : Hid ((Tryd.prog.info? 88).map (·.size) = some kndA.size) := Lib.hid (by kernel_rfl)
  have eqf := Tryd.eqFn2
  clear q1 r0 hz hY
  unfold anO at HY
  go_enter Tryd.func20, Tryd.ntmps20
  go_upto_region 1 with fail
  rw [HY.out]
  clear HY
  go_upto_region 2 with (first | (go_at_call 27; refine (kinds_any _).mono ?_; rintro e w2 ⟨rfl, hb2⟩; have HB2 := Lib.hid hb2; clear hb2) | (refine wpList_store_row rfl 88 _ _ rfl w2.heap.size kndA rfl rfl 88 _ (heap_new _ _) HS.out rfl H1.out ?_))
  refine wp_gen (fun Y3 hY3 => ?_)
  obtain ⟨hb3, hn3⟩ := box_below hY3.symm
  have hba : Below Y.heap.size Y Y3 := HB2.out.trans (hb3.mono HB2.out.size)
  have rA : Y3.heap[w.heap.size]? = some (anO a) := bel_at hba (by rw [HZ.out]; omega) R0.out
  have c0 : Y3.cell? ⟨w.heap.size, 0, none⟩ = some (.int .i64 a.k) := by rw [(an_cells rA).1]
  have HB3d : Hid (Below w.heap.size w Y3) := Lib.hid (Q1.out.trans (hba.mono Q1.out.size))
  clear hY3 hb3 hn3 hba rA HZ R0 Q1 HB2 HS H1
  by_cases hn : a.k < 0
  · go_wp2_with fail
    go_ret
    exact ⟨HB3d.out, rfl⟩
  · have h19 : (19 : Int) ≤ a.k := by omega
    go_wp2_with fail
    go_ret
    exact ⟨HB3d.out, rfl⟩
theorem Tryd.eqNil2 (w : World) : (binOp .eql 87 .nilFunc .nilFunc).run Tryd.prog w = .ok (.bool true) w := by kernel_rfl
set_option maxRecDepth 20000 in
set_option maxHeartbeats 2000000 in
theorem change_nil (P : Nat) (fr : List Nat) (M : PM) (a : AN) (K : Nat) (hk : a.k = (K : Int)) (hK : K < 19) (hkn : kndA[K]? = some .nilFunc) (w : World) :
    Calls Tryd.prog 20 #[.pointer (some ⟨P, 0, none⟩), .agg (anC a)] w (ChgOut P fr M none w) := by
  have HK := Lib.hid hk
  have HKn := Lib.hid hkn
  have n1 : ¬ (K : Int) < 0 := by omega
  have n2 : ¬ (19 : Int) ≤ (K : Int) := by omega
  have n3 : (K : Int) < 19 := by omega
  have eqn := Tryd.eqNil2
  clear hk hkn hK
  have q1 : Below w.heap.size w (w.alloc (anO a)) := (Below.refl _ _).alloc (Nat.le_refl _) _
  obtain ⟨Y, hY⟩ : ∃ Y, w.alloc (anO a) = Y := ⟨_, rfl⟩
  have hz : Y.heap.size = w.heap.size + 1 := by rw [← hY]; simp
  have r0 : Y.heap[w.heap.size]? = some (anO a) := by rw [← hY]; exact heap_new _ _
  rw [hY] at q1
  have Q1 := Lib.hid q1
  have R0 := Lib.hid r0
  have HZ := Lib.hid hz
  have HY := Lib.hid hY
  have H1 : Hid (kndA.all (·.oneCell') = true) := Lib.hid (by kernel_rfl)
  have HS : Hid ((Tryd.prog.info? 88).map (·.size) = some kndA.size) := Lib.hid (by kernel_rfl)
  have eqf := Tryd.eqFn2
  clear q1 r0 hz hY
  unfold anO at HY
  go_enter Tryd.func20, Tryd.ntmps20
  go_upto_region 1 with fail
  rw [HY.out]
  clear HY
  go_upto_region 2 with (first | (go_at_call 27; refine (kinds_any _).mono ?_; rintro e w2 ⟨rfl, hb2⟩; have HB2 := Lib.hid hb2; clear hb2) | (refine wpList_store_row rfl 88 _ _ rfl w2.heap.size kndA rfl rfl 88 _ (heap_new _ _) HS.out rfl H1.out ?_))
  refine wp_gen (fun Y3 hY3 => ?_)
  obtain ⟨hb3, hn3⟩ := box_below hY3.symm
  have hba : Below Y.heap.size Y Y3 := HB2.out.trans (hb3.mono HB2.out.size)
  have rA : Y3.heap[w.heap.size]? = some (anO a) := bel_at hba (by rw [HZ.out]; omega) R0.out
  have c0 : Y3.cell? ⟨w.heap.size, 0, none⟩ = some (.int .i64 (K : Int)) := by rw [(an_cells rA).1, HK.out]
  have cK : Y3.cell? ⟨w2.heap.size, K, none⟩ = some .nilFunc := by rw [cell_of hn3]; exact HKn.out
  have HB3d : Hid (Below w.heap.size w Y3) := Lib.hid (Q1.out.trans (hba.mono Q1.out.size))
  clear hY3 hb3 hn3 hba rA HK HZ R0 Q1 HB2 HS H1 HKn
  go_wp2_with fail
  go_ret
  exact ⟨HB3d.out, rfl⟩
theorem isFn_nothing1 : IsFn 41 := fun _ _ => by kernel_rfl
theorem nothing1_any (w : World) : Calls Tryd.prog 41 #[] w fun e w' => e = .returned (.tuple #[]) ∧ w' = w := by
  go_enter Tryd.func41, Tryd.ntmps41
  go_wp2_with fail
  refine bodyPost_end (results_none rfl _ _ _) rfl ?_
  exact ⟨rfl, rfl⟩
theorem nothing_any (P : Nat) (fr : List Nat) (M : PM) (a : AN) (w : World) : Calls Tryd.prog 31 #[.pointer (some ⟨P, 0, none⟩), .agg (anC a)] w (ChgOut P fr M (some id) w) := by
  have b0 := Lib.hid ((Below.refl w.heap.size w).alloc (Nat.le_refl _) (anO a))
  unfold anO at b0
  go_enter Tryd.func31, Tryd.ntmps31
  go_wp2_with fail
  go_ret
  exact ⟨b0.out, _, #[], rfl, isFn_nothing1, fun bb X _ hX hM => (nothing1_any X).mono (fun e w' h => by obtain ⟨rfl, rfl⟩ := h; exact ⟨rfl, (MG.below hM (Below.refl _ _)).b (Nat.le_trans b0.out.size hX.size)⟩)⟩
set_option maxRecDepth 20000 in
set_option maxHeartbeats 2000000 in
theorem state_bad (P : Nat) (fr : List Nat) (M : PM) (a : AN) (w : World) (ho : a.out < 1 ∨ 4 < a.out) : Calls Tryd.prog 30 #[.pointer (some ⟨P, 0, none⟩), .agg (anC a)] w (ChgOut P fr M none w) := by
  have q2 := two_below w (mpO P) (anO a)
  obtain ⟨Y, hY⟩ : ∃ Y, (w.alloc (mpO P)).alloc (anO a) = Y := ⟨_, rfl⟩
  rw [hY] at q2
  have r0 : Y.heap[w.heap.size]? = some (mpO P) := by rw [← hY, Below.heap_alloc _ _ _ (by simp)]; exact heap_new _ _
  have r1 : Y.heap[w.heap.size + 1]? = some (anO a) := by rw [← hY]; have := heap_new (w.alloc (mpO P)) (anO a); rw [show (w.alloc (mpO P)).heap.size = w.heap.size + 1 from by simp] at this; exact this
  obtain ⟨_, c1, c2, _, _, _⟩ := an_cells r1
  have cp : Y.cell? ⟨w.heap.size, 0, none⟩ = some (.pointer (some ⟨P, 0, none⟩)) := by unfold mpO at r0; exact cell_of r0 0
  have HRG : Hid (Y.rangeAt (w.heap.size + 1) 0 (anC a).toList) := Lib.hid (an_range r1)
  have Q2 := Lib.hid q2
  have HY := Lib.hid hY
  clear hY q2 r0 r1 HRG cp c1
  by_cases hn : a.out < 1
  · unfold mpO anO at HY
    go_enter Tryd.func30, Tryd.ntmps30
    go_upto_region 1 with fail
    rw [HY.out]
    clear HY
    go_wp2_with fail
    go_ret
    exact ⟨Q2.out, rfl⟩
  · have h4 : (4 : Int) < a.out := by omega
    unfold mpO anO at HY
    go_enter Tryd.func30, Tryd.ntmps30
    go_upto_region 1 with fail
    rw [HY.out]
    clear HY
    go_wp2_with fail
    go_ret
    exact ⟨Q2.out, rfl⟩
set_option maxRecDepth 20000 in
set_option maxHeartbeats 2000000 in
theorem state_answered (P : Nat) (fr : List Nat) (M : PM) (F : Option (PM → PM)) (a : AN) (w : World) (h1 : 1 ≤ a.out) (h4 : a.out ≤ 4) (htag : a.tag.toList.isEmpty = false) (H0 : ∀ X, Below w.heap.size w X → Calls Tryd.prog 38 #[.pointer (some ⟨P, 0, none⟩), .agg (anC a)] X (ChgOut P fr M F X)) :
    Calls Tryd.prog 30 #[.pointer (some ⟨P, 0, none⟩), .agg (anC a)] w (ChgOut P fr M F w) := by
  have q2 := two_below w (mpO P) (anO a)
  obtain ⟨Y, hY⟩ : ∃ Y, (w.alloc (mpO P)).alloc (anO a) = Y := ⟨_, rfl⟩
  rw [hY] at q2
  have r0 : Y.heap[w.heap.size]? = some (mpO P) := by rw [← hY, Below.heap_alloc _ _ _ (by simp)]; exact heap_new _ _
  have r1 : Y.heap[w.heap.size + 1]? = some (anO a) := by rw [← hY]; have := heap_new (w.alloc (mpO P)) (anO a); rw [show (w.alloc (mpO P)).heap.size = w.heap.size + 1 from by simp] at this; exact this
  obtain ⟨_, c1, c2, _, _, _⟩ := an_cells r1
  have cp : Y.cell? ⟨w.heap.size, 0, none⟩ = some (.pointer (some ⟨P, 0, none⟩)) := by unfold mpO at r0; exact cell_of r0 0
  have HRG : Hid (Y.rangeAt (w.heap.size + 1) 0 (anC a).toList) := Lib.hid (an_range r1)
  have Q2 := Lib.hid q2
  have HY := Lib.hid hY
  have H := Lib.hid (H0 Y q2)
  have n1 : ¬ a.out < 1 := by omega
  have n2 : ¬ (4 : Int) < a.out := by omega
  have ht : a.tag.toList.isEmpty = false := htag
  clear hY q2 r0 r1 H0 h1 h4 htag
  unfold mpO anO at HY
  go_enter Tryd.func30, Tryd.ntmps30
  go_upto_region 1 with fail
  rw [HY.out]
  clear HY
  go_wp2_with (first | (refine wpList_load_mid rfl 43 _ rfl (w.heap.size + 1) 0 rfl _ _ HRG.out Tryd.underlying43 rfl Tryd.sizeAn ?_) | (go_at_call 38; refine H.out.mono ?_; rintro e w4 hr0; obtain ⟨v, rfl⟩ := chg_val hr0; have HR := Lib.hid hr0; clear hr0))
  go_ret
  exact HR.out.low Q2.out
set_option maxRecDepth 20000 in
set_option maxHeartbeats 2000000 in
theorem state_coded (P : Nat) (fr : List Nat) (M : PM) (F : Option (PM → PM)) (a : AN) (w : World) (h1 : a.out = 1) (htag : a.tag.toList.isEmpty = true) (H0 : ∀ X, Below w.heap.size w X → Calls Tryd.prog 40 #[.pointer (some ⟨P, 0, none⟩), .agg (anC a)] X (ChgOut P fr M F X)) :
    Calls Tryd.prog 30 #[.pointer (some ⟨P, 0, none⟩), .agg (anC a)] w (ChgOut P fr M F w) := by
  have q2 := two_below w (mpO P) (anO a)
  obtain ⟨Y, hY⟩ : ∃ Y, (w.alloc (mpO P)).alloc (anO a) = Y := ⟨_, rfl⟩
  rw [hY] at q2
  have r0 : Y.heap[w.heap.size]? = some (mpO P) := by rw [← hY, Below.heap_alloc _ _ _ (by simp)]; exact heap_new _ _
  have r1 : Y.heap[w.heap.size + 1]? = some (anO a) := by rw [← hY]; have := heap_new (w.alloc (mpO P)) (anO a); rw [show (w.alloc (mpO P)).heap.size = w.heap.size + 1 from by simp] at this; exact this
  obtain ⟨_, c1, c2, _, _, _⟩ := an_cells r1
  have cp : Y.cell? ⟨w.heap.size, 0, none⟩ = some (.pointer (some ⟨P, 0, none⟩)) := by unfold mpO at r0; exact cell_of r0 0
  have HRG : Hid (Y.rangeAt (w.heap.size + 1) 0 (anC a).toList) := Lib.hid (an_range r1)
  have Q2 := Lib.hid q2
  have HY := Lib.hid hY
  have H := Lib.hid (H0 Y q2)
  have ht : a.tag.toList.isEmpty = true := htag
  have ho : a.out = 1 := h1
  clear hY q2 r0 r1 H0 htag h1
  unfold mpO anO at HY
  go_enter Tryd.func30, Tryd.ntmps30
  go_upto_region 1 with fail
  rw [HY.out]
  clear HY
  go_wp2_with (first | (refine wpList_load_mid rfl 43 _ rfl (w.heap.size + 1) 0 rfl _ _ HRG.out Tryd.underlying43 rfl Tryd.sizeAn ?_) | (go_at_call 40; refine H.out.mono ?_; rintro e w4 hr0; obtain ⟨v, rfl⟩ := chg_val hr0; have HR := Lib.hid hr0; clear hr0))
  go_ret
  exact HR.out.low Q2.out
set_option maxRecDepth 20000 in
set_option maxHeartbeats 2000000 in
theorem state_other (P : Nat) (fr : List Nat) (M : PM) (F : Option (PM → PM)) (a : AN) (w : World) (h2 : 2 ≤ a.out) (h3 : a.out ≤ 3) (htag : a.tag.toList.isEmpty = true) (H0 : ∀ X, Below w.heap.size w X → Calls Tryd.prog 31 #[.pointer (some ⟨P, 0, none⟩), .agg (anC a)] X (ChgOut P fr M F X)) :
    Calls Tryd.prog 30 #[.pointer (some ⟨P, 0, none⟩), .agg (anC a)] w (ChgOut P fr M F w) := by
  have q2 := two_below w (mpO P) (anO a)
  obtain ⟨Y, hY⟩ : ∃ Y, (w.alloc (mpO P)).alloc (anO a) = Y := ⟨_, rfl⟩
  rw [hY] at q2
  have r0 : Y.heap[w.heap.size]? = some (mpO P) := by rw [← hY, Below.heap_alloc _ _ _ (by simp)]; exact heap_new _ _
  have r1 : Y.heap[w.heap.size + 1]? = some (anO a) := by rw [← hY]; have := heap_new (w.alloc (mpO P)) (anO a); rw [show (w.alloc (mpO P)).heap.size = w.heap.size + 1 from by simp] at this; exact this
  obtain ⟨_, c1, c2, _, _, _⟩ := an_cells r1
  have cp : Y.cell? ⟨w.heap.size, 0, none⟩ = some (.pointer (some ⟨P, 0, none⟩)) := by unfold mpO at r0; exact cell_of r0 0
  have HRG : Hid (Y.rangeAt (w.heap.size + 1) 0 (anC a).toList) := Lib.hid (an_range r1)
  have Q2 := Lib.hid q2
  have HY := Lib.hid hY
  have H := Lib.hid (H0 Y q2)
  have n1 : ¬ a.out < 1 := by omega
  have n2 : ¬ (4 : Int) < a.out := by omega
  have ht : a.tag.toList.isEmpty = true := htag
  have e4 : (a.out == 4) = false := by simp; omega
  have e1 : (a.out == 1) = false := by simp; omega
  clear hY q2 r0 r1 H0 h2 h3 htag
  unfold mpO anO at HY
  go_enter Tryd.func30, Tryd.ntmps30
  go_upto_region 1 with fail
  rw [HY.out]
  clear HY
  go_wp2_with (first | (refine wpList_load_mid rfl 43 _ rfl (w.heap.size + 1) 0 rfl _ _ HRG.out Tryd.underlying43 rfl Tryd.sizeAn ?_) | (go_at_call 31; refine H.out.mono ?_; rintro e w4 hr0; obtain ⟨v, rfl⟩ := chg_val hr0; have HR := Lib.hid hr0; clear hr0))
  go_ret
  exact HR.out.low Q2.out
theorem isFn_state1 : IsFn 39 := fun _ _ => by kernel_rfl
set_option maxRecDepth 20000 in
theorem state1_any (P : Nat) (q : Value) (sel : Bool) (v n h : Int) (rows was : Value) (bg : Bool) (bm : Nat) (w : World) (hm : w.heap[bm]? = some (mpO P)) (hM : w.heap[P]? = some (mirO q sel v n h rows was bg)) :
    Calls Tryd.prog 39 #[.pointer (some ⟨bm, 0, none⟩)] w fun e w' => e = .returned (.tuple #[]) ∧ Stays [P] w w' ∧ w'.heap[P]? = some (mirO q false 0 0 0 (.slice none 0 0) (.map none) bg) := by
  have cp : w.cell? ⟨bm, 0, none⟩ = some (.pointer (some ⟨P, 0, none⟩)) := by unfold mpO at hm; exact cell_of hm 0
  have m1 := (mir_cells hM).c1
  have m2 := (mir_cells hM).c2
  have m3 := (mir_cells hM).c3
  have m4 := (mir_cells hM).c4
  have m5 := (mir_cells hM).c5
  have m6 := (mir_cells hM).c6
  have fz := mir_fz hM
  have HM := Lib.hid hM
  clear hm hM
  go_enter Tryd.func39, Tryd.ntmps39
  go_wp2_with fail
  refine bodyPost_end (results_none rfl _ _ _) rfl ?_
  refine ⟨rfl, ?_, ?_⟩
  · have sp : ∀ (X : World), Stays [P] w X → ∀ (o : Nat) (u : Value), Stays [P] w (X.setCell ⟨P, o, none⟩ u) := fun X hX o u => hX.setCell (.inl (by simp)) u
    exact sp _ (sp _ (sp _ (sp _ (sp _ (sp _ (Stays.refl _ _) _ _) _ _) _ _) _ _) _ _) _ _
  · have k := HM.out
    unfold mirO mirC at k ⊢
    rw [heap_setCell_at _ (heap_setCell_at _ (heap_setCell_at _ (heap_setCell_at _ (heap_setCell_at _ (heap_setCell_at _ k)))))]
    rfl
/-- A mirror's own cells are turned, nothing else. -/
theorem MAt.turn {P : Nat} {fr : List Nat} {M M' : PM} {X X' : World} {q rows was : Value} (h : MAt P fr M X) (hM : X.heap[P]? = some (mirO q M.sel M.v M.n M.h rows was M.bg)) (hs : Stays [P] X X') (hm : ∃ q' rows' was', X'.heap[P]? = some (mirO q' M'.sel M'.v M'.n M'.h rows' was' M'.bg) ∧ QIn fr X q' M'.q ∧ RIn fr X rows' M'.rows ∧ WasIn fr X was' M'.was) : MG P fr M' X X' := by
  obtain ⟨q', rows', was', h1, h2, h3, h4⟩ := hm
  have k : KeepT [75] X X' := KeepT.of hs (fun b hb => by simp at hb; subst hb; exact ⟨_, _, _, hM, by simp⟩)
  exact ⟨fr, ⟨⟨q', rows', was', h1, h2.kt k (by decide) (by decide) (fun _ e => e), h3.kt k (by decide) (by decide) (fun _ e => e), h4.kt k (by decide) (fun _ e => e)⟩, h.pin, fun b hb => Nat.lt_of_lt_of_le (h.lt b hb) hs.size⟩, hs.mono (fun b hb => by simp at hb; subst hb; exact h.pin), fun _ e => .inl e⟩
set_option maxRecDepth 20000 in
set_option maxHeartbeats 2000000 in
theorem state_bye (P : Nat) (fr : List Nat) (M : PM) (a : AN) (w : World) (hP : ∀ b, b ∈ fr → b < w.heap.size) (h4 : a.out = 4) (htag : a.tag.toList.isEmpty = true) : Calls Tryd.prog 30 #[.pointer (some ⟨P, 0, none⟩), .agg (anC a)] w (ChgOut P fr M (some nopM) w) := by
  have q2 := two_below w (mpO P) (anO a)
  obtain ⟨Y, hY⟩ : ∃ Y, (w.alloc (mpO P)).alloc (anO a) = Y := ⟨_, rfl⟩
  rw [hY] at q2
  have r0 : Y.heap[w.heap.size]? = some (mpO P) := by rw [← hY, Below.heap_alloc _ _ _ (by simp)]; exact heap_new _ _
  have r1 : Y.heap[w.heap.size + 1]? = some (anO a) := by rw [← hY]; have := heap_new (w.alloc (mpO P)) (anO a); rw [show (w.alloc (mpO P)).heap.size = w.heap.size + 1 from by simp] at this; exact this
  obtain ⟨_, c1, c2, _, _, _⟩ := an_cells r1
  have cp : Y.cell? ⟨w.heap.size, 0, none⟩ = some (.pointer (some ⟨P, 0, none⟩)) := by unfold mpO at r0; exact cell_of r0 0
  have HRG : Hid (Y.rangeAt (w.heap.size + 1) 0 (anC a).toList) := Lib.hid (an_range r1)
  have Q2 := Lib.hid q2
  have HY := Lib.hid hY
  have fin : ChgOut P fr M (some nopM) w (.returned (.func (.func 39) #[] #[.pointer (some ⟨w.heap.size, 0, none⟩)])) Y := by
    refine ⟨q2, _, _, rfl, isFn_state1, fun bb X _ hX hM => ?_⟩
    obtain ⟨q, rows, was, h1, h2, h3, h4⟩ := hM.ex
    refine (state1_any P q _ _ _ _ rows was _ w.heap.size X (hX.at_ r0 (fun e => by have := hP _ e; omega)) h1).mono ?_
    rintro e X' ⟨rfl, hs, hm⟩
    refine ⟨rfl, MG.b ?_ (Nat.le_trans q2.size hX.size)⟩
    exact hM.turn h1 hs ⟨q, _, _, hm, h2, RIn.nil, WasIn.nil⟩
  have FIN := Lib.hid fin
  have ht : a.tag.toList.isEmpty = true := htag
  have ho : a.out = 4 := h4
  clear hY q2 r0 r1 htag h4 HRG fin hP
  unfold mpO anO at HY
  go_enter Tryd.func30, Tryd.ntmps30
  go_upto_region 1 with fail
  rw [HY.out]
  clear HY
  go_wp2_with fail
  go_ret
  exact FIN.out
end Go.Proofs.YtlmlbcnjohjnlaaDoor
