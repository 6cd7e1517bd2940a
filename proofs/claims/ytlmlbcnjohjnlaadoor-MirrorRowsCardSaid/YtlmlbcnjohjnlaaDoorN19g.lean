/- Texts copied; the lists of a sight. -/
import Derived.Test.YtlmlbcnjohjnlaaDoorN19e
import Derived.Test.YtlmlbcnjohjnlaaDoorM19p
import Derived.Test.YtlmlbcnjohjnlaaDoorM19s
namespace Go.Proofs.YtlmlbcnjohjnlaaDoor
open Go.RowKit

section
variable {b : Nat} {v n h : Int} {us fl kn : Value} {U F K : List Value} {Y X : World}
theorem SG.addG (g : SG b v n h us fl kn U F K Y X) (x : Value) (hx : x.oneCell' = true) (hl : F.length + 1 ≤ 4294967296) :
    ∃ a c W1, (Builtin.append_ #[44, 44] 44 #[fl, .slice (some ⟨X.heap.size, 0, none⟩) 1 1]).run Tryd.prog (X.alloc (.cells #[x] 27)) = .ok (.slice a (F.length + 1) c) W1 ∧ W1.heap[b]? = some (.cells (siC true v n h us fl kn) 47 (0, 0)) ∧
      SG b v n h us (.slice a (F.length + 1) c) kn U (F ++ [x]) K Y (W1.setCell ⟨b, 5, none⟩ (.slice a (F.length + 1) c)) ∧ (∀ (g' : Nat) (cs : Array Value) (t : TypeId) (f : Nat × Nat), X.heap[g']? = some (Obj.cells cs t f) → t ≠ 27 → g' ≠ b → W1.heap[g']? = X.heap[g']? ∧ (W1.setCell ⟨b, 5, none⟩ (.slice a (F.length + 1) c)).heap[g']? = X.heap[g']?) := by
  obtain ⟨a, c, W1, hrun, hrow, hg, hown⟩ := row_app (P := Tryd.prog) 44 27 (.slice none 0 0) 1 24 Tryd.underlying44 Tryd.infoF rfl (by decide) g.rf #[x] rfl (by intro y hy; simp at hy; subst hy; exact hx) hl (by omega)
  have hbl := lt_of_heap g.obj
  have keep : ∀ (g' : Nat) (cs : Array Value) (t : TypeId) (f : Nat × Nat), X.heap[g']? = some (Obj.cells cs t f) → t ≠ 27 → W1.heap[g']? = X.heap[g']? := fun g' cs t f e ht => hg.block g' (lt_of_heap e) (fun e' => sg_ne g.rf e'.symm e (fun q => ht q.symm) rfl)
  have hs1 : W1.heap[b]? = some (.cells (siC true v n h us fl kn) 47 (0, 0)) := by rw [keep b _ _ _ g.obj (by decide)]; exact g.obj
  have hset : ∀ g', g' ≠ b → (W1.setCell ⟨b, 5, none⟩ (.slice a (F.length + 1) c)).heap[g']? = W1.heap[g']? := fun g' hb => Below.heap_setCell _ _ _ _ hb
  have key : ∀ {e : TypeId} {vv : Value} {m : Nat} {xs : List Value}, X.ownsRow 0 e 1 vv m xs → e ≠ 27 → (∀ q, vv.ownBlock = some q → b < q) → (W1.setCell ⟨b, 5, none⟩ (.slice a (F.length + 1) c)).ownsRow 0 e 1 vv m xs := fun hr hne hlo => ownsRow_same hr (fun q e => by
    obtain ⟨cs', h'⟩ := row_kind hr e
    rw [hset q (by have := hlo q e; omega), keep q _ _ _ h' hne])
  refine ⟨a, c, W1, hrun, hs1, ⟨?_, key g.ru (by decide) g.lu, ?_, key g.rk (by decide) g.lk, g.lu, ?_, g.lk, ?_⟩, fun g' cs t f e ht hb => ⟨keep g' cs t f e ht, by rw [hset g' hb]; exact keep g' cs t f e ht⟩⟩
  · unfold siC at hs1
    rw [heap_setCell_at _ hs1]
    rfl
  · exact ownsRow_same (show W1.ownsRow 0 27 1 (.slice a (F.length + 1) c) (F ++ [x]).length (F ++ [x]) from by rw [List.length_append]; exact hrow) (fun q e => hset q (by
      rcases hown q e with e' | e'
      · have := g.lf q e'; omega
      · omega))
  · exact fun q e => by
      rcases hown q e with e' | e'
      · exact g.lf q e'
      · omega
  · have b1 : Below b X (W1.setCell ⟨b, 5, none⟩ (.slice a (F.length + 1) c)) := ⟨hg.os, hg.tape, hg.output, by have := hg.size; simpa [World.setCell] using this, fun q hq => by
      rw [hset q (by omega)]
      exact hg.block q (by omega) (fun e' => by have := g.lf q e'.symm; omega)⟩
    exact g.bel.trans b1
end
theorem Tryd.infoS : (Tryd.prog.info? 9).map (fun i => (i.zero, i.size, i.bytes)) = some (some (.string ⟨#[]⟩), 1, 16) := by kernel_rfl
theorem Tryd.nilAppS (a : Option Addr) (c : Nat) (w : World) : (Builtin.append_ #[27, 27] 27 #[.slice none 0 0, .slice a 0 c]).run Tryd.prog w = .ok (.slice none 0 0) w := by cases a <;> kernel_rfl
/-- Texts in memory made since. -/
def StrsNew (B : Nat) (X : World) (v : Value) (l : List ByteArray) : Prop := ∃ nb, StrsIn nb X v l ∧ ∀ b, b ∈ nb → B ≤ b ∧ ∃ cs f, X.heap[b]? = some (.cells cs 9 f)
theorem StrsNew.nil (B : Nat) (X : World) : StrsNew B X (.slice none 0 0) [] := ⟨[], StrsIn.nil, fun _ h => by cases h⟩
theorem StrsIn.shape {fr : List Nat} {X : World} {v : Value} {l : List ByteArray} (h : StrsIn fr X v l) : ∃ a c, v = .slice a l.length c := by
  obtain ⟨a, c, rfl, _⟩ := h
  exact ⟨a, c, rfl⟩
theorem strs_copy {fr : List Nat} {X : World} {sv : Value} {l : List ByteArray} (h : StrsIn fr X sv l) (hl : l.length ≤ 1000000) : ∃ a c W1, (Builtin.append_ #[27, 27] 27 #[.slice none 0 0, sv]).run Tryd.prog X = .ok (.slice a l.length c) W1 ∧ Below X.heap.size X W1 ∧ StrsNew X.heap.size W1 (.slice a l.length c) l := by
  obtain ⟨ao, cap, rfl, h⟩ := h
  by_cases h0 : l.length = 0
  · obtain rfl := List.eq_nil_of_length_eq_zero h0
    exact ⟨none, 0, X, Tryd.nilAppS ao cap X, Below.refl _ _, StrsNew.nil _ _⟩
  obtain ⟨b, off, cs, rfl, _, hh, hc⟩ := h (by omega)
  have hsrc : Src Tryd.prog 1 27 (.slice (some ⟨b, off, none⟩) l.length cap) l.length (l.map .string) X := Src.ofSlice _ Tryd.underlying27 _ _ _ _ (by simp) (fun j u hj => by
    have hjl := (List.getElem?_eq_some_iff.1 hj).1
    rw [Addr.add_lit, cell_of hh, hc j (by simpa using hjl), ← hj]
    have : j < l.length := by simpa using hjl
    simp [List.getD_eq_getElem?_getD, this]) (fun u hu => by
    obtain ⟨p, _, rfl⟩ := List.mem_map.1 hu
    rfl)
  obtain ⟨a, c, W1, h1, h2, h3, h4⟩ := (show RowAt X 9 1 (.slice none 0 0) 0 [] from ⟨by simp, .inl ⟨rfl, rfl⟩⟩).appS (P := Tryd.prog) 27 27 27 _ 16 Tryd.underlying27 Tryd.infoS rfl _ l.length (l.map .string) hsrc (by omega) (by omega) (by omega)
  rw [Nat.zero_add, List.nil_append] at h2
  rw [Nat.zero_add] at h1 h4
  have hbel : Below X.heap.size X W1 := ⟨h3.os, h3.tape, h3.output, h3.size, fun k hk => h3.block k hk (fun e => by cases e)⟩
  refine ⟨a, c, W1, h1, hbel, ?_⟩
  rcases h2.2 with ⟨e, e0⟩ | ⟨g, o, cap', cur, e, hg, hcp, hs, htk⟩
  · omega
  · have ea : a = some ⟨g, o, none⟩ := by injection e
    subst ea
    refine ⟨[g], ⟨_, c, rfl, fun _ => ⟨g, o, cur, rfl, by simp, hg, fun i hi => ?_⟩⟩, fun b hb => ?_⟩
    · have : (cur.toList.drop o)[i]? = (l.map Value.string)[i]? := by
        rw [← htk, List.getElem?_take, if_pos (by omega)]
      rw [List.getElem?_drop] at this
      rw [show cur[o + i]? = cur.toList[o + i]? from by simp, this]
      simp [List.getD_eq_getElem?_getD, hi]
    · simp at hb
      subst hb
      rcases h4 b rfl with e' | e'
      · cases e'
      · exact ⟨e', _, _, hg⟩
/-- Rows of texts stay. -/
def KeepS (X X' : World) : Prop := ∀ (b : Nat) (cs : Array Value) (f : Nat × Nat), X.heap[b]? = some (.cells cs 9 f) → X'.heap[b]? = some (.cells cs 9 f)
theorem KeepS.trans {X X' X2 : World} (h : KeepS X X') (k : KeepS X' X2) : KeepS X X2 := fun b cs f e => k b cs f (h b cs f e)
theorem KeepS.below {X X' : World} (hb : Below X.heap.size X X') : KeepS X X' := fun _ _ _ e => bel_at hb (lt_of_heap e) e
theorem StrsNew.ks {B : Nat} {X X' : World} {v : Value} {l : List ByteArray} (h : StrsNew B X v l) (k : KeepS X X') : StrsNew B X' v l := by
  obtain ⟨nb, ⟨a, c, rfl, h1⟩, h2⟩ := h
  refine ⟨nb, ⟨a, c, rfl, fun h0 => ?_⟩, fun b hb => ?_⟩
  · obtain ⟨g, o, cs, rfl, hg, hh, hc⟩ := h1 h0
    exact ⟨g, o, cs, rfl, hg, k g cs _ hh, hc⟩
  · obtain ⟨e1, cs, f, e2⟩ := h2 b hb
    exact ⟨e1, cs, f, k b cs f e2⟩
theorem StrsNew.low {B B' : Nat} {X : World} {v : Value} {l : List ByteArray} (h : StrsNew B X v l) (hB : B' ≤ B) : StrsNew B' X v l := by
  obtain ⟨nb, h1, h2⟩ := h
  exact ⟨nb, h1, fun b hb => ⟨Nat.le_trans hB (h2 b hb).1, (h2 b hb).2⟩⟩
def uiV (L : List PR) : List Value := L.map fun p => .int .i64 p.uid
def knV (L : List PR) : List Value := L.map fun p => .bool p.kn
/-- A sight under way: the rows so far. -/
def SGL (b : Nat) (v n h : Int) (us fl kn : Value) (B : Nat) (L : List PR) (Y X : World) : Prop := ∃ fvs, SG b v n h us fl kn (uiV L) fvs (knV L) Y X ∧ fvs.length = L.length ∧ All2 (fun fv p => StrsNew B X fv p.fl) fvs L
/-- What a sight tells, in memory. -/
structure SgA (B : Nat) (X : World) (us fl kn : Value) (L : List PR) : Prop where
  ru : X.ownsRow 0 3 1 us L.length (uiV L)
  rf : ∃ fvs, X.ownsRow 0 27 1 fl L.length fvs ∧ All2 (fun fv p => StrsNew B X fv p.fl) fvs L
  rk : X.ownsRow 0 4 1 kn L.length (knV L)
  lu : ∀ g, us.ownBlock = some g → B ≤ g
  lf : ∀ g, fl.ownBlock = some g → B ≤ g
  lk : ∀ g, kn.ownBlock = some g → B ≤ g
end Go.Proofs.YtlmlbcnjohjnlaaDoor

/- mirror: sight, of any picture. -/
namespace Go.Proofs.YtlmlbcnjohjnlaaDoor
open Go.RowKit

def SightV (v n h : Int) (L : List PR) (w : World) (e : Ending) (w' : World) : Prop := ∃ us fl kn, e = .returned (.agg (siC true v n h us fl kn)) ∧ Below w.heap.size w w' ∧ SgA w.heap.size w' us fl kn L
theorem sg_keepS {b : Nat} {v n h : Int} {us fl kn : Value} {U F K : List Value} {Y X X' : World} {t0 : TypeId} (g : SG b v n h us fl kn U F K Y X) (ht : 9 ≠ t0) (hk : ∀ (g' : Nat) (cs : Array Value) (t : TypeId) (f : Nat × Nat), X.heap[g']? = some (Obj.cells cs t f) → t ≠ t0 → g' ≠ b → X'.heap[g']? = X.heap[g']?) : KeepS X X' := fun c cs f e => by
  rw [hk c cs _ f e ht (kind_ne e g.obj (by decide))]
  exact e
set_option maxRecDepth 20000 in
set_option maxHeartbeats 4000000 in
theorem sight_val (P : Nat) (q : Value) (v n h : Int) (ra : Option Addr) (rc : Nat) (was : Value) (bg : Bool) (fr : List Nat) (rs : List RW) (L : List PR) (w : World) (hM : w.heap[P]? = some (mirO q true v n h (.slice ra L.length rc) was bg)) (hrow : RowAt w 98 3 (.slice ra L.length rc) L.length (rwL rs)) (hall : All2 (RWin fr w) rs L) (hlt : ∀ b, b ∈ fr → b < w.heap.size) (hL : L.length ≤ 1000000) (hfl : ∀ p ∈ L, p.fl.length ≤ 1000000) :
    Calls Tryd.prog 26 #[.pointer (some ⟨P, 1, none⟩)] w (SightV v n h L w) := by
  obtain ⟨Y0, hY0⟩ : ∃ Y, w.alloc (.cells #[.bool false, .int .i64 0, .int .i64 0, .int .i64 0, .slice none 0 0, .slice none 0 0, .slice none 0 0] 47) = Y := ⟨_, rfl⟩
  have b0 : Below w.heap.size w Y0 := by rw [← hY0]; exact (Below.refl _ _).alloc (Nat.le_refl _) _
  have z0 : Y0.heap.size = w.heap.size + 1 := by rw [← hY0]; simp
  have rS : Y0.heap[w.heap.size]? = some (.cells #[.bool false, .int .i64 0, .int .i64 0, .int .i64 0, .slice none 0 0, .slice none 0 0, .slice none 0 0] 47 (0, 0)) := by rw [← hY0]; exact heap_new _ _
  have yM := bel_at b0 (lt_of_heap hM) hM
  have pl := lt_of_heap yM
  have m1 := (mir_cells yM).c1
  have m2 := (mir_cells yM).c2
  have m3 := (mir_cells yM).c3
  have m4 := (mir_cells yM).c4
  have yMa := bel_at ((Below.refl Y0.heap.size Y0).alloc (Nat.le_refl _) (.cells #[.bool false, .int .i64 0, .int .i64 0, .int .i64 0, .slice none 0 0, .slice none 0 0, .slice none 0 0] 47)) pl yM
  have a2 := (mir_cells yMa).c2
  have a3 := (mir_cells yMa).c3
  have a4 := (mir_cells yMa).c4
  obtain ⟨Y1, hY1⟩ : ∃ Y1, (Y0.alloc (.cells #[.bool false, .int .i64 0, .int .i64 0, .int .i64 0, .slice none 0 0, .slice none 0 0, .slice none 0 0] 47)).drew.setRow Y0.heap.size #[.bool true, .int .i64 v, .int .i64 n, .int .i64 h, .slice none 0 0, .slice none 0 0, .slice none 0 0] = Y1 := ⟨_, rfl⟩
  have hb1 := box_below (w := Y0.drew) hY1
  have b1 : Below Y0.heap.size Y0 Y1 := ⟨hb1.1.os, hb1.1.tape, hb1.1.output, hb1.1.size, hb1.1.block⟩
  have r1 : Y1.heap[Y0.heap.size]? = some (.cells (siC true v n h (.slice none 0 0) (.slice none 0 0) (.slice none 0 0)) 47 (0, 0)) := hb1.2
  have m5 := (mir_cells (bel_at b1 pl yM)).c5
  have hst : SGL Y0.heap.size v n h (.slice none 0 0) (.slice none 0 0) (.slice none 0 0) w.heap.size (L.take 0) Y1 Y1 := ⟨[], ⟨r1, World.ownsRow_nil _ _ _ _, World.ownsRow_nil _ _ _ _, World.ownsRow_nil _ _ _ _, fun g e => (by cases e), fun g e => (by cases e), fun g e => (by cases e), Below.refl _ _⟩, rfl, trivial⟩
  have HR1 : Hid (∀ X, Below Y0.heap.size Y1 X → X.heap[w.heap.size]? = some (.cells #[.bool false, .int .i64 0, .int .i64 0, .int .i64 0, .slice none 0 0, .slice none 0 0, .slice none 0 0] 47 (0, 0)) ∧ Below w.heap.size w X) := Lib.hid (fun X hX => by
    have q := b1.trans hX
    exact ⟨bel_at q (by omega) rS, b0.trans (q.mono b0.size)⟩)
  have HCl : Hid (∀ k, k < L.length → ∃ g o, ra = some ⟨g, o, none⟩ ∧ ∃ p uid kb va vn vc, L[k]? = some p ∧ uid = p.uid ∧ kb = p.kn ∧ vn = p.fl.length ∧ p.fl.length ≤ 1000000 ∧ StrsIn fr w (.slice va vn vc) p.fl ∧ ∀ X, Below w.heap.size w X → X.cell? ⟨g, o + k * 3, none⟩ = some (.int .i64 uid) ∧ X.cell? ⟨g, o + k * 3 + 1, none⟩ = some (.bool kb) ∧ X.cell? ⟨g, o + k * 3 + 2, none⟩ = some (.slice va vn vc)) := Lib.hid (fun k hk => by
    obtain ⟨g, o, cap, e, _, hg, hc⟩ := hrow.cell (by omega)
    have e1 : ra = some ⟨g, o, none⟩ := by injection e
    refine ⟨g, o, e1, ?_⟩
    obtain ⟨r, hr, hw⟩ := hall.gets k L[k] (List.getElem?_eq_getElem hk)
    obtain ⟨va, vc, hv⟩ := hw.fl.shape
    refine ⟨L[k], r.uid, r.kn, va, _, vc, List.getElem?_eq_getElem hk, hw.uid, hw.kn, rfl, hfl _ (List.getElem_mem hk), by rw [← hv]; exact hw.fl, fun X hX => ?_⟩
    have hget : ∀ j, j < 3 → X.cell? ⟨g, o + k * 3 + j, none⟩ = (rwC r)[j]? := fun j hj => by
      rw [hX.cell (p := ⟨g, o + k * 3 + j, none⟩) hg, Nat.add_assoc, hc _ (by omega)]
      exact flat_get rwC 3 (fun _ => rfl) rs k j r hr hj
    refine ⟨hget 0 (by omega), hget 1 (by omega), ?_⟩
    rw [hget 2 (by omega), ← hv]
    rfl)
  have HStr : Hid (∀ X va vn vc l, Below w.heap.size w X → StrsIn fr w (.slice va vn vc) l → StrsIn fr X (.slice va vn vc) l) := Lib.hid (fun X va vn vc l hX hs => hs.on (fun b hb => hX.block b (hlt b hb)) (fun _ e => e))
  have HNew : Hid ((Y0.drew.alloc (.cells #[.bool false, .int .i64 0, .int .i64 0, .int .i64 0, .slice none 0 0, .slice none 0 0, .slice none 0 0] 47)).heap[Y0.heap.size]? = some (.cells #[.bool false, .int .i64 0, .int .i64 0, .int .i64 0, .slice none 0 0, .slice none 0 0, .slice none 0 0] 47 (0, 0))) := Lib.hid (heap_new _ _)
  have H1 : Hid ((#[.bool true, .int .i64 v, .int .i64 n, .int .i64 h, .slice none 0 0, .slice none 0 0, .slice none 0 0] : Array Value).all (·.oneCell') = true) := Lib.hid (by simp [Value.oneCell'])
  have HY0 := Lib.hid hY0
  have HY1 := Lib.hid hY1
  have HST := Lib.hid hst
  have HZ0 : Hid (w.heap.size < Y0.heap.size) := Lib.hid (by omega)
  have HLL := Lib.hid hL
  clear hY0 hY1 b0 z0 rS yM pl yMa hb1 b1 r1 hst hM hrow hall hlt hL hfl
  go_enter Tryd.func26, Tryd.ntmps26
  go_upto_region 1 with fail
  rw [HY0.out]
  clear HY0
  go_upto_region 3 with fail
  refine wp_region_N 14 (fun X => X = Y0.drew ∨ X = Y0.drew.alloc (.cells #[.bool false, .int .i64 0, .int .i64 0, .int .i64 0, .slice none 0 0, .slice none 0 0, .slice none 0 0] 47)) (by kernel_rfl) ?_
  refine wpAnyN_take (i := 0) (oi := { dst := some 12, op := Go.Op.move (Go.Operand.tmp 0), type := 96, pos := "picture.go:24", after := #[], guard := none }) (oL := { dst := none, op := Go.Op.store 47 (Go.Operand.tmp 3) (Go.Operand.tmp 24), type := 0, pos := "picture.go:24", after := #[{ on := 13, ground := Go.Ground.data }, { on := 12, ground := Go.Ground.data }, { on := 0, ground := Go.Ground.phase }, { on := 1, ground := Go.Ground.phase }, { on := 2, ground := Go.Ground.phase }, { on := 3, ground := Go.Ground.phase }, { on := 4, ground := Go.Ground.phase }, { on := 5, ground := Go.Ground.phase }, { on := 6, ground := Go.Ground.phase }, { on := 7, ground := Go.Ground.phase }, { on := 8, ground := Go.Ground.phase }, { on := 9, ground := Go.Ground.phase }, { on := 10, ground := Go.Ground.phase }, { on := 11, ground := Go.Ground.phase }, { on := 12, ground := Go.Ground.phase }, { on := 13, ground := Go.Ground.phase }], guard := none }) (v := .pointer (some ⟨P, 1, none⟩)) rfl rfl (by kernel_rfl) (by kernel_rfl) (by kernel_rfl) (by kernel_rfl) (fun _ _ _ h => h) (Or.inl ⟨by kernel_rfl, ?_⟩) (.inl rfl) ?_
  · (intro X hX; rcases hX with rfl | rfl <;> (go_simp; try (with_reducible rfl)))
  (try simp only [Act.put, List.setIfInBounds_toArray, List.set_cons_zero, List.set_cons_succ])
  refine wpAnyN_take (i := 1) (oi := { dst := some 13, op := Go.Op.nilCheck (Go.Operand.tmp 12), type := 0, pos := "picture.go:24", after := #[{ on := 0, ground := Go.Ground.data }], guard := none }) (oL := { dst := none, op := Go.Op.store 47 (Go.Operand.tmp 3) (Go.Operand.tmp 24), type := 0, pos := "picture.go:24", after := #[{ on := 13, ground := Go.Ground.data }, { on := 12, ground := Go.Ground.data }, { on := 0, ground := Go.Ground.phase }, { on := 1, ground := Go.Ground.phase }, { on := 2, ground := Go.Ground.phase }, { on := 3, ground := Go.Ground.phase }, { on := 4, ground := Go.Ground.phase }, { on := 5, ground := Go.Ground.phase }, { on := 6, ground := Go.Ground.phase }, { on := 7, ground := Go.Ground.phase }, { on := 8, ground := Go.Ground.phase }, { on := 9, ground := Go.Ground.phase }, { on := 10, ground := Go.Ground.phase }, { on := 11, ground := Go.Ground.phase }, { on := 12, ground := Go.Ground.phase }, { on := 13, ground := Go.Ground.phase }], guard := none }) (v := .pointer (some ⟨P, 1, none⟩)) rfl rfl (by kernel_rfl) (by kernel_rfl) (by kernel_rfl) (by kernel_rfl) (fun _ _ _ h => h) (Or.inl ⟨by kernel_rfl, ?_⟩) (.inl rfl) ?_
  · (intro X hX; rcases hX with rfl | rfl <;> (go_simp; try (with_reducible rfl)))
  (try simp only [Act.put, List.setIfInBounds_toArray, List.set_cons_zero, List.set_cons_succ])
  refine wpAnyN_take (i := 2) (oi := { dst := some 14, op := Go.Op.fieldAddr 73 (Go.Operand.tmp 13) 1, type := 0, pos := "picture.go:24", after := #[{ on := 1, ground := Go.Ground.data }], guard := none }) (oL := { dst := none, op := Go.Op.store 47 (Go.Operand.tmp 3) (Go.Operand.tmp 24), type := 0, pos := "picture.go:24", after := #[{ on := 13, ground := Go.Ground.data }, { on := 12, ground := Go.Ground.data }, { on := 0, ground := Go.Ground.phase }, { on := 1, ground := Go.Ground.phase }, { on := 2, ground := Go.Ground.phase }, { on := 3, ground := Go.Ground.phase }, { on := 4, ground := Go.Ground.phase }, { on := 5, ground := Go.Ground.phase }, { on := 6, ground := Go.Ground.phase }, { on := 7, ground := Go.Ground.phase }, { on := 8, ground := Go.Ground.phase }, { on := 9, ground := Go.Ground.phase }, { on := 10, ground := Go.Ground.phase }, { on := 11, ground := Go.Ground.phase }, { on := 12, ground := Go.Ground.phase }, { on := 13, ground := Go.Ground.phase }], guard := none }) (v := .pointer (some ⟨P, 2, none⟩)) rfl rfl (by kernel_rfl) (by kernel_rfl) (by kernel_rfl) (by kernel_rfl) (fun _ _ _ h => h) (Or.inl ⟨by kernel_rfl, ?_⟩) (.inl rfl) ?_
  · (intro X hX; rcases hX with rfl | rfl <;> (go_simp; try (with_reducible rfl)))
  (try simp only [Act.put, List.setIfInBounds_toArray, List.set_cons_zero, List.set_cons_succ])
  refine wpAnyN_take (i := 3) (oi := { dst := some 15, op := Go.Op.load 3 (Go.Operand.tmp 14), type := 3, pos := "picture.go:24", after := #[{ on := 2, ground := Go.Ground.data }], guard := none }) (oL := { dst := none, op := Go.Op.store 47 (Go.Operand.tmp 3) (Go.Operand.tmp 24), type := 0, pos := "picture.go:24", after := #[{ on := 13, ground := Go.Ground.data }, { on := 12, ground := Go.Ground.data }, { on := 0, ground := Go.Ground.phase }, { on := 1, ground := Go.Ground.phase }, { on := 2, ground := Go.Ground.phase }, { on := 3, ground := Go.Ground.phase }, { on := 4, ground := Go.Ground.phase }, { on := 5, ground := Go.Ground.phase }, { on := 6, ground := Go.Ground.phase }, { on := 7, ground := Go.Ground.phase }, { on := 8, ground := Go.Ground.phase }, { on := 9, ground := Go.Ground.phase }, { on := 10, ground := Go.Ground.phase }, { on := 11, ground := Go.Ground.phase }, { on := 12, ground := Go.Ground.phase }, { on := 13, ground := Go.Ground.phase }], guard := none }) (v := .int .i64 v) rfl rfl (by kernel_rfl) (by kernel_rfl) (by kernel_rfl) (by kernel_rfl) (fun _ _ _ h => h) (Or.inl ⟨by kernel_rfl, ?_⟩) (.inl rfl) ?_
  · (intro X hX; rcases hX with rfl | rfl <;> (go_simp; try (with_reducible rfl)))
  (try simp only [Act.put, List.setIfInBounds_toArray, List.set_cons_zero, List.set_cons_succ])
  refine wpAnyN_take (i := 4) (oi := { dst := some 16, op := Go.Op.move (Go.Operand.tmp 0), type := 96, pos := "picture.go:24", after := #[], guard := none }) (oL := { dst := none, op := Go.Op.store 47 (Go.Operand.tmp 3) (Go.Operand.tmp 24), type := 0, pos := "picture.go:24", after := #[{ on := 13, ground := Go.Ground.data }, { on := 12, ground := Go.Ground.data }, { on := 0, ground := Go.Ground.phase }, { on := 1, ground := Go.Ground.phase }, { on := 2, ground := Go.Ground.phase }, { on := 3, ground := Go.Ground.phase }, { on := 4, ground := Go.Ground.phase }, { on := 5, ground := Go.Ground.phase }, { on := 6, ground := Go.Ground.phase }, { on := 7, ground := Go.Ground.phase }, { on := 8, ground := Go.Ground.phase }, { on := 9, ground := Go.Ground.phase }, { on := 10, ground := Go.Ground.phase }, { on := 11, ground := Go.Ground.phase }, { on := 12, ground := Go.Ground.phase }, { on := 13, ground := Go.Ground.phase }], guard := none }) (v := .pointer (some ⟨P, 1, none⟩)) rfl rfl (by kernel_rfl) (by kernel_rfl) (by kernel_rfl) (by kernel_rfl) (fun _ _ _ h => h) (Or.inl ⟨by kernel_rfl, ?_⟩) (.inl rfl) ?_
  · (intro X hX; rcases hX with rfl | rfl <;> (go_simp; try (with_reducible rfl)))
  (try simp only [Act.put, List.setIfInBounds_toArray, List.set_cons_zero, List.set_cons_succ])
  refine wpAnyN_take (i := 5) (oi := { dst := some 17, op := Go.Op.nilCheck (Go.Operand.tmp 16), type := 0, pos := "picture.go:24", after := #[{ on := 4, ground := Go.Ground.data }], guard := none }) (oL := { dst := none, op := Go.Op.store 47 (Go.Operand.tmp 3) (Go.Operand.tmp 24), type := 0, pos := "picture.go:24", after := #[{ on := 13, ground := Go.Ground.data }, { on := 12, ground := Go.Ground.data }, { on := 0, ground := Go.Ground.phase }, { on := 1, ground := Go.Ground.phase }, { on := 2, ground := Go.Ground.phase }, { on := 3, ground := Go.Ground.phase }, { on := 4, ground := Go.Ground.phase }, { on := 5, ground := Go.Ground.phase }, { on := 6, ground := Go.Ground.phase }, { on := 7, ground := Go.Ground.phase }, { on := 8, ground := Go.Ground.phase }, { on := 9, ground := Go.Ground.phase }, { on := 10, ground := Go.Ground.phase }, { on := 11, ground := Go.Ground.phase }, { on := 12, ground := Go.Ground.phase }, { on := 13, ground := Go.Ground.phase }], guard := none }) (v := .pointer (some ⟨P, 1, none⟩)) rfl rfl (by kernel_rfl) (by kernel_rfl) (by kernel_rfl) (by kernel_rfl) (fun _ _ _ h => h) (Or.inl ⟨by kernel_rfl, ?_⟩) (.inl rfl) ?_
  · (intro X hX; rcases hX with rfl | rfl <;> (go_simp; try (with_reducible rfl)))
  (try simp only [Act.put, List.setIfInBounds_toArray, List.set_cons_zero, List.set_cons_succ])
  refine wpAnyN_take (i := 6) (oi := { dst := some 18, op := Go.Op.fieldAddr 73 (Go.Operand.tmp 17) 2, type := 0, pos := "picture.go:24", after := #[{ on := 5, ground := Go.Ground.data }], guard := none }) (oL := { dst := none, op := Go.Op.store 47 (Go.Operand.tmp 3) (Go.Operand.tmp 24), type := 0, pos := "picture.go:24", after := #[{ on := 13, ground := Go.Ground.data }, { on := 12, ground := Go.Ground.data }, { on := 0, ground := Go.Ground.phase }, { on := 1, ground := Go.Ground.phase }, { on := 2, ground := Go.Ground.phase }, { on := 3, ground := Go.Ground.phase }, { on := 4, ground := Go.Ground.phase }, { on := 5, ground := Go.Ground.phase }, { on := 6, ground := Go.Ground.phase }, { on := 7, ground := Go.Ground.phase }, { on := 8, ground := Go.Ground.phase }, { on := 9, ground := Go.Ground.phase }, { on := 10, ground := Go.Ground.phase }, { on := 11, ground := Go.Ground.phase }, { on := 12, ground := Go.Ground.phase }, { on := 13, ground := Go.Ground.phase }], guard := none }) (v := .pointer (some ⟨P, 3, none⟩)) rfl rfl (by kernel_rfl) (by kernel_rfl) (by kernel_rfl) (by kernel_rfl) (fun _ _ _ h => h) (Or.inl ⟨by kernel_rfl, ?_⟩) (.inl rfl) ?_
  · (intro X hX; rcases hX with rfl | rfl <;> (go_simp; try (with_reducible rfl)))
  (try simp only [Act.put, List.setIfInBounds_toArray, List.set_cons_zero, List.set_cons_succ])
  refine wpAnyN_take (i := 7) (oi := { dst := some 19, op := Go.Op.load 3 (Go.Operand.tmp 18), type := 3, pos := "picture.go:24", after := #[{ on := 6, ground := Go.Ground.data }], guard := none }) (oL := { dst := none, op := Go.Op.store 47 (Go.Operand.tmp 3) (Go.Operand.tmp 24), type := 0, pos := "picture.go:24", after := #[{ on := 13, ground := Go.Ground.data }, { on := 12, ground := Go.Ground.data }, { on := 0, ground := Go.Ground.phase }, { on := 1, ground := Go.Ground.phase }, { on := 2, ground := Go.Ground.phase }, { on := 3, ground := Go.Ground.phase }, { on := 4, ground := Go.Ground.phase }, { on := 5, ground := Go.Ground.phase }, { on := 6, ground := Go.Ground.phase }, { on := 7, ground := Go.Ground.phase }, { on := 8, ground := Go.Ground.phase }, { on := 9, ground := Go.Ground.phase }, { on := 10, ground := Go.Ground.phase }, { on := 11, ground := Go.Ground.phase }, { on := 12, ground := Go.Ground.phase }, { on := 13, ground := Go.Ground.phase }], guard := none }) (v := .int .i64 n) rfl rfl (by kernel_rfl) (by kernel_rfl) (by kernel_rfl) (by kernel_rfl) (fun _ _ _ h => h) (Or.inl ⟨by kernel_rfl, ?_⟩) (.inl rfl) ?_
  · (intro X hX; rcases hX with rfl | rfl <;> (go_simp; try (with_reducible rfl)))
  (try simp only [Act.put, List.setIfInBounds_toArray, List.set_cons_zero, List.set_cons_succ])
  refine wpAnyN_take (i := 8) (oi := { dst := some 20, op := Go.Op.move (Go.Operand.tmp 0), type := 96, pos := "picture.go:24", after := #[], guard := none }) (oL := { dst := none, op := Go.Op.store 47 (Go.Operand.tmp 3) (Go.Operand.tmp 24), type := 0, pos := "picture.go:24", after := #[{ on := 13, ground := Go.Ground.data }, { on := 12, ground := Go.Ground.data }, { on := 0, ground := Go.Ground.phase }, { on := 1, ground := Go.Ground.phase }, { on := 2, ground := Go.Ground.phase }, { on := 3, ground := Go.Ground.phase }, { on := 4, ground := Go.Ground.phase }, { on := 5, ground := Go.Ground.phase }, { on := 6, ground := Go.Ground.phase }, { on := 7, ground := Go.Ground.phase }, { on := 8, ground := Go.Ground.phase }, { on := 9, ground := Go.Ground.phase }, { on := 10, ground := Go.Ground.phase }, { on := 11, ground := Go.Ground.phase }, { on := 12, ground := Go.Ground.phase }, { on := 13, ground := Go.Ground.phase }], guard := none }) (v := .pointer (some ⟨P, 1, none⟩)) rfl rfl (by kernel_rfl) (by kernel_rfl) (by kernel_rfl) (by kernel_rfl) (fun _ _ _ h => h) (Or.inl ⟨by kernel_rfl, ?_⟩) (.inl rfl) ?_
  · (intro X hX; rcases hX with rfl | rfl <;> (go_simp; try (with_reducible rfl)))
  (try simp only [Act.put, List.setIfInBounds_toArray, List.set_cons_zero, List.set_cons_succ])
  refine wpAnyN_take (i := 9) (oi := { dst := some 21, op := Go.Op.nilCheck (Go.Operand.tmp 20), type := 0, pos := "picture.go:24", after := #[{ on := 8, ground := Go.Ground.data }], guard := none }) (oL := { dst := none, op := Go.Op.store 47 (Go.Operand.tmp 3) (Go.Operand.tmp 24), type := 0, pos := "picture.go:24", after := #[{ on := 13, ground := Go.Ground.data }, { on := 12, ground := Go.Ground.data }, { on := 0, ground := Go.Ground.phase }, { on := 1, ground := Go.Ground.phase }, { on := 2, ground := Go.Ground.phase }, { on := 3, ground := Go.Ground.phase }, { on := 4, ground := Go.Ground.phase }, { on := 5, ground := Go.Ground.phase }, { on := 6, ground := Go.Ground.phase }, { on := 7, ground := Go.Ground.phase }, { on := 8, ground := Go.Ground.phase }, { on := 9, ground := Go.Ground.phase }, { on := 10, ground := Go.Ground.phase }, { on := 11, ground := Go.Ground.phase }, { on := 12, ground := Go.Ground.phase }, { on := 13, ground := Go.Ground.phase }], guard := none }) (v := .pointer (some ⟨P, 1, none⟩)) rfl rfl (by kernel_rfl) (by kernel_rfl) (by kernel_rfl) (by kernel_rfl) (fun _ _ _ h => h) (Or.inl ⟨by kernel_rfl, ?_⟩) (.inl rfl) ?_
  · (intro X hX; rcases hX with rfl | rfl <;> (go_simp; try (with_reducible rfl)))
  (try simp only [Act.put, List.setIfInBounds_toArray, List.set_cons_zero, List.set_cons_succ])
  refine wpAnyN_take (i := 10) (oi := { dst := some 22, op := Go.Op.fieldAddr 73 (Go.Operand.tmp 21) 3, type := 0, pos := "picture.go:24", after := #[{ on := 9, ground := Go.Ground.data }], guard := none }) (oL := { dst := none, op := Go.Op.store 47 (Go.Operand.tmp 3) (Go.Operand.tmp 24), type := 0, pos := "picture.go:24", after := #[{ on := 13, ground := Go.Ground.data }, { on := 12, ground := Go.Ground.data }, { on := 0, ground := Go.Ground.phase }, { on := 1, ground := Go.Ground.phase }, { on := 2, ground := Go.Ground.phase }, { on := 3, ground := Go.Ground.phase }, { on := 4, ground := Go.Ground.phase }, { on := 5, ground := Go.Ground.phase }, { on := 6, ground := Go.Ground.phase }, { on := 7, ground := Go.Ground.phase }, { on := 8, ground := Go.Ground.phase }, { on := 9, ground := Go.Ground.phase }, { on := 10, ground := Go.Ground.phase }, { on := 11, ground := Go.Ground.phase }, { on := 12, ground := Go.Ground.phase }, { on := 13, ground := Go.Ground.phase }], guard := none }) (v := .pointer (some ⟨P, 4, none⟩)) rfl rfl (by kernel_rfl) (by kernel_rfl) (by kernel_rfl) (by kernel_rfl) (fun _ _ _ h => h) (Or.inl ⟨by kernel_rfl, ?_⟩) (.inl rfl) ?_
  · (intro X hX; rcases hX with rfl | rfl <;> (go_simp; try (with_reducible rfl)))
  (try simp only [Act.put, List.setIfInBounds_toArray, List.set_cons_zero, List.set_cons_succ])
  refine wpAnyN_take (i := 11) (oi := { dst := some 23, op := Go.Op.load 3 (Go.Operand.tmp 22), type := 3, pos := "picture.go:24", after := #[{ on := 10, ground := Go.Ground.data }], guard := none }) (oL := { dst := none, op := Go.Op.store 47 (Go.Operand.tmp 3) (Go.Operand.tmp 24), type := 0, pos := "picture.go:24", after := #[{ on := 13, ground := Go.Ground.data }, { on := 12, ground := Go.Ground.data }, { on := 0, ground := Go.Ground.phase }, { on := 1, ground := Go.Ground.phase }, { on := 2, ground := Go.Ground.phase }, { on := 3, ground := Go.Ground.phase }, { on := 4, ground := Go.Ground.phase }, { on := 5, ground := Go.Ground.phase }, { on := 6, ground := Go.Ground.phase }, { on := 7, ground := Go.Ground.phase }, { on := 8, ground := Go.Ground.phase }, { on := 9, ground := Go.Ground.phase }, { on := 10, ground := Go.Ground.phase }, { on := 11, ground := Go.Ground.phase }, { on := 12, ground := Go.Ground.phase }, { on := 13, ground := Go.Ground.phase }], guard := none }) (v := .int .i64 h) rfl rfl (by kernel_rfl) (by kernel_rfl) (by kernel_rfl) (by kernel_rfl) (fun _ _ _ h => h) (Or.inl ⟨by kernel_rfl, ?_⟩) (.inl rfl) ?_
  · (intro X hX; rcases hX with rfl | rfl <;> (go_simp; try (with_reducible rfl)))
  (try simp only [Act.put, List.setIfInBounds_toArray, List.set_cons_zero, List.set_cons_succ])
  refine wpAnyN_take (i := 12) (oi := { dst := some 24, op := Go.Op.build 47 #[(0, Go.Operand.const (Go.Value.bool true)), (1, Go.Operand.tmp 15), (2, Go.Operand.tmp 19), (3, Go.Operand.tmp 23)], type := 47, pos := "picture.go:24", after := #[{ on := 3, ground := Go.Ground.data }, { on := 7, ground := Go.Ground.data }, { on := 11, ground := Go.Ground.data }], guard := none }) (oL := { dst := none, op := Go.Op.store 47 (Go.Operand.tmp 3) (Go.Operand.tmp 24), type := 0, pos := "picture.go:24", after := #[{ on := 13, ground := Go.Ground.data }, { on := 12, ground := Go.Ground.data }, { on := 0, ground := Go.Ground.phase }, { on := 1, ground := Go.Ground.phase }, { on := 2, ground := Go.Ground.phase }, { on := 3, ground := Go.Ground.phase }, { on := 4, ground := Go.Ground.phase }, { on := 5, ground := Go.Ground.phase }, { on := 6, ground := Go.Ground.phase }, { on := 7, ground := Go.Ground.phase }, { on := 8, ground := Go.Ground.phase }, { on := 9, ground := Go.Ground.phase }, { on := 10, ground := Go.Ground.phase }, { on := 11, ground := Go.Ground.phase }, { on := 12, ground := Go.Ground.phase }, { on := 13, ground := Go.Ground.phase }], guard := none }) (v := .agg #[.bool true, .int .i64 v, .int .i64 n, .int .i64 h, .slice none 0 0, .slice none 0 0, .slice none 0 0]) rfl rfl (by kernel_rfl) (by kernel_rfl) (by kernel_rfl) (by kernel_rfl) (fun _ _ _ h => h) (Or.inl ⟨by kernel_rfl, ?_⟩) (.inl rfl) ?_
  · (intro X hX; rcases hX with rfl | rfl <;> (go_simp; try (with_reducible rfl)))
  (try simp only [Act.put, List.setIfInBounds_toArray, List.set_cons_zero, List.set_cons_succ])
  refine wpAnyN_one (i := 13) (o := { dst := some 3, op := Go.Op.alloc 47, type := 0, pos := "picture.go:24", after := #[], guard := none }) (by kernel_rfl) rfl (fun K hK => ?_)
  go_simp
  refine hK.out _ _ (fun _ => (.inr rfl)) ?_
  clear hK K
  (try simp only [Act.put, List.setIfInBounds_toArray, List.set_cons_zero, List.set_cons_succ])
  refine wpAnyN_one (i := 14) (o := { dst := none, op := Go.Op.store 47 (Go.Operand.tmp 3) (Go.Operand.tmp 24), type := 0, pos := "picture.go:24", after := #[{ on := 13, ground := Go.Ground.data }, { on := 12, ground := Go.Ground.data }, { on := 0, ground := Go.Ground.phase }, { on := 1, ground := Go.Ground.phase }, { on := 2, ground := Go.Ground.phase }, { on := 3, ground := Go.Ground.phase }, { on := 4, ground := Go.Ground.phase }, { on := 5, ground := Go.Ground.phase }, { on := 6, ground := Go.Ground.phase }, { on := 7, ground := Go.Ground.phase }, { on := 8, ground := Go.Ground.phase }, { on := 9, ground := Go.Ground.phase }, { on := 10, ground := Go.Ground.phase }, { on := 11, ground := Go.Ground.phase }, { on := 12, ground := Go.Ground.phase }, { on := 13, ground := Go.Ground.phase }], guard := none }) (by kernel_rfl) rfl (fun K hK => ?_)
  refine wp_store_row 47 _ _ rfl Y0.heap.size #[.bool true, .int .i64 v, .int .i64 n, .int .i64 h, .slice none 0 0, .slice none 0 0, .slice none 0 0] rfl rfl 47 _ HNew.out Tryd.sizeSi rfl H1.out ?_
  refine hK.out _ _ (fun e => absurd (e.symm.trans (by kernel_rfl) : false = true) Bool.false_ne_true) ?_
  clear hK K
  (try simp only [Act.put])
  refine wpAnyN_of_H (S' := fun _ => True) _ _ _ _ (by kernel_rfl) ?_
  refine wpAnyH_done (by kernel_rfl) ?_ _
  rw [HY1.out]
  clear HY1 HNew m1 m2 m3 m4 a2 a3 a4 H1
  go_wp2_with fail
  go_loopw [30] (fun i wr => ∃ (k : Nat) (us fl kn : Value) (X : World), X = wr ∧ i = .int .i64 k ∧ k ≤ L.length ∧ SGL Y0.heap.size v n h us fl kn w.heap.size (L.take k) Y1 X) (fun i _ => L.length - (intOf i).toNat)
  case atStart => exact ⟨0, _, _, _, Y1, rfl, rfl, by omega, HST.out⟩
  case round =>
    obtain ⟨k, us, fl, kn, X, rfl, rfl, hk, fvs, hG, hfvs, hfa⟩ := hrel
    have HG := Lib.hid hG
    have HFA := Lib.hid hfa
    clear hG hfa
    by_cases hlt : k < L.length
    · have hlti : (k : Int) < (L.length : Int) := by omega
      have hkb : (L.length : Int) ≤ 140737488355328 := by have := HLL.out; omega
      obtain ⟨gr, ro, rfl, p, uid, kb, va, vn, vc, hp, hpu, hpk, hpv, hpl, hps, hcell⟩ := HCl.out k hlt
      obtain ⟨d0, d1, d2⟩ := hcell _ (HR1.out _ HG.out.bel).2
      obtain ⟨X1, hX1⟩ : ∃ X1, X.alloc (.cells #[.int .i64 uid, .bool kb, .slice va vn vc] 98) = X1 := ⟨_, rfl⟩
      have hb1 : Below X.heap.size X X1 := by rw [← hX1]; exact (Below.refl _ _).alloc (Nat.le_refl _) _
      have r1 : X1.heap[X.heap.size]? = some (.cells #[.int .i64 uid, .bool kb, .slice va vn vc] 98 (0, 0)) := by rw [← hX1]; exact heap_new _ _
      have g1 := SG.hold HG.out hb1
      have hxb : X.heap.size ≠ Y0.heap.size := by have := lt_of_heap HG.out.obj; omega
      have hlU : (uiV (L.take k)).length = k := by simp [uiV]; omega
      have hlK : (knV (L.take k)).length = k := by simp [knV]; omega
      have hlF : fvs.length = k := by rw [hfvs, List.length_take]; omega
      have hk6 : k ≤ 1000000 := by have := HLL.out; omega
      obtain ⟨ua, uc, W2, hru, hou, g2, hku⟩ := g1.addU uid (by rw [hlU]; omega)
      rw [hlU] at hru g2 hku
      obtain ⟨X2, hX2⟩ : ∃ X2, W2.setCell ⟨Y0.heap.size, 4, none⟩ (.slice ua (k + 1) uc) = X2 := ⟨_, rfl⟩
      rw [hX2] at g2 hku
      have r2 := ((hku _ _ _ _ r1 (by decide) hxb).2).trans r1
      obtain ⟨fa9, fc9, Wf, hrc, hbf, hnew⟩ := strs_copy (X := X2.drew) (HStr.out X2.drew va vn vc p.fl (HR1.out _ g2.bel).2.drew hps) hpl
      rw [← hpv] at hrc hnew
      have hbf' : Below X2.heap.size X2 Wf := ⟨hbf.os, hbf.tape, hbf.output, hbf.size, hbf.block⟩
      have g2f := SG.hold g2 hbf'
      have r2f : Wf.heap[X.heap.size]? = some (.cells #[.int .i64 uid, .bool kb, .slice va vn vc] 98 (0, 0)) := bel_at hbf' (lt_of_heap r2) r2
      obtain ⟨fa2, fc2, W3, hrf, hof, g3, hkf⟩ := g2f.addG (.slice fa9 vn fc9) rfl (by rw [hlF]; omega)
      rw [hlF] at hrf g3 hkf
      obtain ⟨X3, hX3⟩ : ∃ X3, W3.setCell ⟨Y0.heap.size, 5, none⟩ (.slice fa2 (k + 1) fc2) = X3 := ⟨_, rfl⟩
      rw [hX3] at g3 hkf
      have r3w := ((hkf _ _ _ _ r2f (by decide) hxb).1).trans r2f
      have r3 := ((hkf _ _ _ _ r2f (by decide) hxb).2).trans r2f
      obtain ⟨ka, kc, W4, hrk, hok, g4, hkk⟩ := g3.addK kb (by rw [hlK]; omega)
      rw [hlK] at hrk g4 hkk
      obtain ⟨X4, hX4⟩ : ∃ X4, W4.setCell ⟨Y0.heap.size, 6, none⟩ (.slice ka (k + 1) kc) = X4 := ⟨_, rfl⟩
      rw [hX4] at g4 hkk
      have e12 : KeepS X1 X2 := sg_keepS g1 (by decide) (fun g' cs t f a b c => (hku g' cs t f a b c).2)
      have ef3 : KeepS Wf X3 := sg_keepS g2f (by decide) (fun g' cs t f a b c => (hkf g' cs t f a b c).2)
      have e34 : KeepS X3 X4 := sg_keepS g3 (by decide) (fun g' cs t f a b c => (hkk g' cs t f a b c).2)
      have kAll : KeepS X X4 := (KeepS.below hb1).trans (e12.trans ((KeepS.below hbf').trans (ef3.trans e34)))
      have hLk : L.take (k + 1) = L.take k ++ [p] := by rw [List.take_add_one, hp]; rfl
      have bwX := (HR1.out _ HG.out.bel).2
      have hX2s : w.heap.size ≤ X2.heap.size := (HR1.out _ g2.bel).2.size
      have HG4 : Hid (SGL Y0.heap.size v n h (.slice ua (k + 1) uc) (.slice fa2 (k + 1) fc2) (.slice ka (k + 1) kc) w.heap.size (L.take (k + 1)) Y1 X4) := Lib.hid (by
        refine ⟨fvs ++ [.slice fa9 vn fc9], ?_, by rw [hLk]; simp [hfvs], ?_⟩
        · rw [hLk]
          simp only [uiV, knV, List.map_append, List.map_cons, List.map_nil, ← hpu, ← hpk]
          exact g4
        · rw [hLk]
          exact (HFA.out.mono (fun _ _ r => r.ks kAll)).app ⟨(hnew.ks (ef3.trans e34)).low hX2s, trivial⟩)
      obtain ⟨uA, uN, uC, hus⟩ : ∃ a m c, us = .slice a m c := by obtain ⟨a, c, e⟩ := ownsRow_shape g1.ru; exact ⟨_, _, _, e⟩
      obtain ⟨fa, fn, fc, hfl⟩ : ∃ a m c, fl = .slice a m c := by obtain ⟨a, c, e⟩ := ownsRow_shape g1.rf; exact ⟨_, _, _, e⟩
      obtain ⟨kA, kN, kC, hkn⟩ : ∃ a m c, kn = .slice a m c := by obtain ⟨a, c, e⟩ := ownsRow_shape g1.rk; exact ⟨_, _, _, e⟩
      subst hus hfl hkn
      have cu := g1.cells.1
      have e0 : X1.cell? ⟨X.heap.size, 0, none⟩ = some (.int .i64 uid) := cell_of r1 0
      have cuW : W2.cell? ⟨Y0.heap.size, 4, none⟩ = some (.slice uA uN uC) := by unfold siC at hou; exact cell_of hou 4
      have fuW : W2.frozen? ⟨Y0.heap.size, 4, none⟩ = false := frozen_of hou 4
      have cf := g2.cells.2.1
      have e2 : X2.cell? ⟨X.heap.size, 2, none⟩ = some (.slice va vn vc) := cell_of r2 2
      have cfF := g2f.cells.2.1
      have e2F : Wf.cell? ⟨X.heap.size, 2, none⟩ = some (.slice va vn vc) := cell_of r2f 2
      have gal := g2f.hold ((Below.refl _ _).alloc (Nat.le_refl _) (.cells #[.slice fa9 vn fc9] 27))
      have cfa := gal.cells.2.1
      have e2a : (Wf.alloc (.cells #[.slice fa9 vn fc9] 27)).cell? ⟨X.heap.size, 2, none⟩ = some (.slice va vn vc) := by rw [((Below.refl Wf.heap.size Wf).alloc (Nat.le_refl _) _).cell (p := ⟨X.heap.size, 2, none⟩) (lt_of_heap r2f)]; exact e2F
      have cfW : W3.cell? ⟨Y0.heap.size, 5, none⟩ = some (.slice fa fn fc) := by unfold siC at hof; exact cell_of hof 5
      have ffW : W3.frozen? ⟨Y0.heap.size, 5, none⟩ = false := frozen_of hof 5
      have e2W : W3.cell? ⟨X.heap.size, 2, none⟩ = some (.slice va vn vc) := cell_of r3w 2
      have ck := g3.cells.2.2
      have e1 : X3.cell? ⟨X.heap.size, 1, none⟩ = some (.bool kb) := cell_of r3 1
      have ckW : W4.cell? ⟨Y0.heap.size, 6, none⟩ = some (.slice kA kN kC) := by unfold siC at hok; exact cell_of hok 6
      have fkW : W4.frozen? ⟨Y0.heap.size, 6, none⟩ = false := frozen_of hok 6
      have HX1 := Lib.hid hX1
      have HX2 := Lib.hid hX2
      have HX3 := Lib.hid hX3
      have HX4 := Lib.hid hX4
      have HRu := Lib.hid hru
      have HRc := Lib.hid hrc
      have HRf := Lib.hid hrf
      have HRk := Lib.hid hrk
      have HB7 := Lib.hid (And.intro cf (And.intro e2 (And.intro cfF (And.intro e2F (And.intro cfa (And.intro e2a (And.intro cfW (And.intro ffW e2W))))))))
      have HB9 := Lib.hid (And.intro ck (And.intro e1 (And.intro ckW fkW)))
      clear hX1 hX2 hX3 hX4 hru hrc hrf hrk hb1 r1 g1 hxb hlU hlK hlF hk6 hou g2 hku r2 hbf hbf' hnew g2f r2f hof g3 hkf r3w r3 hok g4 hkk gal HG HFA cf e2 cfF e2F cfa e2a cfW ffW e2W ck e1 ckW fkW e12 ef3 e34 kAll hLk bwX hX2s hcell hps hp hpu hpk hpv hpl hfvs
      go_upto_region 7 with fail
      (try rw [HX1.out])
      clear HX1 d0 d1 d2
      go_upto_region 8 with (first | (refine append_by_run rfl _ _ _ rfl _ rfl _ _ rfl rfl _ _ HRu.out ?_))
      (try rw [HX2.out])
      clear HX2 HRu cu e0 cuW fuW
      obtain ⟨cf, e2, cfF, e2F, cfa, e2a, cfW, ffW, e2W⟩ := HB7.out
      clear HB7
      refine wp_region_N 8 (fun X => X = X2.drew ∨ X = Wf ∨ X = Wf.alloc (.cells #[.slice fa9 vn fc9] 27) ∨ X = W3) (by kernel_rfl) ?_
      refine wpAnyN_take (i := 0) (oi := { dst := some 41, op := Go.Op.fieldAddr 47 (Go.Operand.tmp 3) 5, type := 0, pos := "picture.go:27", after := #[], guard := none }) (oL := { dst := none, op := Go.Op.store 44 (Go.Operand.tmp 48) (Go.Operand.tmp 47), type := 0, pos := "picture.go:27", after := #[{ on := 7, ground := Go.Ground.data }, { on := 6, ground := Go.Ground.data }, { on := 6, ground := Go.Ground.chain }, { on := 0, ground := Go.Ground.phase }, { on := 1, ground := Go.Ground.phase }, { on := 2, ground := Go.Ground.phase }, { on := 3, ground := Go.Ground.phase }, { on := 4, ground := Go.Ground.phase }, { on := 5, ground := Go.Ground.phase }, { on := 6, ground := Go.Ground.phase }], guard := none }) (v := .pointer (some ⟨Y0.heap.size, 5, none⟩)) rfl rfl (by kernel_rfl) (by kernel_rfl) (by kernel_rfl) (by kernel_rfl) (fun _ _ _ h => h) (Or.inl ⟨by kernel_rfl, ?_⟩) (.inl rfl) ?_
      · (intro X hX; rcases hX with rfl | rfl | rfl | rfl <;> (go_simp; try (with_reducible rfl)))
      (try simp only [Act.put, List.setIfInBounds_toArray, List.set_cons_zero, List.set_cons_succ])
      refine wpAnyN_take (i := 1) (oi := { dst := some 42, op := Go.Op.load 44 (Go.Operand.tmp 41), type := 44, pos := "picture.go:27", after := #[{ on := 0, ground := Go.Ground.data }], guard := none }) (oL := { dst := none, op := Go.Op.store 44 (Go.Operand.tmp 48) (Go.Operand.tmp 47), type := 0, pos := "picture.go:27", after := #[{ on := 7, ground := Go.Ground.data }, { on := 6, ground := Go.Ground.data }, { on := 6, ground := Go.Ground.chain }, { on := 0, ground := Go.Ground.phase }, { on := 1, ground := Go.Ground.phase }, { on := 2, ground := Go.Ground.phase }, { on := 3, ground := Go.Ground.phase }, { on := 4, ground := Go.Ground.phase }, { on := 5, ground := Go.Ground.phase }, { on := 6, ground := Go.Ground.phase }], guard := none }) (v := .slice fa fn fc) rfl rfl (by kernel_rfl) (by kernel_rfl) (by kernel_rfl) (by kernel_rfl) (fun _ _ _ h => h) (Or.inl ⟨by kernel_rfl, ?_⟩) (.inl rfl) ?_
      · (intro X hX; rcases hX with rfl | rfl | rfl | rfl <;> (go_simp; try (with_reducible rfl)))
      (try simp only [Act.put, List.setIfInBounds_toArray, List.set_cons_zero, List.set_cons_succ])
      refine wpAnyN_take (i := 2) (oi := { dst := some 43, op := Go.Op.fieldAddr 98 (Go.Operand.tmp 5) 2, type := 0, pos := "picture.go:27", after := #[], guard := none }) (oL := { dst := none, op := Go.Op.store 44 (Go.Operand.tmp 48) (Go.Operand.tmp 47), type := 0, pos := "picture.go:27", after := #[{ on := 7, ground := Go.Ground.data }, { on := 6, ground := Go.Ground.data }, { on := 6, ground := Go.Ground.chain }, { on := 0, ground := Go.Ground.phase }, { on := 1, ground := Go.Ground.phase }, { on := 2, ground := Go.Ground.phase }, { on := 3, ground := Go.Ground.phase }, { on := 4, ground := Go.Ground.phase }, { on := 5, ground := Go.Ground.phase }, { on := 6, ground := Go.Ground.phase }], guard := none }) (v := .pointer (some ⟨X.heap.size, 2, none⟩)) rfl rfl (by kernel_rfl) (by kernel_rfl) (by kernel_rfl) (by kernel_rfl) (fun _ _ _ h => h) (Or.inl ⟨by kernel_rfl, ?_⟩) (.inl rfl) ?_
      · (intro X hX; rcases hX with rfl | rfl | rfl | rfl <;> (go_simp; try (with_reducible rfl)))
      (try simp only [Act.put, List.setIfInBounds_toArray, List.set_cons_zero, List.set_cons_succ])
      refine wpAnyN_take (i := 3) (oi := { dst := some 44, op := Go.Op.load 27 (Go.Operand.tmp 43), type := 27, pos := "picture.go:27", after := #[{ on := 2, ground := Go.Ground.data }], guard := none }) (oL := { dst := none, op := Go.Op.store 44 (Go.Operand.tmp 48) (Go.Operand.tmp 47), type := 0, pos := "picture.go:27", after := #[{ on := 7, ground := Go.Ground.data }, { on := 6, ground := Go.Ground.data }, { on := 6, ground := Go.Ground.chain }, { on := 0, ground := Go.Ground.phase }, { on := 1, ground := Go.Ground.phase }, { on := 2, ground := Go.Ground.phase }, { on := 3, ground := Go.Ground.phase }, { on := 4, ground := Go.Ground.phase }, { on := 5, ground := Go.Ground.phase }, { on := 6, ground := Go.Ground.phase }], guard := none }) (v := .slice va vn vc) rfl rfl (by kernel_rfl) (by kernel_rfl) (by kernel_rfl) (by kernel_rfl) (fun _ _ _ h => h) (Or.inl ⟨by kernel_rfl, ?_⟩) (.inl rfl) ?_
      · (intro X hX; rcases hX with rfl | rfl | rfl | rfl <;> (go_simp; try (with_reducible rfl)))
      (try simp only [Act.put, List.setIfInBounds_toArray, List.set_cons_zero, List.set_cons_succ])
      refine wpAnyN_one (i := 4) (o := { dst := some 45, op := Go.Op.call { callee := Go.Callee.builtin Go.Builtin.append, args := #[Go.Operand.const (Go.Value.slice none 0 0), Go.Operand.tmp 44], argTypes := #[27, 27] }, type := 27, pos := "picture.go:27", after := #[{ on := 3, ground := Go.Ground.data }], guard := none }) (by kernel_rfl) rfl (fun K hK => ?_)
      refine step_append_run rfl _ _ _ rfl _ rfl _ _ rfl rfl _ _ HRc.out ?_
      refine hK.out _ _ (fun _ => (.inr (.inl rfl))) ?_
      clear hK K
      (try simp only [Act.put, List.setIfInBounds_toArray, List.set_cons_zero, List.set_cons_succ])
      refine wpAnyN_one (i := 5) (o := { dst := some 46, op := Go.Op.buildSlice 44 1 #[(0, Go.Operand.tmp 45)], type := 44, pos := "picture.go:27", after := #[{ on := 4, ground := Go.Ground.data }], guard := none }) (by kernel_rfl) rfl (fun K hK => ?_)
      go_simp
      refine hK.out _ _ (fun _ => (.inr (.inr (.inl rfl)))) ?_
      clear hK K
      (try simp only [Act.put, List.setIfInBounds_toArray, List.set_cons_zero, List.set_cons_succ])
      refine wpAnyN_one (i := 6) (o := { dst := some 47, op := Go.Op.call { callee := Go.Callee.builtin Go.Builtin.append, args := #[Go.Operand.tmp 42, Go.Operand.tmp 46], argTypes := #[44, 44] }, type := 44, pos := "picture.go:27", after := #[{ on := 1, ground := Go.Ground.data }, { on := 5, ground := Go.Ground.data }, { on := 4, ground := Go.Ground.chain }], guard := none }) (by kernel_rfl) rfl (fun K hK => ?_)
      refine step_append_run rfl _ _ _ rfl _ rfl _ _ rfl rfl _ _ HRf.out ?_
      refine hK.out _ _ (fun _ => (.inr (.inr (.inr rfl)))) ?_
      clear hK K
      (try simp only [Act.put, List.setIfInBounds_toArray, List.set_cons_zero, List.set_cons_succ])
      refine wpAnyN_take (i := 7) (oi := { dst := some 48, op := Go.Op.fieldAddr 47 (Go.Operand.tmp 3) 5, type := 0, pos := "picture.go:27", after := #[{ on := 0, ground := Go.Ground.phase }, { on := 1, ground := Go.Ground.phase }, { on := 2, ground := Go.Ground.phase }, { on := 3, ground := Go.Ground.phase }, { on := 4, ground := Go.Ground.phase }, { on := 5, ground := Go.Ground.phase }, { on := 6, ground := Go.Ground.phase }], guard := none }) (oL := { dst := none, op := Go.Op.store 44 (Go.Operand.tmp 48) (Go.Operand.tmp 47), type := 0, pos := "picture.go:27", after := #[{ on := 7, ground := Go.Ground.data }, { on := 6, ground := Go.Ground.data }, { on := 6, ground := Go.Ground.chain }, { on := 0, ground := Go.Ground.phase }, { on := 1, ground := Go.Ground.phase }, { on := 2, ground := Go.Ground.phase }, { on := 3, ground := Go.Ground.phase }, { on := 4, ground := Go.Ground.phase }, { on := 5, ground := Go.Ground.phase }, { on := 6, ground := Go.Ground.phase }], guard := none }) (v := .pointer (some ⟨Y0.heap.size, 5, none⟩)) rfl rfl (by kernel_rfl) (by kernel_rfl) (by kernel_rfl) (by kernel_rfl) (fun _ _ _ h => h) (Or.inl ⟨by kernel_rfl, ?_⟩) (.inr (.inr (.inr rfl))) ?_
      · (intro X hX; rcases hX with rfl | rfl | rfl | rfl <;> (go_simp; try (with_reducible rfl)))
      (try simp only [Act.put, List.setIfInBounds_toArray, List.set_cons_zero, List.set_cons_succ])
      refine wpAnyN_one (i := 8) (o := { dst := none, op := Go.Op.store 44 (Go.Operand.tmp 48) (Go.Operand.tmp 47), type := 0, pos := "picture.go:27", after := #[{ on := 7, ground := Go.Ground.data }, { on := 6, ground := Go.Ground.data }, { on := 6, ground := Go.Ground.chain }, { on := 0, ground := Go.Ground.phase }, { on := 1, ground := Go.Ground.phase }, { on := 2, ground := Go.Ground.phase }, { on := 3, ground := Go.Ground.phase }, { on := 4, ground := Go.Ground.phase }, { on := 5, ground := Go.Ground.phase }, { on := 6, ground := Go.Ground.phase }], guard := none }) (by kernel_rfl) rfl (fun K hK => ?_)
      go_simp
      refine hK.out _ _ (fun e => absurd (e.symm.trans (by kernel_rfl) : false = true) Bool.false_ne_true) ?_
      clear hK K
      (try simp only [Act.put, List.setIfInBounds_toArray, List.set_cons_zero, List.set_cons_succ])
      refine wpAnyN_of_H (S' := fun _ => True) _ _ _ _ (by kernel_rfl) ?_
      refine wpAnyH_done (by kernel_rfl) ?_ _
      (try rw [HX3.out])
      clear HX3 HRf HRc cf e2 cfF e2F cfa e2a cfW ffW e2W
      obtain ⟨ck, e1, ckW, fkW⟩ := HB9.out
      clear HB9
      go_wp2_with (first | (refine append_by_run rfl _ _ _ rfl _ rfl _ _ rfl rfl _ _ HRk.out ?_))
      (try rw [HX4.out])
      go_roundw
      case rel => exact ⟨k + 1, _, _, _, _, rfl, by go_num, by omega, HG4.out⟩
      case measure => simp [intOf]; omega
    · obtain rfl : k = L.length := by omega
      obtain ⟨uA, uN, uC, hus⟩ : ∃ a m c, us = .slice a m c := by obtain ⟨a, c, e⟩ := ownsRow_shape HG.out.ru; exact ⟨_, _, _, e⟩
      obtain ⟨fa, fn, fc, hfl⟩ : ∃ a m c, fl = .slice a m c := by obtain ⟨a, c, e⟩ := ownsRow_shape HG.out.rf; exact ⟨_, _, _, e⟩
      obtain ⟨kA, kN, kC, hkn⟩ : ∃ a m c, kn = .slice a m c := by obtain ⟨a, c, e⟩ := ownsRow_shape HG.out.rk; exact ⟨_, _, _, e⟩
      subst hus hfl hkn
      have ob := HG.out.obj
      unfold siC at ob
      have c0 : X.cell? ⟨Y0.heap.size, 0, none⟩ = some (.bool true) := cell_of ob 0
      have c1 : X.cell? ⟨Y0.heap.size, 1, none⟩ = some (.int .i64 v) := cell_of ob 1
      have c2 : X.cell? ⟨Y0.heap.size, 2, none⟩ = some (.int .i64 n) := cell_of ob 2
      have c3 : X.cell? ⟨Y0.heap.size, 3, none⟩ = some (.int .i64 h) := cell_of ob 3
      have c4 : X.cell? ⟨Y0.heap.size, 4, none⟩ = some (.slice uA uN uC) := cell_of ob 4
      have c5 : X.cell? ⟨Y0.heap.size, 5, none⟩ = some (.slice fa fn fc) := cell_of ob 5
      have c6 : X.cell? ⟨Y0.heap.size, 6, none⟩ = some (.slice kA kN kC) := cell_of ob 6
      obtain ⟨rS, bw⟩ := HR1.out _ HG.out.bel
      have RS := Lib.hid rS
      have BW := Lib.hid bw
      have HFV := Lib.hid hfvs
      have H1 : Hid ((#[.bool true, .int .i64 v, .int .i64 n, .int .i64 h, .slice uA uN uC, .slice fa fn fc, .slice kA kN kC] : Array Value).all (·.oneCell') = true) := Lib.hid (by simp [Value.oneCell'])
      clear ob rS bw HR1 HST hfvs
      go_wp2_with (first | (refine wpList_store_row rfl 47 _ _ rfl w.heap.size #[.bool true, .int .i64 v, .int .i64 n, .int .i64 h, .slice uA uN uC, .slice fa fn fc, .slice kA kN kC] rfl rfl 47 _ RS.out Tryd.sizeSi rfl H1.out ?_))
      refine bodyPost_ret (v := .agg (siC true v n h (.slice uA uN uC) (.slice fa fn fc) (.slice kA kN kC))) (results_cell_row Tryd.results26 _ _ w.heap.size 47 (siC true v n h (.slice uA uN uC) (.slice fa fn fc) (.slice kA kN kC)) (0, 0) _ rfl (setRow_heap _ _ _ _ _ _ RS.out) Tryd.underlying47 rfl Tryd.sizeSi) rfl ?_
      have g := HG.out
      have so : ∀ c, c ≠ w.heap.size → (X.setRow w.heap.size #[.bool true, .int .i64 v, .int .i64 n, .int .i64 h, .slice uA uN uC, .slice fa fn fc, .slice kA kN kC]).heap[c]? = X.heap[c]? := fun c hc => setRow_other _ _ _ _ hc
      have hlt2 : w.heap.size < Y0.heap.size := HZ0.out
      have ks : KeepS X (X.setRow w.heap.size #[.bool true, .int .i64 v, .int .i64 n, .int .i64 h, .slice uA uN uC, .slice fa fn fc, .slice kA kN kC]) := fun c cs f e => by rw [so c (kind_ne e RS.out (by decide))]; exact e
      have hU : (uiV (L.take L.length)).length = L.length := by simp [uiV]
      have hK : (knV (L.take L.length)).length = L.length := by simp [knV]
      have hF : fvs.length = L.length := by rw [HFV.out]; simp
      have ru := ownsRow_same g.ru (fun c e => so c (by have := g.lu c e; omega))
      have rf := ownsRow_same g.rf (fun c e => so c (by have := g.lf c e; omega))
      have rk := ownsRow_same g.rk (fun c e => so c (by have := g.lk c e; omega))
      rw [hU, List.take_length] at ru
      rw [hF] at rf
      rw [hK, List.take_length] at rk
      have fa' := HFA.out
      rw [List.take_length] at fa'
      exact ⟨_, _, _, rfl, ⟨BW.out.os, BW.out.tape, BW.out.output, by simpa [World.setRow] using BW.out.size, fun b hb => by rw [so b (by omega)]; exact BW.out.block b hb⟩, ⟨ru, ⟨fvs, rf, fa'.mono (fun _ _ r => r.ks ks)⟩, rk, fun c e => by have := g.lu c e; omega, fun c e => by have := g.lf c e; omega, fun c e => by have := g.lk c e; omega⟩⟩
end Go.Proofs.YtlmlbcnjohjnlaaDoor

/- mirror: Sight. -/
namespace Go.Proofs.YtlmlbcnjohjnlaaDoor
open Go.RowKit

def SightOut (M : PM) (w : World) (e : Ending) (w' : World) : Prop := if M.sel = true then SightV M.v M.n M.h M.rows w e w' else e = .returned (.agg si0) ∧ Below w.heap.size w w'
/-- Few rows, few flags. -/
structure SmallM (M : PM) : Prop where
  rows : M.rows.length ≤ 1000000
  fl : ∀ p ∈ M.rows, p.fl.length ≤ 1000000
  q : M.q.length ≤ 1000000
set_option maxRecDepth 20000 in
set_option maxHeartbeats 2000000 in
theorem sight_no (P : Nat) (q : Value) (v n h : Int) (rows was : Value) (bg : Bool) (w : World) (hM : w.heap[P]? = some (mirO q false v n h rows was bg)) :
    Calls Tryd.prog 26 #[.pointer (some ⟨P, 1, none⟩)] w fun e w' => e = .returned (.agg si0) ∧ Below w.heap.size w w' := by
  obtain ⟨Y0, hY0⟩ : ∃ Y, w.alloc (.cells #[.bool false, .int .i64 0, .int .i64 0, .int .i64 0, .slice none 0 0, .slice none 0 0, .slice none 0 0] 47) = Y := ⟨_, rfl⟩
  have b0 : Below w.heap.size w Y0 := by rw [← hY0]; exact (Below.refl _ _).alloc (Nat.le_refl _) _
  have rS : Y0.heap[w.heap.size]? = some (.cells si0 47 (0, 0)) := by rw [← hY0]; exact heap_new _ _
  have m1 := (mir_cells (bel_at b0 (lt_of_heap hM) hM)).c1
  have H1 : Hid (si0.all (·.oneCell') = true) := Lib.hid (by simp [si0, siC, Value.oneCell'])
  have HY0 := Lib.hid hY0
  have RS := Lib.hid rS
  have B0 := Lib.hid b0
  clear hY0 b0 rS hM
  go_enter Tryd.func26, Tryd.ntmps26
  go_upto_region 1 with fail
  rw [HY0.out]
  clear HY0
  go_wp2_with (first | (refine wpList_store_row rfl 47 _ _ rfl w.heap.size si0 rfl rfl 47 _ RS.out Tryd.sizeSi rfl H1.out ?_))
  refine bodyPost_ret (v := .agg si0) (results_cell_row Tryd.results26 _ _ w.heap.size 47 si0 (0, 0) _ rfl (setRow_heap _ _ _ _ _ _ RS.out) Tryd.underlying47 rfl Tryd.sizeSi) rfl ⟨rfl, ?_⟩
  exact ⟨B0.out.os, B0.out.tape, B0.out.output, by simpa [World.setRow] using B0.out.size, fun b hb => by rw [setRow_other _ _ _ _ (by omega)]; exact B0.out.block b hb⟩
set_option maxRecDepth 20000 in
set_option maxHeartbeats 2000000 in
theorem Sight_of (P : Nat) (w : World) (R : Array Value → World → World → Prop) (hcs : ∀ Y w' cs, R cs Y w' → cs.size = 7 ∧ cs.all (·.oneCell') = true ∧ Below Y.heap.size Y w') (hP : ∀ Y, Below w.heap.size w Y → Calls Tryd.prog 26 #[.pointer (some ⟨P, 1, none⟩)] Y fun e w' => ∃ cs, e = .returned (.agg cs) ∧ R cs Y w') :
    Calls Tryd.prog 12 #[.pointer (some ⟨P, 0, none⟩)] w fun e w' => ∃ cs Y X, e = .returned (.agg cs) ∧ Below w.heap.size w Y ∧ w.heap.size < Y.heap.size ∧ R cs Y X ∧ w' = X.setRow w.heap.size cs := by
  obtain ⟨Y0, hY0⟩ : ∃ Y, w.alloc (.cells #[.bool false, .int .i64 0, .int .i64 0, .int .i64 0, .slice none 0 0, .slice none 0 0, .slice none 0 0] 47) = Y := ⟨_, rfl⟩
  have b0 : Below w.heap.size w Y0 := by rw [← hY0]; exact (Below.refl _ _).alloc (Nat.le_refl _) _
  have rS : Y0.heap[w.heap.size]? = some (.cells #[.bool false, .int .i64 0, .int .i64 0, .int .i64 0, .slice none 0 0, .slice none 0 0, .slice none 0 0] 47 (0, 0)) := by rw [← hY0]; exact heap_new _ _
  have HS := Lib.hid (hP Y0 b0)
  have HF : Hid (∀ X cs, R cs Y0 X → X.heap[w.heap.size]? = some (.cells #[.bool false, .int .i64 0, .int .i64 0, .int .i64 0, .slice none 0 0, .slice none 0 0, .slice none 0 0] 47 (0, 0)) ∧ cs.all (·.oneCell') = true ∧ (Tryd.prog.info? 47).map (·.size) = some cs.size ∧ (#[.bool false, .int .i64 0, .int .i64 0, .int .i64 0, .slice none 0 0, .slice none 0 0, .slice none 0 0] : Array Value).size = cs.size) := Lib.hid (fun X cs hR => by
    obtain ⟨h1, h2, h3⟩ := hcs _ _ _ hR
    exact ⟨bel_at h3 (lt_of_heap rS) rS, h2, by rw [Tryd.sizeSi, h1], by rw [h1]; rfl⟩)
  have HB := Lib.hid (And.intro b0 (lt_of_heap rS))
  have HY := Lib.hid hY0
  clear hY0 b0 rS hP hcs
  go_enter Tryd.func12, Tryd.ntmps12
  go_upto_region 3 with fail
  rw [HY.out]
  clear HY
  go_wp2_with (first | (go_at_call 26; refine HS.out.mono ?_; rintro e w2 ⟨cs, rfl, hR⟩; have HR := Lib.hid hR; have HH := Lib.hid (HF.out _ _ hR); clear hR) | (refine wpList_store_row rfl 47 _ _ rfl w.heap.size cs rfl rfl 47 _ HH.out.1 HH.out.2.2.1 HH.out.2.2.2 HH.out.2.1 ?_))
  refine bodyPost_ret (v := .agg cs) (results_cell_row Tryd.results12 _ _ w.heap.size 47 cs (0, 0) _ rfl (setRow_heap _ _ _ _ _ _ HH.out.1) Tryd.underlying47 rfl HH.out.2.2.1) rfl ?_
  exact ⟨cs, Y0, w2, rfl, HB.out.1, HB.out.2, HR.out, rfl⟩
theorem Sight_any (P : Nat) (fr : List Nat) (M : PM) (w : World) (h : MAt P fr M w) (hs : SmallM M) : Calls Tryd.prog 12 #[.pointer (some ⟨P, 0, none⟩)] w (SightOut M w) := by
  unfold SightOut
  cases hsel : M.sel with
  | false =>
    refine (Sight_of P w (fun cs Y X => cs = si0 ∧ Below Y.heap.size Y X) (fun Y X cs hR => ?_) (fun Y hY => ?_)).mono ?_
    · obtain ⟨rfl, hb⟩ := hR
      exact ⟨rfl, by simp [si0, siC, Value.oneCell'], hb⟩
    · obtain ⟨q, rows, was, hM, _⟩ := (h.bel hY).ex
      rw [hsel] at hM
      refine (sight_no P q _ _ _ rows was _ Y hM).mono ?_
      rintro e w' ⟨rfl, hb⟩
      exact ⟨_, rfl, rfl, hb⟩
    · rintro e w' ⟨cs, Y, X, rfl, h1, h2, ⟨rfl, h3⟩, rfl⟩
      have hb := h1.trans (h3.mono h1.size)
      exact ⟨rfl, hb.os, hb.tape, hb.output, by simpa [World.setRow] using hb.size, fun b hb' => by rw [setRow_other _ _ _ _ (by omega)]; exact hb.block b hb'⟩
  | true =>
    refine (Sight_of P w (fun cs Y X => ∃ us fl kn, cs = siC true M.v M.n M.h us fl kn ∧ Below Y.heap.size Y X ∧ SgA Y.heap.size X us fl kn M.rows) (fun Y X cs hR => ?_) (fun Y hY => ?_)).mono ?_
    · obtain ⟨us, fl, kn, rfl, hb, hg⟩ := hR
      obtain ⟨a1, c1, e1⟩ := ownsRow_shape hg.ru
      obtain ⟨fvs, hf, _⟩ := hg.rf
      obtain ⟨a2, c2, e2⟩ := ownsRow_shape hf
      obtain ⟨a3, c3, e3⟩ := ownsRow_shape hg.rk
      subst e1 e2 e3
      exact ⟨rfl, by simp [siC, Value.oneCell'], hb⟩
    · have hy := h.bel hY
      obtain ⟨q, rows, was, hM, _, ⟨rs, hr1, hr2, hr3⟩, _⟩ := hy.ex
      rw [hsel] at hM
      obtain ⟨ra, rc, rfl⟩ := hr1.shape
      refine (sight_val P q M.v M.n M.h ra rc was M.bg fr rs M.rows Y hM hr1 hr3 hy.lt hs.rows hs.fl).mono ?_
      rintro e w' ⟨us, fl, kn, rfl, hb, hg⟩
      exact ⟨_, rfl, us, fl, kn, rfl, hb, hg⟩
    · rintro e w' ⟨cs, Y, X, rfl, h1, h2, ⟨us, fl, kn, rfl, h3, hg⟩, rfl⟩
      have hb := h1.trans (h3.mono h1.size)
      have so : ∀ c, c ≠ w.heap.size → (X.setRow w.heap.size (siC true M.v M.n M.h us fl kn)).heap[c]? = X.heap[c]? := fun c hc => setRow_other _ _ _ _ hc
      refine ⟨us, fl, kn, rfl, ⟨hb.os, hb.tape, hb.output, by simpa [World.setRow] using hb.size, fun b hb' => by rw [so b (by omega)]; exact hb.block b hb'⟩, ?_⟩
      obtain ⟨fvs, hf1, hf2⟩ := hg.rf
      have hle : w.heap.size ≤ Y.heap.size := h1.size
      refine ⟨ownsRow_same hg.ru (fun c e => so c (by have := hg.lu c e; omega)), ⟨fvs, ownsRow_same hf1 (fun c e => so c (by have := hg.lf c e; omega)), hf2.mono (fun fv p r => ?_)⟩, ownsRow_same hg.rk (fun c e => so c (by have := hg.lk c e; omega)), fun c e => by have := hg.lu c e; omega, fun c e => by have := hg.lf c e; omega, fun c e => by have := hg.lk c e; omega⟩
      obtain ⟨nb, ⟨a, c, rfl, r1⟩, r2⟩ := r
      refine ⟨nb, ⟨a, c, rfl, fun h0 => ?_⟩, fun b hb => ?_⟩
      · obtain ⟨g, o, cs, rfl, hg', hh, hc⟩ := r1 h0
        exact ⟨g, o, cs, rfl, hg', by rw [so g (by have := (r2 g hg').1; omega)]; exact hh, hc⟩
      · obtain ⟨e1, cs, f, e2⟩ := r2 b hb
        exact ⟨by omega, cs, f, by rw [so b (by omega)]; exact e2⟩
end Go.Proofs.YtlmlbcnjohjnlaaDoor
