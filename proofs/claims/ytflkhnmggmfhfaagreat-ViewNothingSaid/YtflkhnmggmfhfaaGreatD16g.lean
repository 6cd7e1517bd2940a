/- Steps on the desk's flags and uids. -/
import Derived.Test.YtflkhnmggmfhfaaGreatD16f
namespace Go.Proofs.YtflkhnmggmfhfaaGreat
open Go.RowKit

def overB : ByteArray := ⟨#[111, 118, 101, 114]⟩
section
variable {D : Nat} {v : DV} {c : DC} {fp : List Nat} {w X : World}
/-- Where the places for flags lie. -/
theorem DS.atF (h : DS D v c fp w X) {i : Nat} {f : FE} (hf : c.F[i]? = some f) : ∃ g cp, v.f = .slice (some ⟨g, 0, none⟩) c.F.length cp ∧ X.cell? ⟨g, i, none⟩ = some f.v ∧ X.frozen? ⟨g, i, none⟩ = false ∧ g ≠ D ∧ (∀ b, f.v.ownBlock = some b → b ≠ g ∧ b ≠ D) := by
  have hi : i < c.F.length := (List.getElem?_eq_some_iff.1 hf).1
  have hr := h.1.flags
  have hfl := h.1.fls f (List.mem_of_getElem? hf)
  rcases hr.2 with ⟨_, h0⟩ | ⟨g, cap, cur, e, _⟩
  · omega
  · rw [e] at hr
    obtain ⟨cs, hc⟩ := row_kind hr (b := g) rfl
    refine ⟨g, cap, e, ?_, hr.frozenAt _, kind_ne hc h.1.self (by decide), fun b eb => ?_⟩
    · rw [hr.cellAt _ (by omega), List.getElem?_map, hf]
      rfl
    · obtain ⟨cs2, hc2⟩ := row_kind hfl eb
      exact ⟨kind_ne hc2 hc (by decide), kind_ne hc2 h.1.self (by decide)⟩
theorem DS.shapeF (h : DS D v c fp w X) {i : Nat} {f : FE} (hf : c.F[i]? = some f) : ∃ a cp, f.v = .slice a f.l.length cp ∧ (0 < f.l.length → ∃ g, a = some ⟨g, 0, none⟩) := by
  have hr := h.1.fls f (List.mem_of_getElem? hf)
  rcases hr.2 with ⟨e, h0⟩ | ⟨g, cap, cur, e, _⟩
  · exact ⟨none, 0, by rw [h0]; exact e, fun q => by omega⟩
  · exact ⟨_, cap, e, fun _ => ⟨g, rfl⟩⟩
theorem DS.putT (h : DS D v c fp w X) {i g n cp k : Nat} {f : FE} (hf : c.F[i]? = some f) (ev : f.v = .slice (some ⟨g, 0, none⟩) n cp) (hk : k < f.l.length) (x : ByteArray) :
    X.cell? ⟨g, k, none⟩ = some (.string (f.l.getD k ByteArray.empty)) ∧ X.frozen? ⟨g, k, none⟩ = false ∧ DS D v { c with F := c.F.set i ⟨f.v, f.l.set k x⟩ } fp w (X.setCell ⟨g, k, none⟩ (.string x)) := by
  have hr := h.1.fls f (List.mem_of_getElem? hf)
  obtain ⟨a, c2, e⟩ := ownsRow_shape hr
  have hn : n = f.l.length := by rw [ev] at e; injection e
  rw [ev, hn] at hr
  have s1 := (hr.stored k (.string x)).1
  have es1 : (tcs f.l).set k (.string x) = tcs (f.l.set k x) := by unfold tcs; rw [List.map_set]
  rw [es1] at s1
  have hst : Stays [g] X (X.setCell ⟨g, k, none⟩ (.string x)) := Stays.setCell (p := ⟨g, k, none⟩) (Stays.refl _ _) (.inl (by simp)) _
  obtain ⟨q1, q2⟩ := h.1.inF hf (g := g) (by rw [ev]; rfl) hst (f.l.set k x) (by rw [List.length_set, ev, hn]; exact s1)
  exact ⟨by rw [hr.cellAt _ (by omega)]; exact tcs_at _ _ hk, hr.frozenAt _, q1, h.2.trans q2⟩
theorem DS.makeT (h : DS D v c fp w X) (n : Nat) (hn : n ≤ 1000000) {i g nf cp : Nat} (hv : v.f = .slice (some ⟨g, 0, none⟩) nf cp) (hi : i < c.F.length) :
    ∃ W1, (Instr.makeSlice 41 (.int .i64 (n : Int)) (.int .i64 (n : Int))).run Tryz.prog X = .ok (.slice (some ⟨X.heap.size, 0, none⟩) n n) W1 ∧ Below X.heap.size X W1 ∧ DS D v { c with F := c.F.set i ⟨.slice (some ⟨X.heap.size, 0, none⟩) n n, List.replicate n ⟨#[]⟩⟩ } fp w (W1.setCell ⟨g, i, none⟩ (.slice (some ⟨X.heap.size, 0, none⟩) n n)) := by
  obtain ⟨i0, hi0, hz0, hz1, hz2⟩ := info_parts' Tryz.infoText
  obtain ⟨W1, hr, hrow, hg⟩ := run_make_full (P := Tryz.prog) X 0 41 9 i0 _ 1 Tryz.underlying41 hi0 hz0 hz1 .i64 .i64 n (by rw [hz2]; omega) (by unfold maxLen; omega) (Nat.zero_le _)
  have hb : Below X.heap.size X W1 := ⟨hg.os, hg.tape, hg.output, hg.size, fun b hb => hg.block b hb (by simp)⟩
  have hrow2 : W1.ownsRow 0 9 1 (.slice (some ⟨X.heap.size, 0, none⟩) n n) (List.replicate n (⟨#[]⟩ : ByteArray)).length (tcs (List.replicate n ⟨#[]⟩)) := by
    rw [List.length_replicate]
    have e : (madeCells (Value.cells (.string ⟨#[]⟩)) (n * 1)).toList = tcs (List.replicate n ⟨#[]⟩) := by
      unfold tcs
      rw [List.map_replicate, Nat.mul_one]
      exact toList_madeCells_one _ _
    rw [← e]
    exact hrow
  have hii := hi
  obtain ⟨q1, q2⟩ := h.1.setF hb hv (i := i) _ _ hrow2 (fun b e => by simp [Value.ownBlock] at e; omega)
  exact ⟨W1, hr, hb, q1, h.2.trans q2⟩
/-- copy(d.flags[i], f). -/
theorem DS.copyT (h : DS D v c fp w X) {i g n cp : Nat} {f : FE} (hf : c.F[i]? = some f) (ev : f.v = .slice (some ⟨g, 0, none⟩) n cp) (m : ME) (hm : FlAt X m) (hle : m.fl.length ≤ f.l.length) :
    ∃ W1, (Builtin.copy_ #[41, 41] 3 #[.slice (some ⟨g, 0, none⟩) n cp, m.fv]).run Tryz.prog X = .ok (goInt m.fl.length) W1 ∧ DS D v { c with F := c.F.set i ⟨f.v, m.fl ++ f.l.drop m.fl.length⟩ } fp w W1 := by
  have hr := h.1.fls f (List.mem_of_getElem? hf)
  obtain ⟨a, c2, e⟩ := ownsRow_shape hr
  have hn : n = f.l.length := by rw [ev] at e; injection e
  rw [ev] at hr
  rw [← hn] at hr
  obtain ⟨i0, hi0, hz0, hz1, hz2⟩ := info_parts' Tryz.infoText
  obtain ⟨W1, hrun, hr2, hg2⟩ := copyRun (P := Tryz.prog) 41 41 3 9 1 Tryz.underlying41 (by rw [hi0]; simp [hz1]) hr (tcs m.fl) (sLen := m.fl.length) (sCap := m.fc) (sp := m.fa) (by rw [tcs_length]; omega) (by omega) (fun _ e => (hm.none e).2) (fun h0 => by
    obtain ⟨b, off, e1, hb, hc⟩ := hm.cells (fun e => by rw [e] at h0; simp at h0)
    refine ⟨_, e1, fun j u hj => ?_⟩
    have hjl : j < m.fl.length := by have := (List.getElem?_eq_some_iff.1 hj).1; rw [tcs_length] at this; exact this
    rw [tcs_at m.fl j hjl] at hj
    rw [Addr.add_lit, hc j hjl]
    exact hj) (tcs_one _)
  have ed : tcs m.fl ++ (tcs f.l).drop (tcs m.fl).length = tcs (m.fl ++ f.l.drop m.fl.length) := by
    rw [tcs_append, tcs_length]
    unfold tcs
    rw [List.map_drop]
  rw [ed] at hr2
  have hst : Stays [g] X W1 := Stays.ofGrown hg2 (fun b e => by cases e; simp)
  obtain ⟨q1, q2⟩ := h.1.inF hf (g := g) (by rw [ev]; rfl) hst (m.fl ++ f.l.drop m.fl.length) (by
    rw [ev, List.length_append, List.length_drop, show m.fl.length + (f.l.length - m.fl.length) = n by omega]
    exact hr2)
  exact ⟨W1, hrun, q1, h.2.trans q2⟩
/-- copy(d.uids, e.Uids). -/
theorem DS.copyU (h : DS D v c fp w X) {g n cp : Nat} (es : v.u = .slice (some ⟨g, 0, none⟩) n cp) {a : Option Addr} {k : Nat} {us : List Int} (hl : Nms X (.slice a us.length k) us) (hz : us.length = 0 → a = none → k = 0) (hle : us.length ≤ c.U.length) :
    ∃ W1, (Builtin.copy_ #[26, 26] 3 #[.slice (some ⟨g, 0, none⟩) n cp, .slice a us.length k]).run Tryz.prog X = .ok (goInt us.length) W1 ∧ DS D v { c with U := us ++ c.U.drop us.length } fp w W1 := by
  have hr := h.1.uids
  obtain ⟨a2, c2, e⟩ := ownsRow_shape hr
  have hn : n = c.U.length := by rw [es] at e; injection e
  rw [es] at hr
  rw [← hn] at hr
  obtain ⟨i0, hi0, hz0, hz1, hz2⟩ := info_parts' Tryz.infoInt
  obtain ⟨a3, c3, e3, hx⟩ := hl
  obtain ⟨rfl, rfl⟩ : a = a3 ∧ k = c3 := by injection e3 with p1 p2 p3; exact ⟨p1, p3⟩
  obtain ⟨W1, hrun, hr2, hg2⟩ := copyRun (P := Tryz.prog) 26 26 3 3 1 Tryz.underlying26 (by rw [hi0]; simp [hz1]) hr (ic us) (sLen := us.length) (sCap := k) (sp := a) (by rw [ic_length]; omega) (by omega) hz (fun h0 => by
    obtain ⟨b, off, e1, hb, hc⟩ := hx h0
    refine ⟨_, e1, fun j u hj => ?_⟩
    have hjl : j < us.length := by have := (List.getElem?_eq_some_iff.1 hj).1; rw [ic_length] at this; exact this
    rw [ic_at us j hjl] at hj
    rw [Addr.add_lit, hc j hjl]
    exact hj) (ic_one _)
  have ed : ic us ++ (ic c.U).drop (ic us).length = ic (us ++ c.U.drop us.length) := by
    rw [ic_append, ic_length]
    unfold ic
    rw [List.map_drop]
  rw [ed] at hr2
  have hst : Stays [g] X W1 := Stays.ofGrown hg2 (fun b e => by cases e; simp)
  obtain ⟨q1, q2⟩ := h.1.inU (g := g) (by rw [es]; rfl) hst (us ++ c.U.drop us.length) (by
    rw [es, List.length_append, List.length_drop, show us.length + (c.U.length - us.length) = n by omega]
    exact hr2)
  exact ⟨W1, hrun, q1, h.2.trans q2⟩
end
/-- How large the desk's places are. -/
structure DB (c : DC) : Prop where
  m : c.M.length ≤ 1000000
  u : c.U.length ≤ 1000000
  k : c.K.length ≤ 1000000
  f : c.F.length ≤ 1000000
  s : c.S.length ≤ 1000000
  l : ∀ f ∈ c.F, f.l.length ≤ 1000000
/-- A mark's flags lie at their place. -/
def GoodE (ms : List ME) (F : List FE) (K : List (Int × Value)) (j : Nat) : Prop := ∃ (m : ME) (g cp r : Nat), ms[j]? = some m ∧ F[j]? = some ⟨.slice (some ⟨g, 0, none⟩) (m.fl.length + r) cp, m.fl ++ List.replicate r overB⟩ ∧ 3 ≤ r ∧ K[j]? = some (m.uid, .slice (some ⟨g, 0, none⟩) m.fl.length cp)
/-- An event's lists lie at their places. -/
structure EvL (us : List Int) (ms : List ME) (c : DC) : Prop where
  uids : ∃ n, us.length + 3 ≤ n ∧ c.U = us ++ ((List.range n).map (fun _ => (1 : Int))).drop us.length
  good : ∀ j, j < ms.length → GoodE ms c.F c.K j
  rest : ∀ j, ms.length ≤ j → j < c.K.length → c.K[j]? = some (2, .slice none 0 0)
  lenK : ms.length + 3 ≤ c.K.length
theorem GoodE.keep {ms : List ME} {F F' : List FE} {K K' : List (Int × Value)} {j : Nat} (h : GoodE ms F K j) (hF : F'[j]? = F[j]?) (hK : K'[j]? = K[j]?) : GoodE ms F' K' j := by
  obtain ⟨m, g, cp, r, h1, h2, h3, h4⟩ := h
  exact ⟨m, g, cp, r, h1, by rw [hF]; exact h2, h3, by rw [hK]; exact h4⟩
end Go.Proofs.YtflkhnmggmfhfaaGreat

/- The desk's event: what it leaves. -/
namespace Go.Proofs.YtflkhnmggmfhfaaGreat
open Go.RowKit

def oneF (_ : Nat) : Int := 1
def twoF (_ : Nat) : Int × Value := (2, .slice none 0 0)
/-- What event answers and leaves. -/
def EvDone (D : Nat) (c : DC) (e : EV) (us : List Int) (ms : List ME) (fp : List Nat) (w : World) (r : Ending) (w' : World) : Prop :=
  ∃ (e' : EV) (ms' : List ME) (v' : DV) (c' : DC), r = .returned (.agg (evA e')) ∧ DS D v' c' fp w w' ∧ DB c' ∧ EvL us ms c' ∧ EvAt w' e' us ms' ∧ plE e' us ms' = plE e us ms ∧ (∀ b, e'.vu.ownBlock = some b → b ∈ fpD D v' c'.F) ∧ (∀ b, e'.vm.ownBlock = some b → b ∈ fpD D v' c'.F) ∧ (∀ m ∈ ms', ∀ b, m.fv.ownBlock = some b → b ∈ fpD D v' c'.F) ∧ c'.M = c.M ∧ c'.S = c.S
/-- Where event stands in its marks. -/
def EvS (D : Nat) (v3 : DV) (c4 : DC) (q j : Nat) (ms : List ME) (fp : List Nat) (W2 : World) (i : Nat) (X : World) : Prop :=
  ∃ (F6 : List FE) (K6 : List (Int × Value)), F6.length = q ∧ K6.length = j ∧ (∀ f ∈ F6, f.l.length ≤ 1000000) ∧ (∀ t, t < i → GoodE ms F6 K6 t) ∧ (∀ t, i ≤ t → t < j → K6[t]? = some (2, .slice none 0 0)) ∧ DS D v3 { c4 with F := F6, K := K6 } fp W2 X
/-- A place that is large enough. -/
def EvC (D : Nat) (v3 : DV) (c4 : DC) (q i : Nat) (m : ME) (F6 : List FE) (K6 : List (Int × Value)) (fp : List Nat) (W2 X : World) : Prop :=
  ∃ (F7 : List FE) (g n cp : Nat) (l7 : List ByteArray), F7.length = q ∧ F7[i]? = some ⟨.slice (some ⟨g, 0, none⟩) n cp, l7⟩ ∧ l7.length = n ∧ m.fl.length + 3 ≤ n ∧ n ≤ 1000000 ∧ (∀ f ∈ F7, f.l.length ≤ 1000000) ∧ (∀ t, t ≠ i → F7[t]? = F6[t]?) ∧ DS D v3 { c4 with F := F7, K := K6 } fp W2 X
def overF (_ : Nat) : ByteArray := overB
theorem over_full {l : List ByteArray} {n : Nat} (h : l.length = n) (fl : List ByteArray) : fl ++ (layK overF l n).drop fl.length = fl ++ List.replicate (n - fl.length) overB := by
  subst h
  rw [layK_full]
  congr 1
  have e : (List.range l.length).map overF = List.replicate l.length overB := by
    apply List.ext_getElem (by simp)
    intro i h1 h2
    simp [overF]
  rw [e, List.drop_replicate]
theorem layK_ones {l : List Int} {n : Nat} (h : l.length = n) : layK oneF l n = (List.range n).map oneF := by rw [← h]; exact layK_full oneF l
theorem row_cap {w : World} {e : TypeId} {z g n n2 cp : Nat} {xs : List Value} (h : w.ownsRow 0 e z (.slice (some ⟨g, 0, none⟩) n cp) n2 xs) : n2 ≤ cp := by
  rcases h.2 with ⟨qq, _⟩ | ⟨g', cap', cur, qq, _, _, q1, _⟩
  · cases qq
  · injection qq with _ _ q3
    subst q3
    exact q1
def slA : Value → Option Addr
  | .slice a _ _ => a
  | _ => none
def slC : Value → Nat
  | .slice _ _ c => c
  | _ => 0
def ME0' : ME := ⟨0, none, 0, []⟩
/-- The marks, as they lie at their places. -/
def laidM (ms : List ME) (F : List FE) : List ME := (List.range ms.length).map (fun i => ⟨(ms.getD i ME0').uid, slA (F.getD i ⟨.slice none 0 0, []⟩).v, slC (F.getD i ⟨.slice none 0 0, []⟩).v, (ms.getD i ME0').fl⟩)
theorem laidM_length (ms : List ME) (F : List FE) : (laidM ms F).length = ms.length := by simp [laidM]
theorem laidM_pl (ms : List ME) (F : List FE) : (laidM ms F).map ME.pl = ms.map ME.pl := by
  apply List.ext_getElem (by simp [laidM])
  intro i h1 h2
  have hi : i < ms.length := by simpa using h2
  simp only [List.getElem_map, laidM, List.getElem_range]
  show ((ms.getD i ME0').uid, (ms.getD i ME0').fl) = _
  rw [List.getD_eq_getElem?_getD, List.getElem?_eq_getElem hi]
  rfl
theorem laidM_at {ms : List ME} {F : List FE} {K : List (Int × Value)} {i : Nat} (hi : i < ms.length) (h : GoodE ms F K i) : ∃ (m : ME) (g cp r : Nat), ms[i]? = some m ∧ F[i]? = some ⟨.slice (some ⟨g, 0, none⟩) (m.fl.length + r) cp, m.fl ++ List.replicate r overB⟩ ∧ 3 ≤ r ∧ K[i]? = some (m.uid, .slice (some ⟨g, 0, none⟩) m.fl.length cp) ∧ (laidM ms F)[i]? = some ⟨m.uid, some ⟨g, 0, none⟩, cp, m.fl⟩ := by
  obtain ⟨m, g, cp, r, h1, h2, h3, h4⟩ := h
  refine ⟨m, g, cp, r, h1, h2, h3, h4, ?_⟩
  unfold laidM
  rw [range_at _ hi]
  have e1 : ms.getD i ME0' = m := by rw [List.getD_eq_getElem?_getD, h1]; rfl
  have e2 : F.getD i ⟨.slice none 0 0, []⟩ = ⟨.slice (some ⟨g, 0, none⟩) (m.fl.length + r) cp, m.fl ++ List.replicate r overB⟩ := by rw [List.getD_eq_getElem?_getD, h2]; rfl
  rw [e1, e2]
  rfl
theorem event_end {D q j k gU cU gK cK : Nat} {fp : List Nat} {w Y6 Y10 : World} {v3 : DV} {c c4 : DC} {UU us : List Int} {F3 F6 : List FE} {K6 : List (Int × Value)} {ms : List ME} {e e' : EV} (hk : DK D v3 { c4 with F := F6, K := K6 } Y10) (hst : Stays fp w Y10) (hfo : FO fp (fpD D v3 F6) w Y6) (hc4 : c4.U = UU ∧ c4.M = c.M ∧ c4.S = c.S ∧ c4.K = (List.range j).map twoF ∧ c4.F = F3) (hdb : DB c4) (hF6 : F6.length = q) (hq : q ≤ 1000000) (hK6 : K6.length = j) (hF6l : ∀ f ∈ F6, f.l.length ≤ 1000000) (hgood : ∀ t, t < ms.length → GoodE ms F6 K6 t) (hrest : ∀ t, ms.length ≤ t → t < j → K6[t]? = some (2, .slice none 0 0))
    (hUU : us ++ ((List.range k).map oneF).drop us.length = UU) (eU : v3.u = .slice (some ⟨gU, 0, none⟩) k cU) (eK : v3.k = .slice (some ⟨gK, 0, none⟩) j cK) (he : EvAt w e us ms) (he' : ({ e with vu := .slice (some ⟨gU, 0, none⟩) us.length cU, vm := .slice (some ⟨gK, 0, none⟩) ms.length cK } : EV) = e') (hnU : us.length + 3 ≤ k) (hnK : ms.length + 3 ≤ j) : EvDone D c e us ms fp w (.returned (.agg (evA e'))) Y10 := by
  have hjl : j ≤ 1000000 := by have := hdb.k; rw [hc4.2.2.2.1] at this; simpa using this
  have hUl : UU.length = k := by rw [← hUU]; simp; omega
  subst he'
  refine ⟨_, laidM ms F6, v3, { c4 with F := F6, K := K6 }, rfl, ⟨hk, hst, hfo.2⟩, ⟨hdb.m, hdb.u, by show K6.length ≤ _; omega, by show F6.length ≤ _; omega, hdb.s, hF6l⟩, ⟨⟨k, hnU, by show c4.U = _; rw [hc4.1, ← hUU]; rfl⟩, hgood, fun t h1 h2 => hrest t h1 (by have h3 : t < K6.length := h2; omega), by show ms.length + 3 ≤ K6.length; omega⟩, ?_, ?_, ?_, ?_, ?_, hc4.2.1, hc4.2.2.1⟩
  · refine ⟨⟨_, cU, rfl, fun h0 => ⟨gU, 0, rfl, ?_, fun i hi => ?_⟩⟩, ⟨⟨_, cK, by rw [laidM_length], fun h0 => ⟨gK, 0, rfl, ?_, fun i hi => ?_⟩⟩, fun m' hm' => ?_⟩, he.low, he.ulen, by rw [laidM_length]; exact he.mlen⟩
    · have hr := hk.uids
      rw [eU] at hr
      exact (hr.lt gU rfl).2
    · have hr := hk.uids
      have e1 : ({ c4 with F := F6, K := K6 } : DC).U = UU := hc4.1
      rw [eU, e1, hUl] at hr
      rw [Nat.zero_add, hr.cellAt i (by omega), ic_at UU i (by omega), ← hUU]
      congr 2
      rw [List.getD_eq_getElem?_getD, List.getElem?_append_left hi, List.getD_eq_getElem?_getD]
    · have hr := hk.marks
      rw [eK] at hr
      exact (hr.lt gK rfl).2
    · rw [laidM_length] at hi
      obtain ⟨m, g, cp, r, h1, h2, h3, h4, h5⟩ := laidM_at hi (hgood i hi)
      have hr := hk.marks
      rw [eK] at hr
      have e1 : ({ c4 with F := F6, K := K6 } : DC).K.length = j := hK6
      rw [e1] at hr
      obtain ⟨q1, q2⟩ := kC_at K6 i _ h4
      have eg : (laidM ms F6).getD i ⟨0, none, 0, []⟩ = ⟨m.uid, some ⟨g, 0, none⟩, cp, m.fl⟩ := by rw [List.getD_eq_getElem?_getD, h5]; rfl
      rw [eg, Nat.zero_add]
      exact ⟨by rw [hr.cellAt _ (by omega)]; exact q1, by rw [hr.cellAt _ (by omega)]; exact q2⟩
    · obtain ⟨i, hi, rfl⟩ := List.mem_iff_getElem.1 hm'
      have hi' : i < ms.length := by rw [laidM_length] at hi; exact hi
      obtain ⟨m, g, cp, r, h1, h2, h3, h4, h5⟩ := laidM_at hi' (hgood i hi')
      rw [List.getElem?_eq_getElem hi] at h5
      injection h5 with h5
      rw [h5]
      have hr := hk.fls _ (List.mem_of_getElem? h2)
      refine ⟨fun q => (by cases q), (he.marks.fls m (List.mem_of_getElem? h1)).len, fun _ => ⟨g, 0, rfl, (hr.lt g rfl).2, fun t ht => ?_⟩⟩
      have hlen : (m.fl ++ List.replicate r overB).length = m.fl.length + r := by simp
      have hr2 := hr
      rw [hlen] at hr2
      rw [Nat.zero_add, hr2.cellAt t (by show t < (m.fl.length + r) * 1; have : t < m.fl.length := ht; omega), tcs_at _ t (by rw [hlen]; have : t < m.fl.length := ht; omega)]
      congr 2
      rw [List.getD_eq_getElem?_getD, List.getElem?_append_left ht, List.getD_eq_getElem?_getD]
  · unfold plE
    rw [laidM_pl]
  · intro b hb
    have : v3.u.ownBlock = some b := by rw [eU]; exact hb
    exact mem_fpD.2 (.inr (.inr (.inl this)))
  · intro b hb
    have : v3.k.ownBlock = some b := by rw [eK]; exact hb
    exact mem_fpD.2 (.inr (.inr (.inr (.inl this))))
  · intro m' hm' b hb
    obtain ⟨i, hi, rfl⟩ := List.mem_iff_getElem.1 hm'
    have hi' : i < ms.length := by rw [laidM_length] at hi; exact hi
    obtain ⟨m, g, cp, r, h1, h2, h3, h4, h5⟩ := laidM_at hi' (hgood i hi')
    rw [List.getElem?_eq_getElem hi] at h5
    injection h5 with h5
    rw [h5] at hb
    exact mem_fpD.2 (.inr (.inr (.inr (.inr (.inr (.inr ⟨_, List.mem_of_getElem? h2, hb⟩))))))
end Go.Proofs.YtflkhnmggmfhfaaGreat

/- The desk's event: its box, written twice, and its answer. -/
namespace Go.Proofs.YtflkhnmggmfhfaaGreat
open Go.RowKit

/-- The worlds of event's end. -/
structure EvBox (D : Nat) (v3 : DV) (c4 : DC) (fp : List Nat) (w Y6 Y8 Y9 Y10 : World) (W1 : Nat) (e e' : EV) (gU nU cU gK nK cK : Nat) : Prop where
  y8 : (Y6.setCell ⟨w.heap.size, 8, none⟩ (.slice (some ⟨gU, 0, none⟩) nU cU)).drew = Y8
  y9 : (Y8.setCell ⟨w.heap.size, 9, none⟩ (.slice (some ⟨gK, 0, none⟩) nK cK)).drew = Y9
  y10 : Y9.setRow W1 (evA e') = Y10
  ev : ({ e with vu := .slice (some ⟨gU, 0, none⟩) nU cU, vm := .slice (some ⟨gK, 0, none⟩) nK cK } : EV) = e'
  b9 : Y9.heap[w.heap.size]? = some (.cells (evA e') 45 (0, 0))
  r9 : Y9.heap[W1]? = some (.cells (evA EV0) 45 (0, 0))
  r10 : Y10.heap[W1]? = some (.cells (evA e') 45 (0, 0))
  dk : DK D v3 c4 Y10
  st : Stays fp w Y10
  fo : FO fp (fpD D v3 c4.F) w Y6
  one : (evA e').all (·.oneCell') = true
  z8 : Y6.drew.frozen? ⟨w.heap.size, 8, none⟩ = false
  d8 : ∀ i, Y8.drew.cell? ⟨D, i, none⟩ = Y6.cell? ⟨D, i, none⟩
  e9 : Y8.drew.cell? ⟨w.heap.size, 9, none⟩ = Y6.cell? ⟨w.heap.size, 9, none⟩
  z9 : Y8.drew.frozen? ⟨w.heap.size, 9, none⟩ = false
theorem event_box {D : Nat} {v3 : DV} {c4 : DC} {fp : List Nat} {w W2 Y6 : World} {W1 : Nat} {e : EV} (gU nU cU gK nK cK : Nat) (hd : DS D v3 c4 fp W2 Y6) (hb2 : Below w.heap.size w W2) (hws : w.heap.size < W1) (hWs : W1 < W2.heap.size) (hbx : Y6.heap[w.heap.size]? = some (.cells (evA e) 45 (0, 0)) ∧ Y6.heap[W1]? = some (.cells (evA EV0) 45 (0, 0))) (hlow : ∀ b ∈ fp, b < w.heap.size) (hnin : w.heap.size ∉ fp) (heo : e.vn.oneCell' = true ∧ e.vb.oneCell' = true) :
    ∃ (Y8 Y9 Y10 : World) (e' : EV), EvBox D v3 c4 fp w Y6 Y8 Y9 Y10 W1 e e' gU nU cU gK nK cK := by
  obtain ⟨bxh, rxh⟩ := hbx
  have hwY : W2.heap.size ≤ Y6.heap.size := hd.2.1.size
  have hfo : FO fp (fpD D v3 c4.F) w Y6 := (FO.below hb2).trans hd.2
  have hbD : D ≠ w.heap.size := fun e => by
    have := hd.2.2 D (mem_fpD.2 (.inl rfl))
    rcases this with q1 | q1
    · exact hnin (e ▸ q1)
    · omega
  obtain ⟨Y8, hY8⟩ : ∃ Y8, (Y6.setCell ⟨w.heap.size, 8, none⟩ (.slice (some ⟨gU, 0, none⟩) nU cU)).drew = Y8 := ⟨_, rfl⟩
  obtain ⟨Y9, hY9⟩ : ∃ Y9, (Y8.setCell ⟨w.heap.size, 9, none⟩ (.slice (some ⟨gK, 0, none⟩) nK cK)).drew = Y9 := ⟨_, rfl⟩
  obtain ⟨e', he'⟩ : ∃ e' : EV, ({ e with vu := .slice (some ⟨gU, 0, none⟩) nU cU, vm := .slice (some ⟨gK, 0, none⟩) nK cK } : EV) = e' := ⟨_, rfl⟩
  have b8 : Y8.heap[w.heap.size]? = some (.cells ((evA e).setIfInBounds 8 (.slice (some ⟨gU, 0, none⟩) nU cU)) 45 (0, 0)) := by rw [← hY8]; exact heap_setCell_at (w := Y6) _ bxh
  have b9 : Y9.heap[w.heap.size]? = some (.cells (evA e') 45 (0, 0)) := by
    have q := heap_setCell_at (w := Y8) (o := 9) (.slice (some ⟨gK, 0, none⟩) nK cK) b8
    rw [← hY9]
    refine Eq.trans q ?_
    rw [← he']
    rfl
  have o8 : ∀ b, b ≠ w.heap.size → Y8.heap[b]? = Y6.heap[b]? := fun b hb => by rw [← hY8]; exact Below.heap_setCell Y6 _ _ _ hb
  have o9 : ∀ b, b ≠ w.heap.size → Y9.heap[b]? = Y6.heap[b]? := fun b hb => by rw [← hY9]; exact (Below.heap_setCell Y8 _ _ _ hb).trans (o8 b hb)
  obtain ⟨Y10, hY10⟩ : ∃ Y10, Y9.setRow W1 (evA e') = Y10 := ⟨_, rfl⟩
  have r9 : Y9.heap[W1]? = some (.cells (evA EV0) 45 (0, 0)) := by rw [o9 _ (by omega)]; exact rxh
  have r10 : Y10.heap[W1]? = some (.cells (evA e') 45 (0, 0)) := by rw [← hY10]; exact setRow_heap _ _ _ _ _ _ r9
  have o10 : ∀ b, b ≠ w.heap.size → b ≠ W1 → Y10.heap[b]? = Y6.heap[b]? := fun b h1 h2 => by rw [← hY10, setRow_other _ _ _ _ h2]; exact o9 b h1
  have hs9 : Y9.heap.size = Y6.heap.size := by rw [← hY9, ← hY8]; simp [World.setCell, World.drew]
  have hst10 : Stays fp w Y10 := ⟨by rw [← hY10, ← hY9, ← hY8]; exact hfo.1.os, by rw [← hY10, ← hY9, ← hY8]; exact hfo.1.tape, by rw [← hY10, ← hY9, ← hY8]; exact hfo.1.output, by rw [← hY10]; simp; rw [hs9]; exact hfo.1.size, fun b hb hn => by rw [o10 b (by omega) (by omega)]; exact hfo.1.block b hb hn⟩
  have hout : ∀ b, b ∈ fpD D v3 c4.F → b ≠ w.heap.size ∧ b ≠ W1 := fun b hb => by
    rcases hd.2.2 b hb with q1 | q1
    · have := hlow b q1; omega
    · omega
  refine ⟨Y8, Y9, Y10, e', hY8, hY9, hY10, he', b9, r9, r10, hd.1.hold (fun b hb => o10 b (hout b hb).1 (hout b hb).2), hst10, hfo, ?_, frozen_of (w := Y6.drew) bxh 8, fun i => ?_, ?_, frozen_of (w := Y8.drew) b8 9⟩
  · rw [← he']
    simp [evA, Value.oneCell']
    exact ⟨heo.1, heo.2⟩
  · rw [show Y8.drew.cell? ⟨D, i, none⟩ = Y8.cell? ⟨D, i, none⟩ from rfl, World.cell?_of_block (a := ⟨D, i, none⟩) (o8 D hbD)]
  · have h1 := cell_of b8 9
    have h2 := cell_of bxh 9
    have e9 : ((evA e).setIfInBounds 8 (.slice (some ⟨gU, 0, none⟩) nU cU))[9]? = (evA e)[9]? := rfl
    rw [show Y8.drew.cell? ⟨w.heap.size, 9, none⟩ = Y8.cell? ⟨w.heap.size, 9, none⟩ from rfl, h1, h2, e9]
end Go.Proofs.YtflkhnmggmfhfaaGreat
