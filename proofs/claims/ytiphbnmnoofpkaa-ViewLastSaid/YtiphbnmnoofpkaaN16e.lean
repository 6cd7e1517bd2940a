/- A script in memory; act. -/
import Derived.Test.YtiphbnmnoofpkaaN16c
import Derived.Deep.MidRow
namespace Go.Proofs.Ytiphbnmnoofpkaa
open Go.RowKit

/-- A step, as it lies in memory, and what lies behind its lists. -/
structure ST where
  kind : Int
  on : Int
  ev : EV
  own : Bool
  wh : Int
  rc : Int
  sv : Value
  uid : Bool
  n : Int
  us : List Int
  ms : List ME
  st : List Rg
def stL (s : ST) : List Value := .int .i64 s.kind :: .int .i64 s.on :: ((evA s.ev).toList ++ [.bool s.own, .int .i64 s.wh, .int .i64 s.rc, s.sv, .bool s.uid, .int .i64 s.n])
def EV0 : EV := ⟨0, 0, 0, 0, 0, ⟨#[]⟩, .slice none 0 0, .slice none 0 0, .slice none 0 0, .slice none 0 0, 0, 0, 0, 0, 0, 0, 0, ⟨#[]⟩⟩
def ST0 : ST := ⟨0, 0, EV0, false, 0, 0, .slice none 0 0, false, 0, [], [], []⟩
/-- What is behind a step's lists, in the world that came in. -/
structure StOK (w : World) (s : ST) : Prop where
  ev : Nms w s.ev.vu s.us
  mks : MksAt w s.ev.vm s.ms
  st : Rgs w s.sv s.st
  low : -9223372036854775808 ≤ s.ev.fi
  high : s.ev.fi ≤ 9223372036854775807
  one : ∀ u ∈ stL s, u.oneCell' = true
  ub : 0 < s.us.length → ∀ b, s.ev.vu.ownBlock = some b → b < w.heap.size
  mb : (0 < s.ms.length → ∀ b, s.ev.vm.ownBlock = some b → b < w.heap.size) ∧ ∀ m ∈ s.ms, m.fl ≠ [] → ∀ b, m.fv.ownBlock = some b → b < w.heap.size
theorem rgs_on {w w' : World} {v : Value} {l : List Rg} (h : Rgs w v l) (hb : Below w.heap.size w w') : Rgs w' v l := h.on hb
theorem StOK.on {w w' : World} {s : ST} (h : StOK w s) (hb : Below w.heap.size w w') : StOK w' s :=
  ⟨h.ev.on hb, h.mks.on hb, h.st.on hb, h.low, h.high, h.one, fun h0 b e => Nat.lt_of_lt_of_le (h.ub h0 b e) hb.size, fun h0 b e => Nat.lt_of_lt_of_le (h.mb.1 h0 b e) hb.size, fun m hm hne b e => Nat.lt_of_lt_of_le (h.mb.2 m hm hne b e) hb.size⟩
/-- A script. -/
structure StepsAt (w : World) (v : Value) (S : List ST) : Prop where
  row : ∃ a c, v = .slice a S.length c ∧ (0 < S.length → ∃ g off, a = some ⟨g, off, none⟩ ∧ g < w.heap.size ∧ ∀ i, i < S.length → ∀ j u, (stL (S.getD i ST0))[j]? = some u → w.cell? ⟨g, off + i * 26 + j, none⟩ = some u)
  ok : ∀ s ∈ S, StOK w s
/-- Its lists are short enough for what is played. -/
structure StShort (s : ST) : Prop where
  us : s.us.length ≤ 300
  ms : s.ms.length ≤ 300
  st : s.st.length ≤ 300
def evP (s : ST) : PEv := plE s.ev s.us s.ms
/-- What a step makes of a view; what it tells. -/
def actV (V : PV) (s : ST) : PV := if s.kind = 1 then hearP V (evP s) s.own else if s.kind = 2 then takeV V s.wh s.rc else V
def actT (V : PV) (s : ST) : List Td := if s.kind = 2 then takeT V s.wh s.rc else []
theorem actV_ok {V : PV} {N : Nat} (h : PVok V N) (s : ST) (hs : StShort s) : PVok (actV V s) (N + 301) := by
  unfold actV
  split
  · refine (hearP_ok h (evP s) s.own).mono ?_
    have := hs.us
    show N + (1 + s.us.length) ≤ _
    omega
  · split
    · exact (takeV_ok h _ _).mono (by omega)
    · exact h.mono (by omega)
theorem actV_val (V : PV) (s : ST) : (actV V s).val = V.val := by
  unfold actV
  split
  · exact hearP_val _ _ _
  · split
    · exact takeV_val _ _ _
    · rfl
theorem StepsAt.on {w w' : World} {v : Value} {S : List ST} (h : StepsAt w v S) (hb : Below w.heap.size w w') : StepsAt w' v S := by
  obtain ⟨⟨a, c, rfl, h1⟩, h2⟩ := h
  refine ⟨⟨a, c, rfl, fun hl => ?_⟩, fun s hs => (h2 s hs).on hb⟩
  obtain ⟨g, off, rfl, hg, hc⟩ := h1 hl
  refine ⟨g, off, rfl, Nat.lt_of_lt_of_le hg hb.size, fun i hi j u hj => ?_⟩
  rw [hb.cell (p := ⟨g, off + i * 26 + j, none⟩) hg]
  exact hc i hi j u hj
theorem getD_memS {S : List ST} {k : Nat} (h : k < S.length) : S.getD k ST0 ∈ S := by
  rw [List.getD_eq_getElem?_getD, List.getElem?_eq_getElem h]
  exact List.getElem_mem h
theorem getD_memM {S : List ME} {k : Nat} (x : ME) (h : k < S.length) : S.getD k x ∈ S := by
  rw [List.getD_eq_getElem?_getD, List.getElem?_eq_getElem h]
  exact List.getElem_mem h
theorem stL_evs {w : World} {g o : Nat} {s : ST} (h : ∀ j u, (stL s)[j]? = some u → w.cell? ⟨g, o + j, none⟩ = some u) : w.rangeAt g (o + 2) (evA s.ev).toList := by
  intro j u hj
  have hl : j < (evA s.ev).toList.length := (List.getElem?_eq_some_iff.1 hj).1
  rw [Nat.add_assoc]
  refine h (2 + j) u ?_
  unfold stL
  rw [show 2 + j = j + 1 + 1 by omega, List.getElem?_cons_succ, List.getElem?_cons_succ, List.getElem?_append_left hl]
  exact hj
theorem stL_ev {s : ST} {u : Value} (h : u ∈ (evA s.ev).toList) : u ∈ stL s := List.mem_cons_of_mem _ (List.mem_cons_of_mem _ (List.mem_append_left _ h))
theorem stL_at {X : World} {b : Nat} {s : ST} {t : TypeId} (h : X.heap[b]? = some (.cells (stL s).toArray t (0, 0))) :
    X.cell? ⟨b, 0, none⟩ = some (.int .i64 s.kind) ∧ X.cell? ⟨b, 20, none⟩ = some (.bool s.own) ∧ X.cell? ⟨b, 21, none⟩ = some (.int .i64 s.wh) ∧ X.cell? ⟨b, 22, none⟩ = some (.int .i64 s.rc) ∧ X.cell? ⟨b, 23, none⟩ = some s.sv ∧ X.cell? ⟨b, 24, none⟩ = some (.bool s.uid) ∧ X.rangeAt b 2 (evA s.ev).toList := by
  refine ⟨cell_of h 0, cell_of h 20, cell_of h 21, cell_of h 22, cell_of h 23, cell_of h 24, ?_⟩
  intro j u hj
  have hl : j < (evA s.ev).toList.length := (List.getElem?_eq_some_iff.1 hj).1
  rw [cell_of h]
  have e : (stL s)[2 + j]? = (evA s.ev).toList[j]? := by
    unfold stL
    rw [show 2 + j = j + 1 + 1 by omega, List.getElem?_cons_succ, List.getElem?_cons_succ, List.getElem?_append_left hl]
  simpa [e] using hj
end Go.Proofs.Ytiphbnmnoofpkaa
