/- lex: a scanner's open words in memory. -/
import Derived.Test.YtliiapdakojomabDoorAh
namespace Go.Proofs.YtliiapdakojomabDoor
open Go.RowKit

def fr0 : Fr := ⟨0, false, []⟩
/-- A word of a list is what is said. -/
structure WdIs (D : Nat → Prop) (w : World) (c : Wc) (d : Wd) : Prop where
  kind : c.kind = d.kind
  text : c.text = d.text
  glued : c.glued = d.glued
  lies : Lies w D c.ka c.kn c.kc d.kids
/-- An open word is what is said: its kids are a row of its own. -/
structure FrIs (B : Nat) (D : Nat → Prop) (w : World) (c : Wc) (f : Fr) : Prop where
  kind : c.kind = f.kind
  text : c.text = S []
  glued : c.glued = f.glued
  kids : ∃ its : List Wc, RowW B c.kv its w ∧ its.length = f.kids.length ∧ ∀ j, j < f.kids.length → WdIs D w (its.getD j wc0) (f.kids.getD j wd0)
structure Stk (B P ob oc : Nat) (fs : List Wc) (F : List Fr) (D : Nat → Prop) (w : World) : Prop where
  len : fs.length = F.length
  row : RowW B (.slice (some ⟨ob, 0, none⟩) fs.length oc) fs w
  obP : ob ≠ P
  fr : ∀ i, i < F.length → FrIs B D w (fs.getD i wc0) (F.getD i fr0)
  kP : ∀ i, i < F.length → ∀ g, (fs.getD i wc0).kv.ownBlock = some g → g ≠ P ∧ g ≠ ob ∧ ¬ D g
  kk : ∀ i j, i < F.length → j < F.length → i ≠ j → ∀ g, (fs.getD i wc0).kv.ownBlock = some g → (fs.getD j wc0).kv.ownBlock ≠ some g
  dd : ∀ g, D g → B ≤ g ∧ g < w.heap.size ∧ g ≠ P ∧ g ≠ ob
theorem cell_of_heap {w w' : World} {g : Nat} (h : w'.heap[g]? = w.heap[g]?) (i : Nat) : w'.cell? ⟨g, i, none⟩ = w.cell? ⟨g, i, none⟩ := World.cell?_of_block (a := ⟨g, i, none⟩) h
theorem WdIs.move {D D' : Nat → Prop} {w w' : World} {c : Wc} {d : Wd} (h : WdIs D w c d) (hw : ∀ g, D g → g < w.heap.size → g < w'.heap.size ∧ w'.heap[g]? = w.heap[g]?) (hD : ∀ g, D g → D' g) : WdIs D' w' c d :=
  ⟨h.kind, h.text, h.glued, h.lies.mono (fun g hg hlt => ⟨(hw g hg hlt).1, cell_of_heap (hw g hg hlt).2⟩) hD⟩
theorem FrIs.move {B : Nat} {D D' : Nat → Prop} {w w' : World} {c : Wc} {f : Fr} (h : FrIs B D w c f) (hw : ∀ g, D g → g < w.heap.size → g < w'.heap.size ∧ w'.heap[g]? = w.heap[g]?) (hD : ∀ g, D g → D' g) (hk : ∀ g, c.kv.ownBlock = some g → w'.heap[g]? = w.heap[g]?) : FrIs B D' w' c f := by
  obtain ⟨its, h1, h2, h3⟩ := h.kids
  exact ⟨h.kind, h.text, h.glued, its, h1.block hk, h2, fun j hj => (h3 j hj).move hw hD⟩
theorem FrIs.kn {B : Nat} {D : Nat → Prop} {w : World} {c : Wc} {f : Fr} (h : FrIs B D w c f) : c.kn = f.kids.length := by
  obtain ⟨its, h1, h2, _⟩ := h.kids
  rw [← h2]
  rcases h1.2 with ⟨e, h0⟩ | ⟨g, cap, cur, e, _⟩
  · unfold Wc.kv at e; injection e with _ e _; rw [e, h0]
  · unfold Wc.kv at e; injection e with _ e _
theorem FrIs.lt {B : Nat} {D : Nat → Prop} {w : World} {c : Wc} {f : Fr} (h : FrIs B D w c f) : ∀ g, c.kv.ownBlock = some g → B ≤ g ∧ g < w.heap.size := by
  obtain ⟨its, h1, _, _⟩ := h.kids
  exact h1.lt
theorem Stk.on {B P ob oc : Nat} {fs : List Wc} {F : List Fr} {D : Nat → Prop} {w w' : World} (h : Stk B P ob oc fs F D w) (hs : w.heap.size ≤ w'.heap.size) (hb : ∀ g, g < w.heap.size → g ≠ P → w'.heap[g]? = w.heap[g]?) : Stk B P ob oc fs F D w' := by
  have hw : ∀ g, D g → g < w.heap.size → g < w'.heap.size ∧ w'.heap[g]? = w.heap[g]? := fun g hg hlt => ⟨by omega, hb g hlt (h.dd g hg).2.2.1⟩
  refine ⟨h.len, h.row.block (fun g e => ?_), h.obP, fun i hi => (h.fr i hi).move hw (fun _ x => x) (fun g e => hb g ((h.fr i hi).lt g e).2 (h.kP i hi g e).1), h.kP, h.kk, fun g hg => ?_⟩
  · have := (h.row.lt g e).2
    have e2 : ob = g := by simpa [Value.ownBlock] using e
    exact hb g this (by rw [← e2]; exact h.obP)
  · obtain ⟨a, b, c⟩ := h.dd g hg
    exact ⟨a, by omega, c⟩
/-- A scanner in memory. -/
structure SmX (B P : Nat) (line : ByteArray) (vl : Value) (s : Sc) (ob oc : Nat) (fs : List Wc) (D : Nat → Prop) (W0 w : World) : Prop where
  blk : w.heap[P]? = some (.cells #[.string line, .int .i64 s.pos, vl, .int .i64 s.begun, .slice (some ⟨ob, 0, none⟩) fs.length oc] 67 (0, 0))
  bP : B ≤ P
  bW : W0.heap.size ≤ B
  lits : Strs W0 vl s.lits
  below : Below B W0 w
  st : Stk B P ob oc fs (s.under ++ [s.top]) D w
theorem SmX.len {B P : Nat} {line : ByteArray} {vl : Value} {s : Sc} {ob oc : Nat} {fs : List Wc} {D : Nat → Prop} {W0 w : World} (h : SmX B P line vl s ob oc fs D W0 w) : fs.length = s.under.length + 1 := by
  rw [h.st.len]; simp
theorem SmX.plt {B P : Nat} {line : ByteArray} {vl : Value} {s : Sc} {ob oc : Nat} {fs : List Wc} {D : Nat → Prop} {W0 w : World} (h : SmX B P line vl s ob oc fs D W0 w) : P < w.heap.size := (Array.getElem?_eq_some_iff.1 h.blk).1
theorem SmX.sv {B P : Nat} {line : ByteArray} {vl : Value} {s : Sc} {ob oc : Nat} {fs : List Wc} {D : Nat → Prop} {W0 w : World} (h : SmX B P line vl s ob oc fs D W0 w) : Sv P line s.pos vl s.begun (.slice (some ⟨ob, 0, none⟩) (s.under.length + 1) oc) w := by
  have hb := h.blk
  rw [h.len] at hb
  exact ⟨cell_of_row _ _ 0 _ _ _ hb, cell_of_row _ _ 1 _ _ _ hb, cell_of_row _ _ 2 _ _ _ hb, cell_of_row _ _ 3 _ _ _ hb, cell_of_row _ _ 4 _ _ _ hb⟩
theorem SmX.topFr {B P : Nat} {line : ByteArray} {vl : Value} {s : Sc} {ob oc : Nat} {fs : List Wc} {D : Nat → Prop} {W0 w : World} (h : SmX B P line vl s ob oc fs D W0 w) : FrIs B D w (fs.getD s.under.length wc0) s.top := by
  have := h.st.fr s.under.length (by simp)
  rwa [show (s.under ++ [s.top]).getD s.under.length fr0 = s.top by simp [List.getD_eq_getElem?_getD]] at this
theorem SmX.tv {B P : Nat} {line : ByteArray} {vl : Value} {s : Sc} {ob oc : Nat} {fs : List Wc} {D : Nat → Prop} {W0 w : World} (h : SmX B P line vl s ob oc fs D W0 w) : Tv ob s.under.length s.top.kind (fs.getD s.under.length wc0).ka s.top.kids.length (fs.getD s.under.length wc0).kc w := by
  have ha := h.st.row.at s.under.length (by rw [h.len]; omega)
  have hf := h.topFr
  refine ⟨by rw [← hf.kind]; exact ha.1, ?_⟩
  rw [← hf.kn]
  exact ha.2.2.1
theorem SmX.on {B P : Nat} {line : ByteArray} {vl : Value} {s : Sc} {ob oc : Nat} {fs : List Wc} {D : Nat → Prop} {W0 w w' : World} (h : SmX B P line vl s ob oc fs D W0 w) (hb : Below w.heap.size w w') : SmX B P line vl s ob oc fs D W0 w' := by
  have hp := h.plt
  have hB := h.bP
  exact ⟨by rw [hb.block P hp]; exact h.blk, h.bP, h.bW, h.lits, h.below.trans (hb.mono (by omega)), h.st.on hb.size (fun g hg _ => hb.block g hg)⟩
/-- The scanner's own block is written over. -/
theorem SmX.put {B P : Nat} {line : ByteArray} {vl vl' : Value} {s s' : Sc} {ob oc : Nat} {fs : List Wc} {D : Nat → Prop} {W0 w w' : World} (h : SmX B P line vl s ob oc fs D W0 w) (hs : w.heap.size ≤ w'.heap.size) (hb : ∀ g, g < w.heap.size → g ≠ P → w'.heap[g]? = w.heap[g]?) (hq : Below B W0 w')
    (hu : s'.under = s.under) (ht : s'.top = s.top) (hl : Strs W0 vl' s'.lits)
    (hP : w'.heap[P]? = some (.cells #[.string line, .int .i64 s'.pos, vl', .int .i64 s'.begun, .slice (some ⟨ob, 0, none⟩) fs.length oc] 67 (0, 0))) : SmX B P line vl' s' ob oc fs D W0 w' :=
  ⟨hP, h.bP, h.bW, hl, hq, by rw [hu, ht]; exact h.st.on hs hb⟩
/-- What the readers say of it. -/
theorem SmX.strs {B P : Nat} {line : ByteArray} {vl : Value} {s : Sc} {ob oc : Nat} {fs : List Wc} {D : Nat → Prop} {W0 w : World} (h : SmX B P line vl s ob oc fs D W0 w) : Strs w vl s.lits := by
  have := h.bW
  exact h.lits.on (h.below.mono this)
theorem SmX.fault {B P : Nat} {line : ByteArray} {vl : Value} {s : Sc} {ob oc : Nat} {fs : List Wc} {D : Nat → Prop} {W0 w : World} (h : SmX B P line vl s ob oc fs D W0 w) (hn : s.under.length ≤ 100) (hp : s.pos < line.size) (hs : line.size ≤ 140737488355328) (hbg : s.begun ≤ 1000) :
    Calls Tryd.prog 53 #[.pointer (some ⟨P, 0, none⟩)] w fun e w' => e = .returned (.int .i64 (s.fault (L line))) ∧ Below w.heap.size w w' := by
  have := fault_any h.sv h.tv h.strs hn hp hs hbg
  have e : s.fault (L line) = faultV (begB (L line) s.pos) (s.begun == 512) (openerB (bt (L line) s.pos)) (decide (12 < s.under.length + 1)) (closerB (bt (L line) s.pos)) (s.top.kind == kindC (bt (L line) s.pos)) (bt (L line) s.pos == 123) (fitB (L line) s.pos s.lits) (bt (L line) s.pos == 32) ((decide (0 < s.top.kids.length) && !blankB (L line) s.pos) && (decide (s.pos + 1 = (L line).length) || !closerB (bt (L line) (s.pos + 1)))) := by
    have hk : decide (0 < s.top.kids.length) = !s.top.kids.isEmpty := by cases s.top.kids <;> simp
    rw [hk]
    rfl
  rw [e]
  exact this
theorem SmX.word {B P : Nat} {line : ByteArray} {vl : Value} {s : Sc} {ob oc : Nat} {fs : List Wc} {D : Nat → Prop} {W0 w : World} (h : SmX B P line vl s ob oc fs D W0 w) (hn : s.under.length ≤ 100) (hp : s.pos ≤ line.size) (hs : line.size ≤ 140737488355328) :
    Calls Tryd.prog 83 #[.pointer (some ⟨P, 0, none⟩)] w fun e w' => e = .returned (.bool (s.word (L line))) ∧ Below w.heap.size w w' := by
  have := isBehindWord_any h.sv h.tv hn hp hs
  have hk : decide (0 < s.top.kids.length) = !s.top.kids.isEmpty := by cases s.top.kids <;> simp
  rw [hk] at this
  exact this
theorem SmX.endFault {B P : Nat} {line : ByteArray} {vl : Value} {s : Sc} {ob oc : Nat} {fs : List Wc} {D : Nat → Prop} {W0 w : World} (q : Bool) (h : SmX B P line vl s ob oc fs D W0 w) (hn : s.under.length ≤ 100) (hp : s.pos ≤ line.size) (hs : line.size ≤ 140737488355328) :
    Calls Tryd.prog 61 #[.pointer (some ⟨P, 0, none⟩), .bool q] w fun e w' => e = .returned (.int .i64 (s.endE (L line) q)) ∧ Below w.heap.size w w' := by
  have hl : ∃ ao cap, vl = .slice ao s.lits.length cap := by
    rcases h.lits with ⟨e, ao, cap, rfl⟩ | ⟨b, off, cap, rfl, _⟩
    · exact ⟨ao, cap, by rw [e]; rfl⟩
    · exact ⟨_, cap, rfl⟩
  have := endFault_any q h.sv hl hn hp hs
  have e : s.endE (L line) q = if 0 < s.under.length then 33 else if q then 31 else if blankB (L line) s.pos then 30 else if 0 < s.lits.length then 32 else 0 := by
    unfold Sc.endE
    cases s.under <;> cases s.lits <;> simp
  rw [e]
  exact this
end Go.Proofs.YtliiapdakojomabDoor
