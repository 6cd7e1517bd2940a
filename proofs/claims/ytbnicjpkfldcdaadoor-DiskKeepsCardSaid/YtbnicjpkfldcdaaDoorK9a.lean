/- DiskKeeps: the statement's own log in memory, beside a disk. -/
import Derived.Test.YtbnicjpkfldcdaaDoorD9xi
import Derived.Laws.OwnMore
import Derived.WalkSmall
namespace Go.Proofs.YtbnicjpkfldcdaaDoor
open Go.RowKit Go.Lib

/-- What the log knows of a file: its name, all its bytes, those that are sure. -/
structure LE where
  name : ByteArray
  all : ByteArray
  sure : ByteArray
def fpG (bp : Nat) (vn va vs : Value) : List Nat := bp :: (vn.ownBlock.toList ++ (va.ownBlock.toList ++ vs.ownBlock.toList))
structure Ap (bp : Nat) (v0 v1 v2 : Value) : Prop where
  p0 : v0.ownBlock ≠ some bp
  p1 : v1.ownBlock ≠ some bp
  p2 : v2.ownBlock ≠ some bp
  x01 : ∀ b, v0.ownBlock = some b → v1.ownBlock ≠ some b
  x02 : ∀ b, v0.ownBlock = some b → v2.ownBlock ≠ some b
  x12 : ∀ b, v1.ownBlock = some b → v2.ownBlock ≠ some b
/-- The log's three rows, each by itself. -/
structure L3 (B bp : Nat) (vn va vs : Value) (ln la ls : List ByteArray) (w : World) : Prop where
  self : w.heap[bp]? = some (.cells #[vn, va, vs] 32 (0, 0))
  rn : w.ownsRow B 9 1 vn ln.length (ln.map Value.string)
  ra : w.ownsRow B 9 1 va la.length (la.map Value.string)
  rs : w.ownsRow B 9 1 vs ls.length (ls.map Value.string)
  apart : Ap bp vn va vs
  lo : B ≤ bp
abbrev LogAt (B bp : Nat) (vn va vs : Value) (G : List LE) (w : World) : Prop := L3 B bp vn va vs (G.map LE.name) (G.map LE.all) (G.map LE.sure) w
theorem mem_fpG_n {bp b : Nat} {vn va vs : Value} (h : vn.ownBlock = some b) : b ∈ fpG bp vn va vs := by simp [fpG, h]
theorem mem_fpG_a {bp b : Nat} {vn va vs : Value} (h : va.ownBlock = some b) : b ∈ fpG bp vn va vs := by simp [fpG, h]
theorem mem_fpG_s {bp b : Nat} {vn va vs : Value} (h : vs.ownBlock = some b) : b ∈ fpG bp vn va vs := by simp [fpG, h]
theorem mem_fpG_p {bp : Nat} {vn va vs : Value} : bp ∈ fpG bp vn va vs := by simp [fpG]
theorem L3.hold {B bp : Nat} {vn va vs : Value} {ln la ls : List ByteArray} {w w' : World} (h : L3 B bp vn va vs ln la ls w) (hs : ∀ b, b ∈ fpG bp vn va vs → w'.heap[b]? = w.heap[b]?) : L3 B bp vn va vs ln la ls w' :=
  ⟨by rw [hs bp mem_fpG_p]; exact h.self, ownsRow_same h.rn (fun b e => hs b (mem_fpG_n e)), ownsRow_same h.ra (fun b e => hs b (mem_fpG_a e)), ownsRow_same h.rs (fun b e => hs b (mem_fpG_s e)), h.apart, h.lo⟩
theorem L3.lt {B bp : Nat} {vn va vs : Value} {ln la ls : List ByteArray} {w : World} (h : L3 B bp vn va vs ln la ls w) {b : Nat} (hb : b ∈ fpG bp vn va vs) : b < w.heap.size := by
  simp only [fpG, List.mem_cons, List.mem_append, Option.mem_toList] at hb
  rcases hb with rfl | hb | hb | hb
  · exact lt_of_heap h.self
  · exact (h.rn.lt b hb).2
  · exact (h.ra.lt b hb).2
  · exact (h.rs.lt b hb).2
theorem L3.base {B bp : Nat} {vn va vs : Value} {ln la ls : List ByteArray} {w : World} (h : L3 B bp vn va vs ln la ls w) {b : Nat} (hb : b ∈ fpG bp vn va vs) : B ≤ b := by
  simp only [fpG, List.mem_cons, List.mem_append, Option.mem_toList] at hb
  rcases hb with rfl | hb | hb | hb
  · exact h.lo
  · exact (h.rn.lt b hb).1
  · exact (h.ra.lt b hb).1
  · exact (h.rs.lt b hb).1
theorem L3.on {B bp : Nat} {vn va vs : Value} {ln la ls : List ByteArray} {w w' : World} (h : L3 B bp vn va vs ln la ls w) (hb : Below w.heap.size w w') : L3 B bp vn va vs ln la ls w' := h.hold (fun b hm => hb.block b (h.lt hm))
theorem row_kind {w : World} {B n : Nat} {e : TypeId} {v : Value} {xs : List Value} (h : w.ownsRow B e 1 v n xs) {b : Nat} (hb : v.ownBlock = some b) : ∃ cs fz, w.heap[b]? = some (.cells cs e fz) := by
  rcases h.2 with ⟨rfl, _⟩ | ⟨g, cap, cur, rfl, _, hg, _⟩
  · cases hb
  · cases hb
    exact ⟨_, _, hg⟩
theorem L3.kind {B bp : Nat} {vn va vs : Value} {ln la ls : List ByteArray} {w : World} (h : L3 B bp vn va vs ln la ls w) {b : Nat} (hb : b ∈ fpG bp vn va vs) {Q : Array Value → TypeId → Nat × Nat → Prop} (hQ : ∀ cs t fz, w.heap[b]? = some (.cells cs t fz) → Q cs t fz) : ∃ cs t fz, Q cs t fz ∧ (t = 32 ∨ t = 9) := by
  simp only [fpG, List.mem_cons, List.mem_append, Option.mem_toList] at hb
  rcases hb with rfl | hb | hb | hb
  · exact ⟨_, _, _, hQ _ _ _ h.self, .inl rfl⟩
  · obtain ⟨cs, fz, e⟩ := row_kind h.rn hb
    exact ⟨_, _, _, hQ _ _ _ e, .inr rfl⟩
  · obtain ⟨cs, fz, e⟩ := row_kind h.ra hb
    exact ⟨_, _, _, hQ _ _ _ e, .inr rfl⟩
  · obtain ⟨cs, fz, e⟩ := row_kind h.rs hb
    exact ⟨_, _, _, hQ _ _ _ e, .inr rfl⟩
/-- What a log's own call leaves. -/
def LogOut (B bp : Nat) (vn va vs : Value) (G' : List LE) (w w' : World) : Prop :=
  ∃ vn' va' vs', LogAt B bp vn' va' vs' G' w' ∧ Stays (fpG bp vn va vs) w w' ∧ ∀ b, b ∈ fpG bp vn' va' vs' → b ∈ fpG bp vn va vs ∨ w.heap.size ≤ b
theorem LogOut.of_below {B bp : Nat} {vn va vs : Value} {G : List LE} {w w' : World} (h : LogAt B bp vn va vs G w) (hb : Below w.heap.size w w') : LogOut B bp vn va vs G w w' := ⟨vn, va, vs, h.on hb, Stays.ofBelow hb, fun _ h => .inl h⟩
theorem LogOut.trans {B bp : Nat} {vn va vs : Value} {G' G'' : List LE} {w w' w'' : World} (h : LogOut B bp vn va vs G' w w') (k : ∀ vn' va' vs', LogAt B bp vn' va' vs' G' w' → LogOut B bp vn' va' vs' G'' w' w'') : LogOut B bp vn va vs G'' w w'' := by
  obtain ⟨vn', va', vs', h1, h2, h3⟩ := h
  obtain ⟨vn2, va2, vs2, k1, k2, k3⟩ := k vn' va' vs' h1
  refine ⟨vn2, va2, vs2, k1, h2.trans k2 h3, fun b hb => ?_⟩
  rcases k3 b hb with e | e
  · exact h3 b e
  · exact .inr (Nat.le_trans h2.size e)
theorem DiskAt.holdK {B d m clk : Nat} {sv : Value} {S : DS} {F : List FE} {w w' : World} (h : DiskAt B d m clk sv S F w) (hz : B ≤ w'.heap.size) (hs : ∀ b, b ∈ fpOf d m sv F → w'.heap[b]? = w.heap[b]?) : DiskAt B d m clk sv S F w' where
  self := by rw [hs d mem_fp_self]; exact h.self
  map := by rw [hs m mem_fp_map]; exact h.map
  born := h.born
  borns := h.borns
  names := h.names
  files := fun f hf => (h.files f hf).same (fun b hb => hs b (mem_fp_file hf hb))
  stops := h.stops.same (fun b hb => hs b (mem_fp_sv hb))
  apart := h.apart
  base := h.base
  size := hz
  fits := h.fits
  quota := h.quota
  steps := h.steps
/-- A disk, a log, and blocks that are kept beside them. -/
def KD (A : Whys) (w0 : World) (d bp : Nat) (S : DS) (P : List PF) (G : List LE) (K : List (Nat × Obj)) (w : World) : Prop :=
  ∃ m sv clk F vn va vs, DiskAt w0.heap.size d m clk sv S F w ∧ F.map FE.pl = P ∧ Below w0.heap.size w0 w ∧ Env A w0.heap.size w ∧ LogAt w0.heap.size bp vn va vs G w ∧ (∀ b, b ∈ fpG bp vn va vs → b ∉ fpOf d m sv F) ∧ ∀ x, x ∈ K → w.heap[x.1]? = some x.2 ∧ x.1 ∉ fpOf d m sv F ∧ x.1 ∉ fpG bp vn va vs
/-- The disk by itself, the log's blocks kept beside it; and back. -/
theorem KD.disk {A : Whys} {w0 w : World} {d bp : Nat} {S : DS} {P : List PF} {G : List LE} {K : List (Nat × Obj)} (h : KD A w0 d bp S P G K w) : ∃ (KG : List (Nat × Obj)) (BG : Nat → Prop), Dk A w0 d S P (KG ++ K) w ∧ BG bp ∧ (∀ x, x ∈ K → ¬ BG x.1) ∧ (∀ b, BG b → b < w.heap.size) ∧ (∀ x, x ∈ KG → BG x.1) ∧ (∀ b, BG b → ∃ cs t fz, (b, Obj.cells cs t fz) ∈ KG ∧ (t = 32 ∨ t = 9)) ∧
    (∀ w', (∀ x, x ∈ KG → w'.heap[x.1]? = some x.2) → ∃ vn va vs, LogAt w0.heap.size bp vn va vs G w') ∧
    ∀ w' S' P' K', Dk A w0 d S' P' K' w' → (∀ x, x ∈ KG → x ∈ K') → ∀ K'', (∀ x, x ∈ K'' → x ∈ K' ∧ ¬ BG x.1) → KD A w0 d bp S' P' G K'' w' := by
  obtain ⟨m, sv, clk, F, vn, va, vs, h1, rfl, hb, he, h2, hd, hK⟩ := h
  have hm : ∀ b o, (b, o) ∈ (fpG bp vn va vs).filterMap (fun b => (w.heap[b]?).map fun o => (b, o)) ↔ b ∈ fpG bp vn va vs ∧ w.heap[b]? = some o := by
    intro b o
    simp only [List.mem_filterMap, Option.map_eq_some_iff, Prod.mk.injEq]
    constructor
    · rintro ⟨b', hb', o', ho', rfl, rfl⟩
      exact ⟨hb', ho'⟩
    · rintro ⟨hb', ho'⟩
      exact ⟨b, hb', o, ho', rfl, rfl⟩
  have hin0 : ∀ b, b ∈ fpG bp vn va vs → ∃ o, w.heap[b]? = some o ∧ (b, o) ∈ (fpG bp vn va vs).filterMap (fun b => (w.heap[b]?).map fun o => (b, o)) := fun b hb2 => by
    have hl := h2.lt hb2
    exact ⟨_, Array.getElem?_eq_getElem hl, (hm _ _).2 ⟨hb2, Array.getElem?_eq_getElem hl⟩⟩
  refine ⟨(fpG bp vn va vs).filterMap (fun b => (w.heap[b]?).map fun o => (b, o)), fun b => b ∈ fpG bp vn va vs, ⟨m, sv, clk, F, h1, rfl, hb, he, fun x hx => ?_⟩, mem_fpG_p, fun x hx => (hK x hx).2.2, fun b hb => h2.lt hb, fun x hx => ((hm x.1 x.2).1 hx).1, fun b hb2 => h2.kind hb2 (fun cs t fz e => (hm _ _).2 ⟨hb2, e⟩), fun w' hw' => ⟨vn, va, vs, h2.hold (fun b hb2 => ?_)⟩, ?_⟩
  · rcases List.mem_append.1 hx with hx | hx
    · obtain ⟨q1, q2⟩ := (hm x.1 x.2).1 hx
      exact ⟨q2, hd _ q1⟩
    · exact ⟨(hK x hx).1, (hK x hx).2.1⟩
  · obtain ⟨o, ho, hok⟩ := hin0 b hb2
    rw [ho]
    exact hw' _ hok
  · intro w' S' P' K' hD hsub K'' hK''
    obtain ⟨m', sv', clk', F', hD1, rfl, hb', he', hKk⟩ := hD
    have hin : ∀ b, b ∈ fpG bp vn va vs → ∃ o, w.heap[b]? = some o ∧ (b, o) ∈ K' := fun b hb2 => by
      obtain ⟨o, ho, hok⟩ := hin0 b hb2
      exact ⟨o, ho, hsub _ hok⟩
    refine ⟨m', sv', clk', F', vn, va, vs, hD1, rfl, hb', he', h2.hold (fun b hb2 => ?_), fun b hb2 hb1 => ?_, fun x hx => ⟨(hKk x (hK'' x hx).1).1, (hKk x (hK'' x hx).1).2, (hK'' x hx).2⟩⟩
    · obtain ⟨o, ho, hok⟩ := hin b hb2
      rw [ho]
      exact (hKk _ hok).1
    · obtain ⟨o, ho, hok⟩ := hin b hb2
      exact (hKk _ hok).2 hb1
/-- The log by itself, and back. -/
theorem KD.log {A : Whys} {w0 w : World} {d bp : Nat} {S : DS} {P : List PF} {G : List LE} {K : List (Nat × Obj)} (h : KD A w0 d bp S P G K w) : ∃ vn va vs, LogAt w0.heap.size bp vn va vs G w ∧ ∀ w' G', LogOut w0.heap.size bp vn va vs G' w w' → KD A w0 d bp S P G' K w' := by
  obtain ⟨m, sv, clk, F, vn, va, vs, h1, rfl, hb, he, h2, hd, hK⟩ := h
  refine ⟨vn, va, vs, h2, ?_⟩
  rintro w' G' ⟨vn', va', vs', hL, hS, hM⟩
  have hbb : Below w0.heap.size w w' := hS.below (fun b hb' => h2.base hb') hb.size
  refine ⟨m, sv, clk, F, vn', va', vs', h1.same hS.size (fun b hm => hS.block b (h1.lt hm) (fun e => hd b e hm)), rfl, hb.trans hbb, he.below hbb, hL, fun b hb' hf => ?_, fun x hx => ?_⟩
  · rcases hM b hb' with e | e
    · exact hd b e hf
    · have := h1.lt hf; omega
  · obtain ⟨q1, q2, q3⟩ := hK x hx
    refine ⟨by rw [hS.block _ (lt_of_heap q1) q3]; exact q1, q2, fun e => ?_⟩
    rcases hM _ e with e' | e'
    · exact q3 e'
    · have := lt_of_heap q1; omega
theorem KD.w0 {A : Whys} {w0 w : World} {d bp : Nat} {S : DS} {P : List PF} {G : List LE} {K : List (Nat × Obj)} (h : KD A w0 d bp S P G K w) : Below w0.heap.size w0 w := by
  obtain ⟨m, sv, clk, F, vn, va, vs, h1, rfl, hb, he, h2, hd, hK⟩ := h
  exact hb
theorem KD.kept {A : Whys} {w0 w : World} {d bp : Nat} {S : DS} {P : List PF} {G : List LE} {K : List (Nat × Obj)} (h : KD A w0 d bp S P G K w) {x : Nat × Obj} (hx : x ∈ K) : w.heap[x.1]? = some x.2 := by
  obtain ⟨m, sv, clk, F, vn, va, vs, h1, rfl, hb, he, h2, hd, hK⟩ := h
  exact (hK x hx).1
theorem KD.up {A : Whys} {w0 w w' : World} {d bp : Nat} {S : DS} {P : List PF} {G : List LE} {K : List (Nat × Obj)} (h : KD A w0 d bp S P G K w) (hb : Below w.heap.size w w') : KD A w0 d bp S P G K w' := by
  obtain ⟨vn, va, vs, hL, hk⟩ := h.log
  exact hk w' G (LogOut.of_below hL hb)
/-- A new log beside a disk. -/
theorem Dk.newlog {A : Whys} {w0 w : World} {d : Nat} {S : DS} {P : List PF} {K : List (Nat × Obj)} (h : Dk A w0 d S P K w) : KD A w0 d w.heap.size S P [] K (w.alloc (.cells #[.slice none 0 0, .slice none 0 0, .slice none 0 0] 32)) := by
  obtain ⟨m, sv, clk, F, hD, rfl, hb, he, hK⟩ := h
  have hb1 : Below w.heap.size w (w.alloc (.cells #[.slice none 0 0, .slice none 0 0, .slice none 0 0] 32)) := (Below.refl _ _).alloc (Nat.le_refl _) _
  refine ⟨m, sv, clk, F, .slice none 0 0, .slice none 0 0, .slice none 0 0, hD.below hb1, rfl, hb.trans (hb1.mono hb.size), he.below (hb1.mono hb.size), ⟨heap_alloc_new _ _, World.ownsRow_nil _ _ _ _, World.ownsRow_nil _ _ _ _, World.ownsRow_nil _ _ _ _, ⟨by simp [Value.ownBlock], by simp [Value.ownBlock], by simp [Value.ownBlock], by simp [Value.ownBlock], by simp [Value.ownBlock], by simp [Value.ownBlock]⟩, hb.size⟩, fun b hb' hf => ?_, fun x hx => ⟨by rw [hb1.block _ (lt_of_heap (hK x hx).1)]; exact (hK x hx).1, (hK x hx).2, fun e => ?_⟩⟩
  · have : b = w.heap.size := by simpa [fpG, Value.ownBlock] using hb'
    have := hD.lt hf
    omega
  · have : x.1 = w.heap.size := by simpa [fpG, Value.ownBlock] using e
    have := lt_of_heap (hK x hx).1
    omega
end Go.Proofs.YtbnicjpkfldcdaaDoor

/- DiskKeeps: logs and files, plain. -/
namespace Go.Proofs.YtbnicjpkfldcdaaDoor
open Go.RowKit Go.Lib

def toLE (p : PF) : LE := ⟨p.name, S p.data, S (p.data.take p.dur)⟩
def idxL (n : ByteArray) (G : List LE) : Option Nat := G.findIdx? fun e => decide (e.name = n)
def atL (n : ByteArray) (G : List LE) : Int := match idxL n G with | none => -1 | some i => (i : Int)
theorem idxL_some {n : ByteArray} {G : List LE} {i : Nat} (h : idxL n G = some i) : ∃ e, G[i]? = some e ∧ e.name = n := by
  unfold idxL at h
  rw [List.findIdx?_eq_some_iff_getElem] at h
  obtain ⟨hi, h1, _⟩ := h
  exact ⟨G[i], List.getElem?_eq_getElem hi, by simpa using h1⟩
theorem idxL_none {n : ByteArray} {G : List LE} (h : idxL n G = none) : ∀ e, e ∈ G → e.name ≠ n := by
  unfold idxL at h
  rw [List.findIdx?_eq_none_iff] at h
  intro e he
  simpa using h e he
/-- A list with a place in it. -/
theorem split_at {α : Type} {G : List α} {i : Nat} {e : α} (h : G[i]? = some e) : ∃ A B, G = A ++ e :: B ∧ A.length = i := by
  obtain ⟨hi, he⟩ := List.getElem?_eq_some_iff.1 h
  refine ⟨G.take i, G.drop (i + 1), ?_, by rw [List.length_take]; omega⟩
  rw [← he, ← List.drop_eq_getElem_cons hi, List.take_append_drop]
theorem set_split {α : Type} (A B : List α) (e x : α) : (A ++ e :: B).set A.length x = A ++ x :: B := by
  rw [List.set_append_right _ _ (Nat.le_refl _)]; simp
/-- The last one takes a place, and goes. -/
theorem swap_out {α : Type} {A B : List α} {e z : α} (h : (A ++ e :: B).getLast? = some z) : (((A ++ e :: B).set A.length z).dropLast).Perm (A ++ B) := by
  rw [set_split]
  rcases List.eq_nil_or_concat B with rfl | ⟨C, y, hB⟩
  · rw [List.dropLast_concat]; simp
  · rw [List.concat_eq_append] at hB
    subst hB
    have hz : y = z := by
      rw [show A ++ e :: (C ++ [y]) = (A ++ e :: C) ++ [y] by simp, List.getLast?_concat] at h
      exact Option.some.inj h
    subst hz
    rw [show A ++ y :: (C ++ [y]) = (A ++ y :: C) ++ [y] by simp, List.dropLast_concat]
    exact (List.perm_middle).trans ((List.perm_append_singleton _ _).symm.trans (by rw [List.append_assoc]))
def getK (n : ByteArray) (P : List PF) : Option PF := P.find? fun p => decide (p.name = n)
theorem getK_mem {l : List PF} (hn : (l.map PF.name).Nodup) {n : ByteArray} {p : PF} : getK n l = some p ↔ p ∈ l ∧ p.name = n := by
  constructor
  · intro h
    exact ⟨List.mem_of_find?_eq_some h, by simpa using List.find?_some h⟩
  · rintro ⟨hp, rfl⟩
    induction l with
    | nil => cases hp
    | cons x l ih =>
      rw [List.map_cons, List.nodup_cons] at hn
      rcases List.mem_cons.1 hp with e | hp1
      · subst e; simp [getK]
      · have hx : x.name ≠ p.name := fun e => hn.1 (by rw [e]; exact List.mem_map.2 ⟨p, hp1, rfl⟩)
        unfold getK; rw [List.find?_cons_of_neg (by simp [hx])]
        exact ih hn.2 hp1
theorem modK_perm {P : List PF} (hn : (P.map PF.name).Nodup) {n : ByteArray} {p : PF} (hp : getK n P = some p) (g : PF → PF) : (modP n g P).Perm (g p :: dropP n P) := by
  obtain ⟨hm, hpn⟩ := (getK_mem hn).1 hp
  clear hp
  induction P with
  | nil => cases hm
  | cons x r ih =>
    rw [List.map_cons, List.nodup_cons] at hn
    by_cases e : x.name = n
    · have hxp : x = p := by
        rcases List.mem_cons.1 hm with e' | hm'
        · exact e'.symm
        · exact absurd (List.mem_map.2 ⟨p, hm', hpn.trans e.symm⟩) hn.1
      subst hxp
      have hr : ∀ y, y ∈ r → y.name ≠ n := fun y hy e' => hn.1 (by rw [e, ← e']; exact List.mem_map.2 ⟨y, hy, rfl⟩)
      have e1 : modP n g r = r := by
        unfold modP
        conv => rhs; rw [← List.map_id r]
        exact List.map_congr_left (fun y hy => by rw [if_neg (hr y hy)]; rfl)
      have e2 : dropP n r = r := List.filter_eq_self.2 (fun y hy => by simp [hr y hy])
      have e3 : modP n g (x :: r) = g x :: modP n g r := by simp [modP, e]
      have e4 : dropP n (x :: r) = dropP n r := by simp [dropP, e]
      rw [e3, e4, e1, e2]
    · have hm' : p ∈ r := by
        rcases List.mem_cons.1 hm with e' | hm'
        · exact absurd (e' ▸ hpn) e
        · exact hm'
      have e3 : modP n g (x :: r) = x :: modP n g r := by simp [modP, e]
      have e4 : dropP n (x :: r) = x :: dropP n r := by simp [dropP, e]
      rw [e3, e4]
      exact (List.Perm.cons x (ih hn.2 hm')).trans (List.Perm.swap _ _ _)
theorem self_perm {P : List PF} (hn : (P.map PF.name).Nodup) {n : ByteArray} {p : PF} (hp : getK n P = some p) : P.Perm (p :: dropP n P) := by
  have := modK_perm hn hp id
  have hid : modP n id P = P := by unfold modP; simp
  rw [hid] at this
  exact this
theorem hasK_get (n : ByteArray) (P : List PF) : hasP n P = (getK n P).isSome := by
  unfold hasP getK
  induction P with
  | nil => rfl
  | cons x r ih =>
    by_cases e : x.name = n
    · simp [e]
    · rw [List.any_cons, List.find?_cons_of_neg (by simp [e]), ih]; simp [e]
theorem dropK_none {n : ByteArray} {P : List PF} (h : getK n P = none) : dropP n P = P := by
  unfold getK at h
  rw [List.find?_eq_none] at h
  exact List.filter_eq_self.2 (fun y hy => by simpa using h y hy)
/-- The log is the files. -/
structure LogOf (P : List PF) (G : List LE) : Prop where
  perm : G.Perm (P.map toLE)
  nod : (P.map PF.name).Nodup
theorem LogOf.mem {P : List PF} {G : List LE} (h : LogOf P G) {e : LE} : e ∈ G ↔ ∃ p, p ∈ P ∧ toLE p = e := by
  rw [h.perm.mem_iff, List.mem_map]
theorem LogOf.names {P : List PF} {G : List LE} (h : LogOf P G) : (G.map LE.name).Nodup := by
  have h1 : (G.map LE.name).Perm ((P.map toLE).map LE.name) := h.perm.map _
  rw [List.map_map] at h1
  have e : (LE.name ∘ toLE) = PF.name := rfl
  rw [e] at h1
  exact h1.nodup_iff.2 h.nod
/-- Where a file is in the log. -/
theorem LogOf.at {P : List PF} {G : List LE} (h : LogOf P G) (n : ByteArray) : (getK n P = none ∧ idxL n G = none) ∨ ∃ p i, getK n P = some p ∧ p.name = n ∧ idxL n G = some i ∧ G[i]? = some (toLE p) := by
  cases e : idxL n G with
  | none =>
    refine .inl ⟨?_, rfl⟩
    have hn := idxL_none e
    unfold getK
    rw [List.find?_eq_none]
    intro p hp
    have := hn (toLE p) (h.mem.2 ⟨p, hp, rfl⟩)
    simpa [toLE] using this
  | some i =>
    obtain ⟨x, hx, hxn⟩ := idxL_some e
    obtain ⟨p, hp, rfl⟩ := h.mem.1 (List.mem_of_getElem? hx)
    exact .inr ⟨p, i, (getK_mem h.nod).2 ⟨hp, hxn⟩, hxn, rfl, hx⟩
theorem nodup_of_perm {P Q : List PF} (h : P.Perm Q) (hn : (P.map PF.name).Nodup) : (Q.map PF.name).Nodup := ((h.map _).nodup_iff).1 hn
/-- One entry is turned. -/
theorem LogOf.turn {P P' : List PF} {G : List LE} (h : LogOf P G) {n : ByteArray} {p p' : PF} {i : Nat} (hp : getK n P = some p) (hi : G[i]? = some (toLE p)) (hP : P'.Perm (p' :: dropP n P)) (hn' : (P'.map PF.name).Nodup) : LogOf P' (G.set i (toLE p')) := by
  refine ⟨?_, hn'⟩
  obtain ⟨A, B, rfl, rfl⟩ := split_at hi
  rw [set_split]
  have h1 : (toLE p :: (A ++ B)).Perm (toLE p :: (dropP n P).map toLE) := (List.perm_middle.symm.trans h.perm).trans (((self_perm h.nod hp).map toLE))
  have h2 : (A ++ B).Perm ((dropP n P).map toLE) := h1.cons_inv
  exact List.perm_middle.trans ((h2.cons _).trans (hP.map toLE).symm)
/-- One entry goes. -/
def freeL (i : Nat) (G : List LE) : List LE := match G.getLast? with | none => G | some z => (G.set i z).dropLast
theorem LogOf.free {P : List PF} {G : List LE} (h : LogOf P G) {n : ByteArray} {p : PF} {i : Nat} (hp : getK n P = some p) (hi : G[i]? = some (toLE p)) : (freeL i G).Perm ((dropP n P).map toLE) := by
  unfold freeL
  obtain ⟨A, B, rfl, rfl⟩ := split_at hi
  cases hl : (A ++ toLE p :: B).getLast? with
  | none => simp at hl
  | some z =>
    have h1 : (toLE p :: (A ++ B)).Perm (toLE p :: (dropP n P).map toLE) := (List.perm_middle.symm.trans h.perm).trans (((self_perm h.nod hp).map toLE))
    exact (swap_out hl).trans h1.cons_inv
theorem dropP_nod {P : List PF} (n : ByteArray) (h : (P.map PF.name).Nodup) : ((dropP n P).map PF.name).Nodup :=
  h.sublist (List.Sublist.map _ List.filter_sublist)
theorem LogOf.freed {P : List PF} {G : List LE} (h : LogOf P G) {n : ByteArray} {p : PF} {i : Nat} (hp : getK n P = some p) (hi : G[i]? = some (toLE p)) : LogOf (dropP n P) (freeL i G) := ⟨h.free hp hi, dropP_nod n h.nod⟩
/-- One entry more. -/
theorem LogOf.add {P P' : List PF} {G : List LE} (h : LogOf P G) (p : PF) (hP : P'.Perm (P ++ [p])) (hn' : (P'.map PF.name).Nodup) : LogOf P' (G ++ [toLE p]) :=
  ⟨((h.perm.append_right _).trans (by rw [← List.map_singleton, ← List.map_append])).trans (hP.map toLE).symm, hn'⟩
end Go.Proofs.YtbnicjpkfldcdaaDoor

/- DiskKeeps: what an operation does to the files, against the log; plain. -/
namespace Go.Proofs.YtbnicjpkfldcdaaDoor
open Go.RowKit Go.Lib

def codeK (T : DS) (P : List PF) (q : ActR) : Int := if q.kind = 1 then appCode T P q.name q.data else if q.kind = 4 then renC P q.name q.dest else if q.kind = 6 then truC P q.name q.n else lookC P q.name
def doneK (P : List PF) (q : ActR) : List PF := if q.kind = 1 then growP q.name (L q.data) P else if q.kind = 2 then modP q.name syncP P else if q.kind = 4 then moveP q.name q.dest P else if q.kind = 5 then dropP q.name P else if q.kind = 6 then modP q.name (cutF q.n.toNat) P else P
def partK (P : List PF) (q : ActR) (y : Int) : List PF := if q.kind = 1 then growP q.name ((L q.data).take (wth y (q.data.size : Int)).toNat) P else if 1 ≤ y then doneK P q else P
/-- The operation names a file. -/
def namedK (q : ActR) (n : ByteArray) : Prop := n = q.name ∨ (q.kind = 4 ∧ n = q.dest)
theorem mod_other {n : ByteArray} {g : PF → PF} (hg : ∀ p, (g p).name = p.name) {P : List PF} {p : PF} (h : p.name ≠ n) : p ∈ modP n g P ↔ p ∈ P := by
  unfold modP
  rw [List.mem_map]
  constructor
  · rintro ⟨x, hx, e⟩
    by_cases c : x.name = n
    · rw [if_pos c] at e
      exact absurd (by rw [← e, hg]; exact c) h
    · rw [if_neg c] at e
      exact e ▸ hx
  · intro hp
    exact ⟨p, hp, if_neg h⟩
theorem grow_other {n : ByteArray} {x : List UInt8} {P : List PF} {p : PF} (h : p.name ≠ n) : p ∈ growP n x P ↔ p ∈ P := by
  unfold growP
  split
  · refine mod_other ?_ h; intro _; rfl
  · rw [List.mem_append, List.mem_singleton]
    exact ⟨fun e => e.elim id (fun e => absurd (by rw [e]) h), .inl⟩
theorem drop_other {n : ByteArray} {P : List PF} {p : PF} (h : p.name ≠ n) : p ∈ dropP n P ↔ p ∈ P := by
  unfold dropP
  rw [List.mem_filter]
  simp [h]
theorem move_other {a b : ByteArray} {P : List PF} {p : PF} (ha : p.name ≠ a) (hb : p.name ≠ b) : p ∈ moveP a b P ↔ p ∈ P := by
  unfold moveP
  split
  · rfl
  · split
    · rfl
    · rw [List.mem_append, List.mem_singleton, drop_other ha, drop_other hb]
      exact ⟨fun e => e.elim id (fun e => absurd (by rw [e]) hb), .inl⟩
theorem done_other {q : ActR} {P : List PF} {p : PF} (h : ¬ namedK q p.name) : p ∈ doneK P q ↔ p ∈ P := by
  have h1 : p.name ≠ q.name := fun e => h (.inl e)
  have h2 : q.kind = 4 → p.name ≠ q.dest := fun e e' => h (.inr ⟨e, e'⟩)
  unfold doneK
  split
  · exact grow_other h1
  split
  · refine mod_other ?_ h1; intro _; rfl
  split
  · exact move_other h1 (h2 ‹_›)
  split
  · exact drop_other h1
  split
  · refine mod_other ?_ h1; intro _; rfl
  · rfl
theorem part_other {q : ActR} {P : List PF} {p : PF} (y : Int) (h : ¬ namedK q p.name) : p ∈ partK P q y ↔ p ∈ P := by
  unfold partK
  split
  · exact grow_other (fun e => h (.inl e))
  split
  · exact done_other h
  · rfl
/-- All names are names. -/
def NmK (P : List PF) : Prop := ∀ p, p ∈ P → isNm p.name = true
theorem nm_mod {n : ByteArray} {g : PF → PF} (hg : ∀ p, (g p).name = p.name) {P : List PF} (h : NmK P) : NmK (modP n g P) := by
  intro p hp
  obtain ⟨x, hx, e⟩ := List.mem_map.1 hp
  split at e <;> subst e
  · rw [hg]; exact h x hx
  · exact h x hx
theorem nm_grow {n : ByteArray} {x : List UInt8} {P : List PF} (hn : isNm n = true) (h : NmK P) : NmK (growP n x P) := by
  unfold growP
  split
  · refine nm_mod ?_ h; intro _; rfl
  · intro p hp
    rcases List.mem_append.1 hp with hp | hp
    · exact h p hp
    · rw [List.mem_singleton.1 hp]; exact hn
theorem nm_drop {n : ByteArray} {P : List PF} (h : NmK P) : NmK (dropP n P) := fun p hp => h p (List.mem_filter.1 hp).1
theorem nm_move {a b : ByteArray} {P : List PF} (hb : isNm b = true) (h : NmK P) : NmK (moveP a b P) := by
  unfold moveP
  split
  · exact h
  · split
    · exact h
    · intro p hp
      rcases List.mem_append.1 hp with hp | hp
      · exact nm_drop (nm_drop h) p hp
      · rw [List.mem_singleton.1 hp]; exact hb
theorem app_nm {T : DS} {P : List PF} {n s : ByteArray} (h : appCode T P n s = 0) : isNm n = true := by
  unfold appCode at h
  split at h
  · assumption
  · cases h
theorem ren_nm {P : List PF} {a b : ByteArray} (h : renC P a b = 0) : isNm b = true ∧ lookC P a = 0 := by
  unfold renC at h
  split at h
  · exact ⟨by assumption, h⟩
  · cases h
theorem tru_look {P : List PF} {n : ByteArray} {k : Int} (h : truC P n k = 0) : lookC P n = 0 ∧ 0 ≤ k ∧ k ≤ sizeP n P := by
  unfold truC at h
  split at h
  · split at h
    · rename_i h1 h2; exact ⟨h1, h2⟩
    · cases h
  · exact absurd h (by assumption)
theorem nm_done {T : DS} {P : List PF} {q : ActR} (hc : codeK T P q = 0) (h : NmK P) : NmK (doneK P q) := by
  unfold codeK at hc
  unfold doneK
  split
  · rw [if_pos (by assumption)] at hc
    exact nm_grow (app_nm hc) h
  split
  · refine nm_mod ?_ h; intro _; rfl
  split
  · rename_i h1 _ h4
    rw [if_neg h1, if_pos h4] at hc
    exact nm_move (ren_nm hc).1 h
  split
  · exact nm_drop h
  split
  · refine nm_mod ?_ h; intro _; rfl
  · exact h
theorem nm_part {T : DS} {P : List PF} {q : ActR} (y : Int) (hc : codeK T P q = 0) (h : NmK P) : NmK (partK P q y) := by
  unfold partK
  split
  · unfold codeK at hc
    rw [if_pos (by assumption)] at hc
    exact nm_grow (app_nm hc) h
  split
  · exact nm_done hc h
  · exact h
theorem nm_torn {P : List PF} (z : Int) (h : NmK P) : NmK (P.map (tornP z)) := by
  intro p hp
  obtain ⟨x, hx, rfl⟩ := List.mem_map.1 hp
  exact h x hx
/-- What a start leaves, against the log. -/
structure RelR (P' : List PF) (G : List LE) (q : ActR) : Prop where
  here : ∀ p, p ∈ P' → ¬ namedK q p.name → ∃ k e, idxL p.name G = some k ∧ G[k]? = some e ∧ L e.sure <+: p.data ∧ p.data <+: L e.all
  there : ∀ e, e ∈ G → ¬ namedK q e.name → ∃ p, p ∈ P' ∧ p.name = e.name
theorem LogOf.find {P : List PF} {G : List LE} (h : LogOf P G) {p : PF} (hp : p ∈ P) : ∃ k, idxL p.name G = some k ∧ G[k]? = some (toLE p) := by
  have hg := (getK_mem h.nod).2 ⟨hp, rfl⟩
  rcases h.at p.name with ⟨e, _⟩ | ⟨p', i, e, _, hi, hG⟩
  · rw [hg] at e; cases e
  · rw [hg] at e
    obtain rfl := Option.some.inj e
    exact ⟨i, hi, hG⟩
theorem rel_stop {P Q : List PF} {G : List LE} {q : ActR} (z : Int) (hL : LogOf P G) (hd : ∀ p, p ∈ P → p.dur ≤ p.data.length) (hQ : ∀ p : PF, ¬ namedK q p.name → (p ∈ Q ↔ p ∈ P)) : RelR (Q.map (tornP z)) G q := by
  constructor
  · intro p hp hq
    obtain ⟨x, hx, rfl⟩ := List.mem_map.1 hp
    have hx' : x ∈ P := (hQ x hq).1 hx
    obtain ⟨k, h1, h2⟩ := hL.find hx'
    have hl := leftP_le z x (hd x hx')
    exact ⟨k, toLE x, h1, h2, List.take_prefix_take_left hl.2.1, List.take_prefix _ _⟩
  · intro e he hq
    obtain ⟨p, hp, rfl⟩ := hL.mem.1 he
    exact ⟨tornP z p, List.mem_map.2 ⟨p, (hQ p hq).2 hp, rfl⟩, rfl⟩
theorem rel_same {P : List PF} {G : List LE} (q : ActR) (hL : LogOf P G) : RelR P G q := by
  constructor
  · intro p hp _
    obtain ⟨k, h1, h2⟩ := hL.find hp
    exact ⟨k, toLE p, h1, h2, List.take_prefix _ _, List.prefix_refl _⟩
  · intro e he _
    obtain ⟨p, hp, rfl⟩ := hL.mem.1 he
    exact ⟨p, hp, rfl⟩
/-- The log that was read anew. -/
def freshE (p : PF) : LE := ⟨p.name, S p.data, S p.data⟩
theorem log_fresh {P : List PF} {G : List LE} (hn : (P.map PF.name).Nodup) (hf : ∀ p, p ∈ P → p.dur = p.data.length) (hp : G.Perm (P.map freshE)) : LogOf P G := by
  refine ⟨hp.trans (List.Perm.of_eq (List.map_congr_left (fun p h => ?_))), hn⟩
  unfold freshE toLE
  rw [hf p h, List.take_length]
theorem torn_full {Q : List PF} (z : Int) (hd : ∀ p, p ∈ Q → p.dur ≤ p.data.length) : ∀ p, p ∈ Q.map (tornP z) → p.dur = p.data.length := by
  intro p hp
  obtain ⟨x, hx, rfl⟩ := List.mem_map.1 hp
  have := (leftP_le z x (hd x hx)).1
  show leftP z x = (x.data.take (leftP z x)).length
  rw [List.length_take]
  omega
theorem look_getK {P : List PF} {n : ByteArray} (h : lookC P n = 0) : ∃ p, getK n P = some p := by
  unfold lookC at h
  rw [hasK_get] at h
  cases e : getK n P with
  | none => rw [e] at h; split at h <;> simp at h
  | some p => exact ⟨p, rfl⟩
theorem S_appK (l : List UInt8) (b : ByteArray) : S l ++ b = S (l ++ L b) := by
  apply ByteArray.ext
  apply Array.ext'
  simp [S, L]
theorem S_cutK (l : List UInt8) (k : Nat) : (S l).extract 0 k = S (l.take k) := by
  apply ByteArray.ext
  apply Array.ext'
  simp [S]
theorem dropP_comm (a b : ByteArray) (P : List PF) : dropP a (dropP b P) = dropP b (dropP a P) := by
  unfold dropP
  rw [List.filter_filter, List.filter_filter]
  congr 1
  funext p
  exact Bool.and_comm _ _
/-- notes, plain: one more; turned; gone; moved. -/
theorem log_new {P : List PF} {G : List LE} (h : LogOf P G) {n dat : ByteArray} (hi : idxL n G = none) (hn' : ((growP n (L dat) P).map PF.name).Nodup) : LogOf (growP n (L dat) P) (G ++ [⟨n, dat, ⟨#[]⟩⟩]) := by
  rcases h.at n with ⟨e, _⟩ | ⟨p', i, e, _, hi', hG⟩
  · have hp : hasP n P = false := by rw [hasK_get, e]; rfl
    have hg : growP n (L dat) P = P ++ [⟨n, L dat, 0⟩] := by unfold growP; rw [hp]; rfl
    rw [hg] at hn' ⊢
    exact h.add ⟨n, L dat, 0⟩ (List.Perm.refl _) hn'
  · rw [hi] at hi'; cases hi'
theorem log_grow {P : List PF} {G : List LE} (h : LogOf P G) {n dat : ByteArray} {i : Nat} {p : PF} (hp : getK n P = some p) (hd : p.dur ≤ p.data.length) (hG : G[i]? = some (toLE p)) (hn' : ((growP n (L dat) P).map PF.name).Nodup) : LogOf (growP n (L dat) P) (G.set i ⟨(toLE p).name, (toLE p).all ++ dat, (toLE p).sure⟩) := by
  have hg : growP n (L dat) P = modP n (fun p => { p with data := p.data ++ L dat }) P := by
    unfold growP
    rw [hasK_get, hp]
    rfl
  rw [hg] at hn' ⊢
  have := h.turn (p' := { p with data := p.data ++ L dat }) hp hG (modK_perm h.nod hp _) hn'
  have e : toLE { p with data := p.data ++ L dat } = ⟨(toLE p).name, (toLE p).all ++ dat, (toLE p).sure⟩ := by
    unfold toLE
    simp only
    rw [S_appK, List.take_append_of_le_length hd]
  rw [e] at this
  exact this
theorem log_sync {P : List PF} {G : List LE} (h : LogOf P G) {n : ByteArray} {i : Nat} {p : PF} (hp : getK n P = some p) (hG : G[i]? = some (toLE p)) (hn' : ((modP n syncP P).map PF.name).Nodup) : LogOf (modP n syncP P) (G.set i ⟨(toLE p).name, (toLE p).all, (toLE p).all⟩) := by
  have := h.turn (p' := syncP p) hp hG (modK_perm h.nod hp _) hn'
  have e : toLE (syncP p) = ⟨(toLE p).name, (toLE p).all, (toLE p).all⟩ := by
    unfold toLE syncP
    simp only
    rw [List.take_length]
  rw [e] at this
  exact this
theorem log_cut {P : List PF} {G : List LE} (h : LogOf P G) {n : ByteArray} {i k : Nat} {p : PF} (hp : getK n P = some p) (hd : p.dur ≤ p.data.length) (hG : G[i]? = some (toLE p)) (hn' : ((modP n (cutF k) P).map PF.name).Nodup) : LogOf (modP n (cutF k) P) (G.set i ⟨(toLE p).name, (toLE p).all.extract 0 k, (toLE p).sure.extract 0 (min k (toLE p).sure.size)⟩) := by
  have := h.turn (p' := cutF k p) hp hG (modK_perm h.nod hp _) hn'
  have e : toLE (cutF k p) = ⟨(toLE p).name, (toLE p).all.extract 0 k, (toLE p).sure.extract 0 (min k (toLE p).sure.size)⟩ := by
    unfold toLE cutF
    simp only
    rw [S_cutK, S_cutK, S_size, List.length_take, List.take_take, List.take_take]
    congr 2
    congr 1
    omega
  rw [e] at this
  exact this
theorem log_move {P : List PF} {G G1 : List LE} (h : LogOf P G) {a b : ByteArray} {i : Nat} {p : PF} (hab : a ≠ b) (hp : getK a P = some p) (hG : G[i]? = some (toLE p)) (hG1 : G1 = freeL i G) (hn' : ((moveP a b P).map PF.name).Nodup) :
    (idxL b G1 = none → LogOf (moveP a b P) (G1 ++ [⟨b, (toLE p).all, (toLE p).sure⟩])) ∧ ∀ j, idxL b G1 = some j → LogOf (moveP a b P) (G1.set j ⟨b, (toLE p).all, (toLE p).sure⟩) := by
  have hm : moveP a b P = dropP a (dropP b P) ++ [{ p with name := b }] := by
    unfold moveP
    rw [if_neg hab]
    have : P.find? (fun p => decide (p.name = a)) = some p := hp
    rw [this]
  rw [hm] at hn' ⊢
  have h1 := h.freed hp hG
  rw [← hG1] at h1
  rw [dropP_comm] at hn' ⊢
  rcases h1.at b with ⟨e, e2⟩ | ⟨p', j, e, _, hj, hGj⟩
  · refine ⟨fun _ => ?_, fun j hj => by rw [e2] at hj; cases hj⟩
    rw [dropK_none e] at hn' ⊢
    exact h1.add { p with name := b } (List.Perm.refl _) hn'
  · refine ⟨fun hj' => (by rw [hj] at hj'; cases hj'), fun j' hj' => ?_⟩
    rw [hj] at hj'
    obtain rfl := Option.some.inj hj'
    exact h1.turn (p' := { p with name := b }) e hGj (List.perm_append_singleton _ _) hn'
end Go.Proofs.YtbnicjpkfldcdaaDoor
