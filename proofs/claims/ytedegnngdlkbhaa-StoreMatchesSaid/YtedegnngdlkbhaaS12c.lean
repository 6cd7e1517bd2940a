/- store: a walk in memory; step. -/
import Derived.Test.YtedegnngdlkbhaaS12b
import Derived.BigRegion
import Derived.BigQuiet
import Derived.Deep.DeepCutAuto
import Derived.Deep.CutBlock
namespace Go.Proofs.Ytedegnngdlkbhaa
open Go.RowKit

/-- The block of a walk. -/
structure WkB (w : World) (P : Nat) (ah : Nat → Value) (vp va vt : Value) (fr tt : Int) : Prop where
  ahd : ∀ c, c < 256 → w.cell? ⟨P, c, none⟩ = some (ah c)
  c256 : w.cell? ⟨P, 256, none⟩ = some vp
  c257 : w.cell? ⟨P, 257, none⟩ = some va
  c258 : w.cell? ⟨P, 258, none⟩ = some vt
  c259 : w.cell? ⟨P, 259, none⟩ = some (.int .i64 fr)
  c260 : w.cell? ⟨P, 260, none⟩ = some (.int .i64 tt)
  free : ∀ i, i < 261 → w.frozen? ⟨P, i, none⟩ = false
theorem WkB.same {w w' : World} {P : Nat} {ah : Nat → Value} {vp va vt : Value} {fr tt : Int} (h : WkB w P ah vp va vt fr tt) (e : w'.heap[P]? = w.heap[P]?) : WkB w' P ah vp va vt fr tt := by
  have hc : ∀ i, w'.cell? ⟨P, i, none⟩ = w.cell? ⟨P, i, none⟩ := fun i => World.cell?_of_block (w := w) e
  have hf : ∀ i, w'.frozen? ⟨P, i, none⟩ = w.frozen? ⟨P, i, none⟩ := fun i => World.frozen?_of_block (w := w) e
  exact ⟨fun c hcc => (hc c).trans (h.ahd c hcc), (hc _).trans h.c256, (hc _).trans h.c257, (hc _).trans h.c258, (hc _).trans h.c259, (hc _).trans h.c260, fun i hi => (hf i).trans (h.free i hi)⟩
theorem WkB.put {w : World} {P : Nat} {ah : Nat → Value} {vp va vt : Value} {fr tt : Int} (h : WkB w P ah vp va vt fr tt) (k : Nat) (v : Value)
    {ah' : Nat → Value} {vp' va' vt' : Value} {fr' tt' : Int} (hk : k < 261)
    (e0 : ∀ c, c < 256 → ah' c = if c = k then v else ah c) (e1 : vp' = if 256 = k then v else vp) (e2 : va' = if 257 = k then v else va) (e3 : vt' = if 258 = k then v else vt)
    (e4 : Value.int .i64 fr' = if 259 = k then v else .int .i64 fr) (e5 : Value.int .i64 tt' = if 260 = k then v else .int .i64 tt) :
    WkB (w.setCell ⟨P, k, none⟩ v) P ah' vp' va' vt' fr' tt' := by
  have old : ∀ i, i < 261 → ∃ x, w.cell? ⟨P, i, none⟩ = some x ∧ x = (if i < 256 then ah i else if i = 256 then vp else if i = 257 then va else if i = 258 then vt else if i = 259 then .int .i64 fr else .int .i64 tt) := by
    intro i hi
    by_cases h1 : i < 256
    · exact ⟨_, h.ahd i h1, by rw [if_pos h1]⟩
    · by_cases h2 : i = 256
      · subst h2; exact ⟨_, h.c256, rfl⟩
      · by_cases h3 : i = 257
        · subst h3; exact ⟨_, h.c257, rfl⟩
        · by_cases h4 : i = 258
          · subst h4; exact ⟨_, h.c258, rfl⟩
          · by_cases h5 : i = 259
            · subst h5; exact ⟨_, h.c259, rfl⟩
            · have : i = 260 := by omega
              subst this; exact ⟨_, h.c260, rfl⟩
  have new : ∀ i x, w.cell? ⟨P, i, none⟩ = some x → (w.setCell ⟨P, k, none⟩ v).cell? ⟨P, i, none⟩ = some (if i = k then v else x) := by
    intro i x hx
    by_cases e : i = k
    · subst e; rw [if_pos rfl]; exact World.cell?_setCell_same' _ _ _ (by rw [hx]; rfl)
    · rw [if_neg e, World.cell?_setCell_other _ _ _ _ (by intro hh; cases hh; exact e rfl)]; exact hx
  refine ⟨fun c hc => ?_, ?_, ?_, ?_, ?_, ?_, fun i hi => by rw [World.frozen?_setCell]; exact h.free i hi⟩
  · rw [e0 c hc]; exact new c _ (h.ahd c hc)
  · rw [e1]; exact new 256 _ h.c256
  · rw [e2]; exact new 257 _ h.c257
  · rw [e3]; exact new 258 _ h.c258
  · rw [e4]; exact new 259 _ h.c259
  · rw [e5]; exact new 260 _ h.c260

def sl (n : Nat) : Option Nat → Value
  | none => .slice none 0 0
  | some B => .slice (some ⟨B, 0, none⟩) n n
/-- A walk in memory over a pattern. -/
structure Wk (w : World) (P T Bp Ba n : Nat) (ah : Nat → Option Nat) (p : List UInt8) (f : Nat → Bool) (fr tt : Nat) : Prop where
  blk : WkB w P (fun c => sl n (ah c)) (sl n (some Bp)) (sl n (some Ba)) (sl n (some T)) fr tt
  pas : PlR w Bp n (passA p)
  any : PlR w Ba n (anyA p)
  att : PlR w T n f
  ahs : ∀ c, c < 256 → ∀ B, ah c = some B → PlR w B n (hasL p (UInt8.ofNat c)) ∧ B ≠ T ∧ B ≠ P
  ahn : ∀ c, c < 256 → ah c = none → ∀ j, hasL p (UInt8.ofNat c) j = false
  d1 : P ≠ T
  d2 : Bp ≠ T
  d3 : Ba ≠ T
  d4 : Bp ≠ P
  d5 : Ba ≠ P
theorem Wk.turn {w : World} {P T Bp Ba n : Nat} {ah : Nat → Option Nat} {p : List UInt8} {f g : Nat → Bool} {fr tt : Nat} (h : Wk w P T Bp Ba n ah p f fr tt)
    (k : Nat) (hk : k < n) (x : Int) (hx : x = ((wd g k : Nat) : Int)) (he : ∀ i, i < n → i ≠ k → wd f i = wd g i) : Wk (w.setCell ⟨T, k, none⟩ (.int .u64 x)) P T Bp Ba n ah p g fr tt := by
  have hh : ∀ b, b ≠ T → (w.setCell ⟨T, k, none⟩ (.int .u64 x)).heap[b]? = w.heap[b]? := fun b hb => Below.heap_setCell _ _ _ _ hb
  exact ⟨h.blk.same (hh _ h.d1), h.pas.same (hh _ h.d2), h.any.same (hh _ h.d3), h.att.set k hk x hx he, fun c hc B hB => ⟨(h.ahs c hc B hB).1.same (hh _ (h.ahs c hc B hB).2.1), (h.ahs c hc B hB).2⟩, h.ahn, h.d1, h.d2, h.d3, h.d4, h.d5⟩
theorem Wk.drew {w : World} {P T Bp Ba n : Nat} {ah : Nat → Option Nat} {p : List UInt8} {f : Nat → Bool} {fr tt : Nat} (h : Wk w P T Bp Ba n ah p f fr tt) : Wk w.drew P T Bp Ba n ah p f fr tt :=
  ⟨h.blk.same rfl, h.pas.same rfl, h.any.same rfl, h.att.same rfl, fun c hc B hB => ⟨(h.ahs c hc B hB).1.same rfl, (h.ahs c hc B hB).2⟩, h.ahn, h.d1, h.d2, h.d3, h.d4, h.d5⟩
theorem Wk.drewN {w : World} {P T Bp Ba n : Nat} {ah : Nat → Option Nat} {p : List UInt8} {f : Nat → Bool} {fr tt : Nat} (h : Wk w P T Bp Ba n ah p f fr tt) (k : Nat) : Wk (w.drewN k) P T Bp Ba n ah p f fr tt :=
  ⟨h.blk.same rfl, h.pas.same rfl, h.any.same rfl, h.att.same rfl, fun c hc B hB => ⟨(h.ahs c hc B hB).1.same rfl, (h.ahs c hc B hB).2⟩, h.ahn, h.d1, h.d2, h.d3, h.d4, h.d5⟩
theorem Wk.setFrom {w : World} {P T Bp Ba n : Nat} {ah : Nat → Option Nat} {p : List UInt8} {f : Nat → Bool} {fr tt : Nat} (h : Wk w P T Bp Ba n ah p f fr tt) (k : Nat) : Wk (w.setCell ⟨P, 259, none⟩ (.int .i64 k)) P T Bp Ba n ah p f k tt := by
  have hh : ∀ b, b ≠ P → (w.setCell ⟨P, 259, none⟩ (.int .i64 k)).heap[b]? = w.heap[b]? := fun b hb => Below.heap_setCell _ _ _ _ hb
  exact ⟨h.blk.put 259 _ (by omega) (fun c hc => by rw [if_neg (by omega)]) rfl rfl rfl rfl rfl, h.pas.same (hh _ h.d4), h.any.same (hh _ h.d5), h.att.same (hh _ (fun e => h.d1 e.symm)), fun c hc B hB => ⟨(h.ahs c hc B hB).1.same (hh _ (h.ahs c hc B hB).2.2), (h.ahs c hc B hB).2⟩, h.ahn, h.d1, h.d2, h.d3, h.d4, h.d5⟩
theorem Wk.setTo {w : World} {P T Bp Ba n : Nat} {ah : Nat → Option Nat} {p : List UInt8} {f : Nat → Bool} {fr tt : Nat} (h : Wk w P T Bp Ba n ah p f fr tt) (k : Nat) : Wk (w.setCell ⟨P, 260, none⟩ (.int .i64 k)) P T Bp Ba n ah p f fr k := by
  have hh : ∀ b, b ≠ P → (w.setCell ⟨P, 260, none⟩ (.int .i64 k)).heap[b]? = w.heap[b]? := fun b hb => Below.heap_setCell _ _ _ _ hb
  exact ⟨h.blk.put 260 _ (by omega) (fun c hc => by rw [if_neg (by omega)]) rfl rfl rfl rfl rfl, h.pas.same (hh _ h.d4), h.any.same (hh _ h.d5), h.att.same (hh _ (fun e => h.d1 e.symm)), fun c hc B hB => ⟨(h.ahs c hc B hB).1.same (hh _ (h.ahs c hc B hB).2.2), (h.ahs c hc B hB).2⟩, h.ahn, h.d1, h.d2, h.d3, h.d4, h.d5⟩
theorem Wk.word {w : World} {P T Bp Ba n : Nat} {ah : Nat → Option Nat} {p : List UInt8} {f : Nat → Bool} {fr tt : Nat} (h : Wk w P T Bp Ba n ah p f fr tt) (c : UInt8) (i : Nat) (hi : i < n) :
    Calls Try.prog 23 #[sl n (ah c.toNat), .int .i64 (i : Int)] w fun e w' => e = .returned (.int .u64 ((wd (hasL p c) i : Nat) : Int)) ∧ w' = w := by
  have hc := c.toNat_lt
  cases e : ah c.toNat with
  | none =>
    have := h.ahn c.toNat hc e
    rw [UInt8.ofNat_toNat] at this
    have e0 : wd (hasL p c) i = 0 := (wd_zero _ _).2 (fun b _ => this _)
    rw [e0]; exact word_nil _ w
  | some B =>
    have := (h.ahs c.toNat hc B e).1
    rw [UInt8.ofNat_toNat] at this
    exact word_some B n n i _ w this hi

end Go.Proofs.Ytedegnngdlkbhaa
