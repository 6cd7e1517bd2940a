/- view: flags that are copied; flagged. -/
import Derived.Test.YtiphbnmnoofpkaaQ16m
namespace Go.Proofs.Ytiphbnmnoofpkaa
open Go.RowKit

theorem Try.infoText : (Try.prog.info? 9).map (fun i => (i.zero, i.size, i.bytes)) = some (some (.string ⟨#[]⟩), 1, 16) := by kernel_rfl
/-- A mark, as it lies in memory. -/
structure ME where
  uid : Int
  fa : Option Addr
  fc : Nat
  fl : List ByteArray
def ME.fv (m : ME) : Value := .slice m.fa m.fl.length m.fc
def ME.pl (m : ME) : Int × List ByteArray := (m.uid, m.fl)
structure FlAt (w : World) (m : ME) : Prop where
  none : m.fa = none → m.fl = [] ∧ m.fc = 0
  len : m.fl.length ≤ 8796093022208
  cells : m.fl ≠ [] → ∃ b off, m.fa = some ⟨b, off, .none⟩ ∧ b < w.heap.size ∧ ∀ i, i < m.fl.length → w.cell? ⟨b, off + i, .none⟩ = some (.string (m.fl.getD i ByteArray.empty))
theorem FlAt.hold {w w' : World} {m : ME} (h : FlAt w m) (hz : w.heap.size ≤ w'.heap.size) (hs : m.fl ≠ [] → ∀ b, m.fv.ownBlock = some b → b < w.heap.size → w'.heap[b]? = w.heap[b]?) : FlAt w' m := by
  refine ⟨h.none, h.len, fun hl => ?_⟩
  obtain ⟨b, off, e, hb, hc⟩ := h.cells hl
  refine ⟨b, off, e, by omega, fun i hi => ?_⟩
  rw [World.cell?_of_block (a := ⟨b, off + i, .none⟩) (hs hl b (by simp [ME.fv, e, Value.ownBlock]) hb)]
  exact hc i hi
theorem copy_run {X : World} {m : ME} (h : FlAt X m) : ∃ a c w', (Builtin.append_ #[22, 22] 22 #[.slice none 0 0, m.fv]).run Try.prog X = .ok (.slice a m.fl.length c) w' ∧ w'.ownsRow 0 9 1 (.slice a m.fl.length c) m.fl.length (tcs m.fl) ∧ Below X.heap.size X w' ∧ ∀ b, (Value.slice a m.fl.length c).ownBlock = some b → X.heap.size ≤ b := by
  obtain ⟨i0, hi0, hz0, hz1, hz2⟩ := info_parts' Try.infoText
  cases hfa : m.fa with
  | none =>
    obtain ⟨e1, e2⟩ := h.none hfa
    have hr := run_append_owned_none (P := Try.prog) X 0 22 22 9 i0 1 Try.underlying22 hi0 (.slice none 0 0) 0 [] (World.ownsRow_nil _ _ _ _)
    refine ⟨none, 0, X, ?_, ?_, Below.refl _ _, fun b hb => by cases hb⟩
    · unfold ME.fv
      rw [hfa, e1, e2]
      exact hr
    · rw [e1]; exact World.ownsRow_nil _ _ _ _
  | some ad =>
    obtain ⟨v', W3, hrun, hrow, hgr, _, hat⟩ := run_append_own_at (P := Try.prog) X 0 22 22 9 i0 (.string ⟨#[]⟩) 1 16 Try.underlying22 hi0 hz0 hz1 hz2 rfl (by decide) (.slice none 0 0) 0 [] (World.ownsRow_nil _ _ _ _) ad m.fl.length m.fc (tcs m.fl) (by rw [tcs_length]; omega) (by
      intro j u hj
      have hjl : j < m.fl.length := by have := (List.getElem?_eq_some_iff.1 hj).1; rw [tcs_length] at this; exact this
      obtain ⟨b, off, e, hb, hc⟩ := h.cells (fun e => by rw [e] at hjl; simp at hjl)
      rw [hfa] at e
      cases e
      rw [tcs_at m.fl j hjl] at hj
      rw [Addr.add_lit, hc j hjl]
      exact hj) (tcs_one _) (by have := h.len; unfold maxLen; omega) (by have := h.len; omega) (Nat.zero_le _)
    rw [Nat.zero_add, List.nil_append] at hrow
    obtain ⟨a, c, rfl⟩ := ownsRow_shape hrow
    refine ⟨a, c, W3, ?_, hrow, ⟨hgr.os, hgr.tape, hgr.output, hgr.size, fun b hb => hgr.block b hb (by simp [Value.ownBlock])⟩, fun b hb => ?_⟩
    · unfold ME.fv
      rw [hfa]
      exact hrun
    · rcases hat with hat | hat
      · rw [hat] at hb; cases hb
      · rw [hat] at hb; simp at hb; omega
/-- Marks in memory. -/
structure MksAt (w : World) (v : Value) (ms : List ME) : Prop where
  row : ∃ a c, v = .slice a ms.length c ∧ (0 < ms.length → ∃ g off, a = some ⟨g, off, none⟩ ∧ g < w.heap.size ∧ ∀ i, i < ms.length → w.cell? ⟨g, off + i * 2, none⟩ = some (.int .i64 (ms.getD i ⟨0, none, 0, []⟩).uid) ∧ w.cell? ⟨g, off + i * 2 + 1, none⟩ = some (ms.getD i ⟨0, none, 0, []⟩).fv)
  fls : ∀ m ∈ ms, FlAt w m
def MksOut (fp : List Nat) (v : Value) (ms : List ME) : Prop := (0 < ms.length → ∀ b, v.ownBlock = some b → b ∉ fp) ∧ ∀ m ∈ ms, m.fl ≠ [] → ∀ b, m.fv.ownBlock = some b → b ∉ fp
theorem MksAt.hold {w w' : World} {v : Value} {ms : List ME} (h : MksAt w v ms) (hz : w.heap.size ≤ w'.heap.size) (hs : 0 < ms.length → ∀ b, v.ownBlock = some b → b < w.heap.size → w'.heap[b]? = w.heap[b]?) (hs2 : ∀ m ∈ ms, m.fl ≠ [] → ∀ b, m.fv.ownBlock = some b → b < w.heap.size → w'.heap[b]? = w.heap[b]?) : MksAt w' v ms := by
  obtain ⟨⟨a, c, rfl, h1⟩, h2⟩ := h
  refine ⟨⟨a, c, rfl, fun hl => ?_⟩, fun m hm => (h2 m hm).hold hz (hs2 m hm)⟩
  obtain ⟨g, off, rfl, hg, hc⟩ := h1 hl
  refine ⟨g, off, rfl, by omega, fun i hi => ?_⟩
  rw [World.cell?_of_block (a := ⟨g, off + i * 2, none⟩) (hs hl g rfl hg), World.cell?_of_block (a := ⟨g, off + i * 2 + 1, none⟩) (hs hl g rfl hg)]
  exact hc i hi
theorem MksAt.on {w w' : World} {v : Value} {ms : List ME} (h : MksAt w v ms) (hb : Below w.heap.size w w') : MksAt w' v ms := h.hold hb.size (fun _ b _ hl => hb.block b hl) (fun _ _ _ b _ hl => hb.block b hl)
theorem MksAt.past {f f' : List Nat} {w w' : World} {v : Value} {ms : List ME} (h : MksAt w v ms) (hf : FO f f' w w') (hn : MksOut f v ms) : MksAt w' v ms := h.hold hf.1.size (fun h0 b e hl => hf.keep hl (hn.1 h0 b e)) (fun m hm hne b e hl => hf.keep hl (hn.2 m hm hne b e))

theorem turn_hit {R : List RE} {m0 : Int} (hr : riseF m0 (uidR R)) {u : Int} (hu : u ∈ uidR R) (t : TE) (own : Bool) (hg : (R.getD (ixP (uidR R) u) RE0).gone = false) (ho : own = false ∨ (R.getD (ixP (uidR R) u) RE0).tn.isSome = true) :
    (R.set (ixP (uidR R) u) (turnE t (R.getD (ixP (uidR R) u) RE0))).map RE.pl = (R.map RE.pl).map (turnR t.num own (u, t.fl)) := by
  have hm := ixP_mem hr hu
  have hdis : ∀ r ∈ R, r.uid = u → r = R.getD (ixP (uidR R) u) RE0 := fun r hr' e => by
    obtain ⟨j, hj, rfl⟩ := List.mem_iff_getElem.1 hr'
    have h1 := (ixP_mem hr hu).1
    rw [uidR_length] at h1
    have hu1 : (uidR R).getD j 0 = u := by rw [uidR_at, List.getD_eq_getElem?_getD, List.getElem?_eq_getElem hj]; exact e
    have hj2 : j = ixP (uidR R) u := by
      rcases Nat.lt_trichotomy j (ixP (uidR R) u) with h | h | h
      · have := riseF_getD hr j (ixP (uidR R) u) h hm.1; omega
      · exact h
      · have := riseF_getD hr (ixP (uidR R) u) j h (by rw [uidR_length]; exact hj); omega
    subst hj2
    rw [List.getD_eq_getElem?_getD, List.getElem?_eq_getElem hj]
    rfl
  rw [map_hit (f := turnE t) hr hu, List.map_map, List.map_map]
  apply List.map_congr_left
  intro r hr'
  simp only [Function.comp]
  unfold atU turnR
  by_cases e : r.uid = u
  · have er := hdis r hr' e
    rw [if_pos e, if_pos ⟨e, by rw [er]; exact hg, by
      rcases ho with ho | ho
      · exact .inl ho
      · right
        rw [er]
        show (Option.map TE.pl (R.getD (ixP (uidR R) u) RE0).tn).isSome = true
        rw [Option.isSome_map]; exact ho⟩]
    rfl
  · rw [if_neg e, if_neg (fun h => e h.1)]
theorem turn_no {R : List RE} {u : Int} {n : Int} {own : Bool} {fl : List ByteArray} (h : ∀ r ∈ R, r.uid = u → r.gone = true ∨ (own = true ∧ r.tn = none)) : (R.map RE.pl).map (turnR n own (u, fl)) = R.map RE.pl := by
  rw [List.map_map]
  apply List.map_congr_left
  intro r hr
  simp only [Function.comp]
  unfold turnR
  rw [if_neg]
  rintro ⟨e, hg, ho⟩
  rcases h r hr e with h | ⟨h1, h2⟩
  · have : r.gone = false := hg
    rw [h] at this; cases this
  · rcases ho with ho | ho
    · rw [h1] at ho; cases ho
    · have : (Option.map TE.pl r.tn).isSome = true := ho
      rw [h2] at this; cases this
theorem at_ix {R : List RE} {m0 : Int} (hr : riseF m0 (uidR R)) {u : Int} {r : RE} (hr' : r ∈ R) (e : r.uid = u) : r = R.getD (ixP (uidR R) u) RE0 := by
  have hu : u ∈ uidR R := e ▸ List.mem_map_of_mem hr'
  have hm := ixP_mem hr hu
  obtain ⟨j, hj, rfl⟩ := List.mem_iff_getElem.1 hr'
  have hu1 : (uidR R).getD j 0 = u := by rw [uidR_at, List.getD_eq_getElem?_getD, List.getElem?_eq_getElem hj]; exact e
  have hj2 : j = ixP (uidR R) u := by
    rcases Nat.lt_trichotomy j (ixP (uidR R) u) with h | h | h
    · have := riseF_getD hr j (ixP (uidR R) u) h hm.1; omega
    · exact h
    · have := riseF_getD hr (ixP (uidR R) u) j h (by rw [uidR_length]; exact hj); omega
  subst hj2
  rw [List.getD_eq_getElem?_getD, List.getElem?_eq_getElem hj]
  rfl
end Go.Proofs.Ytiphbnmnoofpkaa
