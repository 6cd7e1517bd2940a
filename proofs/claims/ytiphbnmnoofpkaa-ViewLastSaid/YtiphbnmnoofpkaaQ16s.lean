/- view: what is told, as a row; tellGone. -/
import Derived.Test.YtiphbnmnoofpkaaQ16r
namespace Go.Proofs.Ytiphbnmnoofpkaa
open Go.RowKit

structure TDE where
  kind : Int
  num : Int
  uid : Int
  mod : Int
  fv : Value
  fl : List ByteArray
def TDE.pl (t : TDE) : Td := ⟨t.kind, t.num, t.uid, t.mod, t.fl⟩
def TDE.enc (t : TDE) : List Value := [.int .i64 t.kind, .int .i64 t.num, .int .i64 t.uid, .int .i64 t.mod, t.fv]
def tdC (T : List TDE) : List Value := T.flatMap TDE.enc
theorem tdC_append (a b : List TDE) : tdC (a ++ b) = tdC a ++ tdC b := by simp [tdC]
theorem tdC_length (T : List TDE) : (tdC T).length = T.length * 5 := by
  induction T with
  | nil => rfl
  | cons p r ih => simp only [tdC, List.flatMap_cons, List.length_append, List.length_cons] at *; rw [ih]; simp [TDE.enc]; omega
def nilT (t : Td) : TDE := ⟨t.kind, t.num, t.uid, t.mod, .slice none 0 0, []⟩
theorem Try.infoTold : (Try.prog.info? 43).map (fun i => (i.zero, i.size, i.bytes)) = some (some (.agg #[.int .i64 0, .int .i64 0, .int .i64 0, .int .i64 0, .slice none 0 0]), 5, 56) := by kernel_rfl
abbrev TdRow (w : World) (v : Value) (T : List TDE) : Prop := w.ownsRow 0 43 5 v T.length (tdC T)
/-- told = append(told, Told{..}). -/
theorem told_app {w : World} {v : Value} {T : List TDE} (h : TdRow w v T) (t : TDE) (a0 : Option Addr) (n0 c0 : Nat) (hf : t.fv = .slice a0 n0 c0) (hl : T.length + 1 ≤ 4294967296) :
    ∃ a c W1, (Builtin.append_ #[32, 32] 32 #[v, .slice (some ⟨w.heap.size, 0, none⟩) 1 1]).run Try.prog (w.alloc (.cells #[.int .i64 t.kind, .int .i64 t.num, .int .i64 t.uid, .int .i64 t.mod, .slice a0 n0 c0] 43)) = .ok (.slice a (T.length + 1) c) W1 ∧
      TdRow W1 (.slice a (T.length + 1) c) (T ++ [t]) ∧ w.grownBy W1 v.ownBlock ∧ ∀ b, (Value.slice a (T.length + 1) c).ownBlock = some b → v.ownBlock = some b ∨ w.heap.size ≤ b := by
  obtain ⟨a, c, W1, hrun, hrow, hg, hown⟩ := row_app (P := Try.prog) 32 43 _ 5 56 Try.underlying32 Try.infoTold rfl (by decide) h #[.int .i64 t.kind, .int .i64 t.num, .int .i64 t.uid, .int .i64 t.mod, .slice a0 n0 c0] rfl (by intro x hx; simp at hx; rcases hx with rfl | rfl | rfl | rfl | rfl <;> rfl) hl (by omega)
  refine ⟨a, c, W1, hrun, ?_, hg, hown⟩
  unfold TdRow
  rw [List.length_append, tdC_append]
  rw [show tdC [t] = [.int .i64 t.kind, .int .i64 t.num, .int .i64 t.uid, .int .i64 t.mod, .slice a0 n0 c0] by simp [tdC, TDE.enc, hf]]
  exact hrow
/-- left = append(left, row). -/
theorem left_app {w : World} {v : Value} {L : List RE} (h : w.ownsRow 0 75 4 v L.length (rwC L)) (r : RE) (yo : Option Addr) (hy : r.ptr = .pointer yo) (hl : L.length + 1 ≤ 4294967296) :
    ∃ a c W1, (Builtin.append_ #[64, 64] 64 #[v, .slice (some ⟨w.heap.size, 0, none⟩) 1 1]).run Try.prog (w.alloc (.cells #[.int .i64 r.uid, .bool r.gone, .bool r.rct, .pointer yo] 75)) = .ok (.slice a (L.length + 1) c) W1 ∧
      W1.ownsRow 0 75 4 (.slice a (L.length + 1) c) (L ++ [r]).length (rwC (L ++ [r])) ∧ w.grownBy W1 v.ownBlock ∧ ∀ b, (Value.slice a (L.length + 1) c).ownBlock = some b → v.ownBlock = some b ∨ w.heap.size ≤ b := by
  obtain ⟨a, c, W1, hrun, hrow, hg, hown⟩ := row_app (P := Try.prog) 64 75 _ 4 24 Try.underlying64 Try.infoRow rfl (by decide) h #[.int .i64 r.uid, .bool r.gone, .bool r.rct, .pointer yo] rfl (by intro x hx; simp at hx; rcases hx with rfl | rfl | rfl | rfl <;> rfl) hl (by omega)
  refine ⟨a, c, W1, hrun, ?_, hg, hown⟩
  rw [List.length_append, rwC_append]
  rw [show rwC [r] = [.int .i64 r.uid, .bool r.gone, .bool r.rct, .pointer yo] by simp [rwC, RE.enc, hy]]
  exact hrow
theorem goneT_snoc : ∀ (l : List PR) (n : Nat) (r : PR), goneT n (l ++ [r]) = goneT n l ++ (if r.gone = true then [⟨1, ((n + (stayR l).length : Nat) : Int) + 1, r.uid, 0, []⟩] else [])
  | [], n, r => by
    by_cases h : r.gone = true
    · simp [goneT, h, stayR]
    · simp [goneT, h]
  | x :: l, n, r => by
    show goneT n (x :: (l ++ [r])) = _
    by_cases hx : x.gone = true
    · have e : stayR (x :: l) = stayR l := by unfold stayR; rw [List.filter_cons_of_neg (by simp [hx])]
      rw [e]
      show (if x.gone = true then _ :: goneT n (l ++ [r]) else goneT (n + 1) (l ++ [r])) = (if x.gone = true then _ :: goneT n l else goneT (n + 1) l) ++ _
      rw [if_pos hx, if_pos hx, goneT_snoc l n r]
      rfl
    · have e : (stayR (x :: l)).length = (stayR l).length + 1 := by unfold stayR; rw [List.filter_cons_of_pos (by simp [hx])]; rfl
      rw [e]
      show (if x.gone = true then _ :: goneT n (l ++ [r]) else goneT (n + 1) (l ++ [r])) = (if x.gone = true then _ :: goneT n l else goneT (n + 1) l) ++ _
      rw [if_neg hx, if_neg hx, goneT_snoc l (n + 1) r]
      congr 2
      rw [show n + 1 + (stayR l).length = n + ((stayR l).length + 1) by omega]
def stayE (R : List RE) : List RE := R.filter (fun r => !r.gone)
theorem stayE_pl (R : List RE) : (stayE R).map RE.pl = stayR (R.map RE.pl) := by
  unfold stayE stayR
  rw [List.filter_map]
  rfl
theorem stayE_snoc (R : List RE) (r : RE) : stayE (R ++ [r]) = stayE R ++ (if r.gone = true then [] else [r]) := by
  unfold stayE
  rw [List.filter_append]
  congr 1
  by_cases h : r.gone = true
  · rw [if_pos h, List.filter_cons_of_neg (by simp [h])]; rfl
  · rw [if_neg h, List.filter_cons_of_pos (by simp [h])]; rfl
theorem stayE_len (R : List RE) : (stayE R).length ≤ R.length := List.length_filter_le _ _
/-- All but told's block is as it was. -/
theorem row_past {w w' : World} {B z n : Nat} {e : TypeId} {v : Value} {xs : List Value} {fp : List Nat} (h : w.ownsRow B e z v n xs) (hs : Stays fp w w') (hn : ∀ b, v.ownBlock = some b → b ∉ fp) : w'.ownsRow B e z v n xs :=
  ownsRow_same h (fun b e => hs.block b (h.lt b e).2 (hn b e))
section
variable {P : Nat} {val : Int} {rv cv : Value} {R : List RE} {C : List Int} {w : World} {N : Nat}
/-- Another row of rows. -/
theorem VAt.newR {lv : Value} {L : List RE} (h : VAt P val rv cv R C w) (hrow : w.ownsRow 0 75 4 lv L.length (rwC L)) (hsub : ∀ r ∈ L, r ∈ R) : VAt P val lv cv L C (w.setCell ⟨P, 2, none⟩ lv) := by
  have hset : ∀ b, b ≠ P → (w.setCell ⟨P, 2, none⟩ lv).heap[b]? = w.heap[b]? := fun b hb => Below.heap_setCell _ _ _ _ hb
  refine ⟨?_, ?_, ?_, ?_⟩
  · have hs := h.self
    unfold selfV at hs
    rw [heap_setCell_at _ hs]
    rfl
  · refine ownsRow_same hrow (fun b e => hset b (fun e' => ?_))
    subst e'
    obtain ⟨cs, hc⟩ := row_kind hrow e
    exact kind_ne hc h.self (by decide) rfl
  · exact ownsRow_same h.com (fun b e => hset b (fun e' => h.pc (e' ▸ e)))
  · intro r hr t ht
    exact (h.turns r (hsub r hr) t ht).hold (fun b hb => hset b (h.tt (hsub r hr) ht hb).1)
theorem VAt.told {tv : Value} {T : List TDE} (h : VAt P val rv cv R C w) (ht : TdRow w tv T) {b : Nat} (e : tv.ownBlock = some b) : b ∉ fpV P rv cv R := fun hm => by
  obtain ⟨cs, hc⟩ := row_kind ht e
  rcases mem_fpV.1 hm with rfl | hm | hm | ⟨r, hr, hm⟩
  · exact kind_ne hc h.self (by decide) rfl
  · obtain ⟨cs2, hc2⟩ := row_kind h.rows hm
    exact kind_ne hc hc2 (by decide) rfl
  · obtain ⟨cs2, hc2⟩ := row_kind h.com hm
    exact kind_ne hc hc2 (by decide) rfl
  · cases htn : r.tn with
    | none => rw [blks_no htn] at hm; cases hm
    | some t =>
      rw [blks_tn htn] at hm
      obtain ⟨cs2, ty, hc2, hty⟩ := (h.turns r hr t htn).kind hm
      exact kind_ne hc hc2 (by rcases hty with rfl | rfl <;> decide) rfl
end
end Go.Proofs.Ytiphbnmnoofpkaa
