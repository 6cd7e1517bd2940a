/- ViewList: a list that is kept by what is told; plain, and rows of numbers that grow. -/
import Derived.Test.YtiphbnmnoofpkaaN16u
namespace Go.Proofs.Ytiphbnmnoofpkaa
open Go.RowKit

def stepT (U2 L : List Int) (t : Td) : List Int := if t.kind = 1 then L.take (t.num - 1).toNat ++ L.drop t.num.toNat else if t.kind = 2 then L ++ U2.drop L.length else L
def okT (U2 L : List Int) (t : Td) : Prop := (t.kind = 1 ∨ t.kind = 4 → ∃ p : Nat, t.num = (p : Int) + 1 ∧ p < L.length ∧ L.getD p 0 = t.uid) ∧ (t.kind = 2 → t.num = (U2.length : Int) ∧ L.length < U2.length)
def goodT (U2 : List Int) : List Int → List Td → Prop
  | L, [] => L = U2
  | L, t :: T => okT U2 L t ∧ goodT U2 (stepT U2 L t) T
theorem getD_mid (pre : List Int) (x : Int) (l : List Int) : (pre ++ x :: l).getD pre.length 0 = x := by
  rw [List.getD_eq_getElem?_getD, List.getElem?_append_right (Nat.le_refl _), Nat.sub_self]
  rfl
theorem good_gone (U2 : List Int) (rest : List Td) : ∀ (rows : List PR) (pre : List Int), goodT U2 (pre ++ (stayR rows).map PR.uid) rest → goodT U2 (pre ++ rows.map PR.uid) (goneT pre.length rows ++ rest)
  | [], _, h => h
  | r :: rs, pre, h => by
    unfold goneT
    by_cases hg : r.gone = true
    · rw [if_pos hg, List.cons_append]
      refine ⟨⟨fun _ => ⟨pre.length, rfl, by simp, getD_mid _ _ _⟩, fun q => absurd (show (1 : Int) = 2 from q) (by decide)⟩, ?_⟩
      have e : stepT U2 (pre ++ (r :: rs).map PR.uid) ⟨1, (pre.length : Int) + 1, r.uid, 0, []⟩ = pre ++ rs.map PR.uid := by
        unfold stepT
        rw [if_pos rfl]
        show (pre ++ (r :: rs).map PR.uid).take ((pre.length : Int) + 1 - 1).toNat ++ (pre ++ (r :: rs).map PR.uid).drop ((pre.length : Int) + 1).toNat = _
        rw [show ((pre.length : Int) + 1 - 1).toNat = pre.length by omega, show ((pre.length : Int) + 1).toNat = pre.length + 1 by omega]
        simp
      rw [e]
      refine good_gone U2 rest rs pre ?_
      unfold stayR at h ⊢
      rw [List.filter_cons_of_neg (by simp [hg])] at h
      exact h
    · rw [if_neg hg]
      have := good_gone U2 rest rs (pre ++ [r.uid]) (by
        unfold stayR at h ⊢
        rw [List.filter_cons_of_pos (by simp [hg])] at h
        simpa using h)
      simpa using this
theorem good_flag (U2 : List Int) : ∀ (rows : List PR) (pre : List Int), U2 = pre ++ rows.map PR.uid → goodT U2 U2 (flagT pre.length rows)
  | [], _, _ => rfl
  | r :: rs, pre, h => by
    have ih := good_flag U2 rs (pre ++ [r.uid]) (by rw [h]; simp)
    rw [show (pre ++ [r.uid]).length = pre.length + 1 by simp] at ih
    unfold flagT
    split
    · exact ih
    · split
      · exact ih
      · refine ⟨⟨fun _ => ⟨pre.length, rfl, by rw [h]; simp, by rw [h]; exact getD_mid _ _ _⟩, fun q => absurd (show (4 : Int) = 2 from q) (by decide)⟩, ?_⟩
        exact ih
theorem good_take (V : PV) (w rc : Int) : goodT (uidsP (takeV V w rc)) (uidsP V) (takeT V w rc) := by
  unfold takeV takeT
  split
  · have e2 : uidsP { settleP (goneV V w) rc with rows := (settleP (goneV V w) rc).rows.map calmR } = uidsP (goneV V w) ++ (goneV V w).com := (map_uid calmR_uid _).trans (settle_uids _ rc)
    show goodT (uidsP { settleP (goneV V w) rc with rows := (settleP (goneV V w) rc).rows.map calmR }) _ _
    rw [e2]
    have hrest : ∀ V1 : PV, goodT (uidsP V1 ++ V1.com) (uidsP V1) (newT V1 rc ++ flagT 0 (settleP V1 rc).rows) := fun V1 => by
      have hf : goodT (uidsP V1 ++ V1.com) (uidsP V1 ++ V1.com) (flagT 0 (settleP V1 rc).rows) := good_flag _ _ [] (by rw [← settle_uids V1 rc]; rfl)
      unfold newT
      by_cases hc : V1.com = []
      · rw [if_pos hc, List.nil_append]
        rw [hc, List.append_nil] at hf ⊢
        exact hf
      · rw [if_neg hc]
        have hl : (settleP V1 rc).rows.length = (uidsP V1 ++ V1.com).length := by rw [← settle_uids V1 rc, uidsP_length]
        have hp := List.length_pos_iff.2 hc
        refine ⟨⟨fun q => absurd (show (2 : Int) = 1 ∨ (2 : Int) = 4 from q) (by decide), fun _ => ⟨by show ((settleP V1 rc).rows.length : Int) = _; rw [hl], by rw [List.length_append]; omega⟩⟩, ⟨fun q => absurd (show (3 : Int) = 1 ∨ (3 : Int) = 4 from q) (by decide), fun q => absurd (show (3 : Int) = 2 from q) (by decide)⟩, ?_⟩
        have e : stepT (uidsP V1 ++ V1.com) (uidsP V1) ⟨2, ((settleP V1 rc).rows.length : Int), 0, 0, []⟩ = uidsP V1 ++ V1.com := by
          show uidsP V1 ++ (uidsP V1 ++ V1.com).drop (uidsP V1).length = _
          rw [List.drop_left]
        rw [e]
        exact hf
    unfold goneD
    by_cases hw : w = 2
    · rw [if_pos hw]
      have eg : goneV V w = { V with rows := stayR V.rows } := by unfold goneV; rw [if_pos hw]
      have := good_gone (uidsP (goneV V w) ++ (goneV V w).com) (newT (goneV V w) rc ++ flagT 0 (settleP (goneV V w) rc).rows) V.rows [] (by
        have := hrest (goneV V w)
        rw [show uidsP (goneV V w) = (stayR V.rows).map PR.uid by rw [eg]; rfl] at this ⊢
        exact this)
      exact this
    · rw [if_neg hw]
      have eg : goneV V w = V := by unfold goneV; rw [if_neg hw]
      have := hrest (goneV V w)
      rw [eg] at this ⊢
      exact this
  · rfl
theorem good_act (V : PV) (s : ST) : goodT (uidsP (actV V s)) (uidsP V) (actT V s) := by
  unfold actV actT
  by_cases h1 : s.kind = 1
  · rw [if_pos h1, if_neg (by omega)]
    exact (hearP_uids _ _ _).symm
  · rw [if_neg h1]
    by_cases h2 : s.kind = 2
    · rw [if_pos h2, if_pos h2]
      exact good_take V _ _
    · rw [if_neg h2, if_neg h2]
      rfl
def Td0 : Td := ⟨0, 0, 0, 0, []⟩
theorem good_drop {U2 L : List Int} {T : List Td} {k : Nat} (hk : k < T.length) (h : goodT U2 L (T.drop k)) : okT U2 L (T.getD k Td0) ∧ goodT U2 (stepT U2 L (T.getD k Td0)) (T.drop (k + 1)) := by
  rw [List.drop_eq_getElem_cons hk] at h
  rw [List.getD_eq_getElem?_getD, List.getElem?_eq_getElem hk]
  exact h
theorem tdC_at : ∀ (T : List TDE) (k i : Nat) (x : TDE), T[k]? = some x → i < 5 → (tdC T)[k * 5 + i]? = (x.enc)[i]?
  | [], k, i, x, h, _ => by simp at h
  | t :: T, 0, i, x, h, hi => by
    simp at h
    subst h
    show (t.enc ++ tdC T)[0 * 5 + i]? = _
    rw [Nat.zero_mul, Nat.zero_add, List.getElem?_append_left (by simp [TDE.enc]; omega)]
  | t :: T, k + 1, i, x, h, hi => by
    show (t.enc ++ tdC T)[(k + 1) * 5 + i]? = _
    rw [List.getElem?_append_right (by simp [TDE.enc]; omega), show (k + 1) * 5 + i - t.enc.length = k * 5 + i by simp [TDE.enc]; omega]
    exact tdC_at T k i x (by simpa using h) hi
/-- What is told, as far as it is read here. -/
def TdAt (w : World) (tv : Value) (l : List Td) : Prop :=
  ∃ a c, tv = .slice a l.length c ∧ (0 < l.length → ∃ g, a = some ⟨g, 0, none⟩ ∧ ∃ cs, w.heap[g]? = some (.cells cs 43 (0, 0)) ∧ ∀ k, k < l.length → w.cell? ⟨g, k * 5, none⟩ = some (.int .i64 (l.getD k Td0).kind) ∧ w.cell? ⟨g, k * 5 + 1, none⟩ = some (.int .i64 (l.getD k Td0).num) ∧ w.cell? ⟨g, k * 5 + 2, none⟩ = some (.int .i64 (l.getD k Td0).uid))
theorem told_at {w : World} {tv : Value} {T : List TDE} {l : List Td} (h : Told w tv T l) : TdAt w tv l := by
  have hl : T.length = l.length := by rw [← h.pl, List.length_map]
  have hrow := h.row
  unfold TdRow at hrow
  rcases hrow.2 with ⟨rfl, h0⟩ | ⟨g, cap, cur, rfl, hB, hg, rest⟩
  · exact ⟨none, 0, by rw [← hl, h0], fun q => by omega⟩
  · refine ⟨some ⟨g, 0, none⟩, cap, by rw [hl], fun _ => ⟨g, rfl, cur, hg, fun k hk => ?_⟩⟩
    obtain ⟨x, hx⟩ : ∃ x, T[k]? = some x := ⟨T[k]'(by omega), List.getElem?_eq_getElem (by omega)⟩
    have hp : l.getD k Td0 = x.pl := by
      rw [← h.pl, List.getD_eq_getElem?_getD, List.getElem?_map, hx]
      rfl
    rw [hp]
    have hc : ∀ i, i < 5 → w.cell? ⟨g, k * 5 + i, none⟩ = (x.enc)[i]? := fun i hi => by
      rw [← tdC_at T k i x hx hi]
      exact hrow.cellAt (k * 5 + i) (by omega)
    exact ⟨hc 0 (by omega), hc 1 (by omega), hc 2 (by omega)⟩
theorem TdAt.hold {w w' : World} {tv : Value} {l : List Td} (h : TdAt w tv l) (hs : ∀ (g : Nat) (cs : Array Value), w.heap[g]? = some (.cells cs 43 (0, 0)) → w'.heap[g]? = w.heap[g]?) : TdAt w' tv l := by
  obtain ⟨a, c, e, hx⟩ := h
  refine ⟨a, c, e, fun h0 => ?_⟩
  obtain ⟨g, e1, cs, hg, hc⟩ := hx h0
  have hq := hs g cs hg
  refine ⟨g, e1, cs, by rw [hq]; exact hg, fun k hk => ?_⟩
  obtain ⟨c0, c1, c2⟩ := hc k hk
  refine ⟨?_, ?_, ?_⟩
  · rw [World.cell?_of_block (a := ⟨g, k * 5, none⟩) hq]; exact c0
  · rw [World.cell?_of_block (a := ⟨g, k * 5 + 1, none⟩) hq]; exact c1
  · rw [World.cell?_of_block (a := ⟨g, k * 5 + 2, none⟩) hq]; exact c2
/-- append of numbers that lie somewhere onto a row of the walk's own. -/
theorem app_own {X : World} {B : Nat} {v : Value} {l l2 : List Int} (hv : X.ownsRow B 3 1 v l.length (ic l)) (hB : B ≤ X.heap.size) (gb off c : Nat) (hc : ∀ i, i < l2.length → X.cell? ⟨gb, off + i, none⟩ = some (.int .i64 (l2.getD i 0))) (hl : l.length + l2.length ≤ 1000000) :
    ∃ a c' w', (Builtin.append_ #[30, 30] 30 #[v, .slice (some ⟨gb, off, none⟩) l2.length c]).run Try.prog X = .ok (.slice a (l ++ l2).length c') w' ∧ w'.ownsRow B 3 1 (.slice a (l ++ l2).length c') (l ++ l2).length (ic (l ++ l2)) ∧ X.grownBy w' v.ownBlock ∧ ∀ b, (Value.slice a (l ++ l2).length c').ownBlock = some b → v.ownBlock = some b ∨ X.heap.size ≤ b := by
  obtain ⟨i0, hi0, hz0, hz1, hz2⟩ := info_parts' Try.infoInt
  obtain ⟨v', W3, hrun, hrow, hgr, _, hat⟩ := run_append_own_at (P := Try.prog) X B 30 30 3 i0 (.int .i64 0) 1 8 Try.underlying30 hi0 hz0 hz1 hz2 rfl (by decide) v l.length (ic l) hv ⟨gb, off, none⟩ l2.length c (ic l2) (by rw [ic_length]; omega) (by
    intro j u hj
    have hjl : j < l2.length := by have := (List.getElem?_eq_some_iff.1 hj).1; rw [ic_length] at this; exact this
    rw [ic_at l2 j hjl] at hj
    rw [Addr.add_lit, hc j hjl]
    exact hj) (ic_one _) (by unfold maxLen; omega) (by omega) hB
  rw [← List.length_append, show ic l ++ ic l2 = ic (l ++ l2) by simp [ic]] at hrow
  obtain ⟨a, c', rfl⟩ := ownsRow_shape hrow
  refine ⟨a, c', W3, hrun, hrow, hgr, fun b hb => ?_⟩
  rcases hat with e | e
  · exact .inl (by rw [← e]; exact hb)
  · right
    rw [e] at hb
    cases hb
    exact Nat.le_refl _
/-- The list in the loop over what is told, against the world w0 ahead of it. -/
structure LR (B : Nat) (o0 : Option Nat) (w0 : World) (lv : Value) (L : List Int) (X : World) : Prop where
  row : X.ownsRow B 3 1 lv L.length (ic L)
  base : B ≤ X.heap.size
  grown : w0.grownBy X o0
  out : ∀ b, lv.ownBlock = some b → o0 = some b ∨ w0.heap.size ≤ b
theorem LR.drewN {B : Nat} {o0 : Option Nat} {w0 : World} {lv : Value} {L : List Int} {X : World} (h : LR B o0 w0 lv L X) (n : Nat) : LR B o0 w0 lv L (X.drewN n) := by
  have hb := below_drewN (Below.refl X.heap.size X) n
  refine ⟨h.row, h.base, ⟨hb.os.trans h.grown.os, hb.tape.trans h.grown.tape, hb.output.trans h.grown.output, Nat.le_trans h.grown.size hb.size, fun k hk hne => ?_⟩, h.out⟩
  rw [hb.block k (Nat.lt_of_lt_of_le hk h.grown.size)]
  exact h.grown.block k hk hne
/-- A new list: all else as it was. -/
theorem LR.fresh {B : Nat} {o0 : Option Nat} {w0 : World} {lv v' : Value} {L L' : List Int} {X Y : World} (h : LR B o0 w0 lv L X) (ho : OwnI X.heap.size v' L' X Y) : LR B o0 w0 v' L' Y := by
  have hb := ho.below
  refine ⟨(ho.mono h.base).row, Nat.le_trans h.base hb.size, ⟨hb.os.trans h.grown.os, hb.tape.trans h.grown.tape, hb.output.trans h.grown.output, Nat.le_trans h.grown.size hb.size, fun k hk hne => ?_⟩, fun b e => .inr (Nat.le_trans h.grown.size (ownI_out ho b e).1)⟩
  rw [hb.block k (Nat.lt_of_lt_of_le hk h.grown.size)]
  exact h.grown.block k hk hne
theorem LR.grow {B : Nat} {o0 : Option Nat} {w0 : World} {lv v' : Value} {L L' : List Int} {X Y : World} (h : LR B o0 w0 lv L X) (hr : Y.ownsRow B 3 1 v' L'.length (ic L')) (hg : X.grownBy Y lv.ownBlock) (ho : ∀ b, v'.ownBlock = some b → lv.ownBlock = some b ∨ X.heap.size ≤ b) : LR B o0 w0 v' L' Y := by
  refine ⟨hr, Nat.le_trans h.base hg.size, ⟨hg.os.trans h.grown.os, hg.tape.trans h.grown.tape, hg.output.trans h.grown.output, Nat.le_trans h.grown.size hg.size, fun k hk hne => ?_⟩, fun b e => ?_⟩
  · rw [hg.block k (Nat.lt_of_lt_of_le hk h.grown.size) (fun e => by
      rcases h.out k e.symm with q | q
      · exact hne q.symm
      · omega)]
    exact h.grown.block k hk hne
  · rcases ho b e with q | q
    · exact h.out b q
    · exact .inr (Nat.le_trans h.grown.size q)
theorem LR.nms {B : Nat} {o0 : Option Nat} {w0 : World} {lv : Value} {L : List Int} {X : World} (h : LR B o0 w0 lv L X) : Nms X lv L := nms_of h.row
/-- What lies apart from the list. -/
theorem LR.told {B : Nat} {o0 : Option Nat} {w0 : World} {lv : Value} {L : List Int} {X : World} (h : LR B o0 w0 lv L X) {tv : Value} {l : List Td} (ht : TdAt w0 tv l) (h0 : ∀ b, o0 = some b → ∃ cs, w0.heap[b]? = some (.cells cs 3 (0, 0))) : TdAt X tv l :=
  ht.hold (fun g cs hg => h.grown.block g (lt_of_heap hg) (fun e => by
    obtain ⟨cs', hc'⟩ := h0 g e.symm
    exact kind_ne hg hc' (by decide) rfl))
theorem LR.other {B : Nat} {o0 : Option Nat} {w0 : World} {lv : Value} {L : List Int} {X : World} (h : LR B o0 w0 lv L X) {v : Value} {l : List Int} (hn : Nms w0 v l) (ho : ∀ b, v.ownBlock = some b → o0 ≠ some b) : Nms X v l :=
  hn.hold h.grown.size (fun _ b e hl => h.grown.block b hl (fun q => ho b e q.symm))
end Go.Proofs.Ytiphbnmnoofpkaa

/- ViewList, its walk. -/
namespace Go.Proofs.Ytiphbnmnoofpkaa
open Go.RowKit

/-- A view, and beside it a row of numbers of the walk's own. -/
def LV (W : World) (P : Nat) (V : PV) (lv : Value) (L : List Int) (X : World) : Prop :=
  ∃ fp, VW P V fp X ∧ Below W.heap.size W X ∧ (∀ b ∈ fp, W.heap.size ≤ b) ∧ X.ownsRow W.heap.size 3 1 lv L.length (ic L) ∧ ∀ b, lv.ownBlock = some b → b ∉ fp
section
variable {W X Y : World} {P : Nat} {V : PV} {lv : Value} {L : List Int} {N : Nat}
theorem LV.of (h : WK W P V X) (ho : OwnI X.heap.size lv L X Y) : LV W P V lv L Y := by
  obtain ⟨fp, v1, v2, v3⟩ := h
  exact ⟨fp, v1.on ho.below, v2.trans (ho.below.mono v2.size), v3, (ho.mono v2.size).row, fun b e hm => by have := v1.lt hm; have := (ownI_out ho b e).1; omega⟩
theorem LV.on (h : LV W P V lv L X) (hb : Below X.heap.size X Y) : LV W P V lv L Y := by
  obtain ⟨fp, v1, v2, v3, v4, v5⟩ := h
  exact ⟨fp, v1.on hb, v2.trans (hb.mono v2.size), v3, ownsRow_same v4 (fun b e => hb.block b (v4.lt b e).2), v5⟩
theorem LV.below (h : LV W P V lv L X) : Below W.heap.size W X := by
  obtain ⟨fp, _, v2, _⟩ := h
  exact v2
theorem LV.nms (h : LV W P V lv L X) : Nms X lv L := by
  obtain ⟨fp, _, _, _, v4, _⟩ := h
  exact nms_of v4
theorem LV.lr (h : LV W P V lv L X) : LR W.heap.size lv.ownBlock X lv L X := by
  obtain ⟨fp, v1, v2, v3, v4, v5⟩ := h
  exact ⟨v4, v2.size, World.grownBy.refl _ _, fun b e => .inl e⟩
theorem LV.ints (h : LV W P V lv L X) : ∀ b, lv.ownBlock = some b → ∃ cs, X.heap[b]? = some (.cells cs 3 (0, 0)) := by
  obtain ⟨fp, v1, v2, v3, v4, v5⟩ := h
  exact fun b e => row_kind v4 e
theorem LV.back {lv' : Value} {L' : List Int} (h : LV W P V lv L X) (hr : LR W.heap.size lv.ownBlock X lv' L' Y) : LV W P V lv' L' Y := by
  obtain ⟨fp, v1, v2, v3, v4, v5⟩ := h
  have hb : Below W.heap.size X Y := ⟨hr.grown.os, hr.grown.tape, hr.grown.output, hr.grown.size, fun b hb => hr.grown.block b (Nat.lt_of_lt_of_le hb v2.size) (fun e => by have := (v4.lt b e.symm).1; omega)⟩
  refine ⟨fp, v1.hold (fun b hm => hr.grown.block b (v1.lt hm) (fun e => v5 b e.symm hm)), v2.trans hb, v3, hr.row, fun b e hm => ?_⟩
  rcases hr.out b e with q | q
  · exact v5 b q hm
  · have := v1.lt hm
    omega
theorem told_len {w : World} {tv : Value} {T : List TDE} {l : List Td} (h : Told w tv T l) : l.length ≤ 9223372036854775807 := by
  have hl : T.length = l.length := by rw [← h.pl, List.length_map]
  have hrow := h.row
  unfold TdRow at hrow
  rcases hrow.2 with ⟨rfl, h0⟩ | ⟨g, cap, cur, rfl, hB, hg, h1, h2, _⟩
  · omega
  · unfold maxLen at h2
    omega
theorem act_LV {s : ST} (h : LV W P V lv L X) (hk : PVok V N) (hN : N + 301 ≤ 1000000) (ho : StOK W s) (hs : StShort s) :
    Calls Try.prog 11 #[.pointer (some ⟨P, 0, none⟩), .agg (stL s).toArray] X fun e w' => ∃ a c, e = .returned (.slice a (actT V s).length c) ∧ TdAt w' (.slice a (actT V s).length c) (actT V s) ∧ (actT V s).length ≤ 9223372036854775807 ∧ LV W P (actV V s) lv L w' := by
  obtain ⟨fp, v1, v2, v3, v4, v5⟩ := h
  refine (act_any v1 hk hN s (ho.on v2) hs (fun h0 b e hm => ?_) ⟨fun h0 b e hm => ?_, fun m hm hne b e hmm => ?_⟩).mono ?_
  · have := ho.ub h0 b e
    have := v3 b hm
    omega
  · have := ho.mb.1 h0 b e
    have := v3 b hm
    omega
  · have := ho.mb.2 m hm hne b e
    have := v3 b hmm
    omega
  · rintro e w' ⟨tv, T, rfl, ht, fp', q1, q2⟩
    obtain ⟨y1, y2⟩ := fo_below v2 v3 q2
    have hta := told_at ht
    obtain ⟨a, c, rfl, _⟩ := id hta
    exact ⟨a, c, rfl, hta, told_len ht, fp', q1, y1, y2, ownsRow_same v4 (fun b e => q2.keep (v4.lt b e).2 (v5 b e)), fun b e => q2.out (v4.lt b e).2 (v5 b e)⟩
theorem uids_LV {tv : Value} {T : List Td} (h : LV W P V lv L X) (ht : TdAt X tv T) (hk : PVok V N) (hN : N ≤ 1000000) :
    Calls Try.prog 10 #[.pointer (some ⟨P, 0, none⟩)] X fun e w' => ∃ a c, e = .returned (.slice a (uidsP V).length c) ∧ (uidsP V).length ≤ c ∧ (0 < (uidsP V).length → ∃ g, a = some ⟨g, 0, none⟩) ∧ LV W P V lv L w' ∧ TdAt w' tv T ∧ Nms w' (.slice a (uidsP V).length c) (uidsP V) ∧ ∀ b, (Value.slice a (uidsP V).length c).ownBlock = some b → lv.ownBlock ≠ some b := by
  obtain ⟨fp, v1, v2, v3, v4, v5⟩ := id h
  refine (Uids_W v1 hk hN).mono ?_
  rintro e w' ⟨v', rfl, ho⟩
  have hout := ownI_out ho
  have hb := ho.below
  have hne : ∀ b, v'.ownBlock = some b → lv.ownBlock ≠ some b := fun b e q => by have := (hout b e).1; have := (v4.lt b q).2; omega
  have hta : TdAt w' tv T := ht.hold (fun g cs hg => hb.block g (lt_of_heap hg))
  rcases ho.row.2 with ⟨rfl, h0⟩ | ⟨g, cap, cur, rfl, _, hg, hcap, _⟩
  · refine ⟨none, 0, by rw [h0], by omega, fun q => by omega, h.on hb, hta, ?_, ?_⟩
    · rw [h0]; exact nms_of ho.row
    · rw [h0]; exact hne
  · exact ⟨some ⟨g, 0, none⟩, cap, rfl, hcap, fun _ => ⟨g, rfl⟩, h.on hb, hta, nms_of ho.row, hne⟩
theorem uids_copyL (h : WK W P V X) (hk : PVok V N) (hN : N ≤ 1000000) :
    Calls Try.prog 10 #[.pointer (some ⟨P, 0, none⟩)] (X.alloc (.cells #[] 3)) fun e w' => ∃ a c a3 c3 W3, e = .returned (.slice a (uidsP V).length c) ∧ (Builtin.append_ #[30, 30] 30 #[.slice (some ⟨X.heap.size, 0, none⟩) 0 0, .slice a (uidsP V).length c]).run Try.prog w' = .ok (.slice a3 (uidsP V).length c3) W3 ∧ LV W P V (.slice a3 (uidsP V).length c3) (uidsP V) W3 := by
  have hb1 : Below X.heap.size X (X.alloc (.cells #[] 3)) := (Below.refl _ _).alloc (Nat.le_refl _) _
  have hn1 : (X.alloc (.cells #[] 3)).heap[X.heap.size]? = some (.cells #[] 3 (0, 0)) := heap_new _ _
  obtain ⟨fp, v1, v2, v3⟩ := h.on hb1
  refine (Uids_W v1 hk hN).mono ?_
  rintro e w' ⟨v', rfl, ho⟩
  obtain ⟨a, c, rfl⟩ := ownI_shape ho
  have hlen : (uidsP V).length ≤ 1000000 := by
    have := hk.len
    rw [uidsP_length]
    omega
  have hnw : w'.heap[X.heap.size]? = some (.cells #[] 3 (0, 0)) := by rw [ho.below.block _ (lt_of_heap hn1)]; exact hn1
  have hrow : w'.ownsRow X.heap.size 3 1 (.slice (some ⟨X.heap.size, 0, none⟩) 0 0) 0 [] :=
    ⟨rfl, .inr ⟨X.heap.size, 0, #[], rfl, Nat.le_refl _, hnw, Nat.le_refl _, by unfold maxLen; omega, rfl, rfl⟩⟩
  obtain ⟨a3, c3, W3, hr, hw3, hg⟩ := copyI_run hrow (nms_of ho.row) hlen (Nat.le_of_lt (lt_of_heap hnw)) (ownI_nil ho)
  have hb3 : Below X.heap.size w' W3 := ⟨hg.os, hg.tape, hg.output, hg.size, fun b hb => hg.block b (by have := lt_of_heap hnw; omega) (by simp [Value.ownBlock]; omega)⟩
  have hbX : Below X.heap.size X W3 := (hb1.trans (ho.below.mono hb1.size)).trans hb3
  exact ⟨a, c, a3, c3, W3, rfl, hr, LV.of h ⟨hw3, hbX, hbX.size⟩⟩
end
/-- append(append([]int{}, l[:p]...), l[p+1:]...) -/
theorem cut_runs {X : World} {gl cl p q : Nat} {L : List Int} (hn : Nms X (.slice (some ⟨gl, 0, none⟩) L.length cl) L) (hq : q = p + 1) (hp : p < L.length) (hl : L.length ≤ 500000) (off c : Nat) (hoff : off = q ∨ L.length = q) :
    ∃ a5 c5 W5 a9 c9 W9, (Builtin.append_ #[30, 30] 30 #[.slice (some ⟨X.heap.size, 0, none⟩) 0 0, .slice (some ⟨gl, 0, none⟩) p cl]).run Try.prog (X.drew.alloc (.cells #[] 3)) = .ok (.slice a5 p c5) W5 ∧
      (Builtin.append_ #[30, 30] 30 #[.slice a5 p c5, .slice (some ⟨gl, off, none⟩) (L.length - q) c]).run Try.prog W5 = .ok (.slice a9 (L.length - 1) c9) W9 ∧ OwnI X.heap.size (.slice a9 (L.length - 1) c9) (L.take p ++ L.drop q) X W9 := by
  obtain ⟨a, c0, e, hx⟩ := hn
  injection e with e1 e2 e3
  subst e1 e3
  obtain ⟨g, o, e4, hg, hc⟩ := hx (by omega)
  cases e4
  have hb0 : Below X.heap.size X X.drew := (Below.refl _ _).drew
  have hlt : (L.take p).length = p := by rw [List.length_take]; omega
  have hld : (L.drop q).length = L.length - q := List.length_drop
  have hcat : (L.take p ++ L.drop q).length = L.length - 1 := by rw [List.length_append, hlt, hld]; omega
  have hn5 : Nms X.drew (.slice (some ⟨gl, 0, none⟩) (L.take p).length cl) (L.take p) := by
    refine ⟨_, _, rfl, fun _ => ⟨gl, 0, rfl, hg, fun i hi => ?_⟩⟩
    rw [hlt] at hi
    rw [hb0.cell (p := ⟨gl, 0 + i, none⟩) hg, hc i (by omega), List.getD_eq_getElem?_getD, List.getD_eq_getElem?_getD, List.getElem?_take_of_lt hi]
  obtain ⟨a5, c5, W5, hr5, ho5⟩ := copy_fresh hn5 (by omega) (fun a c e q => by injection e with p1; rw [q] at p1; cases p1)
  rw [hlt] at hr5 ho5
  have hb5 : Below X.heap.size X W5 := hb0.trans ho5.below
  obtain ⟨a9, c9, W9, hr9, hw9, hg9, hout9⟩ := app_own (X := W5) (B := X.heap.size) (v := .slice a5 p c5) (l := L.take p) (l2 := L.drop q) (by rw [hlt]; have := ho5.row; rw [hlt] at this; exact this) ho5.base gl off c (fun i hi => by
    rw [hld] at hi
    have : off = q := by
      rcases hoff with h | h
      · exact h
      · exact absurd hi (by rw [h, Nat.sub_self]; exact Nat.not_lt_zero _)
    subst this
    rw [hb5.cell (p := ⟨gl, off + i, none⟩) hg]
    have := hc (off + i) (by omega)
    rw [Nat.zero_add] at this
    rw [this, List.getD_eq_getElem?_getD, List.getD_eq_getElem?_getD, List.getElem?_drop]) (by rw [hlt, hld]; omega)
  rw [hld, hcat] at hr9
  rw [hcat] at hw9
  have hb9 : Below X.heap.size W5 W9 := ⟨hg9.os, hg9.tape, hg9.output, hg9.size, fun b hb => hg9.block b (Nat.lt_of_lt_of_le hb hb5.size) (fun e => by have := (ownI_out ho5 b e.symm).1; have : X.heap.size ≤ b := this; omega)⟩
  exact ⟨a5, c5, W5, a9, c9, W9, hr5, hr9, by rw [hcat]; exact hw9, hb5.trans hb9, Nat.le_trans hb5.size hb9.size⟩
set_option maxHeartbeats 16000000 in
set_option maxRecDepth 20000 in
theorem ViewList_walk (b : BX) (mv sv : Value) (ml : List MLE) (S : List ST) (recent : Int) (W : World) (hm : MailsAt W mv ml) (hs : StepsAt W sv S) :
    Calls Try.prog 3 #[.agg (bxA b), mv, .int .i64 recent, sv] W fun e W' => e = .returned (.bool true) ∧ Below W.heap.size W W' := by
  obtain ⟨W1, hW1⟩ : ∃ W1, W.alloc (.cells (bxA b) 24) = W1 := ⟨_, rfl⟩
  have h1 : W1.heap[W.heap.size]? = some (.cells (bxA b) 24 (0, 0)) := by rw [← hW1]; exact heap_new _ _
  have hb1 : Below W.heap.size W W1 := by rw [← hW1]; exact (Below.refl _ _).alloc (Nat.le_refl _) _
  have hsz1 := lt_of_heap h1
  have HL := Lib.hid (long_any mv sv ml S W1 (hm.on hb1) (hs.on hb1))
  have HM := Lib.hid (hm.on hb1)
  have HS := Lib.hid (hs.on hb1)
  have HFin : Hid (∀ X, Below W1.heap.size W1 X → Below W.heap.size W X) := Lib.hid (fun X hX => hb1.trans (hX.mono hb1.size))
  have HKn : Hid (∀ X, Below W1.heap.size W1 X → Calls Try.prog 13 #[] X fun e w' => e = .returned (.bool true) ∧ Below W.heap.size W w') := Lib.hid (fun X hX => (known_any X).mono (fun e w' ⟨q1, q2⟩ => ⟨q1, HFin.out _ (hX.trans (q2.mono hX.size))⟩))
  have HBx : Hid (∀ X, Below W1.heap.size W1 X → X.heap[W.heap.size]? = some (.cells (bxA b) 24 (0, 0))) := Lib.hid (fun X hX => by rw [hX.block _ hsz1]; exact h1)
  obtain ⟨am, cm, rfl, _⟩ := hm
  obtain ⟨⟨ax, cx, rfl, _⟩, _⟩ := hs
  clear hb1 h1 hsz1
  go_enter Try.func3, Try.ntmps3
  go_upto_region 1 with fail
  (try rw [hW1])
  clear hW1
  go_cut [19] (fun c wx => ∃ (lb : Bool) (X : World), X = wx ∧ c = .bool lb ∧ Below W1.heap.size W1 X ∧ (lb = false → ml.length ≤ 300 ∧ S.length ≤ 120 ∧ ∀ s ∈ S, StShort s))
  case first =>
    as_aux_lemma =>
      go_wp2_with (go_at_call 8; refine HL.out.mono ?_; rintro e w2 ⟨lb, rfl, hb2, hc2⟩; have HB2 := Lib.hid hb2; have HC2 := Lib.hid hc2; clear hb2 hc2)
      go_meet
      case rel => exact ⟨_, _, rfl, rfl, HB2.out, HC2.out⟩
  case rest =>
  obtain ⟨lb, w2, hX2, rfl, hb2, hc2⟩ := hcut
  subst hX2
  have HB2 := Lib.hid hb2
  have HC2 := Lib.hid hc2
  clear hb2 hc2 HL
  cases lb with
  | true =>
    as_aux_lemma =>
      go_wp2_with fail
      go_ret
      exact ⟨rfl, HFin.out _ HB2.out⟩
  | false =>
  obtain ⟨hml, hsl, hss⟩ := HC2.out rfl
  have HSS := Lib.hid hss
  have H2 := Lib.hid (HBx.out _ HB2.out)
  have HNew : Hid (Calls Try.prog 9 #[.agg (bxA b), .slice am ml.length cm, .int .i64 recent] w2 fun e w' => ∃ P, e = .returned (.pointer (some ⟨P, 0, none⟩)) ∧ WK W1 P (newP b.val (ml.map MLE.u) recent) w') := Lib.hid ((New_any b _ ml recent w2 (HM.out.on HB2.out) (by omega)).mono (fun e w' ⟨P, fp, q1, q2, q3, q4⟩ => ⟨P, q1, WK.ofNew HB2.out q2 q3 q4⟩))
  have HP0 : Hid (PVok (newP b.val (ml.map MLE.u) recent) 300) := Lib.hid ((newP_ok b.val (ml.map MLE.u) recent).mono (by simpa using hml))
  clear hss HC2
  generalize newP b.val (ml.map MLE.u) recent = V0 at *
  go_upto_region 4 with (first | (refine wpList_load_row rfl 24 _ rfl W.heap.size rfl 24 _ (0, 0) _ H2.out Try.underlying24 rfl (Try.sizeBx b) ?_) | (go_at_call 9; refine HNew.out.mono ?_; rintro e w3 ⟨P, rfl, hwk⟩; have HW0 := Lib.hid hwk; clear hwk))
  clear HNew H2 HB2
  have HU0 := Lib.hid (uids_copyL HW0.out HP0.out (by omega))
  go_upto_region 7 with (first | (go_at_call 10; refine HU0.out.mono ?_; rintro e w4 ⟨a4, c4, a3, c3, W3, rfl, hr3, hlv⟩; have HR3 := Lib.hid hr3; have HLV := Lib.hid hlv; clear hr3 hlv) | (at_builtin; refine append_by_run (u := .slice (some ⟨w3.heap.size, 0, none⟩) 0 0) (v := .slice a4 (uidsP V0).length c4) rfl _ _ _ rfl 30 rfl rfl rfl _ _ HR3.out ?_))
  clear HU0 HW0 HR3
  go_upto_region 8 with fail
  go_loopw [10, 11] (fun ov i wr => ∃ (k : Nat) (V : PV) (ao : Option Addr) (co : Nat) (X : World), X = wr ∧ k ≤ S.length ∧ ov = .slice ao (uidsP V).length co ∧ i = .int .i64 k ∧ LV W1 P V (.slice ao (uidsP V).length co) (uidsP V) X ∧ PVok V (300 + 301 * k)) (fun _ i _ => S.length - (intOf i).toNat)
  case atStart => exact ⟨0, V0, a3, c3, _, rfl, Nat.zero_le _, rfl, rfl, HLV.out, HP0.out⟩
  case round =>
    obtain ⟨k, V, ao, co, X, hX, hk, rfl, rfl, hlv, hpk⟩ := hrel
    subst hX
    clear HLV HP0
    by_cases hlt : k < S.length
    · have hlti : (k : Int) < (S.length : Int) := by omega
      obtain ⟨⟨a1, c1, e1, hx1⟩, hok⟩ := HS.out
      obtain ⟨rfl, rfl⟩ : a1 = ax ∧ c1 = cx := by injection e1 with p1 p2 p3; exact ⟨p1.symm, p3.symm⟩
      clear e1
      obtain ⟨g, off, rfl, hg, hc⟩ := hx1 (by omega)
      have hcr := hc k hlt
      have hse := getD_memS hlt
      have hss := hok _ hse
      have hsh := HSS.out _ hse
      obtain ⟨sx, hsx⟩ : ∃ sx, S.getD k ST0 = sx := ⟨_, rfl⟩
      rw [hsx] at hcr hss hsh
      have HR0 : Hid (X.rangeAt g (off + k * 26) (stL sx)) := Lib.hid (fun j u hj => by
        rw [hlv.below.cell (p := ⟨g, off + k * 26 + j, none⟩) hg]
        exact hcr j u hj)
      have HAct := Lib.hid (act_LV hlv hpk (by omega) hss hsh)
      have hpk2 : PVok (actV V sx) (300 + 301 * (k + 1)) := (actV_ok hpk sx hsh).mono (by omega)
      have HP2 := Lib.hid hpk2
      have HGd := Lib.hid (good_act V sx)
      have HUl : Hid ((uidsP V).length ≤ 500000 ∧ (uidsP (actV V sx)).length ≤ 500000) := Lib.hid (by
        have := hpk.len
        have := hpk2.len
        rw [uidsP_length, uidsP_length]
        omega)
      have HK := Lib.hid hlt
      have hkm : k ≤ 120 := by omega
      clear hok hse hss hsh hcr hc hx1 hsx hpk hpk2 hlv
      generalize actV V sx = V2 at *
      generalize actT V sx = T at *
      generalize uidsP V = U at *
      go_upto_region 11 with (first | (refine wpList_load_mid rfl 41 _ rfl g (off + k * 26) rfl _ _ HR0.out Try.underlying41 rfl (Try.sizeSt sx) ?_) | (go_at_call 11; refine HAct.out.mono ?_; rintro e w5 ⟨at5, ct5, rfl, hta, htl, hlv5⟩; have HTa := Lib.hid hta; have HTl := Lib.hid htl; have HLV5 := Lib.hid hlv5; clear hta htl hlv5))
      clear HAct HR0
      have HU := Lib.hid (uids_LV HLV5.out HTa.out HP2.out (by omega))
      go_upto_region 12 with (go_at_call 10; refine HU.out.mono ?_; rintro e w0 ⟨a7, c7, rfl, hc7, ha7, hlv0, ht0, hn0, hne0⟩; have HLV0 := Lib.hid hlv0; have HT0 := Lib.hid ht0; have HN0 := Lib.hid hn0; have HNe := Lib.hid hne0; have HA7 := Lib.hid ha7; have HC7 := Lib.hid hc7; clear hlv0 ht0 hn0 hne0 ha7 hc7)
      clear HU HLV5 HTa
      have HTd : Hid (∀ lv L X, LR W1.heap.size (Value.slice ao U.length co).ownBlock w0 lv L X → TdAt X (.slice at5 T.length ct5) T) := Lib.hid (fun lv L X q => q.told HT0.out HLV0.out.ints)
      have HNw : Hid (∀ lv L X, LR W1.heap.size (Value.slice ao U.length co).ownBlock w0 lv L X → Nms X (.slice a7 (uidsP V2).length c7) (uidsP V2)) := Lib.hid (fun lv L X q => q.other HN0.out HNe.out)
      have HBk : Hid (∀ lv L X, LR W1.heap.size (Value.slice ao U.length co).ownBlock w0 lv L X → LV W1 P V2 lv L X) := Lib.hid (fun lv L X q => HLV0.out.back q)
      have HLr := Lib.hid HLV0.out.lr
      clear HT0 HN0 HNe HLV0
      go_upto_region 13 with fail
      go_loopw [10, 14] (fun lv i wq => ∃ (j : Nat) (L : List Int) (al : Option Addr) (cl : Nat) (X : World), X = wq ∧ lv = .slice al L.length cl ∧ j ≤ T.length ∧ i = .int .i64 j ∧ LR W1.heap.size (Value.slice ao U.length co).ownBlock w0 (.slice al L.length cl) L X ∧ goodT (uidsP V2) L (T.drop j) ∧ L.length ≤ 500000) (fun _ i _ => T.length - (intOf i).toNat)
      case atStart => exact ⟨0, U, ao, co, _, rfl, rfl, Nat.zero_le _, rfl, HLr.out, by rw [List.drop_zero]; exact HGd.out, HUl.out.1⟩
      case round =>
        obtain ⟨j, L, al, cl, X, hX, rfl, hj, rfl, hlr, hgd, hll⟩ := hrel
        subst hX
        have HR := Lib.hid hlr
        have hTm : T.length ≤ 9223372036854775807 := HTl.out
        clear HLr HGd
        by_cases hjl : j < T.length
        · have hjli : (j : Int) < (T.length : Int) := by omega
          obtain ⟨okt, hgd1⟩ := good_drop hjl hgd
          obtain ⟨a5, c5, e5, hx5⟩ := HTd.out _ _ _ hlr
          obtain ⟨rfl, rfl⟩ : a5 = at5 ∧ c5 = ct5 := by injection e5 with p1 p2 p3; exact ⟨p1.symm, p3.symm⟩
          clear e5
          obtain ⟨g5, rfl, cs5, hcs5, hcell5⟩ := hx5 (by omega)
          have HCe : Hid (∀ Y, (∃ lv L, LR W1.heap.size (Value.slice ao U.length co).ownBlock w0 lv L Y) → Y.cell? ⟨g5, j * 5, none⟩ = some (.int .i64 (T.getD j Td0).kind) ∧ Y.cell? ⟨g5, j * 5 + 1, none⟩ = some (.int .i64 (T.getD j Td0).num) ∧ Y.cell? ⟨g5, j * 5 + 2, none⟩ = some (.int .i64 (T.getD j Td0).uid)) := Lib.hid (fun Y ⟨lv, L', q⟩ => by
            obtain ⟨a6, c6, e6, hx6⟩ := HTd.out _ _ _ q
            injection e6 with p1 p2 p3
            obtain ⟨g6, e7, _, _, hc6⟩ := hx6 (by omega)
            rw [e7] at p1
            injection p1 with p1
            injection p1 with p1
            rw [p1]
            exact hc6 j hjl)
          obtain ⟨ck, cn, cu⟩ := HCe.out _ ⟨_, _, hlr⟩
          have HOk := Lib.hid okt
          have HG1 := Lib.hid hgd1
          have HJl := Lib.hid hjl
          have HLl := Lib.hid hll
          clear okt hgd1 hx5 hcell5 hcs5 hgd hlr
          generalize T.getD j Td0 = t at *
          by_cases k1 : t.kind = 1
          · obtain ⟨p, hn, hp, hx⟩ := HOk.out.1 (.inl k1)
            obtain ⟨q, hq⟩ : ∃ q, q = p + 1 := ⟨_, rfl⟩
            have hnq : t.num = (q : Int) := by rw [hn, hq]; push_cast; rfl
            have HSt : Hid (stepT (uidsP V2) L t = L.take p ++ L.drop q) := Lib.hid (by
              unfold stepT
              rw [if_pos k1, hn, show ((p : Int) + 1 - 1).toNat = p by omega, show ((p : Int) + 1).toNat = q by omega])
            have hrow := HR.out.row
            obtain ⟨gl, rfl, hlc⟩ : ∃ gl, al = some ⟨gl, 0, none⟩ ∧ L.length ≤ cl := by
              rcases hrow.2 with ⟨e, h0⟩ | ⟨g, cap, cur, e, _, _, hcap, _⟩
              · omega
              · injection e with p1 p2 p3
                exact ⟨g, p1, by omega⟩
            have HNl : Hid (Nms X (.slice (some ⟨gl, 0, none⟩) L.length cl) L) := Lib.hid (nms_of hrow)
            have HCl : Hid (∀ n, (X.drewN n).cell? ⟨gl, p, none⟩ = some (.int .i64 t.uid)) := Lib.hid (fun n => by
              obtain ⟨a6, c6, e6, hx6⟩ := HNl.out
              injection e6 with p1 p2 p3
              obtain ⟨g6, o6, e7, hg6, hc6⟩ := hx6 (by omega)
              rw [e7] at p1
              injection p1 with p1
              injection p1 with p1 p4
              have := hc6 p hp
              rw [← p1, ← p4, Nat.zero_add, hx] at this
              rw [(below_drewN (Below.refl X.heap.size X) n).cell (p := ⟨gl, p, none⟩) (by rw [p1]; exact hg6)]
              exact this)
            have x0 := HCl.out 0
            have hx00 : X.cell? ⟨gl, p, none⟩ = some (.int .i64 t.uid) := x0
            clear x0
            rw [k1] at ck
            rw [hnq] at cn
            have hip : (q : Int) - 1 = (p : Int) := by omega
            have hpw : IntKind.i64.wrap (p : Int) = (p : Int) := by simp only [IntKind.wrap, IntKind.signed, IntKind.bits]; simp; omega
            have hd1 : ¬ (q : Int) < 1 := by omega
            have hd2 : ¬ (L.length : Int) < (q : Int) := by omega
            have hd1d : decide ((q : Int) < 1) = false := by simpa using hd1
            have hd2d : decide ((L.length : Int) < (q : Int)) = false := by simp; omega
            have hd2n : decide (L.length < q) = false := by simp; omega
            have hd1n : decide (q < 1) = false := by simp; omega
            have hpm : (p : Int) < (L.length : Int) := by omega
            have hp0 : (0 : Int) ≤ (p : Int) := by omega
            have HPQ := Lib.hid (And.intro hq (And.intro hp hlc))
            clear k1 hn hx hnq hrow hq
            generalize t.uid = x at *
            have hxx : (x != x) = false := by simp
            go_upto_region 18 with fail
            go_cut [82] (fun c wx => ∃ Y, Y = wx ∧ c = .bool false ∧ ∃ n, Y = X.drewN n)
            case first =>
              as_aux_lemma =>
                go_quiet (fail)
                go_wp2_with fail
                go_meet
                case rel => exact ⟨_, rfl, rfl, _, rfl⟩
            case rest =>
            obtain ⟨Y, hY, rfl, nd, hnd⟩ := hcut
            subst hY
            have HRy : Hid (LR W1.heap.size (Value.slice ao U.length co).ownBlock w0 (.slice (some ⟨gl, 0, none⟩) L.length cl) L Y) := Lib.hid (by rw [hnd]; exact HR.out.drewN nd)
            clear hnd HR HNl HCl hx00 ck cn cu hxx hd1 hd2 hd1d hd2d hd2n hd1n
            go_upto_region 20 with fail
            by_cases hcq : cl = q
            · have hLq : L.length = q := by have := HPQ.out; omega
              obtain ⟨a5r, c5r, W5r, a9, c9, W9, hr5, hr9, ho9⟩ := cut_runs HRy.out.nms HPQ.out.1 HPQ.out.2.1 HLl.out 0 0 (.inr hLq)
              rw [show L.length - q = 0 by omega] at hr9
              have HR5 := Lib.hid hr5
              have HR9 := Lib.hid hr9
              have HO9 := Lib.hid ho9
              have z1 : p ≤ cl := by omega
              have z2 : q ≤ cl := by omega
              have z3 : p ≤ L.length := by omega
              have z4 : q ≤ L.length := by omega
              have z5 : L.length ≤ cl := by omega
              have z6 : L.length ≤ 500000 := HLl.out
              have HLq := Lib.hid hLq
              clear hr5 hr9 ho9 hLq
              subst hcq
              as_aux_lemma =>
                --R List20a--
                refine wp_region_N 9 (fun X => True) (by kernel_rfl) ?_
                refine wpAnyN_take (i := 1) (oi := { dst := some 84, op := Go.Op.move (Go.Operand.tmp 10), type := 30, pos := "outright.go:43", after := #[], guard := none }) (oL := { dst := some 92, op := Go.Op.call { callee := Go.Callee.builtin Go.Builtin.append, args := #[Go.Operand.tmp 88, Go.Operand.tmp 91], argTypes := #[30, 30] }, type := 30, pos := "outright.go:43", after := #[{ on := 5, ground := Go.Ground.data }, { on := 8, ground := Go.Ground.data }, { on := 5, ground := Go.Ground.chain }], guard := none }) (v := .slice (some ⟨gl, 0, none⟩) L.length cl) rfl rfl (by kernel_rfl) (by kernel_rfl) (by kernel_rfl) (by kernel_rfl) (fun _ _ _ h => h) (Or.inl ⟨by kernel_rfl, ?_⟩) trivial ?_
                · (intro X hX; skip <;> (go_simp; try (with_reducible rfl)))
                (try simp only [Act.put, List.setIfInBounds_toArray, List.set_cons_zero, List.set_cons_succ])
                refine wpAnyN_take (i := 2) (oi := { dst := some 85, op := Go.Op.move (Go.Operand.tmp 15), type := 3, pos := "outright.go:43", after := #[], guard := none }) (oL := { dst := some 92, op := Go.Op.call { callee := Go.Callee.builtin Go.Builtin.append, args := #[Go.Operand.tmp 88, Go.Operand.tmp 91], argTypes := #[30, 30] }, type := 30, pos := "outright.go:43", after := #[{ on := 5, ground := Go.Ground.data }, { on := 8, ground := Go.Ground.data }, { on := 5, ground := Go.Ground.chain }], guard := none }) (v := .int .i64 (cl : Int)) rfl rfl (by kernel_rfl) (by kernel_rfl) (by kernel_rfl) (by kernel_rfl) (fun _ _ _ h => h) (Or.inl ⟨by kernel_rfl, ?_⟩) trivial ?_
                · (intro X hX; skip <;> (go_simp; try (with_reducible rfl)))
                (try simp only [Act.put, List.setIfInBounds_toArray, List.set_cons_zero, List.set_cons_succ])
                refine wpAnyN_take (i := 3) (oi := { dst := some 86, op := Go.Op.binOp Go.BinOp.sub 3 (Go.Operand.tmp 85) (Go.Operand.const (Go.Value.int Go.IntKind.i64 1)) 3, type := 3, pos := "outright.go:43", after := #[{ on := 2, ground := Go.Ground.data }], guard := none }) (oL := { dst := some 92, op := Go.Op.call { callee := Go.Callee.builtin Go.Builtin.append, args := #[Go.Operand.tmp 88, Go.Operand.tmp 91], argTypes := #[30, 30] }, type := 30, pos := "outright.go:43", after := #[{ on := 5, ground := Go.Ground.data }, { on := 8, ground := Go.Ground.data }, { on := 5, ground := Go.Ground.chain }], guard := none }) (v := .int .i64 (p : Int)) rfl rfl (by kernel_rfl) (by kernel_rfl) (by kernel_rfl) (by kernel_rfl) (fun _ _ _ h => h) (Or.inl ⟨by kernel_rfl, ?_⟩) trivial ?_
                · (intro X hX; skip <;> (go_simp; try (with_reducible rfl)))
                (try simp only [Act.put, List.setIfInBounds_toArray, List.set_cons_zero, List.set_cons_succ])
                refine wpAnyN_take (i := 4) (oi := { dst := some 87, op := Go.Op.slice 30 (Go.Operand.tmp 84) none (some (Go.Operand.tmp 86)) none, type := 30, pos := "outright.go:43", after := #[{ on := 1, ground := Go.Ground.data }, { on := 3, ground := Go.Ground.data }], guard := none }) (oL := { dst := some 92, op := Go.Op.call { callee := Go.Callee.builtin Go.Builtin.append, args := #[Go.Operand.tmp 88, Go.Operand.tmp 91], argTypes := #[30, 30] }, type := 30, pos := "outright.go:43", after := #[{ on := 5, ground := Go.Ground.data }, { on := 8, ground := Go.Ground.data }, { on := 5, ground := Go.Ground.chain }], guard := none }) (v := .slice (some ⟨gl, 0, none⟩) p cl) rfl rfl (by kernel_rfl) (by kernel_rfl) (by kernel_rfl) (by kernel_rfl) (fun _ _ _ h => h) (Or.inl ⟨by kernel_rfl, ?_⟩) trivial ?_
                · (intro X hX; skip <;> (go_simp; try (with_reducible rfl)))
                (try simp only [Act.put, List.setIfInBounds_toArray, List.set_cons_zero, List.set_cons_succ])
                refine wpAnyN_take (i := 6) (oi := { dst := some 89, op := Go.Op.move (Go.Operand.tmp 10), type := 30, pos := "outright.go:43", after := #[], guard := none }) (oL := { dst := some 92, op := Go.Op.call { callee := Go.Callee.builtin Go.Builtin.append, args := #[Go.Operand.tmp 88, Go.Operand.tmp 91], argTypes := #[30, 30] }, type := 30, pos := "outright.go:43", after := #[{ on := 5, ground := Go.Ground.data }, { on := 8, ground := Go.Ground.data }, { on := 5, ground := Go.Ground.chain }], guard := none }) (v := .slice (some ⟨gl, 0, none⟩) L.length cl) rfl rfl (by kernel_rfl) (by kernel_rfl) (by kernel_rfl) (by kernel_rfl) (fun _ _ _ h => h) (Or.inl ⟨by kernel_rfl, ?_⟩) trivial ?_
                · (intro X hX; skip <;> (go_simp; try (with_reducible rfl)))
                (try simp only [Act.put, List.setIfInBounds_toArray, List.set_cons_zero, List.set_cons_succ])
                refine wpAnyN_take (i := 7) (oi := { dst := some 90, op := Go.Op.move (Go.Operand.tmp 15), type := 3, pos := "outright.go:43", after := #[], guard := none }) (oL := { dst := some 92, op := Go.Op.call { callee := Go.Callee.builtin Go.Builtin.append, args := #[Go.Operand.tmp 88, Go.Operand.tmp 91], argTypes := #[30, 30] }, type := 30, pos := "outright.go:43", after := #[{ on := 5, ground := Go.Ground.data }, { on := 8, ground := Go.Ground.data }, { on := 5, ground := Go.Ground.chain }], guard := none }) (v := .int .i64 (cl : Int)) rfl rfl (by kernel_rfl) (by kernel_rfl) (by kernel_rfl) (by kernel_rfl) (fun _ _ _ h => h) (Or.inl ⟨by kernel_rfl, ?_⟩) trivial ?_
                · (intro X hX; skip <;> (go_simp; try (with_reducible rfl)))
                (try simp only [Act.put, List.setIfInBounds_toArray, List.set_cons_zero, List.set_cons_succ])
                refine wpAnyN_take (i := 8) (oi := { dst := some 91, op := Go.Op.slice 30 (Go.Operand.tmp 89) (some (Go.Operand.tmp 90)) none none, type := 30, pos := "outright.go:43", after := #[{ on := 6, ground := Go.Ground.data }, { on := 7, ground := Go.Ground.data }], guard := none }) (oL := { dst := some 92, op := Go.Op.call { callee := Go.Callee.builtin Go.Builtin.append, args := #[Go.Operand.tmp 88, Go.Operand.tmp 91], argTypes := #[30, 30] }, type := 30, pos := "outright.go:43", after := #[{ on := 5, ground := Go.Ground.data }, { on := 8, ground := Go.Ground.data }, { on := 5, ground := Go.Ground.chain }], guard := none }) (v := .slice (some ⟨gl, 0, none⟩) 0 0) rfl rfl (by kernel_rfl) (by kernel_rfl) (by kernel_rfl) (by kernel_rfl) (fun _ _ _ h => h) (Or.inl ⟨by kernel_rfl, ?_⟩) trivial ?_
                · (intro X hX; skip <;> (go_simp; try (with_reducible rfl)))
                (try simp only [Act.put, List.setIfInBounds_toArray, List.set_cons_zero, List.set_cons_succ])
                refine wpAnyN_one (i := 0) (o := { dst := some 83, op := Go.Op.buildSlice 30 0 #[], type := 30, pos := "outright.go:43", after := #[], guard := none }) (by kernel_rfl) rfl (fun K hK => ?_)
                go_simp
                refine hK.out _ _ (fun _ => trivial) ?_
                clear hK K
                (try simp only [Act.put, List.setIfInBounds_toArray, List.set_cons_zero, List.set_cons_succ])
                refine wpAnyN_one (i := 5) (o := { dst := some 88, op := Go.Op.call { callee := Go.Callee.builtin Go.Builtin.append, args := #[Go.Operand.tmp 83, Go.Operand.tmp 87], argTypes := #[30, 30] }, type := 30, pos := "outright.go:43", after := #[{ on := 0, ground := Go.Ground.data }, { on := 4, ground := Go.Ground.data }], guard := none }) (by kernel_rfl) rfl (fun K hK => ?_)
                refine step_append_run (u := .slice (some ⟨Y.heap.size, 0, none⟩) 0 0) (v := .slice (some ⟨gl, 0, none⟩) p cl) rfl _ _ _ rfl 30 rfl rfl rfl _ _ HR5.out ?_
                refine hK.out _ _ (fun _ => trivial) ?_
                clear hK K
                (try simp only [Act.put, List.setIfInBounds_toArray, List.set_cons_zero, List.set_cons_succ])
                refine wpAnyN_one (i := 9) (o := { dst := some 92, op := Go.Op.call { callee := Go.Callee.builtin Go.Builtin.append, args := #[Go.Operand.tmp 88, Go.Operand.tmp 91], argTypes := #[30, 30] }, type := 30, pos := "outright.go:43", after := #[{ on := 5, ground := Go.Ground.data }, { on := 8, ground := Go.Ground.data }, { on := 5, ground := Go.Ground.chain }], guard := none }) (by kernel_rfl) rfl (fun K hK => ?_)
                refine step_append_run (u := .slice a5r p c5r) (v := .slice (some ⟨gl, 0, none⟩) 0 0) rfl _ _ _ rfl 30 rfl rfl rfl _ _ HR9.out ?_
                refine hK.out _ _ (fun e => absurd (e.symm.trans (by kernel_rfl) : false = true) Bool.false_ne_true) ?_
                clear hK K
                (try simp only [Act.put, List.setIfInBounds_toArray, List.set_cons_zero, List.set_cons_succ])
                refine wpAnyN_of_H (S' := fun _ => True) _ _ _ _ (by kernel_rfl) ?_
                refine wpAnyH_take (i := 10) (oi := { dst := some 10, op := Go.Op.assign (Go.Operand.tmp 92), type := 30, pos := "outright.go:43", after := #[{ on := 9, ground := Go.Ground.data }, { on := 9, ground := Go.Ground.chain }, { on := 0, ground := Go.Ground.phase }, { on := 1, ground := Go.Ground.phase }, { on := 2, ground := Go.Ground.phase }, { on := 3, ground := Go.Ground.phase }, { on := 4, ground := Go.Ground.phase }, { on := 5, ground := Go.Ground.phase }, { on := 6, ground := Go.Ground.phase }, { on := 7, ground := Go.Ground.phase }, { on := 8, ground := Go.Ground.phase }, { on := 9, ground := Go.Ground.phase }], guard := none }) (v := .slice a9 (L.length - 1) c9) rfl (by kernel_rfl) (by kernel_rfl) (by kernel_rfl) (fun _ _ _ h => h) (Or.inl ⟨by kernel_rfl, ?_⟩) trivial ?_
                · (intro X hX; go_simp; try (with_reducible rfl))
                (try simp only [Act.put, List.setIfInBounds_toArray, List.set_cons_zero, List.set_cons_succ])
                refine wpAnyH_done (by kernel_rfl) ?_ _
                --E List20a--
                go_wp2_with fail
                go_roundw
                case rel =>
                  have hlen : (L.take p ++ L.drop cl).length = L.length - 1 := by have := HPQ.out; rw [List.length_append, List.length_take, List.length_drop]; omega
                  refine ⟨j + 1, L.take p ++ L.drop cl, a9, c9, _, rfl, by rw [hlen], by have := HJl.out; omega, by go_num, ?_, by rw [← HSt.out]; exact HG1.out, by rw [hlen]; have := HLl.out; omega⟩
                  have := HRy.out.fresh HO9.out
                  rw [hlen]
                  exact this
                case measure => (have := HJl.out; simp [intOf]; omega)
            · obtain ⟨a5r, c5r, W5r, a9, c9, W9, hr5, hr9, ho9⟩ := cut_runs HRy.out.nms HPQ.out.1 HPQ.out.2.1 HLl.out q (cl - q) (.inl rfl)
              have HR5 := Lib.hid hr5
              have HR9 := Lib.hid hr9
              have HO9 := Lib.hid ho9
              have z1 : p ≤ cl := by omega
              have z2 : q ≤ cl := by omega
              have z3 : p ≤ L.length := by omega
              have z4 : q ≤ L.length := by omega
              have z5 : L.length ≤ cl := by omega
              have z6 : L.length ≤ 500000 := HLl.out
              clear hr5 hr9 ho9
              as_aux_lemma =>
                --R List20b--
                refine wp_region_N 9 (fun X => True) (by kernel_rfl) ?_
                refine wpAnyN_take (i := 1) (oi := { dst := some 84, op := Go.Op.move (Go.Operand.tmp 10), type := 30, pos := "outright.go:43", after := #[], guard := none }) (oL := { dst := some 92, op := Go.Op.call { callee := Go.Callee.builtin Go.Builtin.append, args := #[Go.Operand.tmp 88, Go.Operand.tmp 91], argTypes := #[30, 30] }, type := 30, pos := "outright.go:43", after := #[{ on := 5, ground := Go.Ground.data }, { on := 8, ground := Go.Ground.data }, { on := 5, ground := Go.Ground.chain }], guard := none }) (v := .slice (some ⟨gl, 0, none⟩) L.length cl) rfl rfl (by kernel_rfl) (by kernel_rfl) (by kernel_rfl) (by kernel_rfl) (fun _ _ _ h => h) (Or.inl ⟨by kernel_rfl, ?_⟩) trivial ?_
                · (intro X hX; skip <;> (go_simp; try (with_reducible rfl)))
                (try simp only [Act.put, List.setIfInBounds_toArray, List.set_cons_zero, List.set_cons_succ])
                refine wpAnyN_take (i := 2) (oi := { dst := some 85, op := Go.Op.move (Go.Operand.tmp 15), type := 3, pos := "outright.go:43", after := #[], guard := none }) (oL := { dst := some 92, op := Go.Op.call { callee := Go.Callee.builtin Go.Builtin.append, args := #[Go.Operand.tmp 88, Go.Operand.tmp 91], argTypes := #[30, 30] }, type := 30, pos := "outright.go:43", after := #[{ on := 5, ground := Go.Ground.data }, { on := 8, ground := Go.Ground.data }, { on := 5, ground := Go.Ground.chain }], guard := none }) (v := .int .i64 (q : Int)) rfl rfl (by kernel_rfl) (by kernel_rfl) (by kernel_rfl) (by kernel_rfl) (fun _ _ _ h => h) (Or.inl ⟨by kernel_rfl, ?_⟩) trivial ?_
                · (intro X hX; skip <;> (go_simp; try (with_reducible rfl)))
                (try simp only [Act.put, List.setIfInBounds_toArray, List.set_cons_zero, List.set_cons_succ])
                refine wpAnyN_take (i := 3) (oi := { dst := some 86, op := Go.Op.binOp Go.BinOp.sub 3 (Go.Operand.tmp 85) (Go.Operand.const (Go.Value.int Go.IntKind.i64 1)) 3, type := 3, pos := "outright.go:43", after := #[{ on := 2, ground := Go.Ground.data }], guard := none }) (oL := { dst := some 92, op := Go.Op.call { callee := Go.Callee.builtin Go.Builtin.append, args := #[Go.Operand.tmp 88, Go.Operand.tmp 91], argTypes := #[30, 30] }, type := 30, pos := "outright.go:43", after := #[{ on := 5, ground := Go.Ground.data }, { on := 8, ground := Go.Ground.data }, { on := 5, ground := Go.Ground.chain }], guard := none }) (v := .int .i64 (p : Int)) rfl rfl (by kernel_rfl) (by kernel_rfl) (by kernel_rfl) (by kernel_rfl) (fun _ _ _ h => h) (Or.inl ⟨by kernel_rfl, ?_⟩) trivial ?_
                · (intro X hX; skip <;> (go_simp; try (with_reducible rfl)))
                (try simp only [Act.put, List.setIfInBounds_toArray, List.set_cons_zero, List.set_cons_succ])
                refine wpAnyN_take (i := 4) (oi := { dst := some 87, op := Go.Op.slice 30 (Go.Operand.tmp 84) none (some (Go.Operand.tmp 86)) none, type := 30, pos := "outright.go:43", after := #[{ on := 1, ground := Go.Ground.data }, { on := 3, ground := Go.Ground.data }], guard := none }) (oL := { dst := some 92, op := Go.Op.call { callee := Go.Callee.builtin Go.Builtin.append, args := #[Go.Operand.tmp 88, Go.Operand.tmp 91], argTypes := #[30, 30] }, type := 30, pos := "outright.go:43", after := #[{ on := 5, ground := Go.Ground.data }, { on := 8, ground := Go.Ground.data }, { on := 5, ground := Go.Ground.chain }], guard := none }) (v := .slice (some ⟨gl, 0, none⟩) p cl) rfl rfl (by kernel_rfl) (by kernel_rfl) (by kernel_rfl) (by kernel_rfl) (fun _ _ _ h => h) (Or.inl ⟨by kernel_rfl, ?_⟩) trivial ?_
                · (intro X hX; skip <;> (go_simp; try (with_reducible rfl)))
                (try simp only [Act.put, List.setIfInBounds_toArray, List.set_cons_zero, List.set_cons_succ])
                refine wpAnyN_take (i := 6) (oi := { dst := some 89, op := Go.Op.move (Go.Operand.tmp 10), type := 30, pos := "outright.go:43", after := #[], guard := none }) (oL := { dst := some 92, op := Go.Op.call { callee := Go.Callee.builtin Go.Builtin.append, args := #[Go.Operand.tmp 88, Go.Operand.tmp 91], argTypes := #[30, 30] }, type := 30, pos := "outright.go:43", after := #[{ on := 5, ground := Go.Ground.data }, { on := 8, ground := Go.Ground.data }, { on := 5, ground := Go.Ground.chain }], guard := none }) (v := .slice (some ⟨gl, 0, none⟩) L.length cl) rfl rfl (by kernel_rfl) (by kernel_rfl) (by kernel_rfl) (by kernel_rfl) (fun _ _ _ h => h) (Or.inl ⟨by kernel_rfl, ?_⟩) trivial ?_
                · (intro X hX; skip <;> (go_simp; try (with_reducible rfl)))
                (try simp only [Act.put, List.setIfInBounds_toArray, List.set_cons_zero, List.set_cons_succ])
                refine wpAnyN_take (i := 7) (oi := { dst := some 90, op := Go.Op.move (Go.Operand.tmp 15), type := 3, pos := "outright.go:43", after := #[], guard := none }) (oL := { dst := some 92, op := Go.Op.call { callee := Go.Callee.builtin Go.Builtin.append, args := #[Go.Operand.tmp 88, Go.Operand.tmp 91], argTypes := #[30, 30] }, type := 30, pos := "outright.go:43", after := #[{ on := 5, ground := Go.Ground.data }, { on := 8, ground := Go.Ground.data }, { on := 5, ground := Go.Ground.chain }], guard := none }) (v := .int .i64 (q : Int)) rfl rfl (by kernel_rfl) (by kernel_rfl) (by kernel_rfl) (by kernel_rfl) (fun _ _ _ h => h) (Or.inl ⟨by kernel_rfl, ?_⟩) trivial ?_
                · (intro X hX; skip <;> (go_simp; try (with_reducible rfl)))
                (try simp only [Act.put, List.setIfInBounds_toArray, List.set_cons_zero, List.set_cons_succ])
                refine wpAnyN_take (i := 8) (oi := { dst := some 91, op := Go.Op.slice 30 (Go.Operand.tmp 89) (some (Go.Operand.tmp 90)) none none, type := 30, pos := "outright.go:43", after := #[{ on := 6, ground := Go.Ground.data }, { on := 7, ground := Go.Ground.data }], guard := none }) (oL := { dst := some 92, op := Go.Op.call { callee := Go.Callee.builtin Go.Builtin.append, args := #[Go.Operand.tmp 88, Go.Operand.tmp 91], argTypes := #[30, 30] }, type := 30, pos := "outright.go:43", after := #[{ on := 5, ground := Go.Ground.data }, { on := 8, ground := Go.Ground.data }, { on := 5, ground := Go.Ground.chain }], guard := none }) (v := .slice (some ⟨gl, q, none⟩) (L.length - q) (cl - q)) rfl rfl (by kernel_rfl) (by kernel_rfl) (by kernel_rfl) (by kernel_rfl) (fun _ _ _ h => h) (Or.inl ⟨by kernel_rfl, ?_⟩) trivial ?_
                · (intro X hX; skip <;> (go_simp; try (with_reducible rfl)))
                (try simp only [Act.put, List.setIfInBounds_toArray, List.set_cons_zero, List.set_cons_succ])
                refine wpAnyN_one (i := 0) (o := { dst := some 83, op := Go.Op.buildSlice 30 0 #[], type := 30, pos := "outright.go:43", after := #[], guard := none }) (by kernel_rfl) rfl (fun K hK => ?_)
                go_simp
                refine hK.out _ _ (fun _ => trivial) ?_
                clear hK K
                (try simp only [Act.put, List.setIfInBounds_toArray, List.set_cons_zero, List.set_cons_succ])
                refine wpAnyN_one (i := 5) (o := { dst := some 88, op := Go.Op.call { callee := Go.Callee.builtin Go.Builtin.append, args := #[Go.Operand.tmp 83, Go.Operand.tmp 87], argTypes := #[30, 30] }, type := 30, pos := "outright.go:43", after := #[{ on := 0, ground := Go.Ground.data }, { on := 4, ground := Go.Ground.data }], guard := none }) (by kernel_rfl) rfl (fun K hK => ?_)
                refine step_append_run (u := .slice (some ⟨Y.heap.size, 0, none⟩) 0 0) (v := .slice (some ⟨gl, 0, none⟩) p cl) rfl _ _ _ rfl 30 rfl rfl rfl _ _ HR5.out ?_
                refine hK.out _ _ (fun _ => trivial) ?_
                clear hK K
                (try simp only [Act.put, List.setIfInBounds_toArray, List.set_cons_zero, List.set_cons_succ])
                refine wpAnyN_one (i := 9) (o := { dst := some 92, op := Go.Op.call { callee := Go.Callee.builtin Go.Builtin.append, args := #[Go.Operand.tmp 88, Go.Operand.tmp 91], argTypes := #[30, 30] }, type := 30, pos := "outright.go:43", after := #[{ on := 5, ground := Go.Ground.data }, { on := 8, ground := Go.Ground.data }, { on := 5, ground := Go.Ground.chain }], guard := none }) (by kernel_rfl) rfl (fun K hK => ?_)
                refine step_append_run (u := .slice a5r p c5r) (v := .slice (some ⟨gl, q, none⟩) (L.length - q) (cl - q)) rfl _ _ _ rfl 30 rfl rfl rfl _ _ HR9.out ?_
                refine hK.out _ _ (fun e => absurd (e.symm.trans (by kernel_rfl) : false = true) Bool.false_ne_true) ?_
                clear hK K
                (try simp only [Act.put, List.setIfInBounds_toArray, List.set_cons_zero, List.set_cons_succ])
                refine wpAnyN_of_H (S' := fun _ => True) _ _ _ _ (by kernel_rfl) ?_
                refine wpAnyH_take (i := 10) (oi := { dst := some 10, op := Go.Op.assign (Go.Operand.tmp 92), type := 30, pos := "outright.go:43", after := #[{ on := 9, ground := Go.Ground.data }, { on := 9, ground := Go.Ground.chain }, { on := 0, ground := Go.Ground.phase }, { on := 1, ground := Go.Ground.phase }, { on := 2, ground := Go.Ground.phase }, { on := 3, ground := Go.Ground.phase }, { on := 4, ground := Go.Ground.phase }, { on := 5, ground := Go.Ground.phase }, { on := 6, ground := Go.Ground.phase }, { on := 7, ground := Go.Ground.phase }, { on := 8, ground := Go.Ground.phase }, { on := 9, ground := Go.Ground.phase }], guard := none }) (v := .slice a9 (L.length - 1) c9) rfl (by kernel_rfl) (by kernel_rfl) (by kernel_rfl) (fun _ _ _ h => h) (Or.inl ⟨by kernel_rfl, ?_⟩) trivial ?_
                · (intro X hX; go_simp; try (with_reducible rfl))
                (try simp only [Act.put, List.setIfInBounds_toArray, List.set_cons_zero, List.set_cons_succ])
                refine wpAnyH_done (by kernel_rfl) ?_ _
                --E List20b--
                go_wp2_with fail
                go_roundw
                case rel =>
                  have hlen : (L.take p ++ L.drop q).length = L.length - 1 := by have := HPQ.out; rw [List.length_append, List.length_take, List.length_drop]; omega
                  refine ⟨j + 1, L.take p ++ L.drop q, a9, c9, _, rfl, by rw [hlen], by have := HJl.out; omega, by go_num, ?_, by rw [← HSt.out]; exact HG1.out, by rw [hlen]; have := HLl.out; omega⟩
                  have := HRy.out.fresh HO9.out
                  rw [hlen]
                  exact this
                case measure => (have := HJl.out; simp [intOf]; omega)
          · have b1 : (t.kind == 1) = false := by simpa using k1
            by_cases k2 : t.kind = 2
            ·
              as_aux_lemma =>
                obtain ⟨hn, hlt2⟩ := HOk.out.2 k2
                obtain ⟨g7, rfl⟩ := HA7.out (by omega)
                have HSt : Hid (stepT (uidsP V2) L t = L ++ (uidsP V2).drop L.length) := Lib.hid (by unfold stepT; rw [if_neg k1, if_pos k2])
                have hul := HUl.out.2
                have hcl7 := HC7.out
                have hld : ((uidsP V2).drop L.length).length = (uidsP V2).length - L.length := List.length_drop
                obtain ⟨a9, c9, W9, hr9, hw9, hg9, hout9⟩ := app_own HR.out.row HR.out.base (l2 := (uidsP V2).drop L.length) g7 L.length (c7 - L.length) (fun i hi => by
                  rw [hld] at hi
                  obtain ⟨a6, c6, e6, hx6⟩ := HNw.out _ _ _ HR.out
                  injection e6 with p1 p2 p3
                  obtain ⟨g6, o6, e7, hg6, hc6⟩ := hx6 (by omega)
                  rw [e7] at p1
                  injection p1 with p1
                  injection p1 with p1 p4
                  have := hc6 (L.length + i) (by omega)
                  rw [← p1, ← p4, Nat.zero_add] at this
                  rw [this, List.getD_eq_getElem?_getD, List.getD_eq_getElem?_getD, List.getElem?_drop]) (by rw [hld]; omega)
                rw [hld] at hr9
                have HR9 := Lib.hid hr9
                have HL9 : Hid (LR W1.heap.size (Value.slice ao U.length co).ownBlock w0 (.slice a9 (L ++ (uidsP V2).drop L.length).length c9) (L ++ (uidsP V2).drop L.length) W9) := Lib.hid (HR.out.grow hw9 hg9 hout9)
                have HLen : Hid ((L ++ (uidsP V2).drop L.length).length ≤ 500000) := Lib.hid (by rw [List.length_append, hld]; omega)
                rw [k2] at ck
                rw [hn] at cn
                have hnn : (((uidsP V2).length : Int) != ((uidsP V2).length : Int)) = false := by simp
                have hge : ¬ ((uidsP V2).length : Int) ≤ (L.length : Int) := by omega
                have z1 : L.length ≤ (uidsP V2).length := by omega
                have z2 : (uidsP V2).length ≤ c7 := by omega
                have z3 : L.length ≤ c7 := by omega
                have z4 : ¬ c7 = L.length := by omega
                clear hr9 hw9 hg9 hout9 hn hlt2 hcl7 hld k1 b1 k2 hul
                generalize (L ++ (uidsP V2).drop L.length) = L9 at *
                go_wp2_with (at_builtin; refine append_by_run (u := .slice al L.length cl) (v := .slice (some ⟨g7, L.length, none⟩) ((uidsP V2).length - L.length) (c7 - L.length)) rfl _ _ _ rfl 30 rfl rfl rfl _ _ HR9.out ?_)
                go_roundw
                case rel => exact ⟨j + 1, L9, a9, c9, _, rfl, rfl, by have := HJl.out; omega, by go_num, HL9.out, by rw [← HSt.out]; exact HG1.out, HLen.out⟩
                case measure => (have := HJl.out; simp [intOf]; omega)
            · have b2 : (t.kind == 2) = false := by simpa using k2
              have HSt : Hid (stepT (uidsP V2) L t = L) := Lib.hid (by unfold stepT; rw [if_neg k1, if_neg k2])
              by_cases k4 : t.kind = 4
              ·
                as_aux_lemma =>
                  obtain ⟨p, hn, hp, hx⟩ := HOk.out.1 (.inr k4)
                  obtain ⟨q, hq⟩ : ∃ q, q = p + 1 := ⟨_, rfl⟩
                  have hnq : t.num = (q : Int) := by rw [hn, hq]; push_cast; rfl
                  have hrow := HR.out.row
                  obtain ⟨gl, rfl, hlc⟩ : ∃ gl, al = some ⟨gl, 0, none⟩ ∧ L.length ≤ cl := by
                    rcases hrow.2 with ⟨e, h0⟩ | ⟨g, cap, cur, e, _, _, hcap, _⟩
                    · omega
                    · injection e with p1 p2 p3
                      exact ⟨g, p1, by omega⟩
                  have hx00 : X.cell? ⟨gl, p, none⟩ = some (.int .i64 t.uid) := by
                    obtain ⟨a6, c6, e6, hx6⟩ := nms_of hrow
                    injection e6 with p1 p2 p3
                    obtain ⟨g6, o6, e7, hg6, hc6⟩ := hx6 (by omega)
                    rw [e7] at p1
                    injection p1 with p1
                    injection p1 with p1 p4
                    have := hc6 p hp
                    rw [← p1, ← p4, Nat.zero_add, hx] at this
                    exact this
                  rw [k4] at ck
                  rw [hnq] at cn
                  have hip : (q : Int) - 1 = (p : Int) := by omega
                  have hpw : IntKind.i64.wrap (p : Int) = (p : Int) := by simp only [IntKind.wrap, IntKind.signed, IntKind.bits]; simp; omega
                  have hd1 : ¬ (q : Int) < 1 := by omega
                  have hd2 : ¬ (L.length : Int) < (q : Int) := by omega
                  have hd1d : decide ((q : Int) < 1) = false := by simpa using hd1
                  have hd2d : decide ((L.length : Int) < (q : Int)) = false := by simp; omega
                  have hd2n : decide (L.length < q) = false := by simp; omega
                  have hd1n : decide (q < 1) = false := by simp; omega
                  have hpm : (p : Int) < (L.length : Int) := by omega
                  have hp0 : (0 : Int) ≤ (p : Int) := by omega
                  clear k1 k2 k4 b1 b2 hn hx hnq hrow hq hp
                  generalize t.uid = x at *
                  have hxx : (x != x) = false := by simp
                  go_upto_region 27 with fail
                  go_cut [143] (fun c wx => ∃ Y, Y = wx ∧ c = .bool false ∧ ∃ n, Y = X.drewN n)
                  case first =>
                    go_quiet (fail)
                    go_wp2_with fail
                    go_meet
                    case rel => exact ⟨_, rfl, rfl, _, rfl⟩
                  case rest =>
                  obtain ⟨Y, hY, rfl, nd, hnd⟩ := hcut
                  subst hY
                  have HRy : Hid (LR W1.heap.size (Value.slice ao U.length co).ownBlock w0 (.slice (some ⟨gl, 0, none⟩) L.length cl) L Y) := Lib.hid (by rw [hnd]; exact HR.out.drewN nd)
                  clear hnd HR hx00 ck cn cu hxx hd1 hd2 hd1d hd2d hd2n hd1n
                  go_wp2_with fail
                  go_roundw
                  case rel => exact ⟨j + 1, L, _, _, _, rfl, rfl, by have := HJl.out; omega, by go_num, HRy.out, by rw [← HSt.out]; exact HG1.out, HLl.out⟩
                  case measure => (have := HJl.out; simp [intOf]; omega)
              ·
                as_aux_lemma =>
                  have b4 : (t.kind == 4) = false := by simpa using k4
                  clear k1 k2 k4
                  go_wp2_with fail
                  go_roundw
                  case rel => exact ⟨j + 1, L, _, _, _, rfl, rfl, by have := HJl.out; omega, by go_num, HR.out, by rw [← HSt.out]; exact HG1.out, HLl.out⟩
                  case measure => (have := HJl.out; simp [intOf]; omega)
        · obtain rfl : j = T.length := by omega
          as_aux_lemma =>
            have hLe : L = uidsP V2 := by rw [List.drop_length] at hgd; exact hgd
            subst hLe
            have HN1 := Lib.hid (HNw.out _ _ _ hlr)
            have HBk1 := Lib.hid (HBk.out _ _ _ hlr)
            have HAl : Hid (Calls Try.prog 12 #[.slice al (uidsP V2).length cl, .slice a7 (uidsP V2).length c7] X fun e w' => e = .returned (.bool true) ∧ LV W1 P V2 (.slice al (uidsP V2).length cl) (uidsP V2) w') := Lib.hid ((alike_any _ _ (uidsP V2) (uidsP V2) X HBk1.out.nms HN1.out (by omega)).mono (fun e w' ⟨r1, r2⟩ => ⟨by rw [r1, decide_eq_true rfl], HBk1.out.on r2⟩))
            clear hlr hgd HR HN1 HBk1
            go_wp2_with (go_at_call 12; refine HAl.out.mono ?_; rintro e w8 ⟨rfl, hw8⟩; have HW8 := Lib.hid hw8; clear hw8)
            go_roundw
            case rel => exact ⟨k + 1, V2, al, cl, _, rfl, by have := HK.out; omega, rfl, by go_num, HW8.out, HP2.out⟩
            case measure => (have := HK.out; simp [intOf]; omega)
    · obtain rfl : k = S.length := by omega
      as_aux_lemma =>
        have HKw := Lib.hid (HKn.out X hlv.below)
        clear hlv hpk
        go_wp2_with (go_at_call 13; refine HKw.out.mono ?_; rintro e w9 ⟨rfl, hb9⟩; have HB9 := Lib.hid hb9; clear hb9)
        go_ret
        exact ⟨rfl, HB9.out⟩
end Go.Proofs.Ytiphbnmnoofpkaa
