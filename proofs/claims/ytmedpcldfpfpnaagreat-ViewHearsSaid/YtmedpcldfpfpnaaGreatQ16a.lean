/- view, plain: a view's rows, what is coming, what each call makes of it. Nothing of the program. -/
import Derived.WalkKit
import Derived.Test.YtmedpcldfpfpnaaGreatVa
import Derived.Laws.OwnMore
import Derived.Maps.AppendAt
import Derived.Below
import Derived.Lib.Walk
import Derived.Deep.LoopGhost
import Derived.Lib.SliceRun
import Derived.BigFrame
namespace Go.Proofs.YtmedpcldfpfpnaaGreat

structure PR where
  uid : Int
  gone : Bool
  rct : Bool
  wt : Option (Int × List ByteArray)
structure PV where
  val : Int
  rows : List PR
  com : List Int
def uidsP (V : PV) : List Int := V.rows.map PR.uid
def lastD : List Int → Int → Int
  | [], m => m
  | x :: r, _ => lastD r x
theorem lastD_snoc : ∀ (l : List Int) (x m : Int), lastD (l ++ [x]) m = x
  | [], _, _ => rfl
  | _ :: r, x, _ => lastD_snoc r x _
theorem lastD_append : ∀ (a b : List Int) (m : Int), lastD (a ++ b) m = lastD b (lastD a m)
  | [], _, _ => rfl
  | _ :: r, b, _ => lastD_append r b _
theorem lastD_getD : ∀ (l : List Int) (m : Int), l ≠ [] → lastD l m = l.getD (l.length - 1) 0
  | [], _, h => absurd rfl h
  | [x], _, _ => rfl
  | x :: y :: r, _, _ => by
    have := lastD_getD (y :: r) x (by simp)
    show lastD (y :: r) x = _
    rw [this]
    simp
/-- Strictly rising, above m. -/
def riseF : Int → List Int → Prop
  | _, [] => True
  | m, x :: r => m < x ∧ riseF x r
theorem riseF_append : ∀ (a b : List Int) (m : Int), riseF m (a ++ b) ↔ riseF m a ∧ riseF (lastD a m) b
  | [], b, m => by simp [riseF, lastD]
  | x :: r, b, m => by
    show (m < x ∧ riseF x (r ++ b)) ↔ _
    rw [riseF_append r b x]
    simp only [riseF, lastD, and_assoc]
theorem riseF_le : ∀ {l : List Int} {m m' : Int}, m' ≤ m → riseF m l → riseF m' l
  | [], _, _, _, _ => trivial
  | _ :: _, _, _, h, ⟨a, b⟩ => ⟨by omega, b⟩
theorem riseF_gt : ∀ {l : List Int} {m x : Int}, riseF m l → x ∈ l → m < x
  | y :: r, m, x, ⟨a, b⟩, h => by
    rcases List.mem_cons.1 h with rfl | h
    · exact a
    · have := riseF_gt b h; omega
theorem riseF_last : ∀ {l : List Int} {m x : Int}, riseF m l → x ∈ l → x ≤ lastD l m
  | [y], m, x, ⟨a, b⟩, h => by
    rcases List.mem_cons.1 h with rfl | h
    · exact Int.le_refl _
    · cases h
  | y :: z :: r, m, x, ⟨a, b⟩, h => by
    show x ≤ lastD (z :: r) y
    rcases List.mem_cons.1 h with e | h
    · have h1 := riseF_last b (x := z) List.mem_cons_self
      have h2 := b.1
      rw [e]
      omega
    · exact riseF_last b h
theorem riseF_sub : ∀ {l k : List Int} {m : Int}, riseF m l → k.Sublist l → riseF m k
  | [], k, m, _, h => by rw [List.sublist_nil.1 h]; trivial
  | x :: r, k, m, ⟨a, b⟩, h => by
    cases h with
    | cons _ h => exact riseF_le (by omega) (riseF_sub b h)
    | cons_cons _ h => exact ⟨a, riseF_sub b h⟩
theorem riseF_getD : ∀ {l : List Int} {m : Int} (_ : riseF m l) (i j : Nat), i < j → j < l.length → l.getD i 0 < l.getD j 0
  | [], _, _, _, _, _, h => by simp at h
  | x :: r, m, ⟨a, b⟩, i, j, hij, hj => by
    cases j with
    | zero => omega
    | succ j =>
      have hj' : j < r.length := by simpa using hj
      cases i with
      | zero =>
        simp only [List.getD_cons_zero, List.getD_cons_succ]
        refine riseF_gt b ?_
        rw [List.getD_eq_getElem?_getD, List.getElem?_eq_getElem hj']
        exact List.getElem_mem hj'
      | succ i => simpa only [List.getD_cons_succ] using riseF_getD b i j (by omega) hj'
theorem riseF_nodup : ∀ {l : List Int} {m : Int}, riseF m l → l.Nodup
  | [], _, _ => List.nodup_nil
  | x :: r, m, ⟨_, b⟩ => List.nodup_cons.2 ⟨fun h => by have := riseF_gt b h; omega, riseF_nodup b⟩

def topP (V : PV) : Int := lastD V.com (lastD (uidsP V) 0)
def comeP (V : PV) (u : Int) : PV := if topP V < u ∧ u < 4294967295 then { V with com := V.com ++ [u] } else V
def comesP (V : PV) (us : List Int) : PV := us.foldl comeP V
def fol : Int → Nat → List Int
  | _, 0 => []
  | f, n + 1 => if f < 4294967295 then f :: fol (f + 1) n else []
def goR (u : Int) (r : PR) : PR := if r.uid = u then { r with gone := true, wt := none } else r
def leave1 (V : PV) (u : Int) : PV := { V with rows := V.rows.map (goR u), com := V.com.filter (fun x => x != u) }
def leavesP (V : PV) (us : List Int) : PV := us.foldl leave1 V
def turnR (n : Int) (own : Bool) (m : Int × List ByteArray) (r : PR) : PR :=
  if r.uid = m.1 ∧ r.gone = false ∧ (own = false ∨ r.wt.isSome = true) then { r with wt := some (n, m.2) } else r
def mark1 (n : Int) (own : Bool) (V : PV) (m : Int × List ByteArray) : PV := { V with rows := V.rows.map (turnR n own m) }
def marksP (V : PV) (n : Int) (own : Bool) (ms : List (Int × List ByteArray)) : PV := ms.foldl (mark1 n own) V
def newR (recent u : Int) : PR := ⟨u, false, decide (recent ≤ u), none⟩
def settleP (V : PV) (recent : Int) : PV := { V with rows := V.rows ++ V.com.map (newR recent), com := [] }
def newP (val : Int) (us : List Int) (recent : Int) : PV := settleP (comesP ⟨val, [], []⟩ us) recent

/-- What is plain of an event, as far as a view hears it. -/
structure PEv where
  num : Int
  kind : Int
  box : Int
  dst : Int
  first : Int
  uids : List Int
  marks : List (Int × List ByteArray)
def hearP (V : PV) (e : PEv) (own : Bool) : PV :=
  if e.kind = 4 then (if e.box = V.val then { leavesP V (uidsP V) with com := [] } else V)
  else if e.kind = 5 then (if e.box = V.val then comeP V e.first else V)
  else if e.kind = 6 then (if e.box = V.val then marksP V e.num own e.marks else V)
  else if e.kind = 7 then (if e.box = V.val then leavesP V e.uids else V)
  else if e.kind = 8 then (if e.dst = V.val then comesP V (fol e.first e.uids.length) else V)
  else if e.kind = 9 then
    (let V1 := if e.dst = V.val then comesP V (fol e.first e.uids.length) else V
     if e.box = V.val then leavesP V1 e.uids else V1)
  else V

structure Td where
  kind : Int
  num : Int
  uid : Int
  mod : Int
  fl : List ByteArray
def goneT : Nat → List PR → List Td
  | _, [] => []
  | n, r :: rs => if r.gone = true then ⟨1, (n : Int) + 1, r.uid, 0, []⟩ :: goneT n rs else goneT (n + 1) rs
def stayR (l : List PR) : List PR := l.filter (fun r => !r.gone)
def newT (V : PV) (recent : Int) : List Td :=
  if V.com = [] then [] else [⟨2, ((settleP V recent).rows.length : Int), 0, 0, []⟩, ⟨3, (((settleP V recent).rows.filter PR.rct).length : Int), 0, 0, []⟩]
def flagT : Nat → List PR → List Td
  | _, [] => []
  | n, r :: rs => (if r.gone = true then [] else match r.wt with | none => [] | some t => [⟨4, (n : Int) + 1, r.uid, t.1, t.2⟩]) ++ flagT (n + 1) rs
def calmR (r : PR) : PR := if r.gone = true then r else { r with wt := none }
def goneV (V : PV) (w : Int) : PV := if w = 2 then { V with rows := stayR V.rows } else V
def goneD (V : PV) (w : Int) : List Td := if w = 2 then goneT 0 V.rows else []
def takeV (V : PV) (w recent : Int) : PV := if w = 1 ∨ w = 2 then (let V2 := settleP (goneV V w) recent; { V2 with rows := V2.rows.map calmR }) else V
def takeT (V : PV) (w recent : Int) : List Td :=
  if w = 1 ∨ w = 2 then goneD V w ++ (newT (goneV V w) recent ++ flagT 0 (settleP (goneV V w) recent).rows) else []

/-- What stays true of a view. -/
structure PVok (V : PV) (N : Nat) : Prop where
  rise : riseF 0 (uidsP V ++ V.com)
  top : ∀ x ∈ uidsP V ++ V.com, x < 4294967295
  len : V.rows.length + V.com.length ≤ N
theorem uidsP_length (V : PV) : (uidsP V).length = V.rows.length := by simp [uidsP]
theorem PVok.mono {V : PV} {N M : Nat} (h : PVok V N) (hm : N ≤ M) : PVok V M := ⟨h.rise, h.top, Nat.le_trans h.len hm⟩
theorem topP_eq (V : PV) : topP V = lastD (uidsP V ++ V.com) 0 := by unfold topP; rw [lastD_append]
theorem comeP_ok {V : PV} {N : Nat} (h : PVok V N) (u : Int) : PVok (comeP V u) (N + 1) := by
  unfold comeP
  split
  · rename_i hu
    refine ⟨?_, ?_, ?_⟩
    · show riseF 0 (uidsP V ++ (V.com ++ [u]))
      rw [← List.append_assoc, riseF_append, ← topP_eq]
      exact ⟨h.rise, hu.1, trivial⟩
    · intro x hx
      change x ∈ uidsP V ++ (V.com ++ [u]) at hx
      rw [← List.append_assoc, List.mem_append] at hx
      rcases hx with hx | hx
      · exact h.top x hx
      · simp at hx; omega
    · have := h.len
      simp only [List.length_append, List.length_cons, List.length_nil]; omega
  · exact h.mono (by omega)
theorem comesP_ok : ∀ {us : List Int} {V : PV} {N : Nat}, PVok V N → PVok (comesP V us) (N + us.length)
  | [], V, N, h => h
  | u :: us, V, N, h => by
    have := comesP_ok (us := us) (comeP_ok h u)
    exact this.mono (by simp only [List.length_cons]; omega)
theorem goR_uid (u : Int) (r : PR) : (goR u r).uid = r.uid := by unfold goR; split <;> rfl
theorem turnR_uid (n : Int) (own : Bool) (m : Int × List ByteArray) (r : PR) : (turnR n own m r).uid = r.uid := by unfold turnR; split <;> rfl
theorem calmR_uid (r : PR) : (calmR r).uid = r.uid := by unfold calmR; split <;> rfl
theorem map_uid {f : PR → PR} (hf : ∀ r, (f r).uid = r.uid) (l : List PR) : (l.map f).map PR.uid = l.map PR.uid := by
  rw [List.map_map]; exact List.map_congr_left fun r _ => hf r
theorem leave1_uids (V : PV) (u : Int) : uidsP (leave1 V u) = uidsP V := map_uid (goR_uid u) _
theorem leave1_ok {V : PV} {N : Nat} (h : PVok V N) (u : Int) : PVok (leave1 V u) N := by
  have hs : (uidsP (leave1 V u) ++ (leave1 V u).com).Sublist (uidsP V ++ V.com) := by
    rw [leave1_uids]
    exact List.Sublist.append (List.Sublist.refl _) List.filter_sublist
  refine ⟨riseF_sub h.rise hs, fun x hx => h.top x (hs.subset hx), ?_⟩
  have h1 : (leave1 V u).rows.length = V.rows.length := by simp [leave1]
  have h2 : (leave1 V u).com.length ≤ V.com.length := List.length_filter_le _ _
  have := h.len
  omega
theorem leavesP_uids : ∀ (us : List Int) (V : PV), uidsP (leavesP V us) = uidsP V
  | [], _ => rfl
  | u :: us, V => (leavesP_uids us (leave1 V u)).trans (leave1_uids V u)
theorem leavesP_val : ∀ (us : List Int) (V : PV), (leavesP V us).val = V.val
  | [], _ => rfl
  | u :: us, V => leavesP_val us (leave1 V u)
theorem comeP_rows (V : PV) (u : Int) : (comeP V u).rows = V.rows := by unfold comeP; split <;> rfl
theorem comeP_val (V : PV) (u : Int) : (comeP V u).val = V.val := by unfold comeP; split <;> rfl
theorem comesP_rows : ∀ (us : List Int) (V : PV), (comesP V us).rows = V.rows
  | [], _ => rfl
  | u :: us, V => (comesP_rows us (comeP V u)).trans (comeP_rows V u)
theorem comesP_val : ∀ (us : List Int) (V : PV), (comesP V us).val = V.val
  | [], _ => rfl
  | u :: us, V => (comesP_val us (comeP V u)).trans (comeP_val V u)
theorem leavesP_ok : ∀ {us : List Int} {V : PV} {N : Nat}, PVok V N → PVok (leavesP V us) N
  | [], _, _, h => h
  | u :: us, _, _, h => leavesP_ok (us := us) (leave1_ok h u)
theorem mark1_uids (n : Int) (own : Bool) (V : PV) (m : Int × List ByteArray) : uidsP (mark1 n own V m) = uidsP V := map_uid (turnR_uid n own m) _
theorem mark1_ok {V : PV} {N : Nat} (h : PVok V N) (n : Int) (own : Bool) (m : Int × List ByteArray) : PVok (mark1 n own V m) N := by
  have hu := mark1_uids n own V m
  refine ⟨by rw [hu]; exact h.rise, by rw [hu]; exact h.top, ?_⟩
  have h1 : (mark1 n own V m).rows.length = V.rows.length := by simp [mark1]
  have := h.len
  show (mark1 n own V m).rows.length + V.com.length ≤ N
  omega
theorem marksP_ok : ∀ {ms : List (Int × List ByteArray)} {V : PV} {N : Nat} (_ : PVok V N) (n : Int) (own : Bool), PVok (marksP V n own ms) N
  | [], _, _, h, _, _ => h
  | m :: ms, _, _, h, n, own => marksP_ok (ms := ms) (mark1_ok h n own m) n own
theorem marksP_uids : ∀ (ms : List (Int × List ByteArray)) (V : PV) (n : Int) (own : Bool), uidsP (marksP V n own ms) = uidsP V
  | [], _, _, _ => rfl
  | m :: ms, V, n, own => (marksP_uids ms (mark1 n own V m) n own).trans (mark1_uids n own V m)
theorem marksP_val : ∀ (ms : List (Int × List ByteArray)) (V : PV) (n : Int) (own : Bool), (marksP V n own ms).val = V.val
  | [], _, _, _ => rfl
  | m :: ms, V, n, own => marksP_val ms (mark1 n own V m) n own
theorem settle_uids (V : PV) (r : Int) : uidsP (settleP V r) = uidsP V ++ V.com := by
  simp [uidsP, settleP, Function.comp_def, newR]
theorem settleP_ok {V : PV} {N : Nat} (h : PVok V N) (r : Int) : PVok (settleP V r) N := by
  have hu := settle_uids V r
  have hc : (settleP V r).com = [] := rfl
  refine ⟨by rw [hu, hc, List.append_nil]; exact h.rise, by rw [hu, hc, List.append_nil]; exact h.top, ?_⟩
  have := h.len
  simp [settleP]; omega
theorem fol_length : ∀ (n : Nat) (f : Int), (fol f n).length ≤ n
  | 0, _ => Nat.le_refl _
  | n + 1, f => by
    unfold fol
    split
    · have := fol_length n (f + 1); simp only [List.length_cons]; omega
    · simp
theorem hearP_val (V : PV) (e : PEv) (own : Bool) : (hearP V e own).val = V.val := by
  unfold hearP
  repeat' split
  all_goals (first | rfl | exact leavesP_val _ _ | exact comeP_val _ _ | exact marksP_val _ _ _ _ | exact comesP_val _ _ | exact (leavesP_val _ _).trans (comesP_val _ _))
theorem hearP_uids (V : PV) (e : PEv) (own : Bool) : uidsP (hearP V e own) = uidsP V := by
  unfold hearP
  repeat' split
  all_goals (first | rfl | exact leavesP_uids _ _ | (unfold uidsP; rw [comeP_rows]) | exact marksP_uids _ _ _ _ | (unfold uidsP; rw [comesP_rows]) | (rw [leavesP_uids]; unfold uidsP; rw [comesP_rows]))
theorem comFree_ok {V : PV} {N : Nat} (h : PVok V N) : PVok { V with com := [] } N := by
  have hs : (uidsP { V with com := [] } ++ []).Sublist (uidsP V ++ V.com) := List.Sublist.append (List.Sublist.refl _) (List.nil_sublist _)
  refine ⟨riseF_sub h.rise hs, fun x hx => h.top x (hs.subset hx), ?_⟩
  have := h.len
  show V.rows.length + 0 ≤ N
  omega
theorem hearP_ok {V : PV} {N : Nat} (h : PVok V N) (e : PEv) (own : Bool) : PVok (hearP V e own) (N + (1 + e.uids.length)) := by
  have hf := fol_length e.uids.length e.first
  have hc := comesP_ok (us := fol e.first e.uids.length) h
  unfold hearP
  repeat' split
  all_goals (first | exact h.mono (by omega) | exact (comFree_ok (leavesP_ok h)).mono (by omega) | exact (leavesP_ok h).mono (by omega) | exact (comeP_ok h _).mono (by omega) | exact (marksP_ok h _ _).mono (by omega) | exact hc.mono (by omega) | exact (leavesP_ok hc).mono (by omega))
theorem stay_ok {V : PV} {N : Nat} (h : PVok V N) : PVok { V with rows := stayR V.rows } N := by
  have hs : (uidsP { V with rows := stayR V.rows } ++ V.com).Sublist (uidsP V ++ V.com) := List.Sublist.append (List.filter_sublist.map _) (List.Sublist.refl _)
  refine ⟨riseF_sub h.rise hs, fun x hx => h.top x (hs.subset hx), ?_⟩
  have h1 : (stayR V.rows).length ≤ V.rows.length := List.length_filter_le _ _
  have := h.len
  show (stayR V.rows).length + V.com.length ≤ N
  omega
theorem goneV_ok {V : PV} {N : Nat} (h : PVok V N) (w : Int) : PVok (goneV V w) N := by
  unfold goneV
  split
  · exact stay_ok h
  · exact h
theorem calm_ok {V : PV} {N : Nat} (h : PVok V N) : PVok { V with rows := V.rows.map calmR } N := by
  have hu : uidsP { V with rows := V.rows.map calmR } = uidsP V := map_uid calmR_uid _
  refine ⟨by rw [hu]; exact h.rise, by rw [hu]; exact h.top, ?_⟩
  have := h.len
  simpa using this
theorem takeV_ok {V : PV} {N : Nat} (h : PVok V N) (w r : Int) : PVok (takeV V w r) N := by
  unfold takeV
  split
  · exact calm_ok (settleP_ok (goneV_ok h w) r)
  · exact h
theorem goneV_val (V : PV) (w : Int) : (goneV V w).val = V.val := by unfold goneV; split <;> rfl
theorem takeV_val (V : PV) (w r : Int) : (takeV V w r).val = V.val := by
  unfold takeV; split
  · exact goneV_val V w
  · rfl
theorem newP_ok (val : Int) (us : List Int) (r : Int) : PVok (newP val us r) us.length := by
  have h0 : PVok ⟨val, [], []⟩ 0 := ⟨trivial, fun x hx => (by cases hx), Nat.le_refl _⟩
  exact settleP_ok ((comesP_ok (us := us) h0).mono (by omega)) r
end Go.Proofs.YtmedpcldfpfpnaaGreat

/- view: a view in memory; what its steps leave. -/
namespace Go.Proofs.YtmedpcldfpfpnaaGreat
open Go.RowKit

/-- All blocks but those of fp are as they were. -/
structure Stays (fp : List Nat) (w w' : World) : Prop where
  os : w'.os = w.os
  tape : w'.tape = w.tape
  output : w'.output = w.output
  size : w.heap.size ≤ w'.heap.size
  block : ∀ b, b < w.heap.size → b ∉ fp → w'.heap[b]? = w.heap[b]?
theorem Stays.refl (fp : List Nat) (w : World) : Stays fp w w := ⟨rfl, rfl, rfl, Nat.le_refl _, fun _ _ _ => rfl⟩
theorem Stays.trans {fp fp' : List Nat} {w w1 w2 : World} (h : Stays fp w w1) (k : Stays fp' w1 w2) (hs : ∀ b, b ∈ fp' → b ∈ fp ∨ w.heap.size ≤ b) : Stays fp w w2 :=
  ⟨k.os.trans h.os, k.tape.trans h.tape, k.output.trans h.output, Nat.le_trans h.size k.size, fun b hb hn => by
    rw [k.block b (Nat.lt_of_lt_of_le hb h.size) (fun e => by rcases hs b e with e' | e' <;> first | exact hn e' | omega), h.block b hb hn]⟩
theorem Stays.mono {fp fp' : List Nat} {w w' : World} (h : Stays fp w w') (hs : ∀ b, b ∈ fp → b ∈ fp') : Stays fp' w w' :=
  ⟨h.os, h.tape, h.output, h.size, fun b hb hn => h.block b hb (fun e => hn (hs b e))⟩
theorem Stays.alloc {fp : List Nat} {w w1 : World} (h : Stays fp w w1) (o : Obj) : Stays fp w (w1.alloc o) :=
  ⟨h.os, h.tape, h.output, Nat.le_trans h.size (by simp), fun b hb hn => by rw [Below.heap_alloc _ _ _ (Nat.lt_of_lt_of_le hb h.size), h.block b hb hn]⟩
theorem Stays.drew {fp : List Nat} {w w1 : World} (h : Stays fp w w1) : Stays fp w w1.drew := ⟨h.os, h.tape, h.output, h.size, h.block⟩
theorem Stays.setCell {fp : List Nat} {w w1 : World} (h : Stays fp w w1) {p : Addr} (hp : p.block ∈ fp ∨ w.heap.size ≤ p.block) (u : Value) : Stays fp w (w1.setCell p u) :=
  ⟨h.os, h.tape, h.output, Nat.le_trans h.size (by simp [World.setCell]), fun b hb hn => by
    rw [Below.heap_setCell _ _ _ _ (fun e => by subst e; rcases hp with hp | hp <;> first | exact hn hp | omega), h.block b hb hn]⟩
/-- Another object at a block. -/
def putObj (w : World) (m : Nat) (o : Obj) : World := { w with heap := w.heap.setIfInBounds m o }
theorem putObj_at {w : World} {m : Nat} (o : Obj) (h : m < w.heap.size) : (putObj w m o).heap[m]? = some o := by
  simp [putObj, h]
theorem putObj_ne {w : World} {m b : Nat} (o : Obj) (h : b ≠ m) : (putObj w m o).heap[b]? = w.heap[b]? := by
  simp only [putObj, Array.getElem?_setIfInBounds]
  rw [if_neg (by omega)]
theorem putObj_size {w : World} {m : Nat} (o : Obj) : (putObj w m o).heap.size = w.heap.size := by simp [putObj]
theorem Stays.put {fp : List Nat} {w w1 : World} (h : Stays fp w w1) {m : Nat} (hp : m ∈ fp ∨ w.heap.size ≤ m) (o : Obj) : Stays fp w (putObj w1 m o) :=
  ⟨h.os, h.tape, h.output, by rw [putObj_size]; exact h.size, fun b hb hn => by
    rw [putObj_ne _ (fun e => by subst e; rcases hp with hp | hp <;> first | exact hn hp | omega), h.block b hb hn]⟩
theorem Stays.ofBelow {fp : List Nat} {w w' : World} (h : Below w.heap.size w w') : Stays fp w w' := ⟨h.os, h.tape, h.output, h.size, fun b hb _ => h.block b hb⟩
theorem Stays.ofGrown {fp : List Nat} {w w' : World} {row : Option Nat} (h : w.grownBy w' row) (hr : ∀ b, row = some b → b ∈ fp) : Stays fp w w' :=
  ⟨h.os, h.tape, h.output, h.size, fun b hb hn => h.block b hb (fun e => hn (hr b e.symm))⟩
theorem Stays.below {fp : List Nat} {w w' : World} {B : Nat} (h : Stays fp w w') (hf : ∀ b, b ∈ fp → B ≤ b) (hB : B ≤ w.heap.size) : Below B w w' :=
  ⟨h.os, h.tape, h.output, h.size, fun b hb => h.block b (by omega) (fun e => by have := hf b e; omega)⟩
theorem Stays.cell {fp : List Nat} {w w' : World} (h : Stays fp w w') {a : Addr} (hb : a.block < w.heap.size) (hn : a.block ∉ fp) : w'.cell? a = w.cell? a := World.cell?_of_block (h.block _ hb hn)
theorem Stays.frozen {fp : List Nat} {w w' : World} (h : Stays fp w w') {a : Addr} (hb : a.block < w.heap.size) (hn : a.block ∉ fp) : w'.frozen? a = w.frozen? a := World.frozen?_of_block (h.block _ hb hn)

theorem heap_setCell_at {w : World} {b o : Nat} {c : Array Value} {t : TypeId} {fz : Nat × Nat} (v : Value) (h : w.heap[b]? = some (.cells c t fz)) :
    (w.setCell ⟨b, o, none⟩ v).heap[b]? = some (.cells (c.setIfInBounds o v) t fz) := by
  have hl : b < w.heap.size := (Array.getElem?_eq_some_iff.1 h).1
  simp [World.setCell, Array.getElem?_modify, h]
theorem cell_of {w : World} {b : Nat} {c : Array Value} {t : TypeId} {fz : Nat × Nat} (h : w.heap[b]? = some (.cells c t fz)) (o : Nat) : w.cell? ⟨b, o, none⟩ = c[o]? := by
  simp [World.cell?, h]
theorem frozen_of {w : World} {b : Nat} {c : Array Value} {t : TypeId} (h : w.heap[b]? = some (.cells c t (0, 0))) (o : Nat) : w.frozen? ⟨b, o, none⟩ = false := by
  simp [World.frozen?, h]
theorem lt_of_heap {w : World} {b : Nat} {o : Obj} (h : w.heap[b]? = some o) : b < w.heap.size := (Array.getElem?_eq_some_iff.1 h).1

/-- What changes is there or new; the same of what is there behind it. -/
def FO (f f' : List Nat) (w w' : World) : Prop := Stays f w w' ∧ ∀ b, b ∈ f' → b ∈ f ∨ w.heap.size ≤ b
theorem FO.refl (f : List Nat) (w : World) : FO f f w w := ⟨Stays.refl _ _, fun _ h => .inl h⟩
theorem FO.below {f : List Nat} {w w' : World} (h : Below w.heap.size w w') : FO f f w w' := ⟨Stays.ofBelow h, fun _ h => .inl h⟩
theorem FO.trans {f f' f'' : List Nat} {w w' w'' : World} (h : FO f f' w w') (k : FO f' f'' w' w'') : FO f f'' w w'' := by
  refine ⟨h.1.trans k.1 h.2, fun b hb => ?_⟩
  rcases k.2 b hb with e | e
  · exact h.2 b e
  · exact .inr (Nat.le_trans h.1.size e)
theorem ownsRow_same {w w' : World} {B : Nat} {e : TypeId} {size : Nat} {v : Value} {n : Nat} {xs : List Value} (h : w.ownsRow B e size v n xs) (hs : ∀ b, v.ownBlock = some b → w'.heap[b]? = w.heap[b]?) : w'.ownsRow B e size v n xs := by
  refine ⟨h.1, ?_⟩
  rcases h.2 with hn | ⟨g, cap, cur, rfl, hb, hg, rest⟩
  · exact .inl hn
  · exact .inr ⟨g, cap, cur, rfl, hb, by rw [hs g rfl]; exact hg, rest⟩
theorem ownsRow_shape {w : World} {B : Nat} {e : TypeId} {size : Nat} {v : Value} {n : Nat} {xs : List Value} (h : w.ownsRow B e size v n xs) : ∃ a c, v = .slice a n c := by
  rcases h.2 with ⟨rfl, rfl⟩ | ⟨g, cap, cur, rfl, _⟩
  · exact ⟨none, 0, rfl⟩
  · exact ⟨_, _, rfl⟩
theorem row_kind {w : World} {B n z : Nat} {e : TypeId} {v : Value} {xs : List Value} (h : w.ownsRow B e z v n xs) {b : Nat} (hb : v.ownBlock = some b) : ∃ cs, w.heap[b]? = some (.cells cs e (0, 0)) := by
  rcases h.2 with ⟨rfl, _⟩ | ⟨g, cap, cur, rfl, _, hg, _⟩
  · cases hb
  · cases hb
    exact ⟨_, hg⟩
theorem kind_ne {w : World} {b b' : Nat} {c c' : Array Value} {t t' : TypeId} {f f' : Nat × Nat} (h : w.heap[b]? = some (.cells c t f)) (h' : w.heap[b']? = some (.cells c' t' f')) (ht : t ≠ t') : b ≠ b' := by
  intro e
  subst e
  rw [h] at h'
  injection h' with h'
  injection h' with _ h2
  exact ht h2
theorem ownsRow_base {w : World} {B B' n z : Nat} {e : TypeId} {v : Value} {xs : List Value} (h : w.ownsRow B e z v n xs) (hB : B' ≤ B) : w.ownsRow B' e z v n xs := by
  refine ⟨h.1, ?_⟩
  rcases h.2 with hn | ⟨g, cap, cur, rfl, hg, rest⟩
  · exact .inl hn
  · exact .inr ⟨g, cap, cur, rfl, Nat.le_trans hB hg, rest⟩

def tcs (l : List ByteArray) : List Value := l.map Value.string
theorem tcs_length (l : List ByteArray) : (tcs l).length = l.length := by simp [tcs]
theorem tcs_append (a b : List ByteArray) : tcs (a ++ b) = tcs a ++ tcs b := by simp [tcs]
theorem tcs_one (l : List ByteArray) : ∀ u ∈ tcs l, u.oneCell' = true := by
  intro u hu
  simp [tcs] at hu
  obtain ⟨b, _, rfl⟩ := hu
  rfl
theorem tcs_at (l : List ByteArray) (i : Nat) (hi : i < l.length) : (tcs l)[i]? = some (.string (l.getD i ByteArray.empty)) := by simp [tcs, hi]

/-- What waits of a row, in memory. -/
structure TE where
  blk : Nat
  fv : Value
  num : Int
  fl : List ByteArray
structure RE where
  uid : Int
  gone : Bool
  rct : Bool
  tn : Option TE
def TE.pl (t : TE) : Int × List ByteArray := (t.num, t.fl)
def RE.pl (r : RE) : PR := ⟨r.uid, r.gone, r.rct, r.tn.map TE.pl⟩
def RE.ptr (r : RE) : Value := .pointer (r.tn.map fun t => ⟨t.blk, 0, none⟩)
def RE.enc (r : RE) : List Value := [.int .i64 r.uid, .bool r.gone, .bool r.rct, r.ptr]
def RE.val (r : RE) : Value := .agg #[.int .i64 r.uid, .bool r.gone, .bool r.rct, r.ptr]
def rwC (R : List RE) : List Value := R.flatMap RE.enc
theorem rwC_length (R : List RE) : (rwC R).length = R.length * 4 := by
  induction R with
  | nil => rfl
  | cons p r ih => simp only [rwC, List.flatMap_cons, List.length_append, List.length_cons] at *; rw [ih]; simp [RE.enc]; omega
theorem rwC_append (a b : List RE) : rwC (a ++ b) = rwC a ++ rwC b := by simp [rwC]
theorem rwC_one (R : List RE) : ∀ u ∈ rwC R, u.oneCell' = true := by
  intro u hu
  simp only [rwC, List.mem_flatMap, RE.enc] at hu
  obtain ⟨p, _, hp⟩ := hu
  simp at hp
  rcases hp with rfl | rfl | rfl | rfl <;> rfl
def RE0 : RE := ⟨0, false, false, none⟩
theorem rwC_at (R : List RE) (i : Nat) (hi : i < R.length) : (rwC R)[i * 4]? = some (.int .i64 (R.getD i RE0).uid) ∧ (rwC R)[i * 4 + 1]? = some (.bool (R.getD i RE0).gone) ∧ (rwC R)[i * 4 + 2]? = some (.bool (R.getD i RE0).rct) ∧ (rwC R)[i * 4 + 3]? = some (R.getD i RE0).ptr := by
  induction R generalizing i with
  | nil => simp at hi
  | cons p r ih =>
    have e : rwC (p :: r) = .int .i64 p.uid :: .bool p.gone :: .bool p.rct :: p.ptr :: rwC r := by simp [rwC, RE.enc]
    cases i with
    | zero => exact ⟨rfl, rfl, rfl, rfl⟩
    | succ i =>
      have := ih i (by simpa using hi)
      rw [e, show (i + 1) * 4 = i * 4 + 1 + 1 + 1 + 1 by omega]
      simp only [List.getElem?_cons_succ, List.getD_cons_succ]
      exact this
theorem rwC_set (R : List RE) (i : Nat) (r : RE) (hi : i < R.length) : ((((rwC R).set (i * 4) (.int .i64 r.uid)).set (i * 4 + 1) (.bool r.gone)).set (i * 4 + 2) (.bool r.rct)).set (i * 4 + 3) r.ptr = rwC (R.set i r) := by
  induction R generalizing i with
  | nil => simp at hi
  | cons p t ih =>
    have e : ∀ (q : RE) (s : List RE), rwC (q :: s) = .int .i64 q.uid :: .bool q.gone :: .bool q.rct :: q.ptr :: rwC s := fun q s => by simp [rwC, RE.enc]
    cases i with
    | zero => rw [e]; show _ = rwC (r :: t); rw [e]; rfl
    | succ i =>
      have := ih i (by simpa using hi)
      rw [e, show (i + 1) * 4 = i * 4 + 1 + 1 + 1 + 1 by omega]
      simp only [List.set_cons_succ]
      rw [this, e]
def TE.blks (t : TE) : List Nat := t.blk :: t.fv.ownBlock.toList
def RE.blks (r : RE) : List Nat := (r.tn.map TE.blks).getD []
def TE.obj (t : TE) : Obj := .cells #[.int .i64 t.num, t.fv] 119 (0, 0)
structure TurnAt (w : World) (t : TE) : Prop where
  obj : w.heap[t.blk]? = some t.obj
  row : w.ownsRow 0 9 1 t.fv t.fl.length (tcs t.fl)
def selfV (val : Int) (rv cv : Value) : Obj := .cells #[.bool true, .int .i64 val, rv, cv] 66 (0, 0)
def fpV (P : Nat) (rv cv : Value) (R : List RE) : List Nat := P :: (rv.ownBlock.toList ++ (cv.ownBlock.toList ++ R.flatMap RE.blks))
/-- A view in memory, at block P. -/
structure VAt (P : Nat) (val : Int) (rv cv : Value) (R : List RE) (C : List Int) (w : World) : Prop where
  self : w.heap[P]? = some (selfV val rv cv)
  rows : w.ownsRow 0 92 4 rv R.length (rwC R)
  com : w.ownsRow 0 3 1 cv C.length (ic C)
  turns : ∀ r ∈ R, ∀ t, r.tn = some t → TurnAt w t
theorem mem_fpV_p {P : Nat} {rv cv : Value} {R : List RE} : P ∈ fpV P rv cv R := by simp [fpV]
theorem mem_fpV_r {P b : Nat} {rv cv : Value} {R : List RE} (h : rv.ownBlock = some b) : b ∈ fpV P rv cv R := by simp [fpV, h]
theorem mem_fpV_c {P b : Nat} {rv cv : Value} {R : List RE} (h : cv.ownBlock = some b) : b ∈ fpV P rv cv R := by simp [fpV, h]
theorem mem_fpV_t {P b : Nat} {rv cv : Value} {R : List RE} {r : RE} (hr : r ∈ R) (hb : b ∈ r.blks) : b ∈ fpV P rv cv R := by
  simp only [fpV, List.mem_cons, List.mem_append, List.mem_flatMap]
  exact .inr (.inr (.inr ⟨r, hr, hb⟩))
theorem mem_fpV {P b : Nat} {rv cv : Value} {R : List RE} : b ∈ fpV P rv cv R ↔ b = P ∨ rv.ownBlock = some b ∨ cv.ownBlock = some b ∨ ∃ r ∈ R, b ∈ r.blks := by
  simp only [fpV, List.mem_cons, List.mem_append, List.mem_flatMap, Option.mem_toList]
theorem blks_tn {r : RE} {t : TE} (h : r.tn = some t) : r.blks = t.blks := by simp [RE.blks, h]
theorem blks_no {r : RE} (h : r.tn = none) : r.blks = [] := by simp [RE.blks, h]
theorem TurnAt.hold {w w' : World} {t : TE} (h : TurnAt w t) (hs : ∀ b, b ∈ t.blks → w'.heap[b]? = w.heap[b]?) : TurnAt w' t :=
  ⟨by rw [hs t.blk (by simp [TE.blks])]; exact h.obj, ownsRow_same h.row (fun b e => hs b (by simp [TE.blks, e]))⟩
theorem TurnAt.lt {w : World} {t : TE} (h : TurnAt w t) {b : Nat} (hb : b ∈ t.blks) : b < w.heap.size := by
  simp only [TE.blks, List.mem_cons, Option.mem_toList] at hb
  rcases hb with rfl | hb
  · exact lt_of_heap h.obj
  · exact (h.row.lt b hb).2
theorem VAt.hold {P : Nat} {val : Int} {rv cv : Value} {R : List RE} {C : List Int} {w w' : World} (h : VAt P val rv cv R C w) (hs : ∀ b, b ∈ fpV P rv cv R → w'.heap[b]? = w.heap[b]?) : VAt P val rv cv R C w' :=
  ⟨by rw [hs P mem_fpV_p]; exact h.self, ownsRow_same h.rows (fun b e => hs b (mem_fpV_r e)), ownsRow_same h.com (fun b e => hs b (mem_fpV_c e)), fun r hr t ht => (h.turns r hr t ht).hold (fun b hb => hs b (mem_fpV_t hr (by rw [blks_tn ht]; exact hb)))⟩
theorem VAt.lt {P : Nat} {val : Int} {rv cv : Value} {R : List RE} {C : List Int} {w : World} (h : VAt P val rv cv R C w) {b : Nat} (hb : b ∈ fpV P rv cv R) : b < w.heap.size := by
  rcases mem_fpV.1 hb with rfl | hb | hb | ⟨r, hr, hb⟩
  · exact lt_of_heap h.self
  · exact (h.rows.lt b hb).2
  · exact (h.com.lt b hb).2
  · cases ht : r.tn with
    | none => rw [blks_no ht] at hb; cases hb
    | some t => rw [blks_tn ht] at hb; exact (h.turns r hr t ht).lt hb
theorem VAt.on {P : Nat} {val : Int} {rv cv : Value} {R : List RE} {C : List Int} {w w' : World} (h : VAt P val rv cv R C w) (hb : Below w.heap.size w w') : VAt P val rv cv R C w' := h.hold (fun b hm => hb.block b (h.lt hm))
/-- A view, by what is plain of it; fp: its blocks. -/
def VW (P : Nat) (V : PV) (fp : List Nat) (w : World) : Prop := ∃ rv cv R, VAt P V.val rv cv R V.com w ∧ R.map RE.pl = V.rows ∧ fp = fpV P rv cv R
/-- What a call of a view leaves. -/
def VG (P : Nat) (V' : PV) (fp : List Nat) (w w' : World) : Prop := ∃ fp', VW P V' fp' w' ∧ FO fp fp' w w'
theorem VW.on {P : Nat} {V : PV} {fp : List Nat} {w w' : World} (h : VW P V fp w) (hb : Below w.heap.size w w') : VW P V fp w' := by
  obtain ⟨rv, cv, R, h1, h2, h3⟩ := h
  exact ⟨rv, cv, R, h1.on hb, h2, h3⟩
theorem VW.hold {P : Nat} {V : PV} {fp : List Nat} {w w' : World} (h : VW P V fp w) (hs : ∀ b, b ∈ fp → w'.heap[b]? = w.heap[b]?) : VW P V fp w' := by
  obtain ⟨rv, cv, R, h1, h2, rfl⟩ := h
  exact ⟨rv, cv, R, h1.hold hs, h2, rfl⟩
theorem VW.lt {P : Nat} {V : PV} {fp : List Nat} {w : World} (h : VW P V fp w) {b : Nat} (hb : b ∈ fp) : b < w.heap.size := by
  obtain ⟨rv, cv, R, h1, h2, rfl⟩ := h
  exact h1.lt hb
theorem VG.refl {P : Nat} {V : PV} {fp : List Nat} {w : World} (h : VW P V fp w) : VG P V fp w w := ⟨fp, h, FO.refl _ _⟩
theorem VG.on {P : Nat} {V : PV} {fp : List Nat} {w w1 w' : World} (h : VG P V fp w w1) (hb : Below w1.heap.size w1 w') : VG P V fp w w' := by
  obtain ⟨fp', h1, h2⟩ := h
  exact ⟨fp', h1.on hb, h2.trans (FO.below hb)⟩
theorem VG.trans {P : Nat} {V1 V2 : PV} {fp : List Nat} {w w1 w' : World} (h : VG P V1 fp w w1) (k : ∀ fp1, VW P V1 fp1 w1 → VG P V2 fp1 w1 w') : VG P V2 fp w w' := by
  obtain ⟨fp', h1, h2⟩ := h
  obtain ⟨fp2, k1, k2⟩ := k fp' h1
  exact ⟨fp2, k1, h2.trans k2⟩
end Go.Proofs.YtmedpcldfpfpnaaGreat

/- view: one step of a view at a time. -/
namespace Go.Proofs.YtmedpcldfpfpnaaGreat
open Go.RowKit

theorem append_by_run {ops : Array Oper} {rest : List Oper} {o : Oper} {a : Act} {Q : Exit → Act → World → Prop} {w : World} (hgd : o.guard = none) (s x : Operand) (ts : Array TypeId)
    (ho : o.op = .call { callee := .builtin .append, args := #[s, x], argTypes := ts }) (ty : TypeId) (hty : o.type = ty) (u v : Value) (hs : a.eval s = u) (hx : a.eval x = v) (v' : Value) (w' : World)
    (hr : (Builtin.append_ ts ty #[u, v]).run Tryz.prog w = .ok v' w') (h : wpList Tryz.prog ops Q rest (a.put o.dst v') w') : wpList Tryz.prog ops Q (o :: rest) a w := by
  subst hty
  refine wpList_plain hgd fun K hK => ?_
  unfold Oper.wp execOp
  simp only [ho, resolve, invoke, builtin, Sem.run_bind, Sem.run_pure, Result.andThen_ok, List.map_toArray, List.map_cons, List.map_nil, hs, hx, hr]
  exact hK _ _ h
theorem info_parts' {P : Program} {t : TypeId} {z : Value} {a b : Nat} (h : (P.info? t).map (fun i => (i.zero, i.size, i.bytes)) = some (some z, a, b)) : ∃ i, P.info? t = some i ∧ i.zero = some z ∧ i.size = a ∧ i.bytes = b := by
  obtain ⟨i, hi, he⟩ := Option.map_eq_some_iff.1 h
  simp only [Prod.mk.injEq] at he
  exact ⟨i, hi, he.1, he.2.1, he.2.2⟩
/-- A row and one thing more, which lies in a new block. -/
theorem row_app {P : Program} {w : World} {v : Value} {n : Nat} {xs : List Value} (t e : TypeId) (z : Value) (size bytes : Nat) (ht : P.underlying t = some (.slice e)) (hi : (P.info? e).map (fun i => (i.zero, i.size, i.bytes)) = some (some z, size, bytes)) (hzs : z.cells.size = size) (hsz : 0 < size)
    (hown : w.ownsRow 0 e size v n xs) (cs : Array Value) (hcs : cs.size = size) (h1 : ∀ u ∈ cs.toList, u.oneCell' = true) (hl : n + 1 ≤ 4294967296) (hb : bytes ≤ 4096) :
    ∃ a c W1, (Builtin.append_ #[t, t] t #[v, .slice (some ⟨w.heap.size, 0, none⟩) 1 1]).run P (w.alloc (.cells cs e)) = .ok (.slice a (n + 1) c) W1 ∧
      W1.ownsRow 0 e size (.slice a (n + 1) c) (n + 1) (xs ++ cs.toList) ∧ w.grownBy W1 v.ownBlock ∧ ∀ b, (Value.slice a (n + 1) c).ownBlock = some b → v.ownBlock = some b ∨ w.heap.size ≤ b := by
  obtain ⟨i0, hi0, hz0, hz1, hz2⟩ := info_parts' hi
  have hnew : (w.alloc (.cells cs e)).heap[w.heap.size]? = some (.cells cs e (0, 0)) := heap_alloc_new w _
  have hmul : (n + 1) * bytes ≤ 4294967296 * 4096 := Nat.mul_le_mul hl hb
  obtain ⟨v', W3, hrun, hrow3, hgr, _, hat⟩ := run_append_own_at (P := P) (w.alloc (.cells cs e)) 0 t t e i0 z size bytes ht hi0 hz0 hz1 hz2 hzs hsz v n xs (hown.alloc _) ⟨w.heap.size, 0, none⟩ 1 1 cs.toList (by simpa using hcs) (by
      intro j u hj
      rw [show ((⟨w.heap.size, 0, none⟩ : Addr).add j) = ⟨w.heap.size, j, none⟩ from by rw [Addr.add_lit, Nat.zero_add], cell_of hnew j]
      rw [← hj]; simp) h1 (by unfold maxLen; omega) (by omega) (Nat.zero_le _)
  obtain ⟨a, c, rfl⟩ := ownsRow_shape hrow3
  refine ⟨a, c, W3, hrun, hrow3, ⟨hgr.os, hgr.tape, hgr.output, by have := hgr.size; simp at this; omega, fun k hk hne => by rw [hgr.block k (by simp; omega) hne, Below.heap_alloc _ _ _ hk]⟩, fun b hb => ?_⟩
  rcases hat with hat | hat
  · exact .inl (by rw [← hat]; exact hb)
  · rw [hat] at hb
    simp at hb
    exact .inr (by omega)
theorem Tryz.infoRow : (Tryz.prog.info? 92).map (fun i => (i.zero, i.size, i.bytes)) = some (some (.agg #[.int .i64 0, .bool false, .bool false, .pointer none]), 4, 24) := by kernel_rfl

structure SelfV (P : Nat) (val : Int) (rv cv : Value) (w : World) : Prop where
  c0 : w.cell? ⟨P, 0, none⟩ = some (.bool true)
  c1 : w.cell? ⟨P, 1, none⟩ = some (.int .i64 val)
  c2 : w.cell? ⟨P, 2, none⟩ = some rv
  c3 : w.cell? ⟨P, 3, none⟩ = some cv
  f2 : w.frozen? ⟨P, 2, none⟩ = false
  f3 : w.frozen? ⟨P, 3, none⟩ = false
theorem selfV_cells {P : Nat} {val : Int} {rv cv : Value} {w : World} (hs : w.heap[P]? = some (selfV val rv cv)) : SelfV P val rv cv w := by
  unfold selfV at hs
  exact ⟨cell_of hs 0, cell_of hs 1, cell_of hs 2, cell_of hs 3, frozen_of hs 2, frozen_of hs 3⟩
section
variable {P : Nat} {val : Int} {rv cv : Value} {R : List RE} {C : List Int} {w : World}
theorem VAt.cells (h : VAt P val rv cv R C w) : SelfV P val rv cv w := selfV_cells h.self
theorem VAt.pr (h : VAt P val rv cv R C w) : rv.ownBlock ≠ some P := fun e => by
  obtain ⟨cs, hc⟩ := row_kind h.rows e
  exact kind_ne hc h.self (by decide) rfl
theorem VAt.pc (h : VAt P val rv cv R C w) : cv.ownBlock ≠ some P := fun e => by
  obtain ⟨cs, hc⟩ := row_kind h.com e
  exact kind_ne hc h.self (by decide) rfl
theorem VAt.rc (h : VAt P val rv cv R C w) {b : Nat} (e : rv.ownBlock = some b) : cv.ownBlock ≠ some b := fun e2 => by
  obtain ⟨cs, hc⟩ := row_kind h.rows e
  obtain ⟨cs2, hc2⟩ := row_kind h.com e2
  exact kind_ne hc hc2 (by decide) rfl
theorem TurnAt.kind {t : TE} (h : TurnAt w t) {b : Nat} (hb : b ∈ t.blks) : ∃ cs ty, w.heap[b]? = some (.cells cs ty (0, 0)) ∧ (ty = 119 ∨ ty = 9) := by
  simp only [TE.blks, List.mem_cons, Option.mem_toList] at hb
  rcases hb with rfl | hb
  · exact ⟨_, _, h.obj, .inl rfl⟩
  · obtain ⟨cs, hc⟩ := row_kind h.row hb
    exact ⟨_, _, hc, .inr rfl⟩
theorem VAt.tt (h : VAt P val rv cv R C w) {r : RE} (hr : r ∈ R) {t : TE} (ht : r.tn = some t) {b : Nat} (hb : b ∈ t.blks) : b ≠ P ∧ rv.ownBlock ≠ some b ∧ cv.ownBlock ≠ some b := by
  obtain ⟨cs, ty, hc, hty⟩ := (h.turns r hr t ht).kind hb
  refine ⟨kind_ne hc h.self (by rcases hty with rfl | rfl <;> decide), fun e => ?_, fun e => ?_⟩
  · obtain ⟨cs2, hc2⟩ := row_kind h.rows e
    exact kind_ne hc hc2 (by rcases hty with rfl | rfl <;> decide) rfl
  · obtain ⟨cs2, hc2⟩ := row_kind h.com e
    exact kind_ne hc hc2 (by rcases hty with rfl | rfl <;> decide) rfl
/-- coming = append(coming, u). -/
theorem VAt.addC (h : VAt P val rv cv R C w) (u : Int) (hl : C.length + 1 ≤ 4294967296) :
    ∃ a c W1, (Builtin.append_ #[29, 29] 29 #[cv, .slice (some ⟨w.heap.size, 0, none⟩) 1 1]).run Tryz.prog (w.alloc (.cells #[.int .i64 u] 3)) = .ok (.slice a (C.length + 1) c) W1 ∧ W1.heap[P]? = some (selfV val rv cv) ∧
      VAt P val rv (.slice a (C.length + 1) c) R (C ++ [u]) (W1.setCell ⟨P, 3, none⟩ (.slice a (C.length + 1) c)) ∧ FO (fpV P rv cv R) (fpV P rv (.slice a (C.length + 1) c) R) w (W1.setCell ⟨P, 3, none⟩ (.slice a (C.length + 1) c)) := by
  obtain ⟨a, c, W1, hrun, hrow, hg, hown⟩ := row_app (P := Tryz.prog) 29 3 (.int .i64 0) 1 8 Tryz.underlying29 Tryz.infoInt rfl (by decide) h.com #[.int .i64 u] rfl (by intro x hx; simp at hx; subst hx; rfl) hl (by omega)
  have hbl := lt_of_heap h.self
  have hs1 : W1.heap[P]? = some (selfV val rv cv) := by rw [hg.block P hbl (fun e => h.pc e.symm)]; exact h.self
  have hset : ∀ b, b ≠ P → (W1.setCell ⟨P, 3, none⟩ (.slice a (C.length + 1) c)).heap[b]? = W1.heap[b]? := fun b hb => Below.heap_setCell _ _ _ _ hb
  have keep : ∀ b, b < w.heap.size → b ≠ P → cv.ownBlock ≠ some b → (W1.setCell ⟨P, 3, none⟩ (.slice a (C.length + 1) c)).heap[b]? = w.heap[b]? := fun b hb hp hc => by
    rw [hset b hp, hg.block b hb (fun e => hc e.symm)]
  refine ⟨a, c, W1, hrun, hs1, ⟨?_, ?_, ?_, ?_⟩, ?_, ?_⟩
  · unfold selfV at hs1
    rw [heap_setCell_at _ hs1]
    rfl
  · exact ownsRow_same h.rows (fun b e => keep b (h.rows.lt b e).2 (fun e' => h.pr (e' ▸ e)) (h.rc e))
  · have := ownsRow_same hrow (w' := W1.setCell ⟨P, 3, none⟩ (.slice a (C.length + 1) c)) (fun b e => hset b (fun e' => by
      subst e'
      rcases hown _ e with e2 | e2
      · exact h.pc e2
      · omega))
    rw [List.length_append, ic_append]
    exact this
  · intro r hr t ht
    refine (h.turns r hr t ht).hold (fun b hb => ?_)
    have q := h.tt hr ht hb
    exact keep b ((h.turns r hr t ht).lt hb) q.1 q.2.2
  · exact Stays.setCell (p := ⟨P, 3, none⟩) (Stays.ofGrown hg (fun b e => mem_fpV_c e)) (.inl mem_fpV_p) _
  · intro b hb
    rcases mem_fpV.1 hb with rfl | hb | hb | ⟨r, hr, hb⟩
    · exact .inl mem_fpV_p
    · exact .inl (mem_fpV_r hb)
    · rcases hown b hb with e | e
      · exact .inl (mem_fpV_c e)
      · exact .inr e
    · exact .inl (mem_fpV_t hr hb)
/-- coming = nil. -/
theorem VAt.noC (h : VAt P val rv cv R C w) : VAt P val rv (.slice none 0 0) R [] (w.setCell ⟨P, 3, none⟩ (.slice none 0 0)) ∧ FO (fpV P rv cv R) (fpV P rv (.slice none 0 0) R) w (w.setCell ⟨P, 3, none⟩ (.slice none 0 0)) := by
  have hset : ∀ b, b ≠ P → (w.setCell ⟨P, 3, none⟩ (.slice none 0 0)).heap[b]? = w.heap[b]? := fun b hb => Below.heap_setCell _ _ _ _ hb
  refine ⟨⟨?_, ownsRow_same h.rows (fun b e => hset b (fun e' => h.pr (e' ▸ e))), World.ownsRow_nil _ _ _ _, fun r hr t ht => (h.turns r hr t ht).hold (fun b hb => hset b (h.tt hr ht hb).1)⟩, Stays.setCell (p := ⟨P, 3, none⟩) (Stays.refl _ _) (.inl mem_fpV_p) _, fun b hb => ?_⟩
  · have hs := h.self
    unfold selfV at hs
    rw [heap_setCell_at _ hs]
    rfl
  · rcases mem_fpV.1 hb with rfl | hb | hb | ⟨r, hr, hb⟩
    · exact .inl mem_fpV_p
    · exact .inl (mem_fpV_r hb)
    · simp [Value.ownBlock] at hb
    · exact .inl (mem_fpV_t hr hb)
/-- rows = append(rows, row{..}), nothing waits of it. -/
theorem VAt.addR (h : VAt P val rv cv R C w) (r0 : RE) (hr0 : r0.tn = none) (hl : R.length + 1 ≤ 4294967296) :
    ∃ a c W1, (Builtin.append_ #[64, 64] 64 #[rv, .slice (some ⟨w.heap.size, 0, none⟩) 1 1]).run Tryz.prog (w.alloc (.cells #[.int .i64 r0.uid, .bool r0.gone, .bool r0.rct, .pointer none] 92)) = .ok (.slice a (R.length + 1) c) W1 ∧ W1.heap[P]? = some (selfV val rv cv) ∧
      VAt P val (.slice a (R.length + 1) c) cv (R ++ [r0]) C (W1.setCell ⟨P, 2, none⟩ (.slice a (R.length + 1) c)) ∧ FO (fpV P rv cv R) (fpV P (.slice a (R.length + 1) c) cv (R ++ [r0])) w (W1.setCell ⟨P, 2, none⟩ (.slice a (R.length + 1) c)) := by
  have hptr : r0.ptr = .pointer none := by simp [RE.ptr, hr0]
  obtain ⟨a, c, W1, hrun, hrow, hg, hown⟩ := row_app (P := Tryz.prog) 64 92 _ 4 24 Tryz.underlying64 Tryz.infoRow rfl (by decide) h.rows #[.int .i64 r0.uid, .bool r0.gone, .bool r0.rct, .pointer none] rfl (by intro x hx; simp at hx; rcases hx with rfl | rfl | rfl | rfl <;> rfl) hl (by omega)
  have hbl := lt_of_heap h.self
  have hs1 : W1.heap[P]? = some (selfV val rv cv) := by rw [hg.block P hbl (fun e => h.pr e.symm)]; exact h.self
  have hset : ∀ b, b ≠ P → (W1.setCell ⟨P, 2, none⟩ (.slice a (R.length + 1) c)).heap[b]? = W1.heap[b]? := fun b hb => Below.heap_setCell _ _ _ _ hb
  have keep : ∀ b, b < w.heap.size → b ≠ P → rv.ownBlock ≠ some b → (W1.setCell ⟨P, 2, none⟩ (.slice a (R.length + 1) c)).heap[b]? = w.heap[b]? := fun b hb hp hc => by
    rw [hset b hp, hg.block b hb (fun e => hc e.symm)]
  refine ⟨a, c, W1, hrun, hs1, ⟨?_, ?_, ?_, ?_⟩, ?_, ?_⟩
  · unfold selfV at hs1
    rw [heap_setCell_at _ hs1]
    rfl
  · have := ownsRow_same hrow (w' := W1.setCell ⟨P, 2, none⟩ (.slice a (R.length + 1) c)) (fun b e => hset b (fun e' => by
      subst e'
      rcases hown _ e with e2 | e2
      · exact h.pr e2
      · omega))
    rw [List.length_append, rwC_append]
    rw [show rwC [r0] = [.int .i64 r0.uid, .bool r0.gone, .bool r0.rct, .pointer none] by simp [rwC, RE.enc, hptr]]
    exact this
  · exact ownsRow_same h.com (fun b e => keep b (h.com.lt b e).2 (fun e' => h.pc (e' ▸ e)) (fun e2 => h.rc e2 e))
  · intro r hr t ht
    rcases List.mem_append.1 hr with hr | hr
    · refine (h.turns r hr t ht).hold (fun b hb => ?_)
      have q := h.tt hr ht hb
      exact keep b ((h.turns r hr t ht).lt hb) q.1 q.2.1
    · simp at hr
      subst hr
      rw [hr0] at ht
      cases ht
  · exact Stays.setCell (p := ⟨P, 2, none⟩) (Stays.ofGrown hg (fun b e => mem_fpV_r e)) (.inl mem_fpV_p) _
  · intro b hb
    rcases mem_fpV.1 hb with rfl | hb | hb | ⟨r, hr, hb⟩
    · exact .inl mem_fpV_p
    · rcases hown b hb with e | e
      · exact .inl (mem_fpV_r e)
      · exact .inr e
    · exact .inl (mem_fpV_c hb)
    · rcases List.mem_append.1 hr with hr | hr
      · exact .inl (mem_fpV_t hr hb)
      · rw [List.mem_singleton.1 hr, blks_no hr0] at hb
        cases hb
end
end Go.Proofs.YtmedpcldfpfpnaaGreat

/- view: where a row stands; its rows as lists. -/
namespace Go.Proofs.YtmedpcldfpfpnaaGreat
open Go.RowKit

def ixP : List Int → Int → Nat
  | [], _ => 0
  | x :: r, u => if x < u then ixP r u + 1 else 0
theorem ixP_le : ∀ (l : List Int) (u : Int), ixP l u ≤ l.length
  | [], _ => Nat.le_refl _
  | x :: r, u => by
    unfold ixP
    have := ixP_le r u
    split <;> simp <;> omega
theorem ixP_eq : ∀ (l : List Int) (u : Int) (i : Nat), i ≤ l.length → (∀ t, t < i → l.getD t 0 < u) → (∀ t, i ≤ t → t < l.length → u ≤ l.getD t 0) → ixP l u = i
  | [], u, i, h, _, _ => by simp at h; subst h; rfl
  | x :: r, u, 0, _, _, h2 => by
    have := h2 0 (Nat.le_refl _) (by simp)
    simp only [List.getD_cons_zero] at this
    unfold ixP
    rw [if_neg (by omega)]
  | x :: r, u, i + 1, h, h1, h2 => by
    have h0 := h1 0 (by omega)
    simp only [List.getD_cons_zero] at h0
    unfold ixP
    rw [if_pos h0, ixP_eq r u i (by simpa using h) (fun t ht => by have := h1 (t + 1) (by omega); simpa only [List.getD_cons_succ] using this) (fun t ht htl => by have := h2 (t + 1) (by omega) (by simp; omega); simpa only [List.getD_cons_succ] using this)]
def hitP (l : List Int) (u : Int) : Bool := decide (ixP l u < l.length ∧ l.getD (ixP l u) 0 = u)
theorem hitP_mem {l : List Int} {u : Int} (h : hitP l u = true) : u ∈ l := by
  unfold hitP at h
  rw [decide_eq_true_iff] at h
  rw [← h.2, List.getD_eq_getElem?_getD, List.getElem?_eq_getElem h.1]
  exact List.getElem_mem h.1
theorem ixP_mem : ∀ {l : List Int} {m u : Int}, riseF m l → u ∈ l → ixP l u < l.length ∧ l.getD (ixP l u) 0 = u
  | x :: r, m, u, ⟨a, b⟩, h => by
    rcases List.mem_cons.1 h with rfl | h
    · unfold ixP
      rw [if_neg (by omega)]
      simp
    · have hx := riseF_gt b h
      have := ixP_mem b h
      unfold ixP
      rw [if_pos hx]
      simp only [List.length_cons, List.getD_cons_succ]
      exact ⟨by omega, this.2⟩
theorem hitP_iff {l : List Int} {m u : Int} (hr : riseF m l) : hitP l u = true ↔ u ∈ l := by
  refine ⟨hitP_mem, fun h => ?_⟩
  unfold hitP
  rw [decide_eq_true_iff]
  exact ixP_mem hr h

/-- v is a list of rows, R, in memory. -/
def Rws (w : World) (v : Value) (R : List RE) : Prop :=
  ∃ a c, v = .slice a R.length c ∧ (0 < R.length → ∃ g off, a = some ⟨g, off, none⟩ ∧ g < w.heap.size ∧ ∀ i, i < R.length → w.cell? ⟨g, off + i * 4, none⟩ = some (.int .i64 (R.getD i RE0).uid) ∧ w.cell? ⟨g, off + i * 4 + 1, none⟩ = some (.bool (R.getD i RE0).gone) ∧ w.cell? ⟨g, off + i * 4 + 2, none⟩ = some (.bool (R.getD i RE0).rct) ∧ w.cell? ⟨g, off + i * 4 + 3, none⟩ = some (R.getD i RE0).ptr)
theorem Rws.on {w w' : World} {v : Value} {R : List RE} (h : Rws w v R) (hb : Below w.heap.size w w') : Rws w' v R := by
  obtain ⟨a, c, rfl, h⟩ := h
  refine ⟨a, c, rfl, fun hl => ?_⟩
  obtain ⟨g, off, e, hg, hc⟩ := h hl
  refine ⟨g, off, e, Nat.lt_of_lt_of_le hg hb.size, fun i hi => ?_⟩
  rw [hb.cell (p := ⟨g, off + i * 4, none⟩) hg, hb.cell (p := ⟨g, off + i * 4 + 1, none⟩) hg, hb.cell (p := ⟨g, off + i * 4 + 2, none⟩) hg, hb.cell (p := ⟨g, off + i * 4 + 3, none⟩) hg]
  exact hc i hi
theorem rws_of {w : World} {v : Value} {R : List RE} {B : Nat} (h : w.ownsRow B 92 4 v R.length (rwC R)) : Rws w v R := by
  rcases h.2 with ⟨rfl, h0⟩ | ⟨g, cap, cur, rfl, hB, hg, rest⟩
  · exact ⟨none, 0, by rw [h0], fun hl => by omega⟩
  · refine ⟨_, cap, rfl, fun _ => ⟨g, 0, rfl, lt_of_heap hg, fun i hi => ?_⟩⟩
    have := rwC_at R i hi
    have e : ∀ j u, (rwC R)[j]? = some u → w.cell? ⟨g, 0 + j, none⟩ = some u := fun j u hj => by
      have c1 := h.cells (g := g) rfl j u hj
      rw [Addr.add_lit] at c1
      exact c1
    exact ⟨e _ _ this.1, e (i * 4 + 1) _ this.2.1, e (i * 4 + 2) _ this.2.2.1, e (i * 4 + 3) _ this.2.2.2⟩
def uidR (R : List RE) : List Int := R.map RE.uid
theorem uidR_at (R : List RE) (i : Nat) : (uidR R).getD i 0 = (R.getD i RE0).uid := by
  unfold uidR
  rw [List.getD_eq_getElem?_getD, List.getElem?_map, List.getD_eq_getElem?_getD]
  cases R[i]? <;> rfl
theorem uidR_length (R : List RE) : (uidR R).length = R.length := by simp [uidR]

set_option maxHeartbeats 400000 in
theorem placeC_any (r : RE) (u : Int) (w : World) :
    Calls Tryz.prog 80 #[.agg #[.int .i64 r.uid, .bool r.gone, .bool r.rct, r.ptr], .int .i64 u] w fun e w' => e = .returned (.int .i64 (cmpI r.uid u)) ∧ Below w.heap.size w w' := by
  have H := Lib.hid (compare_any r.uid u)
  generalize cmpI r.uid u = q at *
  generalize r.uid = x at *
  generalize r.gone = y at *
  generalize r.rct = z at *
  generalize hp : r.ptr = p at *
  go_enter Tryz.func80, Tryz.ntmps80
  go_wp2_with (go_at_call 81; refine (H.out _).mono ?_; rintro e w1 ⟨rfl, rfl⟩)
  go_ret
  exact ⟨rfl, (Below.refl _ _).alloc (Nat.le_refl _) _⟩
theorem cmpI_neg (a b : Int) : cmpI a b < 0 ↔ a < b := by
  unfold cmpI
  split
  · omega
  split <;> omega
theorem cmpI_zero (a b : Int) : (cmpI a b == 0) = decide (a = b) := by
  unfold cmpI
  by_cases h1 : a < b
  · rw [if_pos h1]; simp; omega
  · rw [if_neg h1]
    by_cases h2 : b < a
    · rw [if_pos h2]; simp; omega
    · rw [if_neg h2]; simp; omega
end Go.Proofs.YtmedpcldfpfpnaaGreat

/- view: the search among rows; place, at, greatest, some. -/
namespace Go.Proofs.YtmedpcldfpfpnaaGreat
open Go.RowKit

set_option maxRecDepth 100000 in
set_option maxHeartbeats 4000000 in
theorem rsearch_any (v : Value) (R : List RE) (u : Int) (w : World) (hr : Rws w v R) (hl : R.length ≤ 1000000) (hc : riseF 0 (uidR R)) :
    Calls Tryz.prog 79 #[v, .int .i64 u, .func (.func 80) #[] #[]] w fun e w' => e = .returned (.tuple #[.int .i64 (ixP (uidR R) u : Nat), .bool (hitP (uidR R) u)]) ∧ Below w.heap.size w w' := by
  obtain ⟨ao, cap, hv, hcs⟩ := hr
  subst hv
  have HCS := Lib.hid hcs
  have HI : Hid (∀ i, i ≤ R.length → (∀ t, t < i → (R.getD t RE0).uid < u) → (∀ t, i ≤ t → t < R.length → u ≤ (R.getD t RE0).uid) → ixP (uidR R) u = i) := Lib.hid (fun i h1 h2 h3 => ixP_eq _ _ _ (by rw [uidR_length]; exact h1) (fun t ht => by rw [uidR_at]; exact h2 t ht) (fun t ht htl => by rw [uidR_at]; exact h3 t ht (by rw [uidR_length] at htl; exact htl)))
  have HM : Hid (∀ i j, i < j → j < R.length → (R.getD i RE0).uid < (R.getD j RE0).uid) := Lib.hid (fun i j h1 h2 => by have := riseF_getD hc i j h1 (by rw [uidR_length]; exact h2); rw [uidR_at, uidR_at] at this; exact this)
  have HH : Hid (hitP (uidR R) u = decide (ixP (uidR R) u < R.length ∧ (R.getD (ixP (uidR R) u) RE0).uid = u)) := Lib.hid (by unfold hitP; rw [uidR_length, uidR_at])
  clear hcs hc
  generalize hitP (uidR R) u = ht at *
  generalize ixP (uidR R) u = ix at *
  go_enter Tryz.func79, Tryz.ntmps79
  go_wp2_with fail
  go_loopg [9, 10] R.length (fun kx s9 s10 wr => ∃ lo hi : Nat, s9 = .int .i64 lo ∧ s10 = .int .i64 hi ∧ lo ≤ hi ∧ hi ≤ R.length ∧ hi - lo ≤ kx ∧ Below w.heap.size w wr ∧ Hid ((∀ t, t < lo → (R.getD t RE0).uid < u) ∧ (∀ t, hi ≤ t → t < R.length → u ≤ (R.getD t RE0).uid)))
  case atStart => exact ⟨0, R.length, rfl, rfl, Nat.zero_le _, Nat.le_refl _, by omega, Below.refl _ _, Lib.hid ⟨fun t ht => absurd ht (Nat.not_lt_zero _), fun t h1 h2 => by omega⟩⟩
  case round =>
    obtain ⟨lo, hi, rfl, rfl, hlh, hin, hg, hbw, I⟩ := hrel
    have hbl := hbw.size
    by_cases hlt : lo < hi
    · obtain ⟨b, off, hao, hbs, hc⟩ := HCS.out (by omega)
      subst hao
      obtain ⟨c1, c2, c3, c4⟩ := hc ((lo + hi) / 2) (by omega)
      rw [← hbw.cell (p := ⟨b, off + (lo + hi) / 2 * 4, none⟩) hbs] at c1
      rw [← hbw.cell (p := ⟨b, off + (lo + hi) / 2 * 4 + 1, none⟩) hbs] at c2
      rw [← hbw.cell (p := ⟨b, off + (lo + hi) / 2 * 4 + 2, none⟩) hbs] at c3
      rw [← hbw.cell (p := ⟨b, off + (lo + hi) / 2 * 4 + 3, none⟩) hbs] at c4
      have HS := Lib.hid (placeC_any (R.getD ((lo + hi) / 2) RE0) u)
      have HN := Lib.hid (cmpI_neg (R.getD ((lo + hi) / 2) RE0).uid u)
      obtain ⟨y, hy⟩ : ∃ y, y = (R.getD ((lo + hi) / 2) RE0).uid := ⟨_, rfl⟩
      have Y := Lib.hid hy
      rw [← hy] at c1 HS HN
      clear hc hy
      generalize (R.getD ((lo + hi) / 2) RE0).gone = yg at c2 HS
      generalize (R.getD ((lo + hi) / 2) RE0).rct = yr at c3 HS
      generalize (R.getD ((lo + hi) / 2) RE0).ptr = yp at c4 HS
      generalize cmpI y u = q at *
      by_cases hyx : y < u
      · have hq : q < 0 := HN.out.2 hyx
        go_wp2_with (go_at_call 80; refine (HS.out _).mono ?_; rintro e w' ⟨rfl, hb'⟩)
        go_roundg (hi - ((lo + hi) / 2 + 1))
        case measure => omega
        case rel =>
          refine ⟨(lo + hi) / 2 + 1, hi, by rw [show ((lo : Int) + (hi : Int)) / 2 + 1 = (((lo + hi) / 2 + 1 : Nat) : Int) by omega], rfl, by omega, hin, Nat.le_refl _, hbw.trans (hb'.mono hbl), Lib.hid ⟨fun t ht => ?_, I.out.2⟩⟩
          by_cases e : t = (lo + hi) / 2
          · subst e; rw [← Y.out]; exact hyx
          · have a := HM.out t ((lo + hi) / 2) (by omega) (by omega)
            rw [← Y.out] at a
            omega
      · have hq : ¬ q < 0 := fun h => hyx (HN.out.1 h)
        go_wp2_with (go_at_call 80; refine (HS.out _).mono ?_; rintro e w' ⟨rfl, hb'⟩)
        go_roundg ((lo + hi) / 2 - lo)
        case measure => omega
        case rel =>
          refine ⟨lo, (lo + hi) / 2, rfl, by rw [show ((lo : Int) + (hi : Int)) / 2 = (((lo + hi) / 2 : Nat) : Int) by omega], by omega, by omega, Nat.le_refl _, hbw.trans (hb'.mono hbl), Lib.hid ⟨I.out.1, fun t ht htn => ?_⟩⟩
          by_cases e : t = (lo + hi) / 2
          · subst e; rw [← Y.out]; omega
          · have a := HM.out ((lo + hi) / 2) t (by omega) htn
            rw [← Y.out] at a
            omega
    · obtain rfl : hi = lo := by omega
      have hix : ix = hi := HI.out hi hin I.out.1 I.out.2
      subst hix
      by_cases hn : ix < R.length
      · obtain ⟨b, off, hao, hbs, hc⟩ := HCS.out (by omega)
        subst hao
        obtain ⟨c1, c2, c3, c4⟩ := hc ix hn
        rw [← hbw.cell (p := ⟨b, off + ix * 4, none⟩) hbs] at c1
        rw [← hbw.cell (p := ⟨b, off + ix * 4 + 1, none⟩) hbs] at c2
        rw [← hbw.cell (p := ⟨b, off + ix * 4 + 2, none⟩) hbs] at c3
        rw [← hbw.cell (p := ⟨b, off + ix * 4 + 3, none⟩) hbs] at c4
        have HS := Lib.hid (placeC_any (R.getD ix RE0) u)
        have HZ := Lib.hid (cmpI_zero (R.getD ix RE0).uid u)
        have HT : Hid (ht = decide ((R.getD ix RE0).uid = u)) := Lib.hid (by rw [HH.out]; simp [hn])
        clear hc HH
        generalize (R.getD ix RE0).uid = x at *
        generalize (R.getD ix RE0).gone = yg at *
        generalize (R.getD ix RE0).rct = yr at *
        generalize (R.getD ix RE0).ptr = yp at *
        generalize cmpI x u = q at *
        rw [← HT.out] at HZ
        clear HT
        cases ht with
        | true =>
          have hq : (q == 0) = true := HZ.out
          go_wp2_with (go_at_call 80; refine (HS.out _).mono ?_; rintro e w' ⟨rfl, hb'⟩)
          go_ret2
          exact ⟨rfl, hbw.trans (hb'.mono hbl)⟩
        | false =>
          have hq : (q == 0) = false := HZ.out
          go_wp2_with (go_at_call 80; refine (HS.out _).mono ?_; rintro e w' ⟨rfl, hb'⟩)
          go_ret2
          exact ⟨rfl, hbw.trans (hb'.mono hbl)⟩
      · have HRR : Hid (ht = false) := Lib.hid (by rw [HH.out]; simp [hn])
        go_wp2
        go_ret2
        exact ⟨by rw [HRR.out]; rfl, hbw⟩

/-- What is always asked of a view. -/
structure VOK (R : List RE) (C : List Int) (N : Nat) : Prop where
  rise : riseF 0 (uidR R ++ C)
  top : ∀ x ∈ uidR R ++ C, x < 4294967295
  len : R.length + C.length ≤ N
theorem VOK.rows {R : List RE} {C : List Int} {N : Nat} (h : VOK R C N) : riseF 0 (uidR R) := ((riseF_append _ _ _).1 h.rise).1
section
variable {P : Nat} {val : Int} {rv cv : Value} {R : List RE} {C : List Int} {w : World} {N : Nat}
set_option maxHeartbeats 400000 in
theorem place_any (h : VAt P val rv cv R C w) (hk : VOK R C N) (hN : N ≤ 1000000) (u : Int) :
    Calls Tryz.prog 68 #[.pointer (some ⟨P, 0, none⟩), .int .i64 u] w fun e w' => e = .returned (.tuple #[.int .i64 (ixP (uidR R) u : Nat), .bool (hitP (uidR R) u)]) ∧ Below w.heap.size w w' := by
  have H := Lib.hid (rsearch_any rv R u w (rws_of h.rows) (by have := hk.len; omega) hk.rows)
  have c2 := h.cells.c2
  clear h hk
  generalize hitP (uidR R) u = ht at *
  generalize ixP (uidR R) u = ix at *
  go_enter Tryz.func68, Tryz.ntmps68
  go_wp2_with fail
  refine H.out.mono ?_
  rintro e w' ⟨rfl, hb'⟩
  go_wp2_with fail
  go_ret2
  exact ⟨rfl, hb'⟩
def atR (R : List RE) (u : Int) : RE := if hitP (uidR R) u = true then R.getD (ixP (uidR R) u) RE0 else RE0
set_option maxHeartbeats 1000000 in
theorem at_any (h : VAt P val rv cv R C w) (hk : VOK R C N) (hN : N ≤ 1000000) (u : Int) :
    Calls Tryz.prog 69 #[.pointer (some ⟨P, 0, none⟩), .int .i64 u] w fun e w' => e = .returned (.agg #[.int .i64 (atR R u).uid, .bool (atR R u).gone, .bool (atR R u).rct, (atR R u).ptr]) ∧ Below w.heap.size w w' := by
  have hb1 : Below w.heap.size w (w.alloc (.cells #[.int .i64 0, .bool false, .bool false, .pointer none] 92)) := (Below.refl _ _).alloc (Nat.le_refl _) _
  have h1 := h.on hb1
  have H := Lib.hid (place_any h1 hk hN u)
  have hn : (w.alloc (.cells #[.int .i64 0, .bool false, .bool false, .pointer none] 92)).heap[w.heap.size]? = some (.cells #[.int .i64 0, .bool false, .bool false, .pointer none] 92 (0, 0)) := heap_alloc_new w _
  have hz : w.heap.size < (w.alloc (.cells #[.int .i64 0, .bool false, .bool false, .pointer none] 92)).heap.size := by simp
  have HB1 := Lib.hid hb1
  have HR : Hid (∀ w2, Below (w.alloc (.cells #[.int .i64 0, .bool false, .bool false, .pointer none] 92)).heap.size (w.alloc (.cells #[.int .i64 0, .bool false, .bool false, .pointer none] 92)) w2 → w2.heap[w.heap.size]? = some (.cells #[.int .i64 0, .bool false, .bool false, .pointer none] 92 (0, 0))) := Lib.hid (fun w2 hb => by rw [hb.block _ hz]; exact hn)
  have HBB : Hid (∀ w2, Below (w.alloc (.cells #[.int .i64 0, .bool false, .bool false, .pointer none] 92)).heap.size (w.alloc (.cells #[.int .i64 0, .bool false, .bool false, .pointer none] 92)) w2 → Below w.heap.size w w2) := Lib.hid (fun w2 hb => hb1.trans (hb.mono (by simp)))
  clear hb1 hn
  unfold atR
  cases hh : hitP (uidR R) u with
  | false =>
    rw [hh] at H
    clear h hk h1
    generalize ixP (uidR R) u = ix at *
    simp only [Bool.false_eq_true, if_false]
    go_enter Tryz.func69, Tryz.ntmps69
    go_wp2_with (go_at_call 68; refine H.out.mono ?_; rintro e w' ⟨rfl, hb'⟩; have hr := HR.out _ hb'; have r0 := cell_of hr 0; have r1 := cell_of hr 1; have r2 := cell_of hr 2; have r3 := cell_of hr 3; have f0 := frozen_of hr 0; have f1 := frozen_of hr 1; have f2 := frozen_of hr 2; have f3 := frozen_of hr 3; have HB2 := Lib.hid (HBB.out _ hb'); simp only [List.getElem?_toArray, List.getElem?_cons_zero, List.getElem?_cons_succ] at r0 r1 r2 r3; clear hb' hr)
    refine bodyPost_ret (v := .agg #[.int .i64 RE0.uid, .bool RE0.gone, .bool RE0.rct, RE0.ptr]) (by simp [results, Tryz.results69, go_sem, r0, r1, r2, r3, RE0, RE.ptr]) rfl ⟨rfl, ?_⟩
    repeat (first | exact HB2.out | refine Below.setCell ?_ (by simp) _)
  | true =>
    have hix : ixP (uidR R) u < R.length := by
      unfold hitP at hh
      rw [decide_eq_true_iff, uidR_length] at hh
      exact hh.1
    have hR : R.length ≤ 1000000 := by have := hk.len; omega
    rw [hh] at H
    have c2 := h1.cells.c2
    obtain ⟨a, c, hv, hcs⟩ := rws_of h1.rows
    obtain ⟨g, off, rfl, hg, hc⟩ := hcs (by omega)
    subst hv
    obtain ⟨c4, c5, c6, c7⟩ := hc _ hix
    have hP : P < (w.alloc (.cells #[.int .i64 0, .bool false, .bool false, .pointer none] 92)).heap.size := lt_of_heap h1.self
    have hgn : g ≠ w.heap.size := by
      intro e
      have := (h.rows.lt g rfl).2
      omega
    clear h hk hcs hc hh h1
    simp only [if_true]
    obtain ⟨yo, hyo⟩ : ∃ yo, (R.getD (ixP (uidR R) u) RE0).ptr = .pointer yo := ⟨_, rfl⟩
    rw [hyo] at c7 ⊢
    clear hyo
    generalize (R.getD (ixP (uidR R) u) RE0).uid = x at *
    generalize (R.getD (ixP (uidR R) u) RE0).gone = yg at *
    generalize (R.getD (ixP (uidR R) u) RE0).rct = yr at *
    generalize ixP (uidR R) u = ix at *
    generalize R.length = n at *
    go_enter Tryz.func69, Tryz.ntmps69
    go_wp2_with (go_at_call 68; refine H.out.mono ?_; rintro e w' ⟨rfl, hb'⟩; rw [← hb'.cell (p := ⟨P, 2, none⟩) hP] at c2; rw [← hb'.cell (p := ⟨g, off + ix * 4, none⟩) hg] at c4; rw [← hb'.cell (p := ⟨g, off + ix * 4 + 1, none⟩) hg] at c5; rw [← hb'.cell (p := ⟨g, off + ix * 4 + 2, none⟩) hg] at c6; rw [← hb'.cell (p := ⟨g, off + ix * 4 + 3, none⟩) hg] at c7; have hr := HR.out _ hb'; have r0 := cell_of hr 0; have r1 := cell_of hr 1; have r2 := cell_of hr 2; have r3 := cell_of hr 3; have f0 := frozen_of hr 0; have f1 := frozen_of hr 1; have f2 := frozen_of hr 2; have f3 := frozen_of hr 3; have HB2 := Lib.hid (HBB.out _ hb'); simp only [List.getElem?_toArray, List.getElem?_cons_zero, List.getElem?_cons_succ] at r0 r1 r2 r3; clear hb' hr)
    refine bodyPost_ret (v := .agg #[.int .i64 x, .bool yg, .bool yr, .pointer yo]) (by simp [results, Tryz.results69, go_sem, r0, r1, r2, r3]) rfl ⟨rfl, ?_⟩
    repeat (first | exact HB2.out | refine Below.setCell ?_ (by simp) _)
end
end Go.Proofs.YtmedpcldfpfpnaaGreat

/- view: greatest, come, settle. -/
namespace Go.Proofs.YtmedpcldfpfpnaaGreat
open Go.RowKit

/-- v is a list of numbers, l, in memory. -/
def Nms (w : World) (v : Value) (l : List Int) : Prop :=
  ∃ a c, v = .slice a l.length c ∧ (0 < l.length → ∃ g off, a = some ⟨g, off, none⟩ ∧ g < w.heap.size ∧ ∀ i, i < l.length → w.cell? ⟨g, off + i, none⟩ = some (.int .i64 (l.getD i 0)))
theorem Nms.hold {w w' : World} {v : Value} {l : List Int} (h : Nms w v l) (hz : w.heap.size ≤ w'.heap.size) (hs : 0 < l.length → ∀ b, v.ownBlock = some b → b < w.heap.size → w'.heap[b]? = w.heap[b]?) : Nms w' v l := by
  obtain ⟨a, c, rfl, h⟩ := h
  refine ⟨a, c, rfl, fun hl => ?_⟩
  obtain ⟨g, off, rfl, hg, hc⟩ := h hl
  refine ⟨g, off, rfl, by omega, fun i hi => ?_⟩
  rw [World.cell?_of_block (a := ⟨g, off + i, none⟩) (hs hl g rfl hg)]
  exact hc i hi
theorem Nms.on {w w' : World} {v : Value} {l : List Int} (h : Nms w v l) (hb : Below w.heap.size w w') : Nms w' v l := h.hold hb.size (fun _ b _ hl => hb.block b hl)
theorem nms_of {w : World} {v : Value} {l : List Int} {B : Nat} (h : w.ownsRow B 3 1 v l.length (ic l)) : Nms w v l := by
  rcases h.2 with ⟨rfl, h0⟩ | ⟨g, cap, cur, rfl, hB, hg, rest⟩
  · exact ⟨none, 0, by rw [h0], fun hl => by omega⟩
  · refine ⟨_, cap, rfl, fun _ => ⟨g, 0, rfl, lt_of_heap hg, fun i hi => ?_⟩⟩
    have c1 := h.cells (g := g) rfl i _ (ic_at l i hi)
    rw [Addr.add_lit] at c1
    exact c1
theorem Nms.ofInts {w : World} {v : Value} {l : List Int} (h : Ints w v l) : Nms w v l := by
  rcases h with ⟨rfl, ao, cap, rfl, _⟩ | ⟨b, off, cap, rfl, _, hb, hc⟩
  · exact ⟨ao, cap, rfl, fun h => by simp at h⟩
  · exact ⟨_, cap, rfl, fun _ => ⟨b, off, rfl, hb, hc⟩⟩
theorem FO.keep {f f' : List Nat} {w w' : World} (h : FO f f' w w') {b : Nat} (hb : b < w.heap.size) (hn : b ∉ f) : w'.heap[b]? = w.heap[b]? := h.1.block b hb hn
theorem FO.out {f f' : List Nat} {w w' : World} (h : FO f f' w w') {b : Nat} (hb : b < w.heap.size) (hn : b ∉ f) : b ∉ f' := fun e => by
  rcases h.2 b e with e' | e'
  · exact hn e'
  · omega
theorem Nms.past {f f' : List Nat} {w w' : World} {v : Value} {l : List Int} (h : Nms w v l) (hf : FO f f' w w') (hn : 0 < l.length → ∀ b, v.ownBlock = some b → b ∉ f) : Nms w' v l := h.hold hf.1.size (fun h0 b e hl => hf.keep hl (hn h0 b e))

def topC (U C : List Int) : Int := lastD C (lastD U 0)
def come1 (U C : List Int) (u : Int) : List Int := if topC U C < u ∧ u < 4294967295 then C ++ [u] else C
def comesC (U C us : List Int) : List Int := us.foldl (come1 U) C
theorem come1_len (U C : List Int) (u : Int) : (come1 U C u).length ≤ C.length + 1 := by unfold come1; split <;> simp
theorem comesC_len (U : List Int) : ∀ (us C : List Int), (comesC U C us).length ≤ C.length + us.length
  | [], C => Nat.le_refl _
  | u :: us, C => by
    have h1 := comesC_len U us (come1 U C u)
    have h2 := come1_len U C u
    show (comesC U (come1 U C u) us).length ≤ _
    simp only [List.length_cons]; omega
theorem comesC_snoc (U C us : List Int) (u : Int) : comesC U C (us ++ [u]) = come1 U (comesC U C us) u := by simp [comesC]
theorem comeP_C (V : PV) (u : Int) : comeP V u = { V with com := come1 (uidsP V) V.com u } := by
  unfold comeP come1 topP topC
  split <;> rfl
theorem comesP_C : ∀ (us : List Int) (V : PV), comesP V us = { V with com := comesC (uidsP V) V.com us }
  | [], V => rfl
  | u :: us, V => by
    show comesP (comeP V u) us = _
    rw [comesP_C us (comeP V u), comeP_C]
    rfl
/-- What a step leaves of a view's memory. -/
def VO (P : Nat) (val : Int) (R' : List RE) (C' : List Int) (fp : List Nat) (w w' : World) : Prop := ∃ rv' cv', VAt P val rv' cv' R' C' w' ∧ FO fp (fpV P rv' cv' R') w w'
section
variable {P : Nat} {val : Int} {rv cv : Value} {R : List RE} {C : List Int} {w : World} {N : Nat}
theorem VO.refl (h : VAt P val rv cv R C w) : VO P val R C (fpV P rv cv R) w w := ⟨rv, cv, h, FO.refl _ _⟩
theorem VO.on {fp : List Nat} {w1 w' : World} (h : VO P val R C fp w w1) (hb : Below w1.heap.size w1 w') : VO P val R C fp w w' := by
  obtain ⟨rv', cv', h1, h2⟩ := h
  exact ⟨rv', cv', h1.on hb, h2.trans (FO.below hb)⟩
theorem VO.trans {fp : List Nat} {R2 : List RE} {C2 : List Int} {w1 w' : World} (h : VO P val R C fp w w1) (k : ∀ rv1 cv1, VAt P val rv1 cv1 R C w1 → VO P val R2 C2 (fpV P rv1 cv1 R) w1 w') : VO P val R2 C2 fp w w' := by
  obtain ⟨rv', cv', h1, h2⟩ := h
  obtain ⟨rv2, cv2, k1, k2⟩ := k rv' cv' h1
  exact ⟨rv2, cv2, k1, h2.trans k2⟩
set_option maxHeartbeats 1000000 in
theorem greatest_any (h : VAt P val rv cv R C w) (hR : R.length ≤ 1000000) (hC : C.length ≤ 1000000) :
    Calls Tryz.prog 45 #[.pointer (some ⟨P, 0, none⟩)] w fun e w' => e = .returned (.int .i64 (topC (uidR R) C)) ∧ w' = w := by
  have c2 := h.cells.c2
  have c3 := h.cells.c3
  obtain ⟨a3, k3, hv3, hcs3⟩ := nms_of h.com
  obtain ⟨a2, k2, hv2, hcs2⟩ := rws_of h.rows
  subst hv3 hv2
  by_cases hc : C = []
  · subst hc
    by_cases hr : R = []
    · subst hr
      clear h hcs3 hcs2
      go_enter Tryz.func45, Tryz.ntmps45
      go_wp2
      go_ret
      exact ⟨rfl, rfl⟩
    · have hp : 0 < R.length := List.length_pos_iff.2 hr
      obtain ⟨g, off, rfl, _, hcc⟩ := hcs2 hp
      obtain ⟨m, hm⟩ : ∃ m, R.length = m + 1 := ⟨R.length - 1, by omega⟩
      have c1 := (hcc m (by omega)).1
      have HE : Hid (topC (uidR R) [] = (R.getD m RE0).uid) := Lib.hid (by
        show lastD (uidR R) 0 = _
        rw [lastD_getD _ _ (by simpa [uidR] using hr), uidR_length, hm, Nat.add_sub_cancel, uidR_at])
      clear h hcs3 hcs2 hcc hr hp
      rw [hm] at c2 hR
      generalize topC (uidR R) [] = tp at *
      generalize (R.getD m RE0).uid = x at *
      have hm1 : ((m : Int) + 1) - 1 = m := by omega
      have hmz : (0 : Int) < (m : Int) + 1 := by omega
      go_enter Tryz.func45, Tryz.ntmps45
      go_wp2
      go_ret
      exact ⟨ret_int HE.out.symm, rfl⟩
  · have hp : 0 < C.length := List.length_pos_iff.2 hc
    obtain ⟨g, off, rfl, _, hcc⟩ := hcs3 hp
    obtain ⟨m, hm⟩ : ∃ m, C.length = m + 1 := ⟨C.length - 1, by omega⟩
    have c1 := hcc m (by omega)
    have HE : Hid (topC (uidR R) C = C.getD m 0) := Lib.hid (by
      show lastD C _ = _
      rw [lastD_getD _ _ hc, hm, Nat.add_sub_cancel])
    clear h hcs3 hcs2 hcc hc hp
    rw [hm] at c3 hC
    generalize topC (uidR R) C = tp at *
    generalize C.getD m 0 = x at *
    have hm1 : ((m : Int) + 1) - 1 = m := by omega
    have hmz : (0 : Int) < (m : Int) + 1 := by omega
    go_enter Tryz.func45, Tryz.ntmps45
    go_wp2
    go_ret
    exact ⟨ret_int HE.out.symm, rfl⟩
set_option maxRecDepth 100000 in
set_option maxHeartbeats 2000000 in
theorem come_any (h : VAt P val rv cv R C w) (v : Value) (us : List Int) (hv : Nms w v us) (hn : 0 < us.length → ∀ b, v.ownBlock = some b → b ∉ fpV P rv cv R) (hR : R.length ≤ 1000000) (hC : C.length + us.length ≤ 1000000) :
    Calls Tryz.prog 21 #[.pointer (some ⟨P, 0, none⟩), v] w fun e w' => e = .returned (.tuple #[]) ∧ VO P val R (comesC (uidR R) C us) (fpV P rv cv R) w w' := by
  obtain ⟨av, kv, hve, hvs⟩ := hv
  subst hve
  have HV := Lib.hid hvs
  have HN := Lib.hid hn
  have H0 := Lib.hid (VO.refl h)
  have hUs : us.length ≤ 1000000 := by omega
  clear h hvs hn
  go_enter Tryz.func21, Tryz.ntmps21
  go_wp2
  go_loopw [8] (fun i wr => ∃ k : Nat, k ≤ us.length ∧ i = .int .i64 k ∧ VO P val R (comesC (uidR R) C (us.take k)) (fpV P rv cv R) w wr) (fun i _ => us.length - (intOf i).toNat)
  case atStart => exact ⟨0, Nat.zero_le _, rfl, H0.out⟩
  case round =>
    obtain ⟨k, hk, rfl, hO⟩ := hrel
    by_cases hlt : k < us.length
    · have hlti : (k : Int) < (us.length : Int) := by omega
      obtain ⟨g, off, rfl, hg, hcc⟩ := HV.out (by omega)
      obtain ⟨rv1, cv1, h1, f1⟩ := hO
      have ck := hcc k hlt
      rw [← World.cell?_of_block (a := ⟨g, off + k, none⟩) (f1.keep hg (HN.out (by omega) g rfl))] at ck
      have hst : us.take (k + 1) = us.take k ++ [us.getD k 0] := take_snocI us k hlt
      have hcl := comesC_len (uidR R) (us.take k) C
      rw [List.length_take] at hcl
      have hcl2 : (comesC (uidR R) C (us.take k)).length ≤ 1000000 := by omega
      have HG := Lib.hid (greatest_any h1 hR hcl2)
      have HS : Hid (comesC (uidR R) C (us.take (k + 1)) = come1 (uidR R) (comesC (uidR R) C (us.take k)) (us.getD k 0)) := Lib.hid (by rw [hst, comesC_snoc])
      have HE : Hid (come1 (uidR R) (comesC (uidR R) C (us.take k)) (us.getD k 0) = if topC (uidR R) (comesC (uidR R) C (us.take k)) < us.getD k 0 ∧ us.getD k 0 < 4294967295 then comesC (uidR R) C (us.take k) ++ [us.getD k 0] else comesC (uidR R) C (us.take k)) := Lib.hid rfl
      obtain ⟨a4, k4, W4, r4, s4, h4, f4⟩ := h1.addC (us.getD k 0) (by omega)
      have c3 := h1.cells.c3
      have d3 := (selfV_cells s4).c3
      have g3 := (selfV_cells s4).f3
      have HO1 : Hid (VO P val R (comesC (uidR R) C (us.take k)) (fpV P rv cv R) w wr) := Lib.hid ⟨rv1, cv1, h1, f1⟩
      have HO4 : Hid (VO P val R (comesC (uidR R) C (us.take k) ++ [us.getD k 0]) (fpV P rv cv R) w (W4.setCell ⟨P, 3, none⟩ (.slice a4 ((comesC (uidR R) C (us.take k)).length + 1) k4))) := Lib.hid ⟨_, _, h4, f1.trans f4⟩
      have R4 := Lib.hid r4
      clear hst hcl h1 f1 r4 s4 h4 f4 hcc
      generalize us.getD k 0 = u at *
      generalize comesC (uidR R) C (us.take k) = D at *
      generalize topC (uidR R) D = tp at *
      generalize come1 (uidR R) D u = D2 at *
      generalize D.length = nD at *
      by_cases h5 : tp < u
      · by_cases h6 : u < 4294967295
        · have HF : Hid (D2 = D ++ [u]) := Lib.hid (by rw [HE.out, if_pos ⟨h5, h6⟩])
          go_wp2_with (first | (go_at_call 45; refine HG.out.mono ?_; rintro e w' ⟨rfl, hw⟩; subst w') | (at_builtin; refine append_by_run (u := cv1) (v := .slice (some ⟨wr.heap.size, 0, none⟩) 1 1) rfl _ _ _ rfl 29 rfl rfl rfl _ _ R4.out ?_))
          go_roundw
          case rel => exact ⟨k + 1, by omega, by go_num, by rw [HS.out, HF.out]; exact HO4.out⟩
          case measure => simp [intOf]; omega
        · have HF : Hid (D2 = D) := Lib.hid (by rw [HE.out, if_neg (fun h => h6 h.2)])
          go_wp2_with (go_at_call 45; refine HG.out.mono ?_; rintro e w' ⟨rfl, hw⟩; subst w')
          go_roundw
          case rel => exact ⟨k + 1, by omega, by go_num, by rw [HS.out, HF.out]; exact HO1.out⟩
          case measure => simp [intOf]; omega
      · have HF : Hid (D2 = D) := Lib.hid (by rw [HE.out, if_neg (fun h => h5 h.1)])
        go_wp2_with (go_at_call 45; refine HG.out.mono ?_; rintro e w' ⟨rfl, hw⟩; subst w')
        go_roundw
        case rel => exact ⟨k + 1, by omega, by go_num, by rw [HS.out, HF.out]; exact HO1.out⟩
        case measure => simp [intOf]; omega
    · obtain rfl : k = us.length := by omega
      rw [List.take_of_length_le (Nat.le_refl _)] at hO
      have HO := Lib.hid hO
      clear hO
      go_wp2
      first | refine bodyPost_end (results_none rfl _ _ _) rfl ?_ | refine bodyPost_ret (results_none rfl _ _ _) rfl ?_
      exact ⟨rfl, HO.out⟩
end
end Go.Proofs.YtmedpcldfpfpnaaGreat

/- view: settle, following, uids. -/
namespace Go.Proofs.YtmedpcldfpfpnaaGreat
open Go.RowKit

def nrE (recent u : Int) : RE := ⟨u, false, decide (recent ≤ u), none⟩
theorem nrE_pl (recent u : Int) : (nrE recent u).pl = newR recent u := rfl
def folN (f : Int) (k : Nat) : List Int := (List.range k).map fun (i : Nat) => f + (i : Int)
theorem folN_length (f : Int) (k : Nat) : (folN f k).length = k := by simp [folN]
theorem folN_succ (f : Int) (k : Nat) : folN f (k + 1) = folN f k ++ [f + k] := by simp [folN, List.range_succ]
theorem folN_cons (f : Int) (k : Nat) : folN f (k + 1) = f :: folN (f + 1) k := by
  simp only [folN, List.range_succ_eq_map, List.map_cons, List.map_map]
  congr 1
  · simp
  · apply List.map_congr_left
    intro i _
    simp only [Function.comp]
    omega
theorem fol_eq : ∀ (c k : Nat) (f : Int), k ≤ c → (∀ i : Nat, i < k → f + i < 4294967295) → (k = c ∨ ¬ f + k < 4294967295) → fol f c = folN f k
  | 0, k, f, h, _, _ => by
    have : k = 0 := by omega
    subst this
    rfl
  | c + 1, 0, f, _, _, h => by
    have h1 : ¬ f < 4294967295 := by
      rcases h with h | h
      · omega
      · simpa using h
    show (if f < 4294967295 then f :: fol (f + 1) c else []) = []
    rw [if_neg h1]
  | c + 1, k + 1, f, h, h2, h3 => by
    have h1 : f < 4294967295 := by have := h2 0 (by omega); simpa using this
    show (if f < 4294967295 then f :: fol (f + 1) c else []) = _
    rw [if_pos h1, folN_cons, fol_eq c k (f + 1) (by omega) (fun i hi => by have := h2 (i + 1) (by omega); push_cast at this; omega) (by
      rcases h3 with h3 | h3
      · left; omega
      · right; push_cast at h3; omega)]
section
variable {P : Nat} {val : Int} {rv cv : Value} {R : List RE} {C : List Int} {w : World} {N : Nat}
set_option maxRecDepth 100000 in
set_option maxHeartbeats 2000000 in
theorem settle_any (h : VAt P val rv cv R C w) (recent : Int) (hN : R.length + C.length ≤ 1000000) :
    Calls Tryz.prog 22 #[.pointer (some ⟨P, 0, none⟩), .int .i64 recent] w fun e w' => e = .returned (.tuple #[]) ∧ VO P val (R ++ C.map (nrE recent)) [] (fpV P rv cv R) w w' := by
  obtain ⟨av, kv, hve, hvs⟩ := nms_of h.com
  subst hve
  have c3 := h.cells.c3
  have H0 := Lib.hid h
  clear h hvs
  go_enter Tryz.func22, Tryz.ntmps22
  go_wp2
  go_loopw [11] (fun i wr => ∃ k : Nat, k ≤ C.length ∧ i = .int .i64 k ∧ ∃ rv1, VAt P val rv1 (.slice av C.length kv) (R ++ (C.take k).map (nrE recent)) C wr ∧ FO (fpV P rv (.slice av C.length kv) R) (fpV P rv1 (.slice av C.length kv) (R ++ (C.take k).map (nrE recent))) w wr) (fun i _ => C.length - (intOf i).toNat)
  case atStart => exact ⟨0, Nat.zero_le _, rfl, rv, by simpa using H0.out, by simpa using FO.refl _ _⟩
  case round =>
    clear c3
    obtain ⟨k, hk, rfl, rv1, h1, f1⟩ := hrel
    by_cases hlt : k < C.length
    · have hlti : (k : Int) < (C.length : Int) := by omega
      have hst : (C.take (k + 1)).map (nrE recent) = (C.take k).map (nrE recent) ++ [nrE recent (C.getD k 0)] := by rw [take_snocI C k hlt, List.map_append]; rfl
      have hll : (R ++ (C.take k).map (nrE recent)).length ≤ 1000000 := by simp only [List.length_append, List.length_map, List.length_take]; omega
      obtain ⟨av2, kv2, hve2, hvs2⟩ := nms_of h1.com
      obtain ⟨g, off, hg0, hg, hcc⟩ := hvs2 (by omega)
      cases hve2
      subst hg0
      have ck := hcc k hlt
      obtain ⟨a4, k4, W4, r4, s4, h4, f4⟩ := h1.addR (nrE recent (C.getD k 0)) rfl (by omega)
      have c2 := h1.cells.c2
      have d2 := (selfV_cells s4).c2
      have g2 := (selfV_cells s4).f2
      rw [List.append_assoc, ← hst] at h4 f4
      have HO4 := Lib.hid h4
      have HF4 := Lib.hid (f1.trans f4)
      have r5 : (Builtin.append_ #[64, 64] 64 #[rv1, .slice (some ⟨wr.heap.size, 0, none⟩) 1 1]).run Tryz.prog (wr.alloc (.cells #[.int .i64 (C.getD k 0), .bool false, .bool (decide (recent ≤ C.getD k 0)), .pointer none] 92)) = .ok (.slice a4 ((R ++ (C.take k).map (nrE recent)).length + 1) k4) W4 := r4
      have R4 := Lib.hid r5
      clear hst h1 f1 r4 r5 s4 h4 f4 hcc hvs2
      generalize C.getD k 0 = u at *
      generalize (R ++ (C.take k).map (nrE recent)).length = nD at *
      by_cases h5 : recent ≤ u
      · rw [decide_eq_true h5] at R4
        go_wp2_with (at_builtin; refine append_by_run (u := rv1) (v := .slice (some ⟨wr.heap.size, 0, none⟩) 1 1) rfl _ _ _ rfl 64 rfl rfl rfl _ _ R4.out ?_)
        go_roundw
        case rel => exact ⟨k + 1, by omega, by go_num, _, HO4.out, HF4.out⟩
        case measure => simp [intOf]; omega
      · rw [decide_eq_false h5] at R4
        go_wp2_with (at_builtin; refine append_by_run (u := rv1) (v := .slice (some ⟨wr.heap.size, 0, none⟩) 1 1) rfl _ _ _ rfl 64 rfl rfl rfl _ _ R4.out ?_)
        go_roundw
        case rel => exact ⟨k + 1, by omega, by go_num, _, HO4.out, HF4.out⟩
        case measure => simp [intOf]; omega
    · obtain rfl : k = C.length := by omega
      rw [List.take_of_length_le (Nat.le_refl _)] at h1 f1
      obtain ⟨h2, f2⟩ := h1.noC
      have c3 := h1.cells.c3
      have g3 := h1.cells.f3
      have HO : Hid (VO P val (R ++ C.map (nrE recent)) [] (fpV P rv (.slice av C.length kv) R) w (wr.setCell ⟨P, 3, none⟩ (.slice none 0 0))) := Lib.hid ⟨_, _, h2, f1.trans f2⟩
      clear h1 f1 h2 f2
      go_wp2
      first | refine bodyPost_end (results_none rfl _ _ _) rfl ?_ | refine bodyPost_ret (results_none rfl _ _ _) rfl ?_
      exact ⟨rfl, HO.out⟩
end
set_option maxRecDepth 100000 in
set_option maxHeartbeats 2000000 in
theorem following_any (f : Int) (c : Nat) (w : World) (hf : -9223372036854775808 ≤ f) (hc : c ≤ 1000000) :
    Calls Tryz.prog 72 #[.int .i64 f, .int .i64 (c : Int)] w fun e w' => ∃ v', e = .returned v' ∧ OwnI w.heap.size v' (fol f c) w w' := by
  have HFE := Lib.hid (fol_eq c)
  go_enter Tryz.func72, Tryz.ntmps72
  go_wp2
  go_loopw [5, 6] (fun v5 n wr => ∃ k : Nat, k ≤ c ∧ n = .int .i64 (f + k) ∧ OwnI w.heap.size v5 (folN f k) w wr ∧ Hid (∀ i : Nat, i < k → f + i < 4294967295)) (fun v5 _ _ => c - (match v5 with | .slice _ n _ => n | _ => 0))
  case atStart => exact ⟨0, Nat.zero_le _, by simp, OwnI.nil (Below.refl _ _) (Nat.le_refl _), Lib.hid (fun i hi => by omega)⟩
  case round =>
    obtain ⟨k, hk, rfl, hO, HK⟩ := hrel
    have hrow := hO.row
    rw [folN_length] at hrow
    obtain ⟨a5, k5, hv5⟩ := ownsRow_shape hrow
    subst hv5
    have HO := Lib.hid hO
    clear hO hrow
    by_cases h1 : k < c
    · have h1i : (k : Int) < (c : Int) := by omega
      by_cases h2 : f + (k : Int) < 4294967295
      · have hb1 : -9223372036854775808 ≤ f + (k : Int) := by omega
        have HS := Lib.hid (folN_succ f k)
        have HE : Hid (f + (k : Int) + 1 = f + ((k + 1 : Nat) : Int)) := Lib.hid (by omega)
        have HK2 : Hid (∀ i : Nat, i < k + 1 → f + i < 4294967295) := Lib.hid (fun i hi => by
          by_cases e : i = k
          · subst e; exact h2
          · exact HK.out i (by omega))
        have HL : Hid ((folN f k).length + 1 ≤ 17592186044416) := Lib.hid (by rw [folN_length]; omega)
        generalize f + (k : Int) = x at *
        go_wp2_with (at_builtin; refine appI rfl _ _ rfl x HO.out rfl rfl HL.out ?_; intro v3 w3 ho3; have HO3 := Lib.hid ho3; clear ho3)
        go_roundw
        case rel => exact ⟨k + 1, by omega, by rw [HE.out], by rw [HS.out]; exact HO3.out, HK2⟩
        case measure =>
          have h7 := HO3.out.row
          rw [List.length_append, folN_length] at h7
          obtain ⟨a7, k7, hv7⟩ := ownsRow_shape h7
          subst hv7
          simp
          omega
      · have HR := Lib.hid (HFE.out k f hk HK.out (.inr (by omega)))
        go_wp2_with fail
        go_ret
        exact ⟨_, rfl, by rw [HR.out]; exact HO.out⟩
    · have h1i : ¬ (k : Int) < (c : Int) := by omega
      have HR := Lib.hid (HFE.out k f hk HK.out (.inl (by omega)))
      go_wp2_with fail
      go_ret
      exact ⟨_, rfl, by rw [HR.out]; exact HO.out⟩
theorem take_snocE (R : List RE) (k : Nat) (hk : k < R.length) : R.take (k + 1) = R.take k ++ [R.getD k RE0] := by
  rw [List.take_succ_eq_append_getElem hk]; simp [hk]
def pickU (p : RE → Bool) (R : List RE) : List Int := uidR (R.filter p)
theorem pickU_snoc (p : RE → Bool) (R : List RE) (r : RE) : pickU p (R ++ [r]) = pickU p R ++ (if p r = true then [r.uid] else []) := by
  unfold pickU uidR
  rw [List.filter_append, List.map_append]
  congr 1
  by_cases h : p r = true
  · rw [if_pos h, List.filter_cons_of_pos h]; rfl
  · rw [if_neg h, List.filter_cons_of_neg h]; rfl
theorem pickU_length (p : RE → Bool) (R : List RE) : (pickU p R).length ≤ R.length := by
  unfold pickU; rw [uidR_length]; exact List.length_filter_le _ _
section
variable {P : Nat} {val : Int} {rv cv : Value} {R : List RE} {C : List Int} {w : World} {N : Nat}
set_option maxRecDepth 100000 in
set_option maxHeartbeats 2000000 in
theorem uidsF_any (g : Nat) (eg : ∀ args w, (callFunc g args).run Tryz.prog w = .ok (.enter g args) w) (p : RE → Bool) (h : VAt P val rv cv R C w) (hR : R.length ≤ 1000000)
    (hp : ∀ (r : RE) (o : Option Addr) (X : World), r.ptr = .pointer o → Calls Tryz.prog g #[.agg #[.int .i64 r.uid, .bool r.gone, .bool r.rct, .pointer o]] X fun e w' => e = .returned (.bool (p r)) ∧ Below X.heap.size X w') :
    Calls Tryz.prog 42 #[.pointer (some ⟨P, 0, none⟩), .func (.func g) #[] #[]] w fun e w' => ∃ v', e = .returned v' ∧ OwnI w.heap.size v' (pickU p R) w w' := by
  have c2 := h.cells.c2
  obtain ⟨a2, k2, hv2, hcs2⟩ := rws_of h.rows
  subst hv2
  have HC := Lib.hid hcs2
  have HP := Lib.hid hp
  have HEg := Lib.hid eg
  clear h hcs2 hp
  go_enter Tryz.func42, Tryz.ntmps42
  go_wp2
  go_loopw [5, 13] (fun v5 i wr => ∃ k : Nat, k ≤ R.length ∧ i = .int .i64 k ∧ OwnI w.heap.size v5 (pickU p (R.take k)) w wr) (fun _ i _ => R.length - (intOf i).toNat)
  case atStart => exact ⟨0, Nat.zero_le _, rfl, OwnI.nil (Below.refl _ _) (Nat.le_refl _)⟩
  case round =>
    clear c2
    obtain ⟨k, hk, rfl, hO⟩ := hrel
    by_cases hlt : k < R.length
    · have hlti : (k : Int) < (R.length : Int) := by omega
      obtain ⟨b, off, rfl, hb, hcc⟩ := HC.out (by omega)
      obtain ⟨c4, c5, c6, c7⟩ := hcc k hlt
      rw [← hO.below.cell (p := ⟨b, off + k * 4, none⟩) hb] at c4
      rw [← hO.below.cell (p := ⟨b, off + k * 4 + 1, none⟩) hb] at c5
      rw [← hO.below.cell (p := ⟨b, off + k * 4 + 2, none⟩) hb] at c6
      rw [← hO.below.cell (p := ⟨b, off + k * 4 + 3, none⟩) hb] at c7
      have HS : Hid (pickU p (R.take (k + 1)) = pickU p (R.take k) ++ (if p (R.getD k RE0) = true then [(R.getD k RE0).uid] else [])) := Lib.hid (by rw [take_snocE R k hlt, pickU_snoc])
      have hpl := pickU_length p (R.take k)
      rw [List.length_take] at hpl
      obtain ⟨yo, hyo⟩ : ∃ yo, (R.getD k RE0).ptr = .pointer yo := ⟨_, rfl⟩
      have HPk := Lib.hid (fun X => HP.out (R.getD k RE0) yo X hyo)
      rw [hyo] at c7
      have HO := Lib.hid hO
      clear hcc hyo hO
      generalize (R.getD k RE0).uid = x at *
      generalize (R.getD k RE0).gone = yg at *
      generalize (R.getD k RE0).rct = yr at *
      generalize p (R.getD k RE0) = pp at *
      generalize pickU p (R.take k) = D at *
      have HZ : Hid (∀ w2, Below (wr.alloc (.cells #[.int .i64 x, .bool yg, .bool yr, .pointer yo] 92)).heap.size (wr.alloc (.cells #[.int .i64 x, .bool yg, .bool yr, .pointer yo] 92)) w2 → w2.cell? ⟨wr.heap.size, 0, none⟩ = some (.int .i64 x)) := Lib.hid (fun w2 hb2 => by
        have hn : (wr.alloc (.cells #[.int .i64 x, .bool yg, .bool yr, .pointer yo] 92)).heap[wr.heap.size]? = some (.cells #[.int .i64 x, .bool yg, .bool yr, .pointer yo] 92 (0, 0)) := heap_alloc_new wr _
        rw [hb2.cell (p := ⟨wr.heap.size, 0, none⟩) (by simp), cell_of hn 0]
        rfl)
      cases pp with
      | true =>
        go_wp2_with (first | (go_at_fn g; refine (HPk.out _).mono ?_; rintro e w2 ⟨rfl, hb2⟩; have HO2 := Lib.hid ((HO.out.alloc (.cells #[.int .i64 x, .bool yg, .bool yr, .pointer yo] 92)).on hb2); have cz := HZ.out _ hb2; clear hb2) | (at_builtin; refine appI rfl _ _ rfl x HO2.out rfl rfl (by omega) ?_; intro v3 w3 ho3; have HO3 := Lib.hid ho3; clear ho3))
        go_roundw
        case rel => exact ⟨k + 1, by omega, by go_num, by rw [HS.out]; exact HO3.out⟩
        case measure => simp [intOf]; omega
      | false =>
        go_wp2_with (go_at_fn g; refine (HPk.out _).mono ?_; rintro e w2 ⟨rfl, hb2⟩; have HO2 := Lib.hid ((HO.out.alloc (.cells #[.int .i64 x, .bool yg, .bool yr, .pointer yo] 92)).on hb2); clear hb2)
        go_roundw
        case rel => exact ⟨k + 1, by omega, by go_num, by rw [HS.out]; simpa using HO2.out⟩
        case measure => simp [intOf]; omega
    · obtain rfl : k = R.length := by omega
      rw [List.take_of_length_le (Nat.le_refl _)] at hO
      have HO := Lib.hid hO
      clear hO
      go_wp2
      go_ret
      exact ⟨_, rfl, HO.out⟩
end
end Go.Proofs.YtmedpcldfpfpnaaGreat

/- view: Uids, Seq, Gone, Recent; the small closures. -/
namespace Go.Proofs.YtmedpcldfpfpnaaGreat
open Go.RowKit

section
variable {P : Nat} {val : Int} {rv cv : Value} {R : List RE} {C : List Int} {w : World} {N : Nat}
set_option maxHeartbeats 400000 in
theorem some_any (P : Nat) (w : World) :
    Calls Tryz.prog 41 #[.pointer (some ⟨P, 0, none⟩)] w fun e w' => e = .returned (.pointer (some ⟨P, 0, none⟩)) ∧ w' = w := by
  go_enter Tryz.func41, Tryz.ntmps41
  go_wp2
  go_ret
  exact ⟨rfl, rfl⟩
set_option maxHeartbeats 400000 in
theorem uidsC_any (x : Int) (yg yr : Bool) (o : Option Addr) (X : World) : Calls Tryz.prog 43 #[.agg #[.int .i64 x, .bool yg, .bool yr, .pointer o]] X fun e w' => e = .returned (.bool true) ∧ Below X.heap.size X w' := by
  go_enter Tryz.func43, Tryz.ntmps43
  go_wp2
  go_ret
  exact ⟨rfl, (Below.refl _ _).alloc (Nat.le_refl _) _⟩
set_option maxHeartbeats 400000 in
theorem findC_any (x : Int) (yg yr : Bool) (o : Option Addr) (X : World) : Calls Tryz.prog 61 #[.agg #[.int .i64 x, .bool yg, .bool yr, .pointer o]] X fun e w' => e = .returned (.bool (!yg)) ∧ Below X.heap.size X w' := by
  go_enter Tryz.func61, Tryz.ntmps61
  go_wp2
  go_ret
  exact ⟨rfl, (Below.refl _ _).alloc (Nat.le_refl _) _⟩
set_option maxHeartbeats 400000 in
theorem newC_any (x : Int) (yg yr : Bool) (o : Option Addr) (X : World) : Calls Tryz.prog 73 #[.agg #[.int .i64 x, .bool yg, .bool yr, .pointer o]] X fun e w' => e = .returned (.bool yr) ∧ Below X.heap.size X w' := by
  go_enter Tryz.func73, Tryz.ntmps73
  go_wp2
  go_ret
  exact ⟨rfl, (Below.refl _ _).alloc (Nat.le_refl _) _⟩
theorem pickU_all (R : List RE) : pickU (fun _ => true) R = uidR R := by unfold pickU; rw [List.filter_eq_self.2 (fun _ _ => rfl)]
set_option maxHeartbeats 400000 in
theorem Uids_any (h : VAt P val rv cv R C w) (hR : R.length ≤ 1000000) :
    Calls Tryz.prog 15 #[.pointer (some ⟨P, 0, none⟩)] w fun e w' => ∃ v', e = .returned v' ∧ OwnI w.heap.size v' (uidR R) w w' := by
  have H := Lib.hid (uidsF_any 43 (enters_of Tryz.func43 (by kernel_rfl) rfl) (fun _ => true) h hR (fun r o X _ => uidsC_any _ _ _ _ _))
  rw [pickU_all] at H
  clear h
  go_enter Tryz.func15, Tryz.ntmps15
  go_wp2_with (first | (go_at_call 41; refine (some_any _ _).mono ?_; rintro e w' ⟨rfl, hw⟩; subst w') | (go_at_call 42; refine H.out.mono ?_; rintro e w1 ⟨v1, rfl, ho⟩; have HO := Lib.hid ho; clear ho))
  go_ret
  exact ⟨_, rfl, HO.out⟩
set_option maxHeartbeats 400000 in
theorem notGone_any (h : VAt P val rv cv R C w) (hR : R.length ≤ 1000000) :
    Calls Tryz.prog 42 #[.pointer (some ⟨P, 0, none⟩), .func (.func 61) #[] #[]] w fun e w' => ∃ v', e = .returned v' ∧ OwnI w.heap.size v' (pickU (fun r => !r.gone) R) w w' :=
  uidsF_any 61 (enters_of Tryz.func61 (by kernel_rfl) rfl) (fun r => !r.gone) h hR (fun r o X _ => findC_any _ _ _ _ _)
theorem recents_any (h : VAt P val rv cv R C w) (hR : R.length ≤ 1000000) :
    Calls Tryz.prog 42 #[.pointer (some ⟨P, 0, none⟩), .func (.func 73) #[] #[]] w fun e w' => ∃ v', e = .returned v' ∧ OwnI w.heap.size v' (pickU RE.rct R) w w' :=
  uidsF_any 73 (enters_of Tryz.func73 (by kernel_rfl) rfl) RE.rct h hR (fun r o X _ => newC_any _ _ _ _ _)
def seqI (U : List Int) (u : Int) : Int := if hitP U u = true then (ixP U u : Int) + 1 else 0
def seqE (U : List Int) (u : Int) : Int := if hitP U u = true then 0 else 160
set_option maxHeartbeats 400000 in
theorem Seq_any (h : VAt P val rv cv R C w) (hk : VOK R C N) (hN : N ≤ 1000000) (u : Int) :
    Calls Tryz.prog 36 #[.pointer (some ⟨P, 0, none⟩), .int .i64 u] w fun e w' => e = .returned (.tuple #[.int .i64 (seqI (uidR R) u), .int .i64 (seqE (uidR R) u)]) ∧ Below w.heap.size w w' := by
  have H := Lib.hid (place_any h hk hN u)
  have hix := ixP_le (uidR R) u
  rw [uidR_length] at hix
  have hl := hk.len
  unfold seqI seqE
  clear h hk
  cases hh : hitP (uidR R) u with
  | false =>
    rw [hh] at H
    clear hh
    simp only [Bool.false_eq_true, if_false]
    generalize ixP (uidR R) u = ix at *
    go_enter Tryz.func36, Tryz.ntmps36
    go_wp2_with (first | (go_at_call 41; refine (some_any _ _).mono ?_; rintro e w' ⟨rfl, hw⟩; subst w') | (go_at_call 68; refine H.out.mono ?_; rintro e w1 ⟨rfl, hb⟩))
    go_ret2
    exact ⟨rfl, hb⟩
  | true =>
    rw [hh] at H
    clear hh
    simp only [if_true]
    generalize ixP (uidR R) u = ix at *
    go_enter Tryz.func36, Tryz.ntmps36
    go_wp2_with (first | (go_at_call 41; refine (some_any _ _).mono ?_; rintro e w' ⟨rfl, hw⟩; subst w') | (go_at_call 68; refine H.out.mono ?_; rintro e w1 ⟨rfl, hb⟩))
    go_ret2
    exact ⟨rfl, hb⟩
theorem fld1 (x : Int) (yg yr : Bool) (o : Option Addr) (w : World) : (Instr.field 92 (.agg #[.int .i64 x, .bool yg, .bool yr, .pointer o]) 1).run Tryz.prog w = .ok (.bool yg) w := by kernel_rfl
theorem fld2 (x : Int) (yg yr : Bool) (o : Option Addr) (w : World) : (Instr.field 92 (.agg #[.int .i64 x, .bool yg, .bool yr, .pointer o]) 2).run Tryz.prog w = .ok (.bool yr) w := by kernel_rfl
set_option maxHeartbeats 400000 in
theorem Gone_any (h : VAt P val rv cv R C w) (hk : VOK R C N) (hN : N ≤ 1000000) (u : Int) :
    Calls Tryz.prog 37 #[.pointer (some ⟨P, 0, none⟩), .int .i64 u] w fun e w' => e = .returned (.bool (atR R u).gone) ∧ Below w.heap.size w w' := by
  have H := Lib.hid (at_any h hk hN u)
  clear h hk
  have q1 := fld1
  have q2 := fld2
  obtain ⟨yo, hyo⟩ : ∃ yo, (atR R u).ptr = .pointer yo := ⟨_, rfl⟩
  rw [hyo] at H
  clear hyo
  generalize (atR R u).uid = x at *
  generalize (atR R u).gone = yg at *
  generalize (atR R u).rct = yr at *
  go_enter Tryz.func37, Tryz.ntmps37
  go_wp2_with (first | (go_at_call 41; refine (some_any _ _).mono ?_; rintro e w' ⟨rfl, hw⟩; subst w') | (go_at_call 69; refine H.out.mono ?_; rintro e w1 ⟨rfl, hb⟩))
  go_ret
  exact ⟨rfl, hb⟩
set_option maxHeartbeats 400000 in
theorem Recent_any (h : VAt P val rv cv R C w) (hk : VOK R C N) (hN : N ≤ 1000000) (u : Int) :
    Calls Tryz.prog 39 #[.pointer (some ⟨P, 0, none⟩), .int .i64 u] w fun e w' => e = .returned (.bool (atR R u).rct) ∧ Below w.heap.size w w' := by
  have H := Lib.hid (at_any h hk hN u)
  clear h hk
  have q1 := fld1
  have q2 := fld2
  obtain ⟨yo, hyo⟩ : ∃ yo, (atR R u).ptr = .pointer yo := ⟨_, rfl⟩
  rw [hyo] at H
  clear hyo
  generalize (atR R u).uid = x at *
  generalize (atR R u).gone = yg at *
  generalize (atR R u).rct = yr at *
  go_enter Tryz.func39, Tryz.ntmps39
  go_wp2_with (first | (go_at_call 41; refine (some_any _ _).mono ?_; rintro e w' ⟨rfl, hw⟩; subst w') | (go_at_call 69; refine H.out.mono ?_; rintro e w1 ⟨rfl, hb⟩))
  go_ret
  exact ⟨rfl, hb⟩
end
end Go.Proofs.YtmedpcldfpfpnaaGreat

/- view: the search among numbers; one of them taken out. -/
namespace Go.Proofs.YtmedpcldfpfpnaaGreat
open Go.RowKit

set_option maxHeartbeats 400000 in
theorem less_any (a b : Int) (w : World) : Calls Tryz.prog 90 #[.int .i64 a, .int .i64 b] w fun e w' => e = .returned (.bool (decide (a < b))) ∧ w' = w := by
  by_cases h : a < b
  · go_enter Tryz.func90, Tryz.ntmps90
    go_wp2_with (go_at_call 89; refine (isNaN_any _ _).mono ?_; rintro e w' ⟨rfl, rfl⟩)
    go_ret
    exact ⟨ret_bool (by simp [h]), rfl⟩
  · go_enter Tryz.func90, Tryz.ntmps90
    go_wp2_with (go_at_call 89; refine (isNaN_any _ _).mono ?_; rintro e w' ⟨rfl, rfl⟩)
    go_ret
    exact ⟨ret_bool (by simp), rfl⟩
set_option maxHeartbeats 400000 in
theorem sNaN_any (x : Int) (w : World) : Calls Tryz.prog 91 #[.int .i64 x] w fun e w' => e = .returned (.bool false) ∧ w' = w := by
  have h : (x != x) = false := by simp
  go_enter Tryz.func91, Tryz.ntmps91
  go_wp2
  go_ret
  exact ⟨rfl, rfl⟩
set_option maxRecDepth 100000 in
set_option maxHeartbeats 4000000 in
theorem isearch_any (v : Value) (l : List Int) (m u : Int) (w : World) (hr : Nms w v l) (hl : l.length ≤ 1000000) (hc : riseF m l) :
    Calls Tryz.prog 82 #[v, .int .i64 u] w fun e w' => e = .returned (.tuple #[.int .i64 (ixP l u : Nat), .bool (hitP l u)]) ∧ w' = w := by
  obtain ⟨ao, cap, hv, hcs⟩ := hr
  subst hv
  have HCS := Lib.hid hcs
  have HI := Lib.hid (fun i => ixP_eq l u i)
  have HM := Lib.hid (fun i j => riseF_getD hc i j)
  have HH : Hid (hitP l u = decide (ixP l u < l.length ∧ l.getD (ixP l u) 0 = u)) := Lib.hid rfl
  clear hcs hc
  generalize hitP l u = ht at *
  generalize ixP l u = ix at *
  go_enter Tryz.func82, Tryz.ntmps82
  go_wp2_with fail
  go_loopg [7, 8] l.length (fun kx s9 s10 wr => ∃ lo hi : Nat, s9 = .int .i64 lo ∧ s10 = .int .i64 hi ∧ lo ≤ hi ∧ hi ≤ l.length ∧ hi - lo ≤ kx ∧ wr = w ∧ Hid ((∀ t, t < lo → l.getD t 0 < u) ∧ (∀ t, hi ≤ t → t < l.length → u ≤ l.getD t 0)))
  case atStart => exact ⟨0, l.length, rfl, rfl, Nat.zero_le _, Nat.le_refl _, by omega, rfl, Lib.hid ⟨fun t ht => absurd ht (Nat.not_lt_zero _), fun t h1 h2 => by omega⟩⟩
  case round =>
    obtain ⟨lo, hi, rfl, rfl, hlh, hin, hg, rfl, I⟩ := hrel
    by_cases hlt : lo < hi
    · obtain ⟨b, off, hao, hbs, hc⟩ := HCS.out (by omega)
      subst hao
      have c1 := hc ((lo + hi) / 2) (by omega)
      obtain ⟨y, hy⟩ : ∃ y, y = l.getD ((lo + hi) / 2) 0 := ⟨_, rfl⟩
      have Y := Lib.hid hy
      rw [← hy] at c1
      clear hc hy
      have HS := Lib.hid (less_any y u)
      by_cases hyx : y < u
      · rw [decide_eq_true hyx] at HS
        go_wp2_with (go_at_call 90; refine (HS.out _).mono ?_; rintro e w' ⟨rfl, hw⟩; subst w')
        go_roundg (hi - ((lo + hi) / 2 + 1))
        case measure => omega
        case rel =>
          refine ⟨(lo + hi) / 2 + 1, hi, by rw [show ((lo : Int) + (hi : Int)) / 2 + 1 = (((lo + hi) / 2 + 1 : Nat) : Int) by omega], rfl, by omega, hin, Nat.le_refl _, rfl, Lib.hid ⟨fun t ht => ?_, I.out.2⟩⟩
          by_cases e : t = (lo + hi) / 2
          · subst e; rw [← Y.out]; exact hyx
          · have a := HM.out t ((lo + hi) / 2) (by omega) (by omega)
            rw [← Y.out] at a
            omega
      · rw [decide_eq_false hyx] at HS
        go_wp2_with (go_at_call 90; refine (HS.out _).mono ?_; rintro e w' ⟨rfl, hw⟩; subst w')
        go_roundg ((lo + hi) / 2 - lo)
        case measure => omega
        case rel =>
          refine ⟨lo, (lo + hi) / 2, rfl, by rw [show ((lo : Int) + (hi : Int)) / 2 = (((lo + hi) / 2 : Nat) : Int) by omega], by omega, by omega, Nat.le_refl _, rfl, Lib.hid ⟨I.out.1, fun t ht htn => ?_⟩⟩
          by_cases e : t = (lo + hi) / 2
          · subst e; rw [← Y.out]; omega
          · have a := HM.out ((lo + hi) / 2) t (by omega) htn
            rw [← Y.out] at a
            omega
    · obtain rfl : hi = lo := by omega
      have hix : ix = hi := HI.out hi hin I.out.1 I.out.2
      subst hix
      by_cases hn : ix < l.length
      · obtain ⟨b, off, hao, hbs, hc⟩ := HCS.out (by omega)
        subst hao
        have c1 := hc ix hn
        have HT : Hid (ht = decide (l.getD ix 0 = u)) := Lib.hid (by rw [HH.out]; simp [hn])
        clear hc HH
        generalize l.getD ix 0 = x at *
        by_cases hxu : x = u
        · have HT2 : Hid (ht = true) := Lib.hid (by rw [HT.out]; simp [hxu])
          have hq : (x == u) = true := by simp [hxu]
          clear HT hxu
          go_wp2_with fail
          go_ret2
          exact ⟨by rw [HT2.out]; rfl, rfl⟩
        · have HT2 : Hid (ht = false) := Lib.hid (by rw [HT.out]; simp [hxu])
          have hq : (x == u) = false := by simp [hxu]
          clear HT hxu
          go_wp2_with (go_at_call 91; refine (sNaN_any _ _).mono ?_; rintro e w' ⟨rfl, hw⟩; subst w')
          go_ret2
          exact ⟨by rw [HT2.out]; rfl, rfl⟩
      · have HRR : Hid (ht = false) := Lib.hid (by rw [HH.out]; simp [hn])
        go_wp2
        go_ret2
        exact ⟨by rw [HRR.out]; rfl, rfl⟩
end Go.Proofs.YtmedpcldfpfpnaaGreat
