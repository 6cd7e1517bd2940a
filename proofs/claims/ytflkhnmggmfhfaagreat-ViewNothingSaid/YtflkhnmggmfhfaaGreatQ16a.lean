/- view, plain: a view's rows, what is coming, what each call makes of it. Nothing of the program. -/
import Derived.WalkKit
namespace Go.Proofs.YtflkhnmggmfhfaaGreat

structure PR where
  uid : Int
  gone : Bool
  rct : Bool
  wt : Option (Int × List ByteArray)
structure PV where
  val : Int
  rows : List PR
  com : List Int
def uidsP (V : PV) : List Int := V.rows.map PR.uid
def lastD : List Int → Int → Int
  | [], m => m
  | x :: r, _ => lastD r x
theorem lastD_snoc : ∀ (l : List Int) (x m : Int), lastD (l ++ [x]) m = x
  | [], _, _ => rfl
  | _ :: r, x, _ => lastD_snoc r x _
theorem lastD_append : ∀ (a b : List Int) (m : Int), lastD (a ++ b) m = lastD b (lastD a m)
  | [], _, _ => rfl
  | _ :: r, b, _ => lastD_append r b _
theorem lastD_getD : ∀ (l : List Int) (m : Int), l ≠ [] → lastD l m = l.getD (l.length - 1) 0
  | [], _, h => absurd rfl h
  | [x], _, _ => rfl
  | x :: y :: r, _, _ => by
    have := lastD_getD (y :: r) x (by simp)
    show lastD (y :: r) x = _
    rw [this]
    simp
/-- Strictly rising, above m. -/
def riseF : Int → List Int → Prop
  | _, [] => True
  | m, x :: r => m < x ∧ riseF x r
theorem riseF_append : ∀ (a b : List Int) (m : Int), riseF m (a ++ b) ↔ riseF m a ∧ riseF (lastD a m) b
  | [], b, m => by simp [riseF, lastD]
  | x :: r, b, m => by
    show (m < x ∧ riseF x (r ++ b)) ↔ _
    rw [riseF_append r b x]
    simp only [riseF, lastD, and_assoc]
theorem riseF_le : ∀ {l : List Int} {m m' : Int}, m' ≤ m → riseF m l → riseF m' l
  | [], _, _, _, _ => trivial
  | _ :: _, _, _, h, ⟨a, b⟩ => ⟨by omega, b⟩
theorem riseF_gt : ∀ {l : List Int} {m x : Int}, riseF m l → x ∈ l → m < x
  | y :: r, m, x, ⟨a, b⟩, h => by
    rcases List.mem_cons.1 h with rfl | h
    · exact a
    · have := riseF_gt b h; omega
theorem riseF_last : ∀ {l : List Int} {m x : Int}, riseF m l → x ∈ l → x ≤ lastD l m
  | [y], m, x, ⟨a, b⟩, h => by
    rcases List.mem_cons.1 h with rfl | h
    · exact Int.le_refl _
    · cases h
  | y :: z :: r, m, x, ⟨a, b⟩, h => by
    show x ≤ lastD (z :: r) y
    rcases List.mem_cons.1 h with e | h
    · have h1 := riseF_last b (x := z) List.mem_cons_self
      have h2 := b.1
      rw [e]
      omega
    · exact riseF_last b h
theorem riseF_sub : ∀ {l k : List Int} {m : Int}, riseF m l → k.Sublist l → riseF m k
  | [], k, m, _, h => by rw [List.sublist_nil.1 h]; trivial
  | x :: r, k, m, ⟨a, b⟩, h => by
    cases h with
    | cons _ h => exact riseF_le (by omega) (riseF_sub b h)
    | cons_cons _ h => exact ⟨a, riseF_sub b h⟩
theorem riseF_getD : ∀ {l : List Int} {m : Int} (_ : riseF m l) (i j : Nat), i < j → j < l.length → l.getD i 0 < l.getD j 0
  | [], _, _, _, _, _, h => by simp at h
  | x :: r, m, ⟨a, b⟩, i, j, hij, hj => by
    cases j with
    | zero => omega
    | succ j =>
      have hj' : j < r.length := by simpa using hj
      cases i with
      | zero =>
        simp only [List.getD_cons_zero, List.getD_cons_succ]
        refine riseF_gt b ?_
        rw [List.getD_eq_getElem?_getD, List.getElem?_eq_getElem hj']
        exact List.getElem_mem hj'
      | succ i => simpa only [List.getD_cons_succ] using riseF_getD b i j (by omega) hj'
theorem riseF_nodup : ∀ {l : List Int} {m : Int}, riseF m l → l.Nodup
  | [], _, _ => List.nodup_nil
  | x :: r, m, ⟨_, b⟩ => List.nodup_cons.2 ⟨fun h => by have := riseF_gt b h; omega, riseF_nodup b⟩

def topP (V : PV) : Int := lastD V.com (lastD (uidsP V) 0)
def comeP (V : PV) (u : Int) : PV := if topP V < u ∧ u < 4294967295 then { V with com := V.com ++ [u] } else V
def comesP (V : PV) (us : List Int) : PV := us.foldl comeP V
def fol : Int → Nat → List Int
  | _, 0 => []
  | f, n + 1 => if f < 4294967295 then f :: fol (f + 1) n else []
def goR (u : Int) (r : PR) : PR := if r.uid = u then { r with gone := true, wt := none } else r
def leave1 (V : PV) (u : Int) : PV := { V with rows := V.rows.map (goR u), com := V.com.filter (fun x => x != u) }
def leavesP (V : PV) (us : List Int) : PV := us.foldl leave1 V
def turnR (n : Int) (own : Bool) (m : Int × List ByteArray) (r : PR) : PR :=
  if r.uid = m.1 ∧ r.gone = false ∧ (own = false ∨ r.wt.isSome = true) then { r with wt := some (n, m.2) } else r
def mark1 (n : Int) (own : Bool) (V : PV) (m : Int × List ByteArray) : PV := { V with rows := V.rows.map (turnR n own m) }
def marksP (V : PV) (n : Int) (own : Bool) (ms : List (Int × List ByteArray)) : PV := ms.foldl (mark1 n own) V
def newR (recent u : Int) : PR := ⟨u, false, decide (recent ≤ u), none⟩
def settleP (V : PV) (recent : Int) : PV := { V with rows := V.rows ++ V.com.map (newR recent), com := [] }
def newP (val : Int) (us : List Int) (recent : Int) : PV := settleP (comesP ⟨val, [], []⟩ us) recent

/-- What is plain of an event, as far as a view hears it. -/
structure PEv where
  num : Int
  kind : Int
  box : Int
  dst : Int
  first : Int
  uids : List Int
  marks : List (Int × List ByteArray)
def hearP (V : PV) (e : PEv) (own : Bool) : PV :=
  if e.kind = 4 then (if e.box = V.val then { leavesP V (uidsP V) with com := [] } else V)
  else if e.kind = 5 then (if e.box = V.val then comeP V e.first else V)
  else if e.kind = 6 then (if e.box = V.val then marksP V e.num own e.marks else V)
  else if e.kind = 7 then (if e.box = V.val then leavesP V e.uids else V)
  else if e.kind = 8 then (if e.dst = V.val then comesP V (fol e.first e.uids.length) else V)
  else if e.kind = 9 then
    (let V1 := if e.dst = V.val then comesP V (fol e.first e.uids.length) else V
     if e.box = V.val then leavesP V1 e.uids else V1)
  else V

structure Td where
  kind : Int
  num : Int
  uid : Int
  mod : Int
  fl : List ByteArray
def goneT : Nat → List PR → List Td
  | _, [] => []
  | n, r :: rs => if r.gone = true then ⟨1, (n : Int) + 1, r.uid, 0, []⟩ :: goneT n rs else goneT (n + 1) rs
def stayR (l : List PR) : List PR := l.filter (fun r => !r.gone)
def newT (V : PV) (recent : Int) : List Td :=
  if V.com = [] then [] else [⟨2, ((settleP V recent).rows.length : Int), 0, 0, []⟩, ⟨3, (((settleP V recent).rows.filter PR.rct).length : Int), 0, 0, []⟩]
def flagT : Nat → List PR → List Td
  | _, [] => []
  | n, r :: rs => (if r.gone = true then [] else match r.wt with | none => [] | some t => [⟨4, (n : Int) + 1, r.uid, t.1, t.2⟩]) ++ flagT (n + 1) rs
def calmR (r : PR) : PR := if r.gone = true then r else { r with wt := none }
def goneV (V : PV) (w : Int) : PV := if w = 2 then { V with rows := stayR V.rows } else V
def goneD (V : PV) (w : Int) : List Td := if w = 2 then goneT 0 V.rows else []
def takeV (V : PV) (w recent : Int) : PV := if w = 1 ∨ w = 2 then (let V2 := settleP (goneV V w) recent; { V2 with rows := V2.rows.map calmR }) else V
def takeT (V : PV) (w recent : Int) : List Td :=
  if w = 1 ∨ w = 2 then goneD V w ++ (newT (goneV V w) recent ++ flagT 0 (settleP (goneV V w) recent).rows) else []

/-- What stays true of a view. -/
structure PVok (V : PV) (N : Nat) : Prop where
  rise : riseF 0 (uidsP V ++ V.com)
  top : ∀ x ∈ uidsP V ++ V.com, x < 4294967295
  len : V.rows.length + V.com.length ≤ N
theorem uidsP_length (V : PV) : (uidsP V).length = V.rows.length := by simp [uidsP]
theorem PVok.mono {V : PV} {N M : Nat} (h : PVok V N) (hm : N ≤ M) : PVok V M := ⟨h.rise, h.top, Nat.le_trans h.len hm⟩
theorem topP_eq (V : PV) : topP V = lastD (uidsP V ++ V.com) 0 := by unfold topP; rw [lastD_append]
theorem comeP_ok {V : PV} {N : Nat} (h : PVok V N) (u : Int) : PVok (comeP V u) (N + 1) := by
  unfold comeP
  split
  · rename_i hu
    refine ⟨?_, ?_, ?_⟩
    · show riseF 0 (uidsP V ++ (V.com ++ [u]))
      rw [← List.append_assoc, riseF_append, ← topP_eq]
      exact ⟨h.rise, hu.1, trivial⟩
    · intro x hx
      change x ∈ uidsP V ++ (V.com ++ [u]) at hx
      rw [← List.append_assoc, List.mem_append] at hx
      rcases hx with hx | hx
      · exact h.top x hx
      · simp at hx; omega
    · have := h.len
      simp only [List.length_append, List.length_cons, List.length_nil]; omega
  · exact h.mono (by omega)
theorem comesP_ok : ∀ {us : List Int} {V : PV} {N : Nat}, PVok V N → PVok (comesP V us) (N + us.length)
  | [], V, N, h => h
  | u :: us, V, N, h => by
    have := comesP_ok (us := us) (comeP_ok h u)
    exact this.mono (by simp only [List.length_cons]; omega)
theorem goR_uid (u : Int) (r : PR) : (goR u r).uid = r.uid := by unfold goR; split <;> rfl
theorem turnR_uid (n : Int) (own : Bool) (m : Int × List ByteArray) (r : PR) : (turnR n own m r).uid = r.uid := by unfold turnR; split <;> rfl
theorem calmR_uid (r : PR) : (calmR r).uid = r.uid := by unfold calmR; split <;> rfl
theorem map_uid {f : PR → PR} (hf : ∀ r, (f r).uid = r.uid) (l : List PR) : (l.map f).map PR.uid = l.map PR.uid := by
  rw [List.map_map]; exact List.map_congr_left fun r _ => hf r
theorem leave1_uids (V : PV) (u : Int) : uidsP (leave1 V u) = uidsP V := map_uid (goR_uid u) _
theorem leave1_ok {V : PV} {N : Nat} (h : PVok V N) (u : Int) : PVok (leave1 V u) N := by
  have hs : (uidsP (leave1 V u) ++ (leave1 V u).com).Sublist (uidsP V ++ V.com) := by
    rw [leave1_uids]
    exact List.Sublist.append (List.Sublist.refl _) List.filter_sublist
  refine ⟨riseF_sub h.rise hs, fun x hx => h.top x (hs.subset hx), ?_⟩
  have h1 : (leave1 V u).rows.length = V.rows.length := by simp [leave1]
  have h2 : (leave1 V u).com.length ≤ V.com.length := List.length_filter_le _ _
  have := h.len
  omega
theorem leavesP_uids : ∀ (us : List Int) (V : PV), uidsP (leavesP V us) = uidsP V
  | [], _ => rfl
  | u :: us, V => (leavesP_uids us (leave1 V u)).trans (leave1_uids V u)
theorem leavesP_val : ∀ (us : List Int) (V : PV), (leavesP V us).val = V.val
  | [], _ => rfl
  | u :: us, V => leavesP_val us (leave1 V u)
theorem comeP_rows (V : PV) (u : Int) : (comeP V u).rows = V.rows := by unfold comeP; split <;> rfl
theorem comeP_val (V : PV) (u : Int) : (comeP V u).val = V.val := by unfold comeP; split <;> rfl
theorem comesP_rows : ∀ (us : List Int) (V : PV), (comesP V us).rows = V.rows
  | [], _ => rfl
  | u :: us, V => (comesP_rows us (comeP V u)).trans (comeP_rows V u)
theorem comesP_val : ∀ (us : List Int) (V : PV), (comesP V us).val = V.val
  | [], _ => rfl
  | u :: us, V => (comesP_val us (comeP V u)).trans (comeP_val V u)
theorem leavesP_ok : ∀ {us : List Int} {V : PV} {N : Nat}, PVok V N → PVok (leavesP V us) N
  | [], _, _, h => h
  | u :: us, _, _, h => leavesP_ok (us := us) (leave1_ok h u)
theorem mark1_uids (n : Int) (own : Bool) (V : PV) (m : Int × List ByteArray) : uidsP (mark1 n own V m) = uidsP V := map_uid (turnR_uid n own m) _
theorem mark1_ok {V : PV} {N : Nat} (h : PVok V N) (n : Int) (own : Bool) (m : Int × List ByteArray) : PVok (mark1 n own V m) N := by
  have hu := mark1_uids n own V m
  refine ⟨by rw [hu]; exact h.rise, by rw [hu]; exact h.top, ?_⟩
  have h1 : (mark1 n own V m).rows.length = V.rows.length := by simp [mark1]
  have := h.len
  show (mark1 n own V m).rows.length + V.com.length ≤ N
  omega
theorem marksP_ok : ∀ {ms : List (Int × List ByteArray)} {V : PV} {N : Nat} (_ : PVok V N) (n : Int) (own : Bool), PVok (marksP V n own ms) N
  | [], _, _, h, _, _ => h
  | m :: ms, _, _, h, n, own => marksP_ok (ms := ms) (mark1_ok h n own m) n own
theorem marksP_uids : ∀ (ms : List (Int × List ByteArray)) (V : PV) (n : Int) (own : Bool), uidsP (marksP V n own ms) = uidsP V
  | [], _, _, _ => rfl
  | m :: ms, V, n, own => (marksP_uids ms (mark1 n own V m) n own).trans (mark1_uids n own V m)
theorem marksP_val : ∀ (ms : List (Int × List ByteArray)) (V : PV) (n : Int) (own : Bool), (marksP V n own ms).val = V.val
  | [], _, _, _ => rfl
  | m :: ms, V, n, own => marksP_val ms (mark1 n own V m) n own
theorem settle_uids (V : PV) (r : Int) : uidsP (settleP V r) = uidsP V ++ V.com := by
  simp [uidsP, settleP, Function.comp_def, newR]
theorem settleP_ok {V : PV} {N : Nat} (h : PVok V N) (r : Int) : PVok (settleP V r) N := by
  have hu := settle_uids V r
  have hc : (settleP V r).com = [] := rfl
  refine ⟨by rw [hu, hc, List.append_nil]; exact h.rise, by rw [hu, hc, List.append_nil]; exact h.top, ?_⟩
  have := h.len
  simp [settleP]; omega
theorem fol_length : ∀ (n : Nat) (f : Int), (fol f n).length ≤ n
  | 0, _ => Nat.le_refl _
  | n + 1, f => by
    unfold fol
    split
    · have := fol_length n (f + 1); simp only [List.length_cons]; omega
    · simp
theorem hearP_val (V : PV) (e : PEv) (own : Bool) : (hearP V e own).val = V.val := by
  unfold hearP
  repeat' split
  all_goals (first | rfl | exact leavesP_val _ _ | exact comeP_val _ _ | exact marksP_val _ _ _ _ | exact comesP_val _ _ | exact (leavesP_val _ _).trans (comesP_val _ _))
theorem hearP_uids (V : PV) (e : PEv) (own : Bool) : uidsP (hearP V e own) = uidsP V := by
  unfold hearP
  repeat' split
  all_goals (first | rfl | exact leavesP_uids _ _ | (unfold uidsP; rw [comeP_rows]) | exact marksP_uids _ _ _ _ | (unfold uidsP; rw [comesP_rows]) | (rw [leavesP_uids]; unfold uidsP; rw [comesP_rows]))
theorem comFree_ok {V : PV} {N : Nat} (h : PVok V N) : PVok { V with com := [] } N := by
  have hs : (uidsP { V with com := [] } ++ []).Sublist (uidsP V ++ V.com) := List.Sublist.append (List.Sublist.refl _) (List.nil_sublist _)
  refine ⟨riseF_sub h.rise hs, fun x hx => h.top x (hs.subset hx), ?_⟩
  have := h.len
  show V.rows.length + 0 ≤ N
  omega
theorem hearP_ok {V : PV} {N : Nat} (h : PVok V N) (e : PEv) (own : Bool) : PVok (hearP V e own) (N + (1 + e.uids.length)) := by
  have hf := fol_length e.uids.length e.first
  have hc := comesP_ok (us := fol e.first e.uids.length) h
  unfold hearP
  repeat' split
  all_goals (first | exact h.mono (by omega) | exact (comFree_ok (leavesP_ok h)).mono (by omega) | exact (leavesP_ok h).mono (by omega) | exact (comeP_ok h _).mono (by omega) | exact (marksP_ok h _ _).mono (by omega) | exact hc.mono (by omega) | exact (leavesP_ok hc).mono (by omega))
theorem stay_ok {V : PV} {N : Nat} (h : PVok V N) : PVok { V with rows := stayR V.rows } N := by
  have hs : (uidsP { V with rows := stayR V.rows } ++ V.com).Sublist (uidsP V ++ V.com) := List.Sublist.append (List.filter_sublist.map _) (List.Sublist.refl _)
  refine ⟨riseF_sub h.rise hs, fun x hx => h.top x (hs.subset hx), ?_⟩
  have h1 : (stayR V.rows).length ≤ V.rows.length := List.length_filter_le _ _
  have := h.len
  show (stayR V.rows).length + V.com.length ≤ N
  omega
theorem goneV_ok {V : PV} {N : Nat} (h : PVok V N) (w : Int) : PVok (goneV V w) N := by
  unfold goneV
  split
  · exact stay_ok h
  · exact h
theorem calm_ok {V : PV} {N : Nat} (h : PVok V N) : PVok { V with rows := V.rows.map calmR } N := by
  have hu : uidsP { V with rows := V.rows.map calmR } = uidsP V := map_uid calmR_uid _
  refine ⟨by rw [hu]; exact h.rise, by rw [hu]; exact h.top, ?_⟩
  have := h.len
  simpa using this
theorem takeV_ok {V : PV} {N : Nat} (h : PVok V N) (w r : Int) : PVok (takeV V w r) N := by
  unfold takeV
  split
  · exact calm_ok (settleP_ok (goneV_ok h w) r)
  · exact h
theorem goneV_val (V : PV) (w : Int) : (goneV V w).val = V.val := by unfold goneV; split <;> rfl
theorem takeV_val (V : PV) (w r : Int) : (takeV V w r).val = V.val := by
  unfold takeV; split
  · exact goneV_val V w
  · rfl
theorem newP_ok (val : Int) (us : List Int) (r : Int) : PVok (newP val us r) us.length := by
  have h0 : PVok ⟨val, [], []⟩ 0 := ⟨trivial, fun x hx => (by cases hx), Nat.le_refl _⟩
  exact settleP_ok ((comesP_ok (us := us) h0).mono (by omega)) r
end Go.Proofs.YtflkhnmggmfhfaaGreat
