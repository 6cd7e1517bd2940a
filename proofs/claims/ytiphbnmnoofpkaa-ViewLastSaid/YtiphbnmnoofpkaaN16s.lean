/- ViewSettles, plain: the mailbox's own uids behind each step. -/
import Derived.Test.YtiphbnmnoofpkaaN16n
namespace Go.Proofs.Ytiphbnmnoofpkaa

def ownU (V : PV) : List Int := leftU V ++ V.com
def stepL (t : Int) (l : List Int) (u : Int) : List Int := if 1 ≤ u ∧ t < u ∧ (l = [] ∨ lastI l < u) then l ++ [u] else l
def filt (us l : List Int) : List Int := l.filter (fun x => !decide (x ∈ us))
def brN (e : PEv) (val : Int) : Nat := if e.kind = 5 ∧ e.box = val then 1 else if (e.kind = 8 ∨ e.kind = 9) ∧ e.dst = val then e.uids.length else 0
def bringL (e : PEv) (val top : Int) (l : List Int) : List Int := (fol e.first (brN e val)).foldl (stepL top) l
def aftL (e : PEv) (val top : Int) (l : List Int) : List Int :=
  if e.box ≠ val then bringL e val top l else if e.kind = 4 then [] else if e.kind = 7 ∨ e.kind = 9 then filt e.uids (bringL e val top l) else bringL e val top l

theorem lastI_snoc (l : List Int) (x : Int) : lastI (l ++ [x]) = x := by rw [lastI_lastD _ (by simp) 0, lastD_snoc]
theorem lastI_append {a b : List Int} (h : b ≠ []) : lastI (a ++ b) = lastI b := by
  rw [lastI_lastD _ (by simp [h]) 0, lastI_lastD b h (lastD a 0), lastD_append]
theorem lastD_pos {U : List Int} (h : riseF 0 U) : 0 ≤ lastD U 0 := by
  by_cases hU : U = []
  · rw [hU]; exact Int.le_refl _
  · obtain ⟨a, x, rfl⟩ : ∃ a x, U = a ++ [x] := ⟨U.dropLast, U.getLast hU, (List.dropLast_concat_getLast hU).symm⟩
    rw [lastD_snoc]
    have := riseF_gt h (x := x) (by simp)
    omega
theorem lastI_mem {l : List Int} (h : l ≠ []) : lastI l ∈ l := by
  unfold lastI
  have := List.length_pos_iff.2 h
  exact getD_mem0 (by omega)
theorem come_own {V : PV} {N : Nat} (h : PVok V N) {u : Int} (hu : u < 4294967295) : ownU (comeP V u) = stepL (lastD (uidsP V) 0) (ownU V) u := by
  obtain ⟨hr1, hr2⟩ := (riseF_append _ _ _).1 h.rise
  have hp := lastD_pos hr1
  have hiff : (topP V < u ∧ u < 4294967295) ↔ (1 ≤ u ∧ lastD (uidsP V) 0 < u ∧ (ownU V = [] ∨ lastI (ownU V) < u)) := by
    unfold topP ownU
    by_cases hc : V.com = []
    · rw [hc, List.append_nil]
      show (lastD (uidsP V) 0 < u ∧ _) ↔ _
      constructor
      · rintro ⟨q, _⟩
        refine ⟨by omega, q, ?_⟩
        by_cases hl : leftU V = []
        · exact .inl hl
        · have := riseF_last hr1 ((left_sub V).subset (lastI_mem hl))
          exact .inr (by omega)
      · rintro ⟨_, q, _⟩
        exact ⟨q, hu⟩
    · have e1 : lastI (leftU V ++ V.com) = lastD V.com (lastD (uidsP V) 0) := by rw [lastI_append hc, lastI_lastD _ hc]
      have h2 : lastD (uidsP V) 0 < lastD V.com (lastD (uidsP V) 0) := by rw [← lastI_lastD _ hc]; exact riseF_gt hr2 (lastI_mem hc)
      rw [e1]
      constructor
      · rintro ⟨q, _⟩
        exact ⟨by omega, by omega, .inr q⟩
      · rintro ⟨_, _, q⟩
        refine ⟨?_, hu⟩
        rcases q with q | q
        · simp [hc] at q
        · exact q
  unfold stepL comeP
  by_cases hh : topP V < u ∧ u < 4294967295
  · rw [if_pos hh, if_pos (hiff.1 hh)]
    unfold ownU
    rw [List.append_assoc]
    rfl
  · rw [if_neg hh, if_neg (fun q => hh (hiff.2 q))]
theorem come_uids (V : PV) (u : Int) : uidsP (comeP V u) = uidsP V := by unfold uidsP; rw [comeP_rows]
theorem comes_own : ∀ (us : List Int) {V : PV} {N : Nat}, PVok V N → (∀ u ∈ us, u < 4294967295) → ownU (comesP V us) = us.foldl (stepL (lastD (uidsP V) 0)) (ownU V)
  | [], _, _, _, _ => rfl
  | u :: us, V, N, h, hu => by
    have := comes_own us (comeP_ok h u) (fun x hx => hu x (List.mem_cons_of_mem _ hx))
    rw [come_uids, come_own h (hu u List.mem_cons_self)] at this
    exact this
theorem fol_below : ∀ (n : Nat) (f : Int), ∀ u ∈ fol f n, u < 4294967295
  | 0, _, u, h => by cases h
  | n + 1, f, u, h => by
    unfold fol at h
    split at h
    · rcases List.mem_cons.1 h with rfl | h
      · assumption
      · exact fol_below n _ u h
    · cases h
theorem stay_go (u : Int) (rows : List PR) : (stayR (rows.map (goR u))).map PR.uid = ((stayR rows).map PR.uid).filter (fun x => x != u) := by
  unfold stayR
  induction rows with
  | nil => rfl
  | cons r rs ih =>
    rw [List.map_cons]
    by_cases hu : r.uid = u
    · have e : goR u r = { r with gone := true, wt := none } := by unfold goR; rw [if_pos hu]
      rw [List.filter_cons_of_neg (by rw [e]; simp), ih]
      by_cases hg : r.gone = true
      · rw [List.filter_cons_of_neg (by simp [hg])]
      · rw [List.filter_cons_of_pos (by simp [hg]), List.map_cons, List.filter_cons_of_neg (by simp [hu])]
    · have e : goR u r = r := by unfold goR; rw [if_neg hu]
      rw [e]
      by_cases hg : r.gone = true
      · rw [List.filter_cons_of_neg (by simp [hg]), List.filter_cons_of_neg (by simp [hg]), ih]
      · rw [List.filter_cons_of_pos (by simp [hg]), List.filter_cons_of_pos (by simp [hg]), List.map_cons, List.map_cons, List.filter_cons_of_pos (by simpa using hu), ih]
theorem leave1_own (V : PV) (u : Int) : ownU (leave1 V u) = (ownU V).filter (fun x => x != u) := by
  unfold ownU
  rw [List.filter_append]
  show (stayR (V.rows.map (goR u))).map PR.uid ++ _ = _
  rw [stay_go]
  rfl
theorem filt_nil (l : List Int) : filt [] l = l := by unfold filt; simp
theorem leaves_own : ∀ (us : List Int) (V : PV), ownU (leavesP V us) = filt us (ownU V)
  | [], V => by
    show ownU V = _
    rw [filt_nil]
  | u :: us, V => by
    show ownU (leavesP (leave1 V u) us) = _
    rw [leaves_own us, leave1_own]
    unfold filt
    rw [List.filter_filter]
    congr 1
    funext x
    by_cases h1 : x = u <;> by_cases h2 : x ∈ us <;> simp [h1, h2]
theorem stay_turn (n : Int) (own : Bool) (m : Int × List ByteArray) (rows : List PR) : (stayR (rows.map (turnR n own m))).map PR.uid = (stayR rows).map PR.uid := by
  unfold stayR
  induction rows with
  | nil => rfl
  | cons r rs ih =>
    have e1 : (turnR n own m r).gone = r.gone := by unfold turnR; split <;> rfl
    rw [List.map_cons]
    by_cases hg : r.gone = true
    · rw [List.filter_cons_of_neg (by rw [e1]; simp [hg]), List.filter_cons_of_neg (by simp [hg]), ih]
    · rw [List.filter_cons_of_pos (by rw [e1]; simp [hg]), List.filter_cons_of_pos (by simp [hg]), List.map_cons, List.map_cons, turnR_uid, ih]
theorem marks_own : ∀ (ms : List (Int × List ByteArray)) (V : PV) (n : Int) (own : Bool), ownU (marksP V n own ms) = ownU V
  | [], _, _, _ => rfl
  | m :: ms, V, n, own => by
    show ownU (marksP (mark1 n own V m) n own ms) = _
    rw [marks_own ms]
    unfold ownU
    show (stayR (V.rows.map (turnR n own m))).map PR.uid ++ V.com = _
    rw [stay_turn]
    rfl
/-- What an event leaves of the mailbox's own uids. -/
theorem hear_own {V : PV} {N : Nat} (h : PVok V N) (e : PEv) (own : Bool) : ownU (hearP V e own) = aftL e V.val (lastD (uidsP V) 0) (ownU V) := by
  have h0 : ∀ (n : Nat), brN e V.val = n → ∀ l, bringL e V.val (lastD (uidsP V) 0) l = (fol e.first n).foldl (stepL (lastD (uidsP V) 0)) l := fun n hn l => by unfold bringL; rw [hn]
  have hz : ∀ l, bringL e V.val (lastD (uidsP V) 0) l = l ∨ brN e V.val ≠ 0 := fun l => by
    by_cases hb : brN e V.val = 0
    · left; rw [h0 0 hb]; rfl
    · exact .inr hb
  unfold hearP
  by_cases k4 : e.kind = 4
  · rw [if_pos k4]
    have hb : brN e V.val = 0 := by unfold brN; rw [if_neg (by omega), if_neg (by omega)]
    by_cases hx : e.box = V.val
    · rw [if_pos hx]
      unfold aftL
      rw [if_neg (show ¬ e.box ≠ V.val from fun q => q hx), if_pos k4]
      unfold ownU
      show (leftU (leavesP V (uidsP V))) ++ [] = []
      have := leaves_own (uidsP V) V
      unfold ownU filt at this
      have hl : leftU (leavesP V (uidsP V)) = [] := by
        have hs : ∀ x ∈ leftU (leavesP V (uidsP V)), x ∈ uidsP V := fun x hx => by
          have := (left_sub (leavesP V (uidsP V))).subset hx
          rw [leavesP_uids] at this
          exact this
        apply List.eq_nil_iff_forall_not_mem.2
        intro x hx'
        have hm : x ∈ leftU (leavesP V (uidsP V)) ++ (leavesP V (uidsP V)).com := List.mem_append_left _ hx'
        rw [this, List.mem_filter] at hm
        have := hm.2
        simp [hs x hx'] at this
      rw [hl]; rfl
    · rw [if_neg hx]
      unfold aftL
      rw [if_pos hx, h0 0 hb]; rfl
  · rw [if_neg k4]
    by_cases k5 : e.kind = 5
    · rw [if_pos k5]
      by_cases hx : e.box = V.val
      · rw [if_pos hx]
        have hb : brN e V.val = 1 := by unfold brN; rw [if_pos ⟨k5, hx⟩]
        unfold aftL
        rw [if_neg (show ¬ e.box ≠ V.val from fun q => q hx), if_neg k4, if_neg (show ¬ (e.kind = 7 ∨ e.kind = 9) by omega), h0 1 hb]
        by_cases hf : e.first < 4294967295
        · rw [come_own h hf]
          show _ = (if e.first < 4294967295 then e.first :: fol (e.first + 1) 0 else []).foldl _ _
          rw [if_pos hf]; rfl
        · have e1 : comeP V e.first = V := by unfold comeP; rw [if_neg (fun q => hf q.2)]
          rw [e1]
          show _ = (if e.first < 4294967295 then e.first :: fol (e.first + 1) 0 else []).foldl _ _
          rw [if_neg hf]; rfl
      · rw [if_neg hx]
        have hb : brN e V.val = 0 := by unfold brN; rw [if_neg (fun q => hx q.2), if_neg (by omega)]
        unfold aftL
        rw [if_pos hx, h0 0 hb]; rfl
    · rw [if_neg k5]
      have hb5 : brN e V.val = if (e.kind = 8 ∨ e.kind = 9) ∧ e.dst = V.val then e.uids.length else 0 := by unfold brN; rw [if_neg (fun q => k5 q.1)]
      by_cases k6 : e.kind = 6
      · rw [if_pos k6]
        have hb : brN e V.val = 0 := by rw [hb5, if_neg (by omega)]
        have e1 : aftL e V.val (lastD (uidsP V) 0) (ownU V) = ownU V := by
          unfold aftL
          rw [h0 0 hb, if_neg k4, if_neg (show ¬ (e.kind = 7 ∨ e.kind = 9) by omega)]
          split <;> rfl
        rw [e1]
        split
        · exact marks_own _ _ _ _
        · rfl
      · rw [if_neg k6]
        by_cases k7 : e.kind = 7
        · rw [if_pos k7]
          have hb : brN e V.val = 0 := by rw [hb5, if_neg (by omega)]
          unfold aftL
          rw [h0 0 hb, if_neg k4, if_pos (show e.kind = 7 ∨ e.kind = 9 from .inl k7)]
          by_cases hx : e.box = V.val
          · rw [if_pos hx, if_neg (show ¬ e.box ≠ V.val from fun q => q hx), leaves_own]; rfl
          · rw [if_neg hx, if_pos hx]; rfl
        · rw [if_neg k7]
          by_cases k8 : e.kind = 8
          · rw [if_pos k8]
            unfold aftL
            rw [if_neg k4, if_neg (show ¬ (e.kind = 7 ∨ e.kind = 9) by omega)]
            by_cases hd : e.dst = V.val
            · rw [if_pos hd, comes_own _ h (fol_below _ _), h0 e.uids.length (by rw [hb5, if_pos ⟨.inl k8, hd⟩])]
              split <;> rfl
            · rw [if_neg hd, h0 0 (by rw [hb5, if_neg (fun q => hd q.2)])]
              split <;> rfl
          · rw [if_neg k8]
            by_cases k9 : e.kind = 9
            · rw [if_pos k9]
              unfold aftL
              rw [if_neg k4, if_pos (show e.kind = 7 ∨ e.kind = 9 from .inr k9)]
              have e1 : ownU (if e.dst = V.val then comesP V (fol e.first e.uids.length) else V) = bringL e V.val (lastD (uidsP V) 0) (ownU V) := by
                by_cases hd : e.dst = V.val
                · rw [if_pos hd, comes_own _ h (fol_below _ _), h0 e.uids.length (by rw [hb5, if_pos ⟨.inr k9, hd⟩])]
                · rw [if_neg hd, h0 0 (by rw [hb5, if_neg (fun q => hd q.2)])]; rfl
              show ownU (if e.box = V.val then leavesP (if e.dst = V.val then comesP V (fol e.first e.uids.length) else V) e.uids else (if e.dst = V.val then comesP V (fol e.first e.uids.length) else V)) = _
              by_cases hx : e.box = V.val
              · rw [if_pos hx, if_neg (show ¬ e.box ≠ V.val from fun q => q hx), leaves_own, e1]
              · rw [if_neg hx, if_pos hx, e1]
            · rw [if_neg k9]
              have hb : brN e V.val = 0 := by rw [hb5, if_neg (by omega)]
              unfold aftL
              rw [h0 0 hb, if_neg k4, if_neg (show ¬ (e.kind = 7 ∨ e.kind = 9) by omega)]
              split <;> rfl
/-- Nothing waits, nothing has gone, nothing is coming. -/
structure Calm (V : PV) : Prop where
  com : V.com = []
  rows : ∀ r ∈ V.rows, r.gone = false ∧ r.wt = none
theorem stay_calm (rows : List PR) : (stayR (rows.map calmR)).map PR.uid = (stayR rows).map PR.uid := by
  unfold stayR
  induction rows with
  | nil => rfl
  | cons r rs ih =>
    have e1 : (calmR r).gone = r.gone := by unfold calmR; split <;> rfl
    rw [List.map_cons]
    by_cases hg : r.gone = true
    · rw [List.filter_cons_of_neg (by rw [e1]; simp [hg]), List.filter_cons_of_neg (by simp [hg]), ih]
    · rw [List.filter_cons_of_pos (by rw [e1]; simp [hg]), List.filter_cons_of_pos (by simp [hg]), List.map_cons, List.map_cons, calmR_uid, ih]
theorem stay_new (rc : Int) (l : List Int) : (stayR (l.map (newR rc))).map PR.uid = l := by
  unfold stayR
  induction l with
  | nil => rfl
  | cons x l ih =>
    rw [List.map_cons, List.filter_cons_of_pos (by rfl), List.map_cons, ih]
    rfl
theorem stay_stay (rows : List PR) : stayR (stayR rows) = stayR rows := by unfold stayR; rw [List.filter_filter]; simp
theorem take_own (V : PV) (w rc : Int) : ownU (takeV V w rc) = ownU V := by
  unfold takeV
  split
  · show (stayR (((goneV V w).rows ++ (goneV V w).com.map (newR rc)).map calmR)).map PR.uid ++ [] = _
    rw [stay_calm]
    unfold stayR
    rw [List.filter_append, List.map_append]
    show (stayR (goneV V w).rows).map PR.uid ++ (stayR ((goneV V w).com.map (newR rc))).map PR.uid ++ [] = _
    rw [stay_new, List.append_nil]
    unfold goneV
    split
    · show (stayR (stayR V.rows)).map PR.uid ++ V.com = _
      rw [stay_stay]; rfl
    · rfl
  · rfl
theorem take_calm (V : PV) (rc : Int) : Calm (takeV V 2 rc) := by
  have e : takeV V 2 rc = { settleP (goneV V 2) rc with rows := (settleP (goneV V 2) rc).rows.map calmR } := by simp [takeV]
  rw [e]
  refine ⟨rfl, fun r hr => ?_⟩
  obtain ⟨x, hx, rfl⟩ := List.mem_map.1 hr
  have hg : x.gone = false := by
    rcases List.mem_append.1 (show x ∈ (goneV V 2).rows ++ (goneV V 2).com.map (newR rc) from hx) with hx | hx
    · have : x ∈ stayR V.rows := by simpa [goneV] using hx
      unfold stayR at this
      simpa using (List.mem_filter.1 this).2
    · obtain ⟨y, _, rfl⟩ := List.mem_map.1 hx
      rfl
  have e2 : calmR x = { x with wt := none } := by unfold calmR; rw [if_neg (by simp [hg])]
  rw [e2]
  exact ⟨hg, rfl⟩
theorem calm_stay {l : List PR} (h : ∀ r ∈ l, r.gone = false ∧ r.wt = none) : stayR l = l := by
  unfold stayR
  rw [List.filter_eq_self]
  intro r hr
  simp [(h r hr).1]
theorem calm_goneT : ∀ {l : List PR} (n : Nat), (∀ r ∈ l, r.gone = false ∧ r.wt = none) → goneT n l = []
  | [], _, _ => rfl
  | r :: l, n, h => by
    unfold goneT
    rw [if_neg (by simp [(h r List.mem_cons_self).1])]
    exact calm_goneT (n + 1) (fun x hx => h x (List.mem_cons_of_mem _ hx))
theorem calm_flagT : ∀ {l : List PR} (n : Nat), (∀ r ∈ l, r.gone = false ∧ r.wt = none) → flagT n l = []
  | [], _, _ => rfl
  | r :: l, n, h => by
    unfold flagT
    rw [calm_flagT (n + 1) (fun x hx => h x (List.mem_cons_of_mem _ hx)), (h r List.mem_cons_self).2]
    split <;> rfl
theorem calm_calm {l : List PR} (h : ∀ r ∈ l, r.gone = false ∧ r.wt = none) : l.map calmR = l := by
  conv => rhs; rw [← List.map_id l]
  apply List.map_congr_left
  intro r hr
  obtain ⟨h1, h2⟩ := h r hr
  unfold calmR
  rw [if_neg (by simp [h1])]
  cases r
  simp_all
theorem Calm.gone {V : PV} (h : Calm V) (w : Int) : goneV V w = V := by
  unfold goneV
  split
  · rw [calm_stay h.rows]
  · rfl
theorem Calm.settle {V : PV} (h : Calm V) (rc : Int) : settleP V rc = V := by
  unfold settleP
  rw [h.com]
  cases V
  have := h.com
  simp_all
theorem Calm.takeV {V : PV} (h : Calm V) (w rc : Int) : takeV V w rc = V := by
  unfold Go.Proofs.Ytiphbnmnoofpkaa.takeV
  split
  · rw [h.gone, h.settle]
    show { V with rows := V.rows.map calmR } = V
    rw [calm_calm h.rows]
  · rfl
theorem Calm.takeT {V : PV} (h : Calm V) (w rc : Int) : takeT V w rc = [] := by
  unfold Go.Proofs.Ytiphbnmnoofpkaa.takeT
  split
  · rw [h.gone, h.settle, calm_flagT 0 h.rows]
    have e1 : goneD V w = [] := by
      unfold goneD
      split
      · exact calm_goneT 0 h.rows
      · rfl
    have e2 : newT V rc = [] := by unfold newT; rw [if_pos h.com]
    rw [e1, e2]; rfl
  · rfl
theorem Calm.own {V : PV} (h : Calm V) : ownU V = uidsP V := by
  unfold ownU
  rw [h.com, List.append_nil]
  show (stayR V.rows).map PR.uid = _
  rw [calm_stay h.rows]
  rfl
theorem Calm.at {V : PV} (h : Calm V) {k : Nat} (hk : k < V.rows.length) : (V.rows.getD k PR0).gone = false := by
  rw [List.getD_eq_getElem?_getD, List.getElem?_eq_getElem hk]
  exact (h.rows _ (List.getElem_mem hk)).1
/-- The uids that an event brings, one by one. -/
theorem fol_at : ∀ (n : Nat) (f : Int) (i : Nat), (i < (fol f n).length ↔ i < n ∧ f + i < 4294967295) ∧ (i < (fol f n).length → (fol f n).getD i 0 = f + i)
  | 0, f, i => by simp [fol]
  | n + 1, f, i => by
    unfold fol
    split
    · rename_i hf
      cases i with
      | zero => simp; omega
      | succ i =>
        obtain ⟨q1, q2⟩ := fol_at n (f + 1) i
        refine ⟨?_, fun h => ?_⟩
        · rw [List.length_cons, Nat.add_lt_add_iff_right, q1]
          push_cast
          constructor <;> rintro ⟨a, b⟩ <;> constructor <;> omega
        · rw [List.getD_cons_succ, q2 (by simpa using h)]
          push_cast
          omega
    · rename_i hf
      simp
      intro hi
      omega
theorem own_len {V : PV} {N : Nat} (h : PVok V N) : (ownU V).length ≤ N := by
  unfold ownU
  rw [List.length_append]
  have h1 := (left_sub V).length_le
  rw [uidsP_length] at h1
  have := h.len
  omega
theorem stepL_len (t : Int) (l : List Int) (u : Int) : (stepL t l u).length ≤ l.length + 1 := by
  unfold stepL
  split <;> simp
theorem foldL_len (t : Int) : ∀ (us l : List Int), (us.foldl (stepL t) l).length ≤ l.length + us.length
  | [], l => by simp
  | u :: us, l => by
    have h1 := foldL_len t us (stepL t l u)
    have h2 := stepL_len t l u
    rw [List.foldl_cons, List.length_cons]
    omega
theorem fold_step (t : Int) {F l : List Int} {k : Nat} (h : k < F.length) : (F.take (k + 1)).foldl (stepL t) l = stepL t ((F.take k).foldl (stepL t) l) (F.getD k 0) := by
  rw [take_snocI _ _ h, List.foldl_append]
  rfl
theorem filt_snoc {us l : List Int} {k : Nat} (h : k < l.length) : filt us (l.take (k + 1)) = if l.getD k 0 ∈ us then filt us (l.take k) else filt us (l.take k) ++ [l.getD k 0] := by
  unfold filt
  rw [take_snocI _ _ h, List.filter_append]
  generalize l.getD k 0 = x
  split
  · rename_i hm
    rw [List.filter_cons_of_neg (by simp [hm])]
    simp
  · rename_i hm
    rw [List.filter_cons_of_pos (by simp [hm])]
    rfl
theorem filt_len (us l : List Int) : (filt us l).length ≤ l.length := List.length_filter_le _ _
end Go.Proofs.Ytiphbnmnoofpkaa
