/- ViewLast: plain; texts that are alike; what a view hears and tells beside lists that are kept. -/
import Derived.Test.YtiphbnmnoofpkaaN16u
namespace Go.Proofs.Ytiphbnmnoofpkaa
open Go.RowKit

/-- The last place below j at which u lies; -1: none. -/
def li (us : List Int) (u : Int) : Nat → Int
  | 0 => -1
  | j + 1 => if us.getD j 0 = u then (j : Int) else li us u j
theorem li_cases (us : List Int) (u : Int) : ∀ j, li us u j = -1 ∨ ∃ i : Nat, i < j ∧ li us u j = (i : Int)
  | 0 => .inl rfl
  | j + 1 => by
    unfold li
    split
    · exact .inr ⟨j, by omega, rfl⟩
    · rcases li_cases us u j with h | ⟨i, h1, h2⟩
      · exact .inl h
      · exact .inr ⟨i, by omega, h2⟩
def uidM (ms : List ME) : List Int := ms.map ME.uid
theorem uidM_at (ms : List ME) (j : Nat) (h : j < ms.length) : (uidM ms).getD j 0 = (ms.getD j ME0).uid := by
  unfold uidM
  rw [List.getD_eq_getElem?_getD, List.getElem?_map, List.getD_eq_getElem?_getD, List.getElem?_eq_getElem h]
  rfl
/-- What was told of a row, by the last mark below j. -/
def wtJ (ms : List ME) (nm : Nat → Int) (u : Int) (j : Nat) : Option (Int × List ByteArray) :=
  if li (uidM ms) u j < 0 then none else some (nm (li (uidM ms) u j).toNat, (ms.getD (li (uidM ms) u j).toNat ME0).fl)
def VJ (V0 : PV) (ms : List ME) (nm : Nat → Int) (j : Nat) : PV := { V0 with rows := V0.rows.map (fun r => { r with wt := wtJ ms nm r.uid j }) }
theorem VJ_zero {V0 : PV} (h : Calm V0) (ms : List ME) (nm : Nat → Int) : VJ V0 ms nm 0 = V0 := by
  unfold VJ
  have : V0.rows.map (fun r => { r with wt := wtJ ms nm r.uid 0 }) = V0.rows := by
    conv => rhs; rw [← List.map_id V0.rows]
    apply List.map_congr_left
    intro r hr
    have := (h.rows r hr).2
    cases r
    simp only at this
    subst this
    rfl
  rw [this]
theorem VJ_succ {V0 : PV} (h : Calm V0) (ms : List ME) (nm : Nat → Int) {j : Nat} (hj : j < ms.length) : mark1 (nm j) false (VJ V0 ms nm j) (ms.getD j ME0).pl = VJ V0 ms nm (j + 1) := by
  unfold mark1 VJ
  simp only [List.map_map]
  congr 1
  apply List.map_congr_left
  intro r hr
  have hg := (h.rows r hr).1
  simp only [Function.comp]
  unfold turnR
  simp only
  by_cases hu : r.uid = (ms.getD j ME0).uid
  · rw [if_pos ⟨hu, hg, Or.inl (by trivial)⟩]
    have e : li (uidM ms) r.uid (j + 1) = (j : Int) := by unfold li; rw [if_pos (by rw [uidM_at ms j hj]; exact hu.symm)]
    have e2 : wtJ ms nm r.uid (j + 1) = some (nm j, (ms.getD j ME0).fl) := by
      unfold wtJ
      rw [e, if_neg (by omega)]
      rfl
    rw [e2]
    rfl
  · rw [if_neg (fun q => hu q.1)]
    have e : li (uidM ms) r.uid (j + 1) = li (uidM ms) r.uid j := by
      conv => lhs; unfold li
      rw [if_neg (by rw [uidM_at ms j hj]; exact fun q => hu q.symm)]
    have e2 : wtJ ms nm r.uid (j + 1) = wtJ ms nm r.uid j := by unfold wtJ; rw [e]
    rw [e2]
theorem VJ_uids (V0 : PV) (ms : List ME) (nm : Nat → Int) (j : Nat) : uidsP (VJ V0 ms nm j) = uidsP V0 := by
  show (V0.rows.map _).map PR.uid = V0.rows.map PR.uid
  rw [List.map_map]
  rfl
def goG (us : List Int) (r : PR) : PR := if r.uid ∈ us then { r with gone := true, wt := none } else r
theorem leaves_rows : ∀ (us : List Int) (V : PV), (leavesP V us).rows = V.rows.map (goG us)
  | [], V => by
    show V.rows = _
    conv => lhs; rw [← List.map_id V.rows]
    apply List.map_congr_left
    intro r _
    unfold goG
    rw [if_neg (by simp)]
    rfl
  | u :: us, V => by
    show (leavesP (leave1 V u) us).rows = _
    rw [leaves_rows us]
    show (V.rows.map (goR u)).map (goG us) = _
    rw [List.map_map]
    apply List.map_congr_left
    intro r _
    simp only [Function.comp]
    unfold goG goR
    by_cases h1 : r.uid = u
    · simp only [h1, if_true, List.mem_cons, true_or]
      split <;> rfl
    · simp only [h1, if_false, List.mem_cons, false_or]
theorem leaves_com : ∀ (us : List Int) (V : PV), V.com = [] → (leavesP V us).com = []
  | [], _, h => h
  | u :: us, V, h => leaves_com us (leave1 V u) (by show V.com.filter _ = []; rw [h]; rfl)
/-- What is to be told of a row. -/
def selU (ms : List ME) (nm : Nat → Int) (gone : List Int) (u : Int) : Option (Int × Int × List ByteArray) := if u ∈ gone then none else (wtJ ms nm u ms.length).map (fun t => (u, t.1, t.2))
def keyT (t : Td) : Int × Int × List ByteArray := (t.uid, t.mod, t.fl)
def keyR (r : PR) : Option (Int × Int × List ByteArray) := if r.gone = true then none else r.wt.map (fun t => (r.uid, t.1, t.2))
theorem flag_keys : ∀ (rows : List PR) (n : Nat), (flagT n rows).map keyT = rows.filterMap keyR ∧ ∀ t ∈ flagT n rows, t.kind = 4
  | [], _ => ⟨rfl, fun t h => by cases h⟩
  | r :: rs, n => by
    obtain ⟨h1, h2⟩ := flag_keys rs (n + 1)
    unfold flagT
    by_cases hg : r.gone = true
    · have e : keyR r = none := by unfold keyR; rw [if_pos hg]
      rw [if_pos hg, List.nil_append, List.filterMap_cons_none e]
      exact ⟨h1, h2⟩
    · rw [if_neg hg]
      cases hw : r.wt with
      | none =>
        have e : keyR r = none := by unfold keyR; rw [if_neg hg, hw]; rfl
        rw [List.filterMap_cons_none e]
        exact ⟨h1, h2⟩
      | some t =>
        have e : keyR r = some (r.uid, t.1, t.2) := by unfold keyR; rw [if_neg hg, hw]; rfl
        rw [List.filterMap_cons_some e]
        refine ⟨?_, fun x hx => ?_⟩
        · show keyT _ :: (flagT (n + 1) rs).map keyT = _
          rw [h1]
          rfl
        · rcases List.mem_cons.1 hx with rfl | hx
          · rfl
          · exact h2 x hx
theorem keys_stay (rows : List PR) : (stayR rows).filterMap keyR = rows.filterMap keyR := by
  unfold stayR
  induction rows with
  | nil => rfl
  | cons r rs ih =>
    by_cases hg : r.gone = true
    · have e : keyR r = none := by unfold keyR; rw [if_pos hg]
      rw [List.filter_cons_of_neg (by simp [hg]), List.filterMap_cons_none e, ih]
    · rw [List.filter_cons_of_pos (by simp [hg]), List.filterMap_cons, List.filterMap_cons, ih]
theorem goneT_kind : ∀ (rows : List PR) (n : Nat), ∀ t ∈ goneT n rows, t.kind = 1
  | [], _, t, h => by cases h
  | r :: rs, n, t, h => by
    unfold goneT at h
    split at h
    · rcases List.mem_cons.1 h with rfl | h
      · rfl
      · exact goneT_kind rs n t h
    · exact goneT_kind rs (n + 1) t h
def VE (V0 : PV) (ms : List ME) (nm : Nat → Int) (gone : List Int) : PV := leavesP (VJ V0 ms nm ms.length) gone
theorem fm_congr {α β : Type} {f g : α → Option β} : ∀ {l : List α}, (∀ x ∈ l, f x = g x) → l.filterMap f = l.filterMap g
  | [], _ => rfl
  | x :: l, h => by
    rw [List.filterMap_cons, List.filterMap_cons, h x List.mem_cons_self, fm_congr (l := l) (fun y hy => h y (List.mem_cons_of_mem _ hy))]
/-- What is told: those that go, then the last flags of the rows that stay. -/
theorem last_told {V0 : PV} (h : Calm V0) (ms : List ME) (nm : Nat → Int) (gone : List Int) (w rc : Int) (hw : w = 1 ∨ w = 2) :
    ∃ G F, takeT (VE V0 ms nm gone) w rc = G ++ F ∧ (∀ t ∈ G, t.kind = 1) ∧ (∀ t ∈ F, t.kind = 4) ∧ F.map keyT = (uidsP V0).filterMap (selU ms nm gone) := by
  have hc : (VE V0 ms nm gone).com = [] := leaves_com _ _ h.com
  have hr : (VE V0 ms nm gone).rows = V0.rows.map (fun r => goG gone { r with wt := wtJ ms nm r.uid ms.length }) := by
    unfold VE
    rw [leaves_rows]
    show (V0.rows.map _).map _ = _
    rw [List.map_map]
    rfl
  have hk : (VE V0 ms nm gone).rows.filterMap keyR = (uidsP V0).filterMap (selU ms nm gone) := by
    rw [hr, List.filterMap_map]
    unfold uidsP
    rw [List.filterMap_map]
    apply fm_congr
    intro r hr
    have hg := (h.rows r hr).1
    simp only [Function.comp]
    unfold goG keyR selU
    simp only
    by_cases hm : r.uid ∈ gone
    · simp [hm]
    · simp [hm, hg]
  unfold takeT
  rw [if_pos hw]
  have hcg : (goneV (VE V0 ms nm gone) w).com = [] := by unfold goneV; split <;> exact hc
  have hset : (settleP (goneV (VE V0 ms nm gone) w) rc).rows = (goneV (VE V0 ms nm gone) w).rows := by
    show (goneV (VE V0 ms nm gone) w).rows ++ (goneV (VE V0 ms nm gone) w).com.map _ = _
    rw [hcg]
    simp
  have hn : newT (goneV (VE V0 ms nm gone) w) rc = [] := by unfold newT; rw [if_pos hcg]
  rw [hn, hset, List.nil_append]
  obtain ⟨f1, f2⟩ := flag_keys (goneV (VE V0 ms nm gone) w).rows 0
  refine ⟨_, _, rfl, ?_, f2, ?_⟩
  · unfold goneD
    split
    · exact goneT_kind _ _
    · intro t ht; cases ht
  · rw [f1, ← hk]
    unfold goneV
    split
    · exact keys_stay _
    · rfl
theorem calm_flags : ∀ (rows : List PR) (n : Nat), (∀ r ∈ rows, r.gone = true ∨ r.wt = none) → flagT n rows = []
  | [], _, _ => rfl
  | r :: rs, n, h => by
    unfold flagT
    rw [calm_flags rs (n + 1) (fun x hx => h x (List.mem_cons_of_mem _ hx))]
    rcases h r List.mem_cons_self with q | q
    · rw [if_pos q]; rfl
    · rw [q]
      split <;> rfl
theorem stay_goneT : ∀ (rows : List PR) (n : Nat), (∀ r ∈ rows, r.gone = false) → goneT n rows = []
  | [], _, _ => rfl
  | r :: rs, n, h => by
    unfold goneT
    rw [if_neg (by simp [h r List.mem_cons_self])]
    exact stay_goneT rs (n + 1) (fun x hx => h x (List.mem_cons_of_mem _ hx))
/-- A second Take tells nothing. -/
theorem take_again (V : PV) (w rc rc2 : Int) (hw : w = 1 ∨ w = 2) : takeT (takeV V w rc) w rc2 = [] := by
  have e : takeV V w rc = { settleP (goneV V w) rc with rows := (settleP (goneV V w) rc).rows.map calmR } := by unfold takeV; rw [if_pos hw]
  have hcom : (takeV V w rc).com = [] := by rw [e]; rfl
  have hrow : ∀ r ∈ (takeV V w rc).rows, r.gone = true ∨ r.wt = none := fun r hr => by
    rw [e] at hr
    obtain ⟨x, _, rfl⟩ := List.mem_map.1 hr
    unfold calmR
    by_cases hg : x.gone = true
    · rw [if_pos hg]; exact .inl hg
    · rw [if_neg hg]; exact .inr rfl
  have hg : ∀ V1 : PV, V1.com = [] → (∀ r ∈ V1.rows, r.gone = true ∨ r.wt = none) → newT (goneV V1 w) rc2 ++ flagT 0 (settleP (goneV V1 w) rc2).rows = [] := fun V1 h1 h2 => by
    have hc : (goneV V1 w).com = [] := by unfold goneV; split <;> exact h1
    have hs : (settleP (goneV V1 w) rc2).rows = (goneV V1 w).rows := by
      show (goneV V1 w).rows ++ (goneV V1 w).com.map _ = _
      rw [hc]; simp
    have hn : newT (goneV V1 w) rc2 = [] := by unfold newT; rw [if_pos hc]
    rw [hn, hs, List.nil_append]
    refine calm_flags _ _ (fun r hr => h2 r ?_)
    unfold goneV at hr
    split at hr
    · exact (List.mem_filter.1 hr).1
    · exact hr
  unfold takeT
  rw [if_pos hw, hg _ hcom hrow, List.append_nil]
  unfold goneD
  split
  · rename_i h2
    subst h2
    exact stay_goneT _ _ (fun r hr => ((take_calm V rc).rows r hr).1)
  · rfl
theorem fm_take {α : Type} (f : Int → Option α) {U : List Int} {i : Nat} (hi : i < U.length) : ((U.take (i + 1)).filterMap f) = (U.take i).filterMap f ++ (f (U.getD i 0)).toList := by
  rw [take_snocI _ _ hi, List.filterMap_append]
  generalize U.getD i 0 = x
  cases h : f x with
  | none => rw [List.filterMap_cons_none h]; rfl
  | some z => rw [List.filterMap_cons_some h]; rfl
theorem fm_at {α : Type} (f : Int → Option α) {U : List Int} {i : Nat} (hi : i < U.length) {z : α} (hz : f (U.getD i 0) = some z) : (U.filterMap f)[((U.take i).filterMap f).length]? = some z := by
  have h1 : U = U.take (i + 1) ++ U.drop (i + 1) := (List.take_append_drop _ _).symm
  have h2 : U.filterMap f = (U.take i).filterMap f ++ ([z] ++ (U.drop (i + 1)).filterMap f) := by
    conv => lhs; rw [h1]
    rw [List.filterMap_append, fm_take f hi, hz, List.append_assoc]
    rfl
  rw [h2, List.getElem?_append_right (Nat.le_refl _), Nat.sub_self]
  rfl
theorem fm_le {α : Type} (f : Int → Option α) (U : List Int) (i : Nat) : ((U.take i).filterMap f).length ≤ (U.filterMap f).length := by
  have h1 : U = U.take i ++ U.drop i := (List.take_append_drop _ _).symm
  conv => rhs; rw [h1]
  rw [List.filterMap_append, List.length_append]
  omega
/-- A list of texts anywhere. -/
def Txs (w : World) (v : Value) (l : List ByteArray) : Prop :=
  ∃ a c, v = .slice a l.length c ∧ (0 < l.length → ∃ g off, a = some ⟨g, off, none⟩ ∧ g < w.heap.size ∧ ∀ i, i < l.length → w.cell? ⟨g, off + i, none⟩ = some (.string (l.getD i ByteArray.empty)))
theorem txs_of {w : World} {v : Value} {l : List ByteArray} {B : Nat} (h : w.ownsRow B 9 1 v l.length (tcs l)) : Txs w v l := by
  rcases h.2 with ⟨rfl, h0⟩ | ⟨g, cap, cur, rfl, hB, hg, rest⟩
  · exact ⟨none, 0, by rw [h0], fun q => by omega⟩
  · refine ⟨some ⟨g, 0, none⟩, cap, rfl, fun _ => ⟨g, 0, rfl, lt_of_heap hg, fun i hi => ?_⟩⟩
    rw [Nat.zero_add, h.cellAt i (by omega), tcs_at l i hi]
theorem FlAt.txs {w : World} {m : ME} (h : FlAt w m) : Txs w m.fv m.fl := by
  refine ⟨m.fa, m.fc, rfl, fun h0 => ?_⟩
  obtain ⟨b, off, e, hb, hc⟩ := h.cells (fun e => by rw [e] at h0; simp at h0)
  exact ⟨b, off, e, hb, hc⟩
theorem Txs.on {w w' : World} {v : Value} {l : List ByteArray} (h : Txs w v l) (hb : Below w.heap.size w w') : Txs w' v l := by
  obtain ⟨a, c, e, hx⟩ := h
  refine ⟨a, c, e, fun h0 => ?_⟩
  obtain ⟨g, off, e2, hg, hc⟩ := hx h0
  refine ⟨g, off, e2, Nat.lt_of_lt_of_le hg hb.size, fun i hi => ?_⟩
  rw [hb.cell (p := ⟨g, off + i, none⟩) hg]
  exact hc i hi
theorem Txs.len {w : World} {v : Value} {l : List ByteArray} (h : Txs w v l) : ∃ a c, v = .slice a l.length c := by
  obtain ⟨a, c, e, _⟩ := h
  exact ⟨a, c, e⟩
set_option maxRecDepth 100000 in
set_option maxHeartbeats 1000000 in
theorem words_dr (a b : Value) (l : List ByteArray) (w : World) (h1 : Txs w a l) (h2 : Txs w b l) (hl : l.length ≤ 8796093022208) :
    Calls Try.prog 21 #[a, b] w fun e w' => e = .returned (.bool true) ∧ ∃ m, w' = w.drewN m := by
  obtain ⟨a1, c1, rfl, q1⟩ := h1
  obtain ⟨a2, c2, rfl, q2⟩ := h2
  have H1 := Lib.hid q1
  have H2 := Lib.hid q2
  have hne : ((l.length : Int) != (l.length : Int)) = false := by simp
  clear q1 q2
  go_enter Try.func21, Try.ntmps21
  go_wp2_with fail
  go_loopw [5] (fun i wr => ∃ k : Nat, k ≤ l.length ∧ i = .int .i64 k ∧ (∃ m, wr = w.drewN m)) (fun i _ => l.length - (intOf i).toNat)
  case atStart => exact ⟨0, Nat.zero_le _, rfl, ⟨0, rfl⟩⟩
  case round =>
    obtain ⟨k, hk, rfl, ⟨dm, hdm⟩⟩ := hrel
    have hb : Below w.heap.size w wr := by rw [hdm]; exact below_drewN (Below.refl _ _) dm
    by_cases hlt : k < l.length
    · have hlti : (k : Int) < (l.length : Int) := by omega
      obtain ⟨g1, o1, rfl, hg1, hc1⟩ := H1.out (by omega)
      obtain ⟨g2, o2, rfl, hg2, hc2⟩ := H2.out (by omega)
      have k1 := hc1 k hlt
      have k2 := hc2 k hlt
      rw [← hb.cell (p := ⟨g1, o1 + k, none⟩) hg1] at k1
      rw [← hb.cell (p := ⟨g2, o2 + k, none⟩) hg2] at k2
      have HBd : Hid (∃ m, wr.drew = w.drewN m) := Lib.hid ⟨dm + 1, by rw [hdm]; exact drewN_succ w dm⟩
      clear hc1 hc2 hb hdm
      generalize l.getD k ByteArray.empty = x at *
      have hq : (x.toList == x.toList) = true := by simp
      go_upto_region 6 with fail
      go_region
      go_wp2_with fail
      go_roundw
      case rel => exact ⟨k + 1, by omega, by go_num, HBd.out⟩
      case measure => simp [intOf]; omega
    · obtain rfl : k = l.length := by omega
      have HB : Hid (∃ m, wr = w.drewN m) := Lib.hid ⟨dm, hdm⟩
      clear hb hdm
      go_wp2_with fail
      go_ret
      exact ⟨rfl, HB.out⟩
theorem hear_WO {W X : World} {P : Nat} {V : PV} {K : List (Value × List Int)} {N : Nat} (h : WO W P V K X) (hk : PVok V N) (e : EV) (own : Bool) (us : List Int) (ms : List ME) (hN : N + (1 + us.length) ≤ 1000000) (hu : Nms W e.vu us) (hub : 0 < us.length → ∀ b, e.vu.ownBlock = some b → b < W.heap.size) (hm : MksAt W e.vm ms) (hmb : (0 < ms.length → ∀ b, e.vm.ownBlock = some b → b < W.heap.size) ∧ ∀ m ∈ ms, m.fl ≠ [] → ∀ b, m.fv.ownBlock = some b → b < W.heap.size) (lo : -9223372036854775808 ≤ e.fi) (hul : us.length ≤ 300) (hml : ms.length ≤ 300) :
    Calls Try.prog 19 #[.pointer (some ⟨P, 0, none⟩), .agg (evA e), .bool own] X fun r w' => r = .returned (.tuple #[]) ∧ WO W P (hearP V (plE e us ms) own) K w' := by
  obtain ⟨fp, v1, v2, v3, v4⟩ := h
  refine (Hear_any v1 hk e own us ms hN ⟨hu.on v2, hm.on v2, lo, by omega, by omega⟩ ⟨fun h0 b q => ⟨Nat.lt_of_lt_of_le (hub h0 b q) v2.size, fun hm => by have := hub h0 b q; have := v3 b hm; omega⟩, fun h0 b q hm => by have := hmb.1 h0 b q; have := v3 b hm; omega, fun m hm hne b q hm' => by have := hmb.2 m hm hne b q; have := v3 b hm'; omega⟩).mono ?_
  rintro r w' ⟨rfl, fp', q1, q2⟩
  exact ⟨rfl, WO.past v2 v3 v4 q1 q2⟩
theorem take_WO {W X : World} {P : Nat} {V : PV} {K : List (Value × List Int)} {N : Nat} (h : WO W P V K X) (hk : PVok V N) (hN : N ≤ 1000000) (wh rc : Int) :
    Calls Try.prog 17 #[.pointer (some ⟨P, 0, none⟩), .int .i64 wh, .int .i64 rc] X fun e w' => ∃ tv T, e = .returned tv ∧ Told w' tv T (takeT V wh rc) ∧ WO W P (takeV V wh rc) K w' := by
  obtain ⟨fp, v1, v2, v3, v4⟩ := h
  refine (Take_any v1 hk hN wh rc).mono ?_
  rintro e w' ⟨tv, T, rfl, ht, fp', q1, q2⟩
  exact ⟨tv, T, rfl, ht, WO.past v2 v3 v4 q1 q2⟩
/-- One mark of a list. -/
theorem MksAt.one {w : World} {g off n c i : Nat} {ms : List ME} (h : MksAt w (.slice (some ⟨g, off, none⟩) n c) ms) (hn : n = ms.length) (hi : i < ms.length) (c' : Nat) : MksAt w (.slice (some ⟨g, off + i * 2, none⟩) 1 c') [ms.getD i ME0] := by
  obtain ⟨⟨a, c0, e, hx⟩, hf⟩ := h
  injection e with e1 e2 e3
  subst e1
  obtain ⟨g2, o2, e4, hg, hc⟩ := hx (by omega)
  cases e4
  refine ⟨⟨_, _, rfl, fun _ => ⟨g, off + i * 2, rfl, hg, fun j hj => ?_⟩⟩, fun m hm => ?_⟩
  · have : j = 0 := by simpa using hj
    subst this
    obtain ⟨q1, q2⟩ := hc i hi
    rw [Nat.zero_mul, Nat.add_zero]
    exact ⟨q1, q2⟩
  · rw [List.mem_singleton] at hm
    rw [hm]
    refine hf _ ?_
    rw [List.getD_eq_getElem?_getD, List.getElem?_eq_getElem hi]
    exact List.getElem_mem hi
theorem tdC_at' : ∀ (T : List TDE) (k i : Nat) (x : TDE), T[k]? = some x → i < 5 → (tdC T)[k * 5 + i]? = (x.enc)[i]?
  | [], k, i, x, h, _ => by simp at h
  | t :: T, 0, i, x, h, hi => by
    simp at h
    subst h
    show (t.enc ++ tdC T)[0 * 5 + i]? = _
    rw [Nat.zero_mul, Nat.zero_add, List.getElem?_append_left (by simp [TDE.enc]; omega)]
  | t :: T, k + 1, i, x, h, hi => by
    show (t.enc ++ tdC T)[(k + 1) * 5 + i]? = _
    rw [List.getElem?_append_right (by simp [TDE.enc]; omega), show (k + 1) * 5 + i - t.enc.length = k * 5 + i by simp [TDE.enc]; omega]
    exact tdC_at' T k i x (by simpa using h) hi
/-- What is told, cell by cell. -/
def TdC (w : World) (tv : Value) (T : List TDE) : Prop :=
  ∃ a c, tv = .slice a T.length c ∧ (0 < T.length → ∃ g, a = some ⟨g, 0, none⟩ ∧ g < w.heap.size ∧ ∀ k x, T[k]? = some x → w.cell? ⟨g, k * 5, none⟩ = some (.int .i64 x.kind) ∧ w.cell? ⟨g, k * 5 + 2, none⟩ = some (.int .i64 x.uid) ∧ w.cell? ⟨g, k * 5 + 3, none⟩ = some (.int .i64 x.mod) ∧ w.cell? ⟨g, k * 5 + 4, none⟩ = some x.fv ∧ Txs w x.fv x.fl)
theorem td_cells {w : World} {tv : Value} {T : List TDE} {l : List Td} (h : Told w tv T l) : TdC w tv T ∧ T.length ≤ 9223372036854775807 := by
  have hrow := h.row
  unfold TdRow at hrow
  rcases hrow.2 with ⟨rfl, h0⟩ | ⟨g, cap, cur, rfl, hB, hg, h1, h2, _⟩
  · exact ⟨⟨none, 0, by rw [h0], fun q => by omega⟩, by omega⟩
  · refine ⟨⟨some ⟨g, 0, none⟩, cap, rfl, fun _ => ⟨g, rfl, lt_of_heap hg, fun k x hx => ?_⟩⟩, by unfold maxLen at h2; omega⟩
    have hk : k < T.length := (List.getElem?_eq_some_iff.1 hx).1
    have hc : ∀ i, i < 5 → w.cell? ⟨g, k * 5 + i, none⟩ = (x.enc)[i]? := fun i hi => by
      rw [← tdC_at' T k i x hx hi]
      exact hrow.cellAt (k * 5 + i) (by omega)
    exact ⟨hc 0 (by omega), hc 2 (by omega), hc 3 (by omega), hc 4 (by omega), txs_of (h.fls x (List.mem_of_getElem? hx))⟩
end Go.Proofs.Ytiphbnmnoofpkaa

/- ViewLast, its walk. -/
namespace Go.Proofs.Ytiphbnmnoofpkaa
open Go.RowKit

theorem dr_heap (w : World) : ∀ n, (w.drewN n).heap = w.heap
  | 0 => rfl
  | n + 1 => dr_heap w n
theorem dr_cell (w : World) (n : Nat) (p : Addr) : (w.drewN n).cell? p = w.cell? p := by unfold World.cell?; rw [dr_heap]
def evM (n val : Int) (k : Int) (vu vm : Value) : EV := ⟨n, k, val, 0, 0, ⟨#[]⟩, .slice none 0 0, .slice none 0 0, vu, vm, 0, 0, 0, 0, 0, 0, 0, ⟨#[]⟩⟩
theorem hear_mark (V : PV) (n : Int) (m : ME) (vu vm : Value) : hearP V (plE (evM n V.val 6 vu vm) [] [m]) false = mark1 n false V m.pl := by
  show (if (6 : Int) = 4 then _ else _) = _
  rw [if_neg (by decide)]
  show (if (6 : Int) = 5 then _ else _) = _
  rw [if_neg (by decide)]
  show (if (6 : Int) = 6 then (if V.val = V.val then _ else _) else _) = _
  rw [if_pos rfl, if_pos rfl]
  rfl
theorem hear_gone (V : PV) (us : List Int) (vu vm : Value) : hearP V (plE (evM 0 V.val 7 vu vm) us []) false = leavesP V us := by
  show (if (7 : Int) = 4 then _ else _) = _
  rw [if_neg (by decide)]
  show (if (7 : Int) = 5 then _ else _) = _
  rw [if_neg (by decide)]
  show (if (7 : Int) = 6 then _ else _) = _
  rw [if_neg (by decide)]
  show (if (7 : Int) = 7 then (if V.val = V.val then _ else _) else _) = _
  rw [if_pos rfl, if_pos rfl]
  rfl
theorem nil_steps (w : World) : StepsAt w (.slice none 0 0) [] := ⟨⟨none, 0, rfl, fun h => absurd h (by simp)⟩, fun s hs => by cases hs⟩
theorem nil_nms (w : World) : Nms w (.slice none 0 0) [] := ⟨none, 0, rfl, fun h => absurd h (by simp)⟩
theorem nil_mks (w : World) : MksAt w (.slice none 0 0) [] := ⟨⟨none, 0, rfl, fun h => absurd h (by simp)⟩, fun s hs => by cases hs⟩
def nmI (nu : List Int) (j : Nat) : Int := if j < nu.length then nu.getD j 0 else (j : Int)
theorem VJ_ok {V0 : PV} {N : Nat} (h : PVok V0 N) (ms : List ME) (nm : Nat → Int) (j : Nat) : PVok (VJ V0 ms nm j) N := by
  have e := VJ_uids V0 ms nm j
  refine ⟨by rw [e]; exact h.rise, by rw [e]; exact h.top, ?_⟩
  have := h.len
  show (V0.rows.map _).length + V0.com.length ≤ N
  rw [List.length_map]
  exact this
theorem VE_ok {V0 : PV} {N : Nat} (h : PVok V0 N) (ms : List ME) (nm : Nat → Int) (gone : List Int) : PVok (VE V0 ms nm gone) N := leavesP_ok (VJ_ok h ms nm _)
/-- What is told, for the loops over it. -/
structure TL (gn : Nat) (KL : List (Int × Int × List ByteArray)) (T : List TDE) : Prop where
  len : T.length = gn + KL.length
  one : ∀ k x, T[k]? = some x → k < gn → x.kind = 1
  four : ∀ c x, T[gn + c]? = some x → x.kind = 4 ∧ KL[c]? = some (x.uid, x.mod, x.fl)
theorem tl_of {T : List TDE} {G F : List Td} {KL : List (Int × Int × List ByteArray)} (h : T.map TDE.pl = G ++ F) (hG : ∀ t ∈ G, t.kind = 1) (hF : ∀ t ∈ F, t.kind = 4) (hk : F.map keyT = KL) : TL G.length KL T := by
  have hl : T.length = G.length + F.length := by rw [← List.length_map (f := TDE.pl), h, List.length_append]
  refine ⟨by rw [hl, ← hk, List.length_map], fun k x hx hkn => ?_, fun c x hx => ?_⟩
  · have : (T.map TDE.pl)[k]? = some x.pl := by rw [List.getElem?_map, hx]; rfl
    rw [h, List.getElem?_append_left hkn] at this
    exact hG _ (List.mem_of_getElem? this)
  · have : (T.map TDE.pl)[G.length + c]? = some x.pl := by rw [List.getElem?_map, hx]; rfl
    rw [h, List.getElem?_append_right (by omega), Nat.add_sub_cancel_left] at this
    refine ⟨hF _ (List.mem_of_getElem? this), ?_⟩
    rw [← hk, List.getElem?_map, this]
    rfl
set_option maxHeartbeats 16000000 in
set_option maxRecDepth 20000 in
theorem ViewLast_walk (b : BX) (mv kv nv gv : Value) (ml : List MLE) (ms : List ME) (nu gone : List Int) (recent wh0 : Int) (W : World) (hm : MailsAt W mv ml) (hkm : MksAt W kv ms) (hkc : ∀ a c, kv = .slice a ms.length c → ms.length ≤ c) (hkb : (0 < ms.length → ∀ b, kv.ownBlock = some b → b < W.heap.size) ∧ ∀ m ∈ ms, m.fl ≠ [] → ∀ b, m.fv.ownBlock = some b → b < W.heap.size) (hnu : Nms W nv nu) (hgo : Nms W gv gone) (hgb : 0 < gone.length → ∀ b, gv.ownBlock = some b → b < W.heap.size) :
    Calls Try.prog 6 #[.agg (bxA b), mv, .int .i64 recent, kv, nv, gv, .int .i64 wh0] W fun e W' => e = .returned (.bool true) ∧ Below W.heap.size W W' := by
  obtain ⟨W1, hW1⟩ : ∃ W1, W.alloc (.cells (bxA b) 24) = W1 := ⟨_, rfl⟩
  have h1 : W1.heap[W.heap.size]? = some (.cells (bxA b) 24 (0, 0)) := by rw [← hW1]; exact heap_new _ _
  have hb1 : Below W.heap.size W W1 := by rw [← hW1]; exact (Below.refl _ _).alloc (Nat.le_refl _) _
  have hsz1 := lt_of_heap h1
  have HL := Lib.hid (long_any mv (.slice none 0 0) ml [] W1 (hm.on hb1) (nil_steps W1))
  have HM := Lib.hid (hm.on hb1)
  have HKm := Lib.hid (hkm.on hb1)
  have HNu := Lib.hid (hnu.on hb1)
  have HGo := Lib.hid (hgo.on hb1)
  have HKb : Hid ((0 < ms.length → ∀ b, kv.ownBlock = some b → b < W1.heap.size) ∧ ∀ m ∈ ms, m.fl ≠ [] → ∀ b, m.fv.ownBlock = some b → b < W1.heap.size) := Lib.hid ⟨fun h0 b e => Nat.lt_of_lt_of_le (hkb.1 h0 b e) hb1.size, fun m hm hne b e => Nat.lt_of_lt_of_le (hkb.2 m hm hne b e) hb1.size⟩
  have HGb : Hid (0 < gone.length → ∀ b, gv.ownBlock = some b → b < W1.heap.size) := Lib.hid (fun h0 b e => Nat.lt_of_lt_of_le (hgb h0 b e) hb1.size)
  have HFin : Hid (∀ X, Below W1.heap.size W1 X → Below W.heap.size W X) := Lib.hid (fun X hX => hb1.trans (hX.mono hb1.size))
  have HKn : Hid (∀ X, Below W1.heap.size W1 X → Calls Try.prog 13 #[] X fun e w' => e = .returned (.bool true) ∧ Below W.heap.size W w') := Lib.hid (fun X hX => (known_any X).mono (fun e w' ⟨q1, q2⟩ => ⟨q1, HFin.out _ (hX.trans (q2.mono hX.size))⟩))
  have HBx : Hid (∀ X, Below W1.heap.size W1 X → X.heap[W.heap.size]? = some (.cells (bxA b) 24 (0, 0))) := Lib.hid (fun X hX => by rw [hX.block _ hsz1]; exact h1)
  obtain ⟨am, cm, rfl, _⟩ := hm
  obtain ⟨⟨ak, ck, rfl, _⟩, _⟩ := hkm
  obtain ⟨an, cn, rfl, _⟩ := hnu
  obtain ⟨ag, cg, rfl, _⟩ := hgo
  have hck := hkc _ _ rfl
  clear hb1 h1 hsz1 hkc hkb hgb
  go_enter Try.func6, Try.ntmps6
  go_upto_region 1 with fail
  (try rw [hW1])
  clear hW1
  go_cut [36] (fun c wx => ∃ (lb : Bool) (X : World), X = wx ∧ c = .bool lb ∧ Below W1.heap.size W1 X ∧ (lb = false → ml.length ≤ 300 ∧ ms.length ≤ 40 ∧ gone.length ≤ 300))
  case first =>
    as_aux_lemma =>
      by_cases h40 : ms.length ≤ 40
      · have i40 : ¬ (40 : Int) < (ms.length : Int) := by omega
        by_cases h300 : gone.length ≤ 300
        · have i300 : ¬ (300 : Int) < (gone.length : Int) := by omega
          go_wp2_with (go_at_call 8; refine HL.out.mono ?_; rintro e w2 ⟨lb, rfl, hb2, hc2⟩; have HB2 := Lib.hid hb2; have HC2 := Lib.hid hc2; clear hb2 hc2; cases lb)
          · go_meet
            case rel => exact ⟨_, _, rfl, rfl, HB2.out, fun _ => ⟨(HC2.out (by first | rfl | trivial)).1, h40, h300⟩⟩
          · go_meet
            case rel => exact ⟨_, _, rfl, rfl, HB2.out, fun h => by cases h⟩
        · have i300 : (300 : Int) < (gone.length : Int) := by omega
          go_wp2_with (go_at_call 8; refine HL.out.mono ?_; rintro e w2 ⟨lb, rfl, hb2, hc2⟩; have HB2 := Lib.hid hb2; clear hb2 hc2; cases lb)
          all_goals
            go_meet
            case rel => exact ⟨_, _, rfl, rfl, HB2.out, fun h => by cases h⟩
      · have i40 : (40 : Int) < (ms.length : Int) := by omega
        go_wp2_with (go_at_call 8; refine HL.out.mono ?_; rintro e w2 ⟨lb, rfl, hb2, hc2⟩; have HB2 := Lib.hid hb2; clear hb2 hc2; cases lb)
        all_goals
          go_meet
          case rel => exact ⟨_, _, rfl, rfl, HB2.out, fun h => by cases h⟩
  case rest =>
  obtain ⟨lb, w2, hX2, rfl, hb2, hc2⟩ := hcut
  subst hX2
  have HB2 := Lib.hid hb2
  have HC2 := Lib.hid hc2
  clear hb2 hc2 HL
  cases lb with
  | true =>
    as_aux_lemma =>
      go_wp2_with fail
      go_ret
      exact ⟨rfl, HFin.out _ HB2.out⟩
  | false =>
  obtain ⟨hml, hml2, hgl⟩ := HC2.out rfl
  have H2 := Lib.hid (HBx.out _ HB2.out)
  have HNew : Hid (Calls Try.prog 9 #[.agg (bxA b), .slice am ml.length cm, .int .i64 recent] w2 fun e w' => ∃ P, e = .returned (.pointer (some ⟨P, 0, none⟩)) ∧ WK W1 P (newP b.val (ml.map MLE.u) recent) w') := Lib.hid ((New_any b _ ml recent w2 (HM.out.on HB2.out) (by omega)).mono (fun e w' ⟨P, fp, q1, q2, q3, q4⟩ => ⟨P, q1, WK.ofNew HB2.out q2 q3 q4⟩))
  have HP0 : Hid (PVok (newP b.val (ml.map MLE.u) recent) 300) := Lib.hid ((newP_ok b.val (ml.map MLE.u) recent).mono (by simpa using hml))
  have HV0 : Hid ((newP b.val (ml.map MLE.u) recent).val = b.val ∧ Calm (newP b.val (ml.map MLE.u) recent)) := Lib.hid ⟨newP_val _ _ _, new_calm _ _ _⟩
  clear HC2
  generalize newP b.val (ml.map MLE.u) recent = V0 at *
  go_upto_region 4 with (first | (refine wpList_load_row rfl 24 _ rfl W.heap.size rfl 24 _ (0, 0) _ H2.out Try.underlying24 rfl (Try.sizeBx b) ?_) | (go_at_call 9; refine HNew.out.mono ?_; rintro e w3 ⟨P, rfl, hwk⟩; have HW0 := Lib.hid hwk; clear hwk))
  clear HNew H2 HB2
  have HWO0 : Hid (WO W1 P V0 [] w3) := Lib.hid (by
    obtain ⟨fp, k1, k2, k3⟩ := HW0.out
    exact ⟨fp, k1, k2, k3, fun p hp => by cases hp⟩)
  have HU0 := Lib.hid (uids_WO HWO0.out HP0.out (by omega))
  have HUl : Hid ((uidsP V0).length ≤ 300) := Lib.hid (by have := HP0.out.len; rw [uidsP_length]; omega)
  go_upto_region 7 with (go_at_call 10; refine HU0.out.mono ?_; rintro e w4 ⟨a4, c4, rfl, hwo⟩; have HW4 := Lib.hid hwo; clear hwo)
  clear HU0 HW0 HWO0
  obtain ⟨U, hU⟩ : ∃ U, uidsP V0 = U := ⟨_, rfl⟩
  have HUe := Lib.hid hU
  rw [hU] at HW4 HUl
  rw [hU]
  clear hU
  go_upto_region 8 with fail
  go_loopw [17] (fun i wr => ∃ (j : Nat) (X : World), X = wr ∧ j ≤ ms.length ∧ i = .int .i64 j ∧ WO W1 P (VJ V0 ms (nmI nu) j) [(.slice a4 U.length c4, U)] X) (fun i _ => ms.length - (intOf i).toNat)
  case atStart => exact ⟨0, _, rfl, Nat.zero_le _, rfl, by rw [VJ_zero HV0.out.2]; exact HW4.out⟩
  case round =>
    obtain ⟨j, X, hX, hj, rfl, hwo⟩ := hrel
    subst hX
    have HWj := Lib.hid hwo
    clear hwo HW4
    by_cases hjl : j < ms.length
    ·
      as_aux_lemma =>
        have hjli : (j : Int) < (ms.length : Int) := by omega
        obtain ⟨n, hn⟩ : ∃ n, nmI nu j = n := ⟨_, rfl⟩
        have HN := Lib.hid hn
        go_upto_if 55 with fail
        go_cut [18] (fun c wx => X = wx ∧ c = .int .i64 n)
        case first =>
          by_cases hjn : j < nu.length
          · have hjni : (j : Int) < (nu.length : Int) := by omega
            obtain ⟨a9, c9, e9, hx9⟩ := HNu.out
            obtain ⟨rfl, rfl⟩ : a9 = an ∧ c9 = cn := by injection e9 with p1 p2 p3; exact ⟨p1.symm, p3.symm⟩
            clear e9
            obtain ⟨g9, o9, rfl, hg9, hc9⟩ := hx9 (by omega)
            have x0 : X.cell? ⟨g9, o9 + j, none⟩ = some (.int .i64 n) := by
              rw [HWj.out.below.cell (p := ⟨g9, o9 + j, none⟩) hg9, hc9 j hjn, ← hn]
              unfold nmI
              rw [if_pos hjn]
            clear hx9 hc9 hg9 hn
            go_wp2_with fail
            go_meet
            case rel => exact ⟨rfl, rfl⟩
          · have hjni : ¬ (j : Int) < (nu.length : Int) := by omega
            obtain rfl : n = (j : Int) := by rw [← hn]; unfold nmI; exact if_neg hjn
            clear hn
            go_wp2_with fail
            go_meet
            case rel => exact ⟨rfl, rfl⟩
        case rest =>
        obtain ⟨hwx, rfl⟩ := hcut
        subst hwx
        clear hn
        obtain ⟨⟨a9, c9, e9, hx9⟩, _⟩ := HKm.out
        obtain ⟨rfl, rfl⟩ : a9 = ak ∧ c9 = ck := by injection e9 with p1 p2 p3; exact ⟨p1.symm, p3.symm⟩
        clear e9
        obtain ⟨gm, om, rfl, hgm, _⟩ := hx9 (by omega)
        obtain ⟨q, hq⟩ : ∃ q, q = j + 1 := ⟨_, rfl⟩
        have hj1 : (j : Int) + 1 = (q : Int) := by omega
        have hqw : IntKind.i64.wrap (q : Int) = (q : Int) := by simp only [IntKind.wrap, IntKind.signed, IntKind.bits]; simp; omega
        have HHe : Hid (Calls Try.prog 19 #[.pointer (some ⟨P, 0, none⟩), .agg #[.int .i64 n, .int .i64 6, .int .i64 b.val, .int .i64 0, .int .i64 0, .string ⟨#[]⟩, .slice none 0 0, .slice none 0 0, .slice none 0 0, .slice (some ⟨gm, om + j * 2, none⟩) (q - j) (c9 - j), .int .i64 0, .int .i64 0, .int .i64 0, .int .i64 0, .int .i64 0, .int .i64 0, .int .i64 0, .string ⟨#[]⟩], .bool false] X.drew fun r w' => r = .returned (.tuple #[]) ∧ WO W1 P (VJ V0 ms (nmI nu) (j + 1)) [(.slice a4 U.length c4, U)] w') := Lib.hid (by
          rw [show q - j = 1 by omega]
          have hv : (VJ V0 ms (nmI nu) j).val = b.val := HV0.out.1
          have hmem : ms.getD j ME0 ∈ ms := by rw [List.getD_eq_getElem?_getD, List.getElem?_eq_getElem hjl]; exact List.getElem_mem hjl
          have := hear_WO HWj.out.drew (VJ_ok HP0.out ms (nmI nu) j) (evM n (VJ V0 ms (nmI nu) j).val 6 (.slice none 0 0) (.slice (some ⟨gm, om + j * 2, none⟩) 1 (c9 - j))) false [] [ms.getD j ME0] (by simp) (nil_nms W1) (fun h0 => absurd h0 (by simp)) (HKm.out.one rfl hjl _) ⟨fun _ b' e => by cases e; exact hgm, fun m hm' hne b' e => by rw [List.mem_singleton] at hm'; subst hm'; exact HKb.out.2 _ hmem hne b' e⟩ (by show (-9223372036854775808 : Int) ≤ 0; decide) (by simp) (by simp)
          rw [hear_mark, ← HN.out, VJ_succ HV0.out.2 ms (nmI nu) hjl] at this
          rw [HN.out, hv] at this
          exact this)
        have cb : X.drew.cell? ⟨W.heap.size, 1, none⟩ = some (.int .i64 b.val) := by
          have := HBx.out _ HWj.out.drew.below
          rw [cell_of this]
          rfl
        have z1 : j ≤ q := by omega
        have z2 : q ≤ ms.length := by omega
        have z3 : j ≤ c9 := by omega
        have z4 : q ≤ c9 := by omega
        have z5 : ¬ c9 = j := by omega
        have z6 : ms.length ≤ c9 := by omega
        have z7 : ms.length ≤ 40 := by omega
        have HJl := Lib.hid hjl
        clear hx9 hgm hq
        go_upto_region 13 with fail
        --R Last13--
        refine wp_region_N 10 (fun Y => Y = X.drew) (by kernel_rfl) ?_
        refine wpAnyN_take (i := 0) (oi := { dst := some 60, op := Go.Op.move (Go.Operand.tmp 15), type := 28, pos := "outright.go:186", after := #[], guard := none }) (oL := { dst := some 70, op := Go.Op.call { callee := Go.Callee.value (Go.Operand.func 19), args := #[Go.Operand.tmp 60, Go.Operand.tmp 69, Go.Operand.const (Go.Value.bool false)], argTypes := #[28, 38, 4] }, type := 0, pos := "outright.go:186", after := #[{ on := 0, ground := Go.Ground.data }, { on := 9, ground := Go.Ground.data }], guard := none }) (v := .pointer (some ⟨P, 0, none⟩)) rfl rfl (by kernel_rfl) (by kernel_rfl) (by kernel_rfl) (by kernel_rfl) (fun _ _ _ h => h) (Or.inl ⟨by kernel_rfl, ?_⟩) rfl ?_
        · (intro Y hX; subst hX <;> (go_simp; try (with_reducible rfl)))
        (try simp only [Act.put, List.setIfInBounds_toArray, List.set_cons_zero, List.set_cons_succ])
        refine wpAnyN_take (i := 1) (oi := { dst := some 61, op := Go.Op.fieldAddr 24 (Go.Operand.tmp 7) 1, type := 0, pos := "outright.go:186", after := #[], guard := none }) (oL := { dst := some 70, op := Go.Op.call { callee := Go.Callee.value (Go.Operand.func 19), args := #[Go.Operand.tmp 60, Go.Operand.tmp 69, Go.Operand.const (Go.Value.bool false)], argTypes := #[28, 38, 4] }, type := 0, pos := "outright.go:186", after := #[{ on := 0, ground := Go.Ground.data }, { on := 9, ground := Go.Ground.data }], guard := none }) (v := .pointer (some ⟨W.heap.size, 1, none⟩)) rfl rfl (by kernel_rfl) (by kernel_rfl) (by kernel_rfl) (by kernel_rfl) (fun _ _ _ h => h) (Or.inl ⟨by kernel_rfl, ?_⟩) rfl ?_
        · (intro Y hX; subst hX <;> (go_simp; try (with_reducible rfl)))
        (try simp only [Act.put, List.setIfInBounds_toArray, List.set_cons_zero, List.set_cons_succ])
        refine wpAnyN_take (i := 2) (oi := { dst := some 62, op := Go.Op.load 3 (Go.Operand.tmp 61), type := 3, pos := "outright.go:186", after := #[{ on := 1, ground := Go.Ground.data }], guard := none }) (oL := { dst := some 70, op := Go.Op.call { callee := Go.Callee.value (Go.Operand.func 19), args := #[Go.Operand.tmp 60, Go.Operand.tmp 69, Go.Operand.const (Go.Value.bool false)], argTypes := #[28, 38, 4] }, type := 0, pos := "outright.go:186", after := #[{ on := 0, ground := Go.Ground.data }, { on := 9, ground := Go.Ground.data }], guard := none }) (v := .int .i64 b.val) rfl rfl (by kernel_rfl) (by kernel_rfl) (by kernel_rfl) (by kernel_rfl) (fun _ _ _ h => h) (Or.inl ⟨by kernel_rfl, ?_⟩) rfl ?_
        · (intro Y hX; subst hX <;> (go_simp; try (with_reducible rfl)))
        (try simp only [Act.put, List.setIfInBounds_toArray, List.set_cons_zero, List.set_cons_succ])
        refine wpAnyN_take (i := 3) (oi := { dst := some 63, op := Go.Op.move (Go.Operand.tmp 18), type := 3, pos := "outright.go:186", after := #[], guard := none }) (oL := { dst := some 70, op := Go.Op.call { callee := Go.Callee.value (Go.Operand.func 19), args := #[Go.Operand.tmp 60, Go.Operand.tmp 69, Go.Operand.const (Go.Value.bool false)], argTypes := #[28, 38, 4] }, type := 0, pos := "outright.go:186", after := #[{ on := 0, ground := Go.Ground.data }, { on := 9, ground := Go.Ground.data }], guard := none }) (v := .int .i64 n) rfl rfl (by kernel_rfl) (by kernel_rfl) (by kernel_rfl) (by kernel_rfl) (fun _ _ _ h => h) (Or.inl ⟨by kernel_rfl, ?_⟩) rfl ?_
        · (intro Y hX; subst hX <;> (go_simp; try (with_reducible rfl)))
        (try simp only [Act.put, List.setIfInBounds_toArray, List.set_cons_zero, List.set_cons_succ])
        refine wpAnyN_take (i := 4) (oi := { dst := some 64, op := Go.Op.move (Go.Operand.tmp 3), type := 34, pos := "outright.go:186", after := #[], guard := none }) (oL := { dst := some 70, op := Go.Op.call { callee := Go.Callee.value (Go.Operand.func 19), args := #[Go.Operand.tmp 60, Go.Operand.tmp 69, Go.Operand.const (Go.Value.bool false)], argTypes := #[28, 38, 4] }, type := 0, pos := "outright.go:186", after := #[{ on := 0, ground := Go.Ground.data }, { on := 9, ground := Go.Ground.data }], guard := none }) (v := .slice (some ⟨gm, om, none⟩) ms.length c9) rfl rfl (by kernel_rfl) (by kernel_rfl) (by kernel_rfl) (by kernel_rfl) (fun _ _ _ h => h) (Or.inl ⟨by kernel_rfl, ?_⟩) rfl ?_
        · (intro Y hX; subst hX <;> (go_simp; try (with_reducible rfl)))
        (try simp only [Act.put, List.setIfInBounds_toArray, List.set_cons_zero, List.set_cons_succ])
        refine wpAnyN_take (i := 5) (oi := { dst := some 65, op := Go.Op.move (Go.Operand.tmp 17), type := 3, pos := "outright.go:186", after := #[], guard := none }) (oL := { dst := some 70, op := Go.Op.call { callee := Go.Callee.value (Go.Operand.func 19), args := #[Go.Operand.tmp 60, Go.Operand.tmp 69, Go.Operand.const (Go.Value.bool false)], argTypes := #[28, 38, 4] }, type := 0, pos := "outright.go:186", after := #[{ on := 0, ground := Go.Ground.data }, { on := 9, ground := Go.Ground.data }], guard := none }) (v := .int .i64 (j : Int)) rfl rfl (by kernel_rfl) (by kernel_rfl) (by kernel_rfl) (by kernel_rfl) (fun _ _ _ h => h) (Or.inl ⟨by kernel_rfl, ?_⟩) rfl ?_
        · (intro Y hX; subst hX <;> (go_simp; try (with_reducible rfl)))
        (try simp only [Act.put, List.setIfInBounds_toArray, List.set_cons_zero, List.set_cons_succ])
        refine wpAnyN_take (i := 6) (oi := { dst := some 66, op := Go.Op.move (Go.Operand.tmp 17), type := 3, pos := "outright.go:186", after := #[], guard := none }) (oL := { dst := some 70, op := Go.Op.call { callee := Go.Callee.value (Go.Operand.func 19), args := #[Go.Operand.tmp 60, Go.Operand.tmp 69, Go.Operand.const (Go.Value.bool false)], argTypes := #[28, 38, 4] }, type := 0, pos := "outright.go:186", after := #[{ on := 0, ground := Go.Ground.data }, { on := 9, ground := Go.Ground.data }], guard := none }) (v := .int .i64 (j : Int)) rfl rfl (by kernel_rfl) (by kernel_rfl) (by kernel_rfl) (by kernel_rfl) (fun _ _ _ h => h) (Or.inl ⟨by kernel_rfl, ?_⟩) rfl ?_
        · (intro Y hX; subst hX <;> (go_simp; try (with_reducible rfl)))
        (try simp only [Act.put, List.setIfInBounds_toArray, List.set_cons_zero, List.set_cons_succ])
        refine wpAnyN_take (i := 7) (oi := { dst := some 67, op := Go.Op.binOp Go.BinOp.add 3 (Go.Operand.tmp 66) (Go.Operand.const (Go.Value.int Go.IntKind.i64 1)) 3, type := 3, pos := "outright.go:186", after := #[{ on := 6, ground := Go.Ground.data }], guard := none }) (oL := { dst := some 70, op := Go.Op.call { callee := Go.Callee.value (Go.Operand.func 19), args := #[Go.Operand.tmp 60, Go.Operand.tmp 69, Go.Operand.const (Go.Value.bool false)], argTypes := #[28, 38, 4] }, type := 0, pos := "outright.go:186", after := #[{ on := 0, ground := Go.Ground.data }, { on := 9, ground := Go.Ground.data }], guard := none }) (v := .int .i64 (q : Int)) rfl rfl (by kernel_rfl) (by kernel_rfl) (by kernel_rfl) (by kernel_rfl) (fun _ _ _ h => h) (Or.inl ⟨by kernel_rfl, ?_⟩) rfl ?_
        · (intro Y hX; subst hX <;> (go_simp; try (with_reducible rfl)))
        (try simp only [Act.put, List.setIfInBounds_toArray, List.set_cons_zero, List.set_cons_succ])
        refine wpAnyN_take (i := 8) (oi := { dst := some 68, op := Go.Op.slice 34 (Go.Operand.tmp 64) (some (Go.Operand.tmp 65)) (some (Go.Operand.tmp 67)) none, type := 34, pos := "outright.go:186", after := #[{ on := 4, ground := Go.Ground.data }, { on := 5, ground := Go.Ground.data }, { on := 7, ground := Go.Ground.data }], guard := none }) (oL := { dst := some 70, op := Go.Op.call { callee := Go.Callee.value (Go.Operand.func 19), args := #[Go.Operand.tmp 60, Go.Operand.tmp 69, Go.Operand.const (Go.Value.bool false)], argTypes := #[28, 38, 4] }, type := 0, pos := "outright.go:186", after := #[{ on := 0, ground := Go.Ground.data }, { on := 9, ground := Go.Ground.data }], guard := none }) (v := .slice (some ⟨gm, om + j * 2, none⟩) (q - j) (c9 - j)) rfl rfl (by kernel_rfl) (by kernel_rfl) (by kernel_rfl) (by kernel_rfl) (fun _ _ _ h => h) (Or.inl ⟨by kernel_rfl, ?_⟩) rfl ?_
        · (intro Y hX; subst hX <;> (go_simp; try (with_reducible rfl)))
        (try simp only [Act.put, List.setIfInBounds_toArray, List.set_cons_zero, List.set_cons_succ])
        refine wpAnyN_take (i := 9) (oi := { dst := some 69, op := Go.Op.build 38 #[(1, Go.Operand.const (Go.Value.int Go.IntKind.i64 6)), (2, Go.Operand.tmp 62), (0, Go.Operand.tmp 63), (9, Go.Operand.tmp 68)], type := 38, pos := "outright.go:186", after := #[{ on := 2, ground := Go.Ground.data }, { on := 3, ground := Go.Ground.data }, { on := 8, ground := Go.Ground.data }], guard := none }) (oL := { dst := some 70, op := Go.Op.call { callee := Go.Callee.value (Go.Operand.func 19), args := #[Go.Operand.tmp 60, Go.Operand.tmp 69, Go.Operand.const (Go.Value.bool false)], argTypes := #[28, 38, 4] }, type := 0, pos := "outright.go:186", after := #[{ on := 0, ground := Go.Ground.data }, { on := 9, ground := Go.Ground.data }], guard := none }) (v := .agg #[.int .i64 n, .int .i64 6, .int .i64 b.val, .int .i64 0, .int .i64 0, .string ⟨#[]⟩, .slice none 0 0, .slice none 0 0, .slice none 0 0, .slice (some ⟨gm, om + j * 2, none⟩) (q - j) (c9 - j), .int .i64 0, .int .i64 0, .int .i64 0, .int .i64 0, .int .i64 0, .int .i64 0, .int .i64 0, .string ⟨#[]⟩]) rfl rfl (by kernel_rfl) (by kernel_rfl) (by kernel_rfl) (by kernel_rfl) (fun _ _ _ h => h) (Or.inl ⟨by kernel_rfl, ?_⟩) rfl ?_
        · (intro Y hX; subst hX <;> (go_simp; try (with_reducible rfl)))
        (try simp only [Act.put, List.setIfInBounds_toArray, List.set_cons_zero, List.set_cons_succ])
        refine wpAnyN_one (i := 10) (o := { dst := some 70, op := Go.Op.call { callee := Go.Callee.value (Go.Operand.func 19), args := #[Go.Operand.tmp 60, Go.Operand.tmp 69, Go.Operand.const (Go.Value.bool false)], argTypes := #[28, 38, 4] }, type := 0, pos := "outright.go:186", after := #[{ on := 0, ground := Go.Ground.data }, { on := 9, ground := Go.Ground.data }], guard := none }) (by kernel_rfl) rfl (fun K hK => ?_)
        go_simp
        refine HHe.out.mono ?_
        rintro r w6 ⟨rfl, hw6⟩
        have HW6 := Lib.hid hw6
        clear hw6
        refine hK.out _ _ (fun e => absurd (e.symm.trans (by kernel_rfl) : false = true) Bool.false_ne_true) ?_
        clear hK K
        (try simp only [Act.put, List.setIfInBounds_toArray, List.set_cons_zero, List.set_cons_succ])
        refine wpAnyN_of_H (S' := fun _ => True) _ _ _ _ (by kernel_rfl) ?_
        refine wpAnyH_done (by kernel_rfl) ?_ _
        --E Last13--
        go_wp2_with fail
        go_roundw
        case rel => exact ⟨j + 1, _, rfl, by have := HJl.out; omega, by go_num, HW6.out⟩
        case measure => (have := HJl.out; simp [intOf]; omega)
    · obtain rfl : j = ms.length := by omega
      have cb : X.cell? ⟨W.heap.size, 1, none⟩ = some (.int .i64 b.val) := by
        have := HBx.out _ HWj.out.below
        rw [cell_of this]
        rfl
      have HHe : Hid (Calls Try.prog 19 #[.pointer (some ⟨P, 0, none⟩), .agg #[.int .i64 0, .int .i64 7, .int .i64 b.val, .int .i64 0, .int .i64 0, .string ⟨#[]⟩, .slice none 0 0, .slice none 0 0, .slice ag gone.length cg, .slice none 0 0, .int .i64 0, .int .i64 0, .int .i64 0, .int .i64 0, .int .i64 0, .int .i64 0, .int .i64 0, .string ⟨#[]⟩], .bool false] X fun r w' => r = .returned (.tuple #[]) ∧ WO W1 P (VE V0 ms (nmI nu) gone) [(.slice a4 U.length c4, U)] w') := Lib.hid (by
        have hv : (VJ V0 ms (nmI nu) ms.length).val = b.val := HV0.out.1
        have := hear_WO HWj.out (VJ_ok HP0.out ms (nmI nu) ms.length) (evM 0 (VJ V0 ms (nmI nu) ms.length).val 7 (.slice ag gone.length cg) (.slice none 0 0)) false gone [] (by omega) HGo.out HGb.out (nil_mks W1) ⟨fun h0 => absurd h0 (by simp), fun m hm' => by cases hm'⟩ (by show (-9223372036854775808 : Int) ≤ 0; decide) hgl (by simp)
        rw [hear_gone, hv] at this
        exact this)
      obtain ⟨wh, hwh⟩ : ∃ wh : Int, (if wh0 = 2 then 2 else 1) = wh := ⟨_, rfl⟩
      have HWh : Hid (wh = 1 ∨ wh = 2) := Lib.hid (by rw [← hwh]; split; exact .inr rfl; exact .inl rfl)
      have HWe := Lib.hid hwh
      clear hwh
      go_upto_region 15 with (go_at_call 19; refine HHe.out.mono ?_; rintro r w6 ⟨rfl, hw6⟩; have HW6 := Lib.hid hw6; clear hw6)
      clear HHe HWj cb
      go_upto_if 78 with fail
      go_cut [6] (fun c wx => w6 = wx ∧ c = .int .i64 wh)
      case first =>
        as_aux_lemma =>
          by_cases h2 : wh0 = 2
          · obtain rfl : wh = 2 := by rw [← HWe.out]; exact if_pos h2
            subst h2
            go_wp2_with fail
            go_meet
            case rel => exact ⟨rfl, rfl⟩
          · obtain rfl : wh = 1 := by rw [← HWe.out]; exact if_neg h2
            have hb2 : (wh0 != 2) = true := by simpa using h2
            go_wp2_with fail
            go_meet
            case rel => exact ⟨rfl, rfl⟩
      case rest =>
      obtain ⟨hwx, rfl⟩ := hcut
      subst hwx
      clear HWe
      have HTk : Hid (Calls Try.prog 17 #[.pointer (some ⟨P, 0, none⟩), .int .i64 wh, .int .i64 recent] w6 fun e w' => ∃ at' ct gn T, e = .returned (.slice at' (List.length T) ct) ∧ TL gn (U.filterMap (selU ms (nmI nu) gone)) T ∧ TdC w' (.slice at' T.length ct) T ∧ T.length ≤ 9223372036854775807 ∧ WO W1 P (takeV (VE V0 ms (nmI nu) gone) wh recent) [(.slice a4 U.length c4, U)] w') := Lib.hid (by
        refine (take_WO HW6.out (VE_ok HP0.out ms (nmI nu) gone) (by omega) wh recent).mono ?_
        rintro e w' ⟨tv, T, rfl, ht, hw⟩
        obtain ⟨G, F, e1, hG, hF, hk⟩ := last_told HV0.out.2 ms (nmI nu) gone wh recent HWh.out
        obtain ⟨hc, hl⟩ := td_cells ht
        obtain ⟨a, c, rfl, _⟩ := id hc
        exact ⟨a, c, G.length, T, rfl, tl_of (ht.pl.trans e1) hG hF (by rw [hk, HUe.out]), hc, hl, hw⟩)
      have HP3 : Hid (PVok (takeV (VE V0 ms (nmI nu) gone) wh recent) 300) := Lib.hid (takeV_ok (VE_ok HP0.out ms (nmI nu) gone) _ _)
      have HTn : Hid (takeT (takeV (VE V0 ms (nmI nu) gone) wh recent) wh recent = []) := Lib.hid (take_again _ _ _ _ HWh.out)
      go_upto_region 18 with (go_at_call 17; refine HTk.out.mono ?_; rintro e Xt ⟨at7, ct7, gn, T, rfl, htl, htc, hlen, hwt⟩; have HTl := Lib.hid htl; have HTc := Lib.hid htc; have HTm := Lib.hid hlen; have HWt := Lib.hid hwt; clear htl htc hlen hwt)
      clear HTk HW6
      generalize takeV (VE V0 ms (nmI nu) gone) wh recent = V3 at *
      have HGn : Hid (gn ≤ T.length) := Lib.hid (by have := HTl.out.len; omega)
      go_upto_region 19 with fail
      go_loopw [20] (fun kk wr => ∃ (k : Nat) (X : World), X = wr ∧ k ≤ gn ∧ kk = .int .i64 k ∧ X = Xt) (fun kk _ => gn - (intOf kk).toNat)
      case atStart => exact ⟨0, _, rfl, Nat.zero_le _, rfl, rfl⟩
      case round =>
        obtain ⟨k, X, hX, hk, rfl, hXt⟩ := hrel
        subst hX
        subst hXt
        have hTm : T.length ≤ 9223372036854775807 := HTm.out
        by_cases hkg : k < gn
        ·
          as_aux_lemma =>
            have hkT : k < T.length := by have := HGn.out; omega
            have hkTi : (k : Int) < (T.length : Int) := by omega
            obtain ⟨a9, c9, e9, hx9⟩ := HTc.out
            obtain ⟨rfl, rfl⟩ : a9 = at7 ∧ c9 = ct7 := by injection e9 with p1 p2 p3; exact ⟨p1.symm, p3.symm⟩
            clear e9
            obtain ⟨g9, rfl, _, hc9⟩ := hx9 (by omega)
            obtain ⟨x, hx⟩ : ∃ x, T[k]? = some x := ⟨T[k], List.getElem?_eq_getElem hkT⟩
            have x0 := (hc9 k x hx).1
            rw [HTl.out.one k x hx hkg] at x0
            have HKg := Lib.hid hkg
            clear hx9 hc9 hx
            go_wp2_with fail
            go_roundw
            case rel => exact ⟨k + 1, _, rfl, by have := HKg.out; omega, by go_num, rfl⟩
            case measure => (have := HKg.out; simp [intOf]; omega)
        · obtain rfl : k = gn := by omega
          go_upto_region 19 with fail
          go_cut [94] (fun c wq => X = wq ∧ c = .bool false)
          case first =>
            as_aux_lemma =>
              by_cases hgT : k < T.length
              · have hgTi : (k : Int) < (T.length : Int) := by omega
                obtain ⟨a9, c9, e9, hx9⟩ := HTc.out
                obtain ⟨rfl, rfl⟩ : a9 = at7 ∧ c9 = ct7 := by injection e9 with p1 p2 p3; exact ⟨p1.symm, p3.symm⟩
                clear e9
                obtain ⟨g9, rfl, _, hc9⟩ := hx9 (by omega)
                obtain ⟨x, hx⟩ : ∃ x, T[k]? = some x := ⟨T[k], List.getElem?_eq_getElem hgT⟩
                have x0 := (hc9 k x hx).1
                rw [(HTl.out.four 0 x hx).1] at x0
                clear hx9 hc9 hx
                go_wp2_with fail
                go_meet
                case rel => exact ⟨rfl, rfl⟩
              · have hgTi : ¬ (k : Int) < (T.length : Int) := by omega
                go_wp2_with fail
                go_meet
                case rel => exact ⟨rfl, rfl⟩
          case rest =>
          obtain ⟨hwq, rfl⟩ := hcut
          subst hwq
          go_upto_region 22 with fail
          obtain ⟨sel, hsel⟩ : ∃ sel, selU ms (nmI nu) gone = sel := ⟨_, rfl⟩
          have HSel := Lib.hid hsel
          rw [hsel] at HTl
          clear hsel
          go_loopw [20, 21] (fun kk i wr => ∃ (i' c : Nat) (Y : World), Y = wr ∧ i' ≤ U.length ∧ i = .int .i64 i' ∧ kk = .int .i64 ((k + c : Nat) : Int) ∧ c = ((U.take i').filterMap sel).length ∧ ∃ m, Y = X.drewN m) (fun _ i _ => U.length - (intOf i).toNat)
          case atStart => exact ⟨0, 0, _, rfl, Nat.zero_le _, rfl, rfl, rfl, 0, rfl⟩
          case round =>
            obtain ⟨i', c, Y, hY, hi', rfl, rfl, hcc, dm, hdm⟩ := hrel
            subst hY
            have hul : U.length ≤ 300 := HUl.out
            have HCc := Lib.hid hcc
            have HDm := Lib.hid hdm
            clear hcc hdm
            by_cases hil : i' < U.length
            · have hili : (i' : Int) < (U.length : Int) := by omega
              obtain ⟨a9, c9, e9, hx9⟩ := HWt.out.list List.mem_cons_self
              obtain ⟨rfl, rfl⟩ : a9 = a4 ∧ c9 = c4 := by injection e9 with p1 p2 p3; exact ⟨p1.symm, p3.symm⟩
              clear e9
              obtain ⟨g4, o4, rfl, _, hc4⟩ := hx9 (by omega)
              have HUc : Hid (∀ m, (X.drewN m).cell? ⟨g4, o4 + i', none⟩ = some (.int .i64 (U.getD i' 0))) := Lib.hid (fun m => by rw [dr_cell]; exact hc4 i' hil)
              have HFt := Lib.hid (fm_take sel hil)
              have HFa : Hid (∀ z, sel (U.getD i' 0) = some z → (U.filterMap sel)[c]? = some z) := Lib.hid (fun z hz => by rw [HCc.out]; exact fm_at sel hil hz)
              have HIl := Lib.hid hil
              clear hx9 hc4
              generalize U.getD i' 0 = u at *
              go_upto_region 26 with fail
              go_loopw [22, 23] (fun la j wq => ∃ (j' : Nat) (Z : World), Z = wq ∧ j' ≤ ms.length ∧ j = .int .i64 j' ∧ la = .int .i64 (li (uidM ms) u j') ∧ ∃ m, Z = X.drewN m) (fun _ j _ => ms.length - (intOf j).toNat)
              case atStart => exact ⟨0, _, rfl, Nat.zero_le _, rfl, rfl, dm, HDm.out⟩
              case round =>
                obtain ⟨j', Z, hZ, hj', rfl, rfl, dz, hdz⟩ := hrel
                subst hZ
                have HDz := Lib.hid hdz
                clear hdz
                by_cases hjl' : j' < ms.length
                ·
                  as_aux_lemma =>
                    have hjli' : (j' : Int) < (ms.length : Int) := by omega
                    have hm40 : ms.length ≤ 40 := hml2
                    obtain ⟨⟨a7, c7, e7, hx7⟩, _⟩ := HKm.out.on HWt.out.below
                    obtain ⟨rfl, rfl⟩ : a7 = ak ∧ c7 = ck := by injection e7 with p1 p2 p3; exact ⟨p1.symm, p3.symm⟩
                    clear e7
                    obtain ⟨gm, om, rfl, _, hc7⟩ := hx7 (by omega)
                    have y0 : Z.cell? ⟨gm, om + j' * 2, none⟩ = some (.int .i64 ((uidM ms).getD j' 0)) := by
                      rw [HDz.out, dr_cell, uidM_at ms j' hjl']
                      exact (hc7 j' hjl').1
                    have x0 : Z.cell? ⟨g4, o4 + i', none⟩ = some (.int .i64 u) := by rw [HDz.out]; exact HUc.out dz
                    have HLi : Hid (li (uidM ms) u (j' + 1) = if (uidM ms).getD j' 0 = u then (j' : Int) else li (uidM ms) u j') := Lib.hid rfl
                    have HDq : Hid (∀ n, ∃ m, Z.drewN n = X.drewN m) := Lib.hid (fun n => ⟨dz + n, by rw [HDz.out, World.drewN_drewN]⟩)
                    have HJl' := Lib.hid hjl'
                    clear hx7 hc7
                    generalize (uidM ms).getD j' 0 = y at *
                    by_cases hyu : y = u
                    · have hq : (y == u) = true := by simpa using hyu
                      have HE : Hid (li (uidM ms) u (j' + 1) = (j' : Int)) := Lib.hid (by rw [HLi.out, if_pos hyu])
                      clear hyu
                      go_upto_region 28 with fail
                      go_quiet (fail)
                      go_wp2_with fail
                      go_roundw
                      case rel => exact ⟨j' + 1, _, rfl, by have := HJl'.out; omega, by go_num, by rw [HE.out], HDq.out _⟩
                      case measure => (have := HJl'.out; simp [intOf]; omega)
                    · have hq : (y == u) = false := by simpa using hyu
                      have HE : Hid (li (uidM ms) u (j' + 1) = li (uidM ms) u j') := Lib.hid (by rw [HLi.out, if_neg hyu])
                      clear hyu
                      go_upto_region 28 with fail
                      go_quiet (fail)
                      go_wp2_with fail
                      go_roundw
                      case rel => exact ⟨j' + 1, _, rfl, by have := HJl'.out; omega, by go_num, by rw [HE.out], HDq.out _⟩
                      case measure => (have := HJl'.out; simp [intOf]; omega)
                · obtain rfl : j' = ms.length := by omega
                  have x0 : Z.cell? ⟨g4, o4 + i', none⟩ = some (.int .i64 u) := by rw [HDz.out]; exact HUc.out dz
                  rcases li_cases (uidM ms) u ms.length with hz | ⟨z, hzl, hz⟩
                  ·
                    as_aux_lemma =>
                      have HS : Hid (((U.take (i' + 1)).filterMap sel).length = c) := Lib.hid (by
                        have hs : sel u = none := by
                          rw [← HSel.out]
                          unfold selU wtJ
                          rw [hz]
                          simp
                        rw [HFt.out, hs, List.length_append, ← HCc.out]
                        rfl)
                      rw [hz]
                      clear hz
                      go_wp2_with fail
                      go_roundw
                      case rel => exact ⟨i' + 1, c, _, rfl, by have := HIl.out; omega, by go_num, rfl, HS.out.symm, dz, HDz.out⟩
                      case measure => (have := HIl.out; simp [intOf]; omega)
                  · rw [hz]
                    have hz0 : ¬ (z : Int) < 0 := by omega
                    have HAm : Hid (Calls Try.prog 20 #[.slice ag gone.length cg, .int .i64 u] Z fun e w' => e = .returned (.bool (decide (u ∈ gone))) ∧ w' = Z) := Lib.hid (among_any _ gone u Z (by rw [HDz.out]; exact (HGo.out.on HWt.out.below).on (below_drewN (Below.refl _ _) dz)) (by omega))
                    have HW0 : Hid (wtJ ms (nmI nu) u ms.length = some (nmI nu z, (ms.getD z ME0).fl)) := Lib.hid (by
                      unfold wtJ
                      rw [hz, if_neg (by omega)]
                      rfl)
                    have HZl := Lib.hid hzl
                    by_cases hug : u ∈ gone
                    ·
                      as_aux_lemma =>
                        rw [decide_eq_true hug] at HAm
                        have HS : Hid (((U.take (i' + 1)).filterMap sel).length = c) := Lib.hid (by
                          have hs : sel u = none := by
                            rw [← HSel.out]
                            unfold selU
                            rw [if_pos hug]
                          rw [HFt.out, hs, List.length_append, ← HCc.out]
                          rfl)
                        clear hug hz
                        go_wp2_with (go_at_call 20; refine HAm.out.mono ?_; rintro e w8 ⟨rfl, hw8⟩; subst w8)
                        go_roundw
                        case rel => exact ⟨i' + 1, c, _, rfl, by have := HIl.out; omega, by go_num, rfl, HS.out.symm, dz, HDz.out⟩
                        case measure => (have := HIl.out; simp [intOf]; omega)
                    ·
                      as_aux_lemma =>
                        rw [decide_eq_false hug] at HAm
                        have hsu : sel u = some (u, nmI nu z, (ms.getD z ME0).fl) := by
                          rw [← HSel.out]
                          unfold selU
                          rw [if_neg hug, HW0.out]
                          rfl
                        have HS : Hid (((U.take (i' + 1)).filterMap sel).length = c + 1) := Lib.hid (by
                          rw [HFt.out, hsu, List.length_append, ← HCc.out]
                          rfl)
                        have hKa := HFa.out _ hsu
                        have hcT : k + c < T.length := by
                          have h1 := (List.getElem?_eq_some_iff.1 hKa).1
                          have := HTl.out.len
                          omega
                        obtain ⟨x, hx⟩ : ∃ x, T[k + c]? = some x := ⟨T[k + c], List.getElem?_eq_getElem hcT⟩
                        obtain ⟨hx4, hxk⟩ := HTl.out.four c x hx
                        rw [hKa] at hxk
                        injection hxk with hxk
                        injection hxk with hxu hxk
                        injection hxk with hxm hxf
                        obtain ⟨a8, c8, e8, hx8⟩ := HTc.out
                        obtain ⟨rfl, rfl⟩ : a8 = at7 ∧ c8 = ct7 := by injection e8 with p1 p2 p3; exact ⟨p1.symm, p3.symm⟩
                        clear e8
                        obtain ⟨g8, rfl, _, hc8⟩ := hx8 (by omega)
                        obtain ⟨y1, y2, y3, y4, y5⟩ := hc8 (k + c) x hx
                        rw [hx4] at y1
                        rw [← hxu] at y2
                        rw [← hxm] at y3
                        rw [← hxf] at y5
                        obtain ⟨⟨a7, c7, e7, hx7⟩, hf7⟩ := HKm.out.on HWt.out.below
                        obtain ⟨rfl, rfl⟩ : a7 = ak ∧ c7 = ck := by injection e7 with p1 p2 p3; exact ⟨p1.symm, p3.symm⟩
                        clear e7
                        obtain ⟨gm, om, rfl, _, hc7⟩ := hx7 (by omega)
                        have hmem : ms.getD z ME0 ∈ ms := by rw [List.getD_eq_getElem?_getD, List.getElem?_eq_getElem hzl]; exact List.getElem_mem hzl
                        have hfz := hf7 _ hmem
                        have y6 : X.cell? ⟨gm, om + z * 2 + 1, none⟩ = some (ms.getD z ME0).fv := (hc7 z hzl).2
                        obtain ⟨ax, cx, hxv⟩ := y5.len
                        have HWd : Hid (∀ n, Calls Try.prog 21 #[.slice ax (ms.getD z ME0).fl.length cx, (ms.getD z ME0).fv] (Z.drewN n) fun e w' => e = .returned (.bool true) ∧ ∃ m, w' = (Z.drewN n).drewN m) := Lib.hid (fun n => by
                          have hb : Below X.heap.size X (Z.drewN n) := by rw [HDz.out, World.drewN_drewN]; exact below_drewN (Below.refl _ _) _
                          exact words_dr _ _ _ _ (by rw [← hxv]; exact y5.on hb) (hfz.txs.on hb) hfz.len)
                        rw [hxv] at y4
                        have hY : ∀ p, Z.cell? p = X.cell? p := fun p => by rw [HDz.out, dr_cell]
                        have c1 : Z.cell? ⟨g8, (k + c) * 5, none⟩ = some (.int .i64 4) := (hY _).trans y1
                        have c2 : Z.cell? ⟨g8, (k + c) * 5 + 2, none⟩ = some (.int .i64 u) := (hY _).trans y2
                        have c3 : Z.cell? ⟨g8, (k + c) * 5 + 3, none⟩ = some (.int .i64 (nmI nu z)) := (hY _).trans y3
                        have c4' : Z.cell? ⟨g8, (k + c) * 5 + 4, none⟩ = some (.slice ax (ms.getD z ME0).fl.length cx) := (hY _).trans y4
                        have c5 : Z.cell? ⟨gm, om + z * 2 + 1, none⟩ = some (ms.getD z ME0).fv := (hY _).trans y6
                        have HDq : Hid (∀ n, ∃ m, Z.drewN n = X.drewN m) := Lib.hid (fun n => ⟨dz + n, by rw [HDz.out, World.drewN_drewN]⟩)
                        have HNz : Hid ((z < nu.length → ∃ g o, an = some ⟨g, o, none⟩ ∧ Z.cell? ⟨g, o + z, none⟩ = some (.int .i64 (nmI nu z))) ∧ (¬ z < nu.length → nmI nu z = (z : Int))) := Lib.hid ⟨fun hzn => by
                          obtain ⟨a6, c6, e6, hx6⟩ := HNu.out.on HWt.out.below
                          injection e6 with p1 p2 p3
                          obtain ⟨g6, o6, e5, _, hc6⟩ := hx6 (by omega)
                          refine ⟨g6, o6, by rw [p1, e5], ?_⟩
                          rw [hY, hc6 z hzn]
                          unfold nmI
                          rw [if_pos hzn], fun hzn => by unfold nmI; exact if_neg hzn⟩
                        have hzm : (z : Int) < (ms.length : Int) := by omega
                        have hcTi : ((k + c : Nat) : Int) < (T.length : Int) := by omega
                        have hcTn : ¬ (T.length : Int) ≤ ((k + c : Nat) : Int) := by omega
                        have HKc := Lib.hid hcT
                        clear hug hz hKa hx hx4 hxu hxm hxf hx8 hc8 y1 y2 y3 y4 y5 hx7 hf7 hc7 hfz y6 hxv hY hsu hmem hzl
                        obtain ⟨mv', hmv⟩ : ∃ mv', (ms.getD z ME0).fv = mv' := ⟨_, rfl⟩
                        rw [hmv] at c5 HWd
                        clear hmv
                        generalize (ms.getD z ME0).fl = fl at *
                        generalize nmI nu z = nz at *
                        obtain ⟨kc, hkc⟩ : ∃ kc, k + c = kc := ⟨_, rfl⟩
                        rw [hkc] at c1 c2 c3 c4' hcTi hcTn HKc ⊢
                        have HKe := Lib.hid hkc
                        clear hkc
                        go_upto_if 134 with (go_at_call 20; refine HAm.out.mono ?_; rintro e w8 ⟨rfl, hw8⟩; subst w8)
                        go_cut [24] (fun cc wx => Z = wx ∧ cc = .int .i64 nz)
                        case first =>
                          by_cases hzn : z < nu.length
                          · have hzni : (z : Int) < (nu.length : Int) := by omega
                            obtain ⟨g6, o6, rfl, x6⟩ := HNz.out.1 hzn
                            go_wp2_with fail
                            go_meet
                            case rel => exact ⟨rfl, rfl⟩
                          · have hzni : ¬ (z : Int) < (nu.length : Int) := by omega
                            have hnz := HNz.out.2 hzn
                            subst hnz
                            go_wp2_with fail
                            go_meet
                            case rel => exact ⟨rfl, rfl⟩
                        case rest =>
                        obtain ⟨hwx, rfl⟩ := hcut
                        subst hwx
                        have huu : (u != u) = false := by simp
                        have hnn : (nz != nz) = false := by simp
                        have hd1 : decide ((T.length : Int) ≤ (kc : Int)) = false := by simp; omega
                        have hd1n : decide (T.length ≤ kc) = false := by simp; omega
                        go_upto_region 34 with fail
                        go_cut [185] (fun cc wx => ∃ Q, Q = wx ∧ cc = .bool false ∧ ∃ m, Q = X.drewN m)
                        case first =>
                          go_quiet ((go_at_call 21; exact Calls.quiet_of (HWd.out _)))
                          go_wp2_with fail
                          go_meet
                          case rel => exact ⟨_, rfl, rfl, HDq.out _⟩
                        case rest =>
                        obtain ⟨Q, hQ, rfl, dq, hdq⟩ := hcut
                        subst hQ
                        have HDQ := Lib.hid hdq
                        clear hdq c1 c2 c3 c4' c5 x0
                        have hTm2 : (kc : Int) < 9223372036854775807 := by have := HTm.out; omega
                        go_wp2_with fail
                        go_roundw
                        case rel => exact ⟨i' + 1, c + 1, _, rfl, by have := HIl.out; omega, by go_num, by rw [← Nat.add_assoc, HKe.out]; go_num, HS.out.symm, dq, HDQ.out⟩
                        case measure => (have := HIl.out; simp [intOf]; omega)
            · obtain rfl : i' = U.length := by omega
              as_aux_lemma =>
                have hkT : k + c = T.length := by
                  have h1 := HCc.out
                  rw [List.take_length] at h1
                  have := HTl.out.len
                  omega
                have HTk2 : Hid (Calls Try.prog 17 #[.pointer (some ⟨P, 0, none⟩), .int .i64 wh, .int .i64 recent] Y fun e w' => ∃ a c, e = .returned (.slice a 0 c) ∧ Below W1.heap.size W1 w') := Lib.hid (by
                  refine (take_WO (by rw [HDm.out]; exact HWt.out.drewN dm) HP3.out (by omega) wh recent).mono ?_
                  rintro e w' ⟨tv, T2, rfl, ht, hw⟩
                  have hT : T2 = [] := by
                    have := ht.pl
                    rw [HTn.out] at this
                    exact List.map_eq_nil_iff.1 this
                  subst hT
                  obtain ⟨a, c, rfl⟩ : ∃ a c, tv = .slice a 0 c := ownsRow_shape ht.row
                  exact ⟨a, c, rfl, hw.below⟩)
                rw [hkT]
                have htt : ((T.length : Int) == (T.length : Int)) = true := by simp
                clear hkT
                go_wp2_with (first | (go_at_call 17; refine HTk2.out.mono ?_; rintro e w9 ⟨a9, c9, rfl, hb9⟩; have HKw := Lib.hid (HKn.out w9 hb9); clear hb9) | (go_at_call 13; refine HKw.out.mono ?_; rintro e w10 ⟨rfl, hb10⟩; have HB10 := Lib.hid hb10; clear hb10))
                go_ret
                exact ⟨rfl, HB10.out⟩
end Go.Proofs.Ytiphbnmnoofpkaa
