/- ViewStar: what is plain of it; among. -/
import Derived.Test.YtiphbnmnoofpkaaN16i
namespace Go.Proofs.Ytiphbnmnoofpkaa
open Go.RowKit

theorem left_sub (V : PV) : (leftU V).Sublist (uidsP V) := List.filter_sublist.map _
theorem left_rise {V : PV} {N : Nat} (h : PVok V N) : riseF 0 (leftU V) := riseF_sub (riseP h) (left_sub V)
theorem riseF_filter {l : List Int} {m : Int} (h : riseF m l) (p : Int → Bool) : riseF m (l.filter p) := riseF_sub h List.filter_sublist
theorem lastI_lastD (l : List Int) (h : l ≠ []) (m : Int) : lastI l = lastD l m := (lastD_getD l m h).symm
theorem rise_upto {l : List Int} (h : riseF 0 l) {x : Int} (hx : x ∈ l) : 1 ≤ x ∧ x ≤ lastI l := by
  have hne : l ≠ [] := fun e => by rw [e] at hx; cases hx
  have h1 := riseF_gt h hx
  have h2 := riseF_last h hx
  rw [← lastI_lastD l hne 0] at h2
  omega
/-- 1:* is all. -/
theorem ofL_all {l : List Int} (h : riseF 0 l) : ofL [(1, 0)] l = l := by
  unfold ofL
  rw [List.filter_eq_self]
  intro x hx
  obtain ⟨h1, h2⟩ := rise_upto h hx
  have e1 : starI 1 (lastI l) = 1 := by unfold starI; rw [if_neg (by omega)]
  have e2 : starI 0 (lastI l) = lastI l := by unfold starI; rw [if_pos rfl]
  have e3 : pieceB (1, 0) = true := by decide
  unfold hasB setl inB
  simp only [List.any_cons, List.any_nil, Bool.or_false, e1, e2, e3, Bool.true_and, Bool.and_eq_true, decide_eq_true_eq]
  omega
/-- * is the last. -/
theorem ofL_star {l : List Int} (h : riseF 0 l) : ofL [(0, 0)] l = if l = [] then [] else [lastI l] := by
  by_cases hne : l = []
  · subst hne
    rfl
  · rw [if_neg hne]
    obtain ⟨a, x, rfl⟩ : ∃ a x, l = a ++ [x] := ⟨l.dropLast, l.getLast hne, (List.dropLast_concat_getLast hne).symm⟩
    have hl : lastI (a ++ [x]) = x := by rw [lastI_lastD _ hne 0, lastD_snoc]
    obtain ⟨h1, h2⟩ := (riseF_append a [x] 0).1 h
    have hx : 1 ≤ x := by have := riseF_gt h (x := x) (by simp); omega
    have e2 : starI 0 x = x := by unfold starI; rw [if_pos rfl]
    have e3 : pieceB (0, 0) = true := by decide
    have hp : ∀ y, hasB [(0, 0)] y x = decide (y = x) := fun y => by
      unfold hasB setl inB
      simp only [List.any_cons, List.any_nil, Bool.or_false, e2, e3, Int.min_self, Int.max_self, Bool.true_and, decide_eq_true hx]
      by_cases e : y = x
      · simp [e]
      · rw [decide_eq_false e]
        by_cases e4 : x ≤ y
        · rw [decide_eq_true e4, decide_eq_false (by omega)]; rfl
        · rw [decide_eq_false e4]; rfl
    unfold ofL
    rw [hl, List.filter_append]
    have ha : a.filter (fun n => hasB [(0, 0)] n x) = [] := by
      rw [List.filter_eq_nil_iff]
      intro y hy
      have h3 := riseF_last h1 hy
      have h4 : lastD a 0 < x := h2.1
      rw [hp, decide_eq_false (by omega)]
      simp
    rw [ha, List.filter_cons_of_pos (by rw [hp]; simp), List.filter_nil, List.nil_append]
theorem find_all {V : PV} {N : Nat} (h : PVok V N) : findL V [(1, 0)] true = leftU V := by
  unfold findL
  rw [if_pos rfl, ofL_all (left_rise h)]
theorem find_star {V : PV} {N : Nat} (h : PVok V N) : findL V [(0, 0)] true = if leftU V = [] then [] else [lastI (leftU V)] := by
  unfold findL
  rw [if_pos rfl, ofL_star (left_rise h)]
theorem find_any {V : PV} {N : Nat} (h : PVok V N) (l : List Rg) : riseF 0 (findL V l true) ∧ (∀ x ∈ findL V l true, x ∈ leftU V) ∧ (findL V l true).length ≤ (leftU V).length := by
  unfold findL
  rw [if_pos rfl]
  exact ⟨riseF_filter (left_rise h) _, fun x hx => (List.mem_filter.1 hx).1, List.length_filter_le _ _⟩
theorem folN_rise : ∀ n, riseF 0 (folN 1 n)
  | 0 => trivial
  | n + 1 => by
    rw [folN_succ, riseF_append]
    refine ⟨folN_rise n, ?_, trivial⟩
    cases n with
    | zero => show (0 : Int) < 1 + 0; omega
    | succ m =>
      rw [folN_succ, lastD_snoc]
      omega
theorem map_rows (rows : List PR) : (folN 1 rows.length).map (fun k => rows.getD (k - 1).toNat ⟨0, false, false, none⟩) = rows := by
  apply List.ext_getElem (by rw [List.length_map, folN_length])
  intro i h1 h2
  rw [List.getElem_map]
  have e : (folN 1 rows.length)[i]'(by simpa using h1) = 1 + (i : Int) := by simp [folN]
  rw [e, show ((1 : Int) + (i : Int) - 1).toNat = i by omega, List.getD_eq_getElem?_getD, List.getElem?_eq_getElem h2]
  rfl
/-- By number 1:* is all, gone or not. -/
theorem find_every {V : PV} (h0 : V.rows ≠ []) (hN : V.rows.length ≤ 1000000) : findL V [(1, 0)] false = uidsP V ∧ findE V [(1, 0)] false = 0 ∧ findG V [(1, 0)] false = V.rows.any PR.gone := by
  have hpos := List.length_pos_iff.2 h0
  have hb : badF V [(1, 0)] = false := by
    unfold badF takesB
    simp only [List.any_cons, List.any_nil, Bool.or_false]
    rw [if_neg (by decide), if_pos (by decide), decide_eq_true (show (0 : Nat) < V.rows.length from hpos), decide_eq_true (by decide)]
    rfl
  have hn : numL V.rows.length [(1, 0)] = folN 1 V.rows.length := by
    unfold numL
    rw [fol_one _ hN, ofL_all (folN_rise _)]
  unfold findL findE findG
  simp only [Bool.false_eq_true, if_false, hb, hn]
  refine ⟨?_, trivial, ?_⟩
  · have := congrArg (List.map PR.uid) (map_rows V.rows)
    rw [List.map_map] at this
    exact this
  · have := congrArg (fun l => l.any PR.gone) (map_rows V.rows)
    simp only [List.any_map] at this
    exact this
theorem find_none {V : PV} (h0 : V.rows = []) : findE V [(1, 0)] false = 160 := by
  have hb : badF V [(1, 0)] = true := by
    unfold badF takesB
    rw [h0]
    rfl
  unfold findE
  simp [hb]
/-- What is left of the first rows; is one of them gone? -/
def lefT (V : PV) (k : Nat) : List Int := (stayR (V.rows.take k)).map PR.uid
def someT (V : PV) (k : Nat) : Bool := (V.rows.take k).any PR.gone
theorem gone_at {V : PV} {N : Nat} (h : PVok V N) {k : Nat} (hk : k < (uidsP V).length) : (atP V ((uidsP V).getD k 0)).gone = (V.rows.getD k PR0).gone := by
  have hh : hitP (uidsP V) ((uidsP V).getD k 0) = true := (hitP_iff (riseP h)).2 (getD_mem0 hk)
  unfold atP
  rw [if_pos hh, ixP_at (riseP h) hk]
theorem take_snocP (l : List PR) (k : Nat) (hk : k < l.length) : l.take (k + 1) = l.take k ++ [l.getD k PR0] := by
  rw [List.take_add_one, List.getElem?_eq_getElem hk, List.getD_eq_getElem?_getD, List.getElem?_eq_getElem hk]
  rfl
theorem uids_at {V : PV} {k : Nat} (hk : k < V.rows.length) : (V.rows.getD k PR0).uid = (uidsP V).getD k 0 := by
  unfold uidsP
  rw [List.getD_eq_getElem?_getD, List.getD_eq_getElem?_getD, List.getElem?_map, List.getElem?_eq_getElem hk]
  rfl
theorem lefT_gone {V : PV} {k : Nat} (hk : k < V.rows.length) (hg : (V.rows.getD k PR0).gone = true) : lefT V (k + 1) = lefT V k ∧ someT V (k + 1) = true := by
  unfold lefT someT stayR
  rw [take_snocP _ _ hk, List.filter_append, List.filter_cons_of_neg (by simp only [hg]; decide), List.filter_nil, List.append_nil, List.any_append]
  exact ⟨rfl, by rw [List.any_cons, List.any_nil, hg]; simp⟩
theorem lefT_stay {V : PV} {k : Nat} (hk : k < V.rows.length) (hg : (V.rows.getD k PR0).gone = false) : lefT V (k + 1) = lefT V k ++ [(uidsP V).getD k 0] ∧ someT V (k + 1) = someT V k := by
  unfold lefT someT stayR
  rw [take_snocP _ _ hk, List.filter_append, List.filter_cons_of_pos (by simp only [hg]; decide), List.filter_nil, List.map_append, List.any_append, ← uids_at hk]
  exact ⟨rfl, by rw [List.any_cons, List.any_nil, hg]; simp⟩
theorem lefT_end (V : PV) : lefT V V.rows.length = leftU V ∧ someT V V.rows.length = V.rows.any PR.gone := by
  unfold lefT someT
  rw [List.take_length]
  exact ⟨rfl, rfl⟩
theorem lefT_len (V : PV) (k : Nat) : (lefT V k).length ≤ V.rows.length := by
  unfold lefT stayR
  rw [List.length_map]
  exact Nat.le_trans (List.length_filter_le _ _) (by rw [List.length_take]; omega)
set_option maxRecDepth 100000 in
set_option maxHeartbeats 1000000 in
theorem among_any (a : Value) (l : List Int) (n : Int) (w : World) (h1 : Nms w a l) (hl : l.length ≤ 1000000) :
    Calls Try.prog 20 #[a, .int .i64 n] w fun e w' => e = .returned (.bool (decide (n ∈ l))) ∧ w' = w := by
  obtain ⟨a1, c1, rfl, q1⟩ := h1
  have H1 := Lib.hid q1
  have HY : Hid (∀ t, t < l.length → l.getD t 0 = n → decide (n ∈ l) = true) := Lib.hid (fun t ht e => decide_eq_true (by rw [← e]; exact getD_mem0 ht))
  have HN : Hid ((∀ t, t < l.length → l.getD t 0 ≠ n) → decide (n ∈ l) = false) := Lib.hid (fun h => decide_eq_false (fun hm => by
    obtain ⟨i, hi, e⟩ := List.mem_iff_getElem.1 hm
    refine h i hi ?_
    rw [List.getD_eq_getElem?_getD, List.getElem?_eq_getElem hi]
    exact e))
  clear q1
  generalize decide (n ∈ l) = dd at *
  go_enter Try.func20, Try.ntmps20
  go_wp2_with fail
  go_loopw [5] (fun i wr => ∃ k : Nat, k ≤ l.length ∧ i = .int .i64 k ∧ wr = w ∧ Hid (∀ t, t < k → l.getD t 0 ≠ n)) (fun i _ => l.length - (intOf i).toNat)
  case atStart => exact ⟨0, Nat.zero_le _, rfl, rfl, Lib.hid (fun t ht => by omega)⟩
  case round =>
    obtain ⟨k, hk, rfl, rfl, HK⟩ := hrel
    by_cases hlt : k < l.length
    · have hlti : (k : Int) < (l.length : Int) := by omega
      obtain ⟨g1, o1, rfl, hg1, hc1⟩ := H1.out (by omega)
      have k1 := hc1 k hlt
      have HYk := Lib.hid (HY.out k hlt)
      have HKk : Hid (l.getD k 0 ≠ n → ∀ t, t < k + 1 → l.getD t 0 ≠ n) := Lib.hid (fun e t ht => by
        by_cases et : t = k
        · rw [et]; exact e
        · exact HK.out t (by omega))
      clear hc1
      generalize l.getD k 0 = x at *
      by_cases hxy : x = n
      · have hq : (x == n) = true := by simpa using hxy
        have HF : Hid (dd = true) := Lib.hid (HYk.out hxy)
        clear hxy HYk HKk
        go_wp2_with fail
        go_ret
        exact ⟨ret_bool HF.out.symm, rfl⟩
      · have hq : (x == n) = false := by simpa using hxy
        have HKy := Lib.hid (HKk.out hxy)
        clear hxy HYk HKk
        go_wp2_with fail
        go_roundw
        case rel => exact ⟨k + 1, by omega, by go_num, (by first | rfl | trivial), HKy⟩
        case measure => simp [intOf]; omega
    · obtain rfl : k = l.length := by omega
      have HF : Hid (dd = false) := Lib.hid (HN.out HK.out)
      go_wp2_with fail
      go_ret
      exact ⟨ret_bool HF.out.symm, rfl⟩
theorem drewN_succ (w : World) (m : Nat) : (w.drewN m).drew = w.drewN (m + 1) := rfl
set_option maxRecDepth 100000 in
set_option maxHeartbeats 1000000 in
theorem alike_dr (a b : Value) (l1 l2 : List Int) (w : World) (h1 : Nms w a l1) (h2 : Nms w b l2) (hl : l1.length ≤ 1000000) :
    Calls Try.prog 12 #[a, b] w fun e w' => e = .returned (.bool (decide (l1 = l2))) ∧ ∃ m, w' = w.drewN m := by
  obtain ⟨a1, c1, rfl, q1⟩ := h1
  obtain ⟨a2, c2, rfl, q2⟩ := h2
  by_cases hle : l1.length = l2.length
  · have H1 := Lib.hid q1
    have H2 := Lib.hid q2
    have hne : ((l1.length : Int) != (l2.length : Int)) = false := by rw [hle]; simp
    have HD : Hid ((∀ t, t < l1.length → l1.getD t 0 = l2.getD t 0) → decide (l1 = l2) = true) := Lib.hid (fun h => decide_eq_true (take_eq hle h))
    have HN : Hid (∀ t, l1.getD t 0 ≠ l2.getD t 0 → decide (l1 = l2) = false) := Lib.hid (fun t ht => decide_eq_false (fun e => ht (by rw [e])))
    have hle2 := hle
    clear q1 q2 hle
    generalize decide (l1 = l2) = dd at *
    go_enter Try.func12, Try.ntmps12
    go_wp2_with fail
    go_loopw [5] (fun i wr => ∃ k : Nat, k ≤ l1.length ∧ i = .int .i64 k ∧ (∃ m, wr = w.drewN m) ∧ Hid (∀ t, t < k → l1.getD t 0 = l2.getD t 0)) (fun i _ => l1.length - (intOf i).toNat)
    case atStart => exact ⟨0, Nat.zero_le _, rfl, ⟨0, rfl⟩, Lib.hid (fun t ht => by omega)⟩
    case round =>
      obtain ⟨k, hk, rfl, ⟨dm, hdm⟩, HK⟩ := hrel
      have hb : Below w.heap.size w wr := by rw [hdm]; exact below_drewN (Below.refl _ _) dm
      by_cases hlt : k < l1.length
      · have hlti : (k : Int) < (l1.length : Int) := by omega
        have hlti2 : (k : Int) < (l2.length : Int) := by omega
        obtain ⟨g1, o1, rfl, hg1, hc1⟩ := H1.out (by omega)
        obtain ⟨g2, o2, rfl, hg2, hc2⟩ := H2.out (by omega)
        have k1 := hc1 k hlt
        have k2 := hc2 k (by omega)
        rw [← hb.cell (p := ⟨g1, o1 + k, none⟩) hg1] at k1
        rw [← hb.cell (p := ⟨g2, o2 + k, none⟩) hg2] at k2
        have HBd : Hid (∃ m, wr.drew = w.drewN m) := Lib.hid ⟨dm + 1, by rw [hdm]; exact drewN_succ w dm⟩
        have HNk := Lib.hid (HN.out k)
        have HKk : Hid (l1.getD k 0 = l2.getD k 0 → ∀ t, t < k + 1 → l1.getD t 0 = l2.getD t 0) := Lib.hid (fun e t ht => by
          by_cases et : t = k
          · rw [et]; exact e
          · exact HK.out t (by omega))
        clear hc1 hc2 hb hdm
        generalize l1.getD k 0 = x at *
        generalize l2.getD k 0 = y at *
        by_cases hxy : x = y
        · have hq : (x != y) = false := by simpa using hxy
          have HKy := Lib.hid (HKk.out hxy)
          clear hxy HNk HKk
          go_upto_region 6 with fail
          go_region
          go_wp2_with fail
          go_roundw
          case rel => exact ⟨k + 1, by omega, by go_num, HBd.out, HKy⟩
          case measure => simp [intOf]; omega
        · have hq : (x != y) = true := by simpa using hxy
          have HF : Hid (dd = false) := Lib.hid (HNk.out hxy)
          clear hxy HNk HKk
          go_upto_region 6 with fail
          go_region
          go_wp2_with fail
          go_ret
          exact ⟨ret_bool HF.out.symm, HBd.out⟩
      · obtain rfl : k = l1.length := by omega
        have HF : Hid (dd = true) := Lib.hid (HD.out HK.out)
        have HB : Hid (∃ m, wr = w.drewN m) := Lib.hid ⟨dm, hdm⟩
        clear hb hdm
        go_wp2_with fail
        go_ret
        exact ⟨ret_bool HF.out.symm, HB.out⟩
  · have hne : ((l1.length : Int) != (l2.length : Int)) = true := by simp; omega
    have HF : Hid (decide (l1 = l2) = false) := Lib.hid (decide_eq_false (fun e => hle (by rw [e])))
    clear q1 q2 hle
    generalize decide (l1 = l2) = dd at *
    go_enter Try.func12, Try.ntmps12
    go_wp2_with fail
    go_ret
    exact ⟨ret_bool HF.out.symm, 0, rfl⟩
end Go.Proofs.Ytiphbnmnoofpkaa
