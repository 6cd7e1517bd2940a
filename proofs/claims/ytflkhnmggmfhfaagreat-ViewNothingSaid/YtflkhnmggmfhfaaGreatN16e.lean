/- A script in memory; act. -/
import Derived.Test.YtflkhnmggmfhfaaGreatQ16y
import Derived.Deep.MidRow
namespace Go.Proofs.YtflkhnmggmfhfaaGreat
open Go.RowKit

/-- A step, as it lies in memory, and what lies behind its lists. -/
structure ST where
  kind : Int
  on : Int
  ev : EV
  own : Bool
  wh : Int
  rc : Int
  sv : Value
  uid : Bool
  n : Int
  us : List Int
  ms : List ME
  st : List Rg
def stL (s : ST) : List Value := .int .i64 s.kind :: .int .i64 s.on :: ((evA s.ev).toList ++ [.bool s.own, .int .i64 s.wh, .int .i64 s.rc, s.sv, .bool s.uid, .int .i64 s.n])
def EV0 : EV := ⟨0, 0, 0, 0, 0, ⟨#[]⟩, .slice none 0 0, .slice none 0 0, .slice none 0 0, .slice none 0 0, 0, 0, 0, 0, 0, 0, 0, ⟨#[]⟩⟩
def ST0 : ST := ⟨0, 0, EV0, false, 0, 0, .slice none 0 0, false, 0, [], [], []⟩
/-- What is behind a step's lists, in the world that came in. -/
structure StOK (w : World) (s : ST) : Prop where
  ev : Nms w s.ev.vu s.us
  mks : MksAt w s.ev.vm s.ms
  st : Rgs w s.sv s.st
  low : -9223372036854775808 ≤ s.ev.fi
  high : s.ev.fi ≤ 9223372036854775807
  one : ∀ u ∈ stL s, u.oneCell' = true
  ub : 0 < s.us.length → ∀ b, s.ev.vu.ownBlock = some b → b < w.heap.size
  mb : (0 < s.ms.length → ∀ b, s.ev.vm.ownBlock = some b → b < w.heap.size) ∧ ∀ m ∈ s.ms, m.fl ≠ [] → ∀ b, m.fv.ownBlock = some b → b < w.heap.size
theorem rgs_on {w w' : World} {v : Value} {l : List Rg} (h : Rgs w v l) (hb : Below w.heap.size w w') : Rgs w' v l := h.on hb
theorem StOK.on {w w' : World} {s : ST} (h : StOK w s) (hb : Below w.heap.size w w') : StOK w' s :=
  ⟨h.ev.on hb, h.mks.on hb, h.st.on hb, h.low, h.high, h.one, fun h0 b e => Nat.lt_of_lt_of_le (h.ub h0 b e) hb.size, fun h0 b e => Nat.lt_of_lt_of_le (h.mb.1 h0 b e) hb.size, fun m hm hne b e => Nat.lt_of_lt_of_le (h.mb.2 m hm hne b e) hb.size⟩
/-- A script. -/
structure StepsAt (w : World) (v : Value) (S : List ST) : Prop where
  row : ∃ a c, v = .slice a S.length c ∧ (0 < S.length → ∃ g off, a = some ⟨g, off, none⟩ ∧ g < w.heap.size ∧ ∀ i, i < S.length → ∀ j u, (stL (S.getD i ST0))[j]? = some u → w.cell? ⟨g, off + i * 26 + j, none⟩ = some u)
  ok : ∀ s ∈ S, StOK w s
/-- Its lists are short enough for what is played. -/
structure StShort (s : ST) : Prop where
  us : s.us.length ≤ 300
  ms : s.ms.length ≤ 300
  st : s.st.length ≤ 300
def evP (s : ST) : PEv := plE s.ev s.us s.ms
/-- What a step makes of a view; what it tells. -/
def actV (V : PV) (s : ST) : PV := if s.kind = 1 then hearP V (evP s) s.own else if s.kind = 2 then takeV V s.wh s.rc else V
def actT (V : PV) (s : ST) : List Td := if s.kind = 2 then takeT V s.wh s.rc else []
theorem actV_ok {V : PV} {N : Nat} (h : PVok V N) (s : ST) (hs : StShort s) : PVok (actV V s) (N + 301) := by
  unfold actV
  split
  · refine (hearP_ok h (evP s) s.own).mono ?_
    have := hs.us
    show N + (1 + s.us.length) ≤ _
    omega
  · split
    · exact (takeV_ok h _ _).mono (by omega)
    · exact h.mono (by omega)
theorem actV_val (V : PV) (s : ST) : (actV V s).val = V.val := by
  unfold actV
  split
  · exact hearP_val _ _ _
  · split
    · exact takeV_val _ _ _
    · rfl
theorem StepsAt.on {w w' : World} {v : Value} {S : List ST} (h : StepsAt w v S) (hb : Below w.heap.size w w') : StepsAt w' v S := by
  obtain ⟨⟨a, c, rfl, h1⟩, h2⟩ := h
  refine ⟨⟨a, c, rfl, fun hl => ?_⟩, fun s hs => (h2 s hs).on hb⟩
  obtain ⟨g, off, rfl, hg, hc⟩ := h1 hl
  refine ⟨g, off, rfl, Nat.lt_of_lt_of_le hg hb.size, fun i hi j u hj => ?_⟩
  rw [hb.cell (p := ⟨g, off + i * 26 + j, none⟩) hg]
  exact hc i hi j u hj
theorem getD_memS {S : List ST} {k : Nat} (h : k < S.length) : S.getD k ST0 ∈ S := by
  rw [List.getD_eq_getElem?_getD, List.getElem?_eq_getElem h]
  exact List.getElem_mem h
theorem getD_memM {S : List ME} {k : Nat} (x : ME) (h : k < S.length) : S.getD k x ∈ S := by
  rw [List.getD_eq_getElem?_getD, List.getElem?_eq_getElem h]
  exact List.getElem_mem h
theorem stL_evs {w : World} {g o : Nat} {s : ST} (h : ∀ j u, (stL s)[j]? = some u → w.cell? ⟨g, o + j, none⟩ = some u) : w.rangeAt g (o + 2) (evA s.ev).toList := by
  intro j u hj
  have hl : j < (evA s.ev).toList.length := (List.getElem?_eq_some_iff.1 hj).1
  rw [Nat.add_assoc]
  refine h (2 + j) u ?_
  unfold stL
  rw [show 2 + j = j + 1 + 1 by omega, List.getElem?_cons_succ, List.getElem?_cons_succ, List.getElem?_append_left hl]
  exact hj
theorem stL_ev {s : ST} {u : Value} (h : u ∈ (evA s.ev).toList) : u ∈ stL s := List.mem_cons_of_mem _ (List.mem_cons_of_mem _ (List.mem_append_left _ h))
theorem stL_at {X : World} {b : Nat} {s : ST} {t : TypeId} (h : X.heap[b]? = some (.cells (stL s).toArray t (0, 0))) :
    X.cell? ⟨b, 0, none⟩ = some (.int .i64 s.kind) ∧ X.cell? ⟨b, 20, none⟩ = some (.bool s.own) ∧ X.cell? ⟨b, 21, none⟩ = some (.int .i64 s.wh) ∧ X.cell? ⟨b, 22, none⟩ = some (.int .i64 s.rc) ∧ X.cell? ⟨b, 23, none⟩ = some s.sv ∧ X.cell? ⟨b, 24, none⟩ = some (.bool s.uid) ∧ X.rangeAt b 2 (evA s.ev).toList := by
  refine ⟨cell_of h 0, cell_of h 20, cell_of h 21, cell_of h 22, cell_of h 23, cell_of h 24, ?_⟩
  intro j u hj
  have hl : j < (evA s.ev).toList.length := (List.getElem?_eq_some_iff.1 hj).1
  rw [cell_of h]
  have e : (stL s)[2 + j]? = (evA s.ev).toList[j]? := by
    unfold stL
    rw [show 2 + j = j + 1 + 1 by omega, List.getElem?_cons_succ, List.getElem?_cons_succ, List.getElem?_append_left hl]
  simpa [e] using hj
end Go.Proofs.YtflkhnmggmfhfaaGreat

/- long. -/
namespace Go.Proofs.YtflkhnmggmfhfaaGreat
open Go.RowKit

theorem Tryz.sizeEvB (e : EV) : (Tryz.prog.info? 45).map (·.size) = some (evA e).size := by kernel_rfl
theorem Tryz.sizeEvR (e : EV) : (Tryz.prog.info? 45).map (·.size) = some (evA e).toList.length := by kernel_rfl
theorem box_below {w Y : World} {c d : Array Value} {t : TypeId} (h : (w.alloc (.cells c t)).setRow w.heap.size d = Y) : Below w.heap.size w Y ∧ Y.heap[w.heap.size]? = some (.cells d t (0, 0)) := by
  subst h
  exact ⟨⟨rfl, rfl, rfl, by simp, fun b hb => by rw [setRow_other _ _ _ _ (by omega)]; exact Below.heap_alloc _ _ _ hb⟩, setRow_heap _ _ _ _ _ _ (heap_new w _)⟩
/-- What long answers. -/
def LongOut (ml : List MLE) (S : List ST) (w : World) (e : Ending) (w' : World) : Prop := ∃ b, e = .returned (.bool b) ∧ Below w.heap.size w w' ∧ (b = false → ml.length ≤ 300 ∧ S.length ≤ 120 ∧ ∀ s ∈ S, StShort s)
set_option maxHeartbeats 2000000 in
set_option maxRecDepth 20000 in
theorem long_any (mv sv : Value) (ml : List MLE) (S : List ST) (w : World) (hm : MailsAt w mv ml) (hs : StepsAt w sv S) :
    Calls Tryz.prog 5 #[mv, sv] w (LongOut ml S w) := by
  obtain ⟨am, cm, rfl, _⟩ := hm
  have HS := Lib.hid hs
  obtain ⟨⟨ax, cx, rfl, _⟩, _⟩ := hs
  by_cases hml : ml.length ≤ 300
  · by_cases hsl : S.length ≤ 120
    · have q1 : ¬ (300 : Int) < (ml.length : Int) := by omega
      have q2 : ¬ (120 : Int) < (S.length : Int) := by omega
      go_enter Tryz.func5, Tryz.ntmps5
      go_wp2_with fail
      go_loopw [5, 6] (fun n i wr => ∃ (z : Int) (k : Nat), k ≤ S.length ∧ n = .int .i64 z ∧ i = .int .i64 k ∧ Below w.heap.size w wr ∧ Hid (∀ t, t < k → StShort (S.getD t ST0))) (fun _ i _ => S.length - (intOf i).toNat)
      case atStart => exact ⟨0, 0, Nat.zero_le _, rfl, rfl, Below.refl _ _, Lib.hid (fun t ht => by omega)⟩
      case round =>
        obtain ⟨z, k, hk, rfl, rfl, hb, HK⟩ := hrel
        by_cases hlt : k < S.length
        · have hlti : (k : Int) < (S.length : Int) := by omega
          obtain ⟨⟨a1, c1, e1, hx1⟩, hok⟩ := HS.out.on hb
          obtain ⟨rfl, rfl⟩ : a1 = ax ∧ c1 = cx := by injection e1 with p1 p2 p3; exact ⟨p1.symm, p3.symm⟩
          clear e1
          obtain ⟨g, off, rfl, hg, hc⟩ := hx1 (by omega)
          have hcr := hc k hlt
          have hse := getD_memS hlt
          have hss := hok _ hse
          obtain ⟨sx, hsx⟩ : ∃ sx, S.getD k ST0 = sx := ⟨_, rfl⟩
          rw [hsx] at hcr hss
          have HCr := Lib.hid (stL_evs hcr)
          have m23 : wr.cell? ⟨g, off + k * 26 + 23, none⟩ = some sx.sv := hcr 23 _ rfl
          obtain ⟨Y, hY⟩ : ∃ Y, (wr.alloc (.cells #[.int .i64 0, .int .i64 0, .int .i64 0, .int .i64 0, .int .i64 0, .string ⟨#[]⟩, .slice none 0 0, .slice none 0 0, .slice none 0 0, .slice none 0 0, .int .i64 0, .int .i64 0, .int .i64 0, .int .i64 0, .int .i64 0, .int .i64 0, .int .i64 0, .string ⟨#[]⟩] 45)).setRow wr.heap.size (evA sx.ev) = Y := ⟨_, rfl⟩
          obtain ⟨hbY, hYn⟩ := box_below hY
          have HOne : Hid ((evA sx.ev).all (·.oneCell') = true) := Lib.hid (Array.all_eq_true_iff_forall_mem.2 (fun v hv => hss.one v (stL_ev (by simpa using hv))))
          obtain ⟨ua, uc, euv, _⟩ := hss.ev
          obtain ⟨⟨ma, mc, emv, hmr⟩, hfl⟩ := (hss.mks).on hbY
          obtain ⟨ra, rc, erv⟩ : ∃ a c, sx.sv = .slice a sx.st.length c := by
            rcases hss.st with ⟨e1, a, c, e2, _⟩ | ⟨b, o, c, e2, _⟩
            · exact ⟨a, c, by rw [e2, e1]; rfl⟩
            · exact ⟨_, c, e2⟩
          have e8 : Y.cell? ⟨wr.heap.size, 8, none⟩ = some sx.ev.vu := by unfold evA at hYn; exact cell_of hYn 8
          have e9 : Y.cell? ⟨wr.heap.size, 9, none⟩ = some sx.ev.vm := by unfold evA at hYn; exact cell_of hYn 9
          have m23Y : Y.cell? ⟨g, off + k * 26 + 23, none⟩ = some sx.sv := by rw [hbY.cell (p := ⟨g, off + k * 26 + 23, none⟩) hg]; exact m23
          rw [euv] at e8
          rw [emv] at e9
          rw [erv] at m23Y
          have HBY := Lib.hid (hb.trans (hbY.mono hb.size))
          have HMr := Lib.hid hmr
          have HKs : Hid (StShort sx → ∀ t, t < k + 1 → StShort (S.getD t ST0)) := Lib.hid (fun h t ht => by
            by_cases et : t = k
            · rw [et, hsx]; exact h
            · exact HK.out t (by omega))
          clear hok hse hss hcr hc hx1 m23 hYn hbY hb hmr hfl euv emv erv hsx
          have HY := Lib.hid hY
          clear hY
          go_upto_region 8 with (first | (refine wpList_load_mid rfl 45 _ rfl g (off + k * 26 + 2) rfl _ _ HCr.out Tryz.underlying45 rfl (Tryz.sizeEvR sx.ev) ?_) | (refine wpList_store_row rfl 45 _ _ rfl wr.heap.size (evA sx.ev) rfl rfl 45 _ (heap_new _ _) (Tryz.sizeEvB sx.ev) rfl HOne.out ?_))
          (try rw [HY.out])
          clear HY HCr HOne
          by_cases hu : sx.us.length ≤ 300
          · have qu : ¬ (300 : Int) < (sx.us.length : Int) := by omega
            by_cases hmm : sx.ms.length ≤ 300
            · have qm : ¬ (300 : Int) < (sx.ms.length : Int) := by omega
              by_cases ht : sx.st.length ≤ 300
              · have qt : ¬ (300 : Int) < (sx.st.length : Int) := by omega
                go_wp2_with fail
                go_loopw [5, 8] (fun n i wq => ∃ (z : Int) (j : Nat), j ≤ sx.ms.length ∧ n = .int .i64 z ∧ i = .int .i64 j ∧ wq = Y) (fun _ i _ => sx.ms.length - (intOf i).toNat)
                case atStart => exact ⟨z, 0, Nat.zero_le _, rfl, rfl, rfl⟩
                case round =>
                  obtain ⟨z2, j, hj, rfl, rfl, rfl⟩ := hrel
                  by_cases hjt : j < sx.ms.length
                  · have hjti : (j : Int) < (sx.ms.length : Int) := by omega
                    obtain ⟨g2, o2, rfl, hg2, hc2⟩ := HMr.out (by omega)
                    have f1 := (hc2 j hjt).2
                    unfold ME.fv at f1
                    clear hc2
                    go_wp2_with fail
                    go_roundw
                    case rel => exact ⟨_, j + 1, by omega, rfl, by go_num, (by first | rfl | trivial)⟩
                    case measure => simp [intOf]; omega
                  · obtain rfl : j = sx.ms.length := by omega
                    have HBK := Lib.hid (HKs.out ⟨hu, hmm, ht⟩)
                    by_cases hz : 6000 < z2
                    · go_wp2_with fail
                      go_ret
                      exact ⟨true, rfl, HBY.out, fun h => by cases h⟩
                    · go_wp2_with fail
                      go_roundw
                      case rel => exact ⟨_, k + 1, by omega, rfl, by go_num, HBY.out, HBK⟩
                      case measure => simp [intOf]; omega
              · have qt : (300 : Int) < (sx.st.length : Int) := by omega
                go_wp2_with fail
                go_ret
                exact ⟨true, rfl, HBY.out, fun h => by cases h⟩
            · have qm : (300 : Int) < (sx.ms.length : Int) := by omega
              go_wp2_with fail
              go_ret
              exact ⟨true, rfl, HBY.out, fun h => by cases h⟩
          · have qu : (300 : Int) < (sx.us.length : Int) := by omega
            go_wp2_with fail
            go_ret
            exact ⟨true, rfl, HBY.out, fun h => by cases h⟩
        · obtain rfl : k = S.length := by omega
          have HB := Lib.hid hb
          clear hb
          go_wp2_with fail
          go_ret
          refine ⟨false, rfl, HB.out, fun _ => ⟨hml, hsl, fun s hs => ?_⟩⟩
          obtain ⟨i, hi, rfl⟩ := List.mem_iff_getElem.1 hs
          have := HK.out i hi
          rw [List.getD_eq_getElem?_getD, List.getElem?_eq_getElem hi] at this
          exact this
    · have q1 : ¬ (300 : Int) < (ml.length : Int) := by omega
      have q2 : (120 : Int) < (S.length : Int) := by omega
      go_enter Tryz.func5, Tryz.ntmps5
      go_wp2_with fail
      go_ret
      exact ⟨true, rfl, Below.refl _ _, fun h => by cases h⟩
  · have q1 : (300 : Int) < (ml.length : Int) := by omega
    go_enter Tryz.func5, Tryz.ntmps5
    go_wp2_with fail
    go_ret
    exact ⟨true, rfl, Below.refl _ _, fun h => by cases h⟩
end Go.Proofs.YtflkhnmggmfhfaaGreat

/- act. -/
namespace Go.Proofs.YtflkhnmggmfhfaaGreat
open Go.RowKit

theorem Tryz.sizeEvL (e : EV) : (Tryz.prog.info? 45).map (·.size) = some (evA e).toList.length := by kernel_rfl
end Go.Proofs.YtflkhnmggmfhfaaGreat

/- ViewNumbers: what is plain of it; a list that is copied. -/
namespace Go.Proofs.YtflkhnmggmfhfaaGreat
open Go.RowKit

theorem actV_keep (V : PV) (s : ST) (h : s.kind ≠ 2) : uidsP (actV V s) = uidsP V := by
  unfold actV
  rw [if_neg h]
  split
  · exact hearP_uids _ _ _
  · rfl
theorem takeV_more (V : PV) (wh rc : Int) (h : wh ≠ 2) : ∃ T, uidsP (takeV V wh rc) = uidsP V ++ T := by
  unfold takeV
  split
  · have hg : goneV V wh = V := by unfold goneV; rw [if_neg h]
    refine ⟨V.com, ?_⟩
    rw [hg]
    show uidsP { settleP V rc with rows := (settleP V rc).rows.map calmR } = _
    exact (map_uid calmR_uid _).trans (settle_uids V rc)
  · exact ⟨[], by simp⟩
theorem actV_more (V : PV) (s : ST) (h : s.kind ≠ 2 ∨ s.wh ≠ 2) : ∃ T, uidsP (actV V s) = uidsP V ++ T := by
  by_cases k2 : s.kind = 2
  · have h1 : ¬ s.kind = 1 := by omega
    unfold actV
    rw [if_neg h1, if_pos k2]
    exact takeV_more V _ _ (by rcases h with h | h; exact absurd k2 h; exact h)
  · exact ⟨[], by rw [actV_keep V s k2]; simp⟩
theorem take_more {U T : List Int} : (U ++ T).take U.length = U := by simp
theorem riseP {V : PV} {N : Nat} (h : PVok V N) : riseF 0 (uidsP V) := ((riseF_append _ _ _).1 h.rise).1
theorem getD_mem0 {l : List Int} {k : Nat} (h : k < l.length) : l.getD k 0 ∈ l := by
  rw [List.getD_eq_getElem?_getD, List.getElem?_eq_getElem h]
  exact List.getElem_mem h
theorem uid_pos {V : PV} {N : Nat} (h : PVok V N) {k : Nat} (hk : k < (uidsP V).length) : 1 ≤ (uidsP V).getD k 0 := by
  have := riseF_gt (riseP h) (getD_mem0 hk)
  omega
theorem ixP_at {U : List Int} {m : Int} (h : riseF m U) {k : Nat} (hk : k < U.length) : ixP U (U.getD k 0) = k :=
  ixP_eq U _ k (by omega) (fun t ht => riseF_getD h t k ht hk) (fun t h1 h2 => by
    by_cases e : k = t
    · rw [e]; exact Int.le_refl _
    · have := riseF_getD h k t (by omega) h2; omega)
theorem seq_at {U : List Int} {m : Int} (h : riseF m U) {k : Nat} (hk : k < U.length) : seqI U (U.getD k 0) = (k : Int) + 1 ∧ seqE U (U.getD k 0) = 0 := by
  have hh : hitP U (U.getD k 0) = true := (hitP_iff h).2 (getD_mem0 hk)
  unfold seqI seqE
  rw [if_pos hh, if_pos hh, ixP_at h hk]
  exact ⟨rfl, rfl⟩
theorem folN_pick (k : Nat) : ∀ n, (folN 1 n).filter (fun m => decide ((k : Int) + 1 ≤ m) && decide (m ≤ (k : Int) + 1)) = if k < n then [(k : Int) + 1] else []
  | 0 => by simp [folN]
  | n + 1 => by
    rw [folN_succ, List.filter_append, folN_pick k n]
    by_cases h1 : k < n
    · rw [if_pos h1, if_pos (by omega), List.filter_cons_of_neg (by simp; omega)]
      rfl
    · rw [if_neg h1]
      by_cases h2 : k = n
      · subst h2
        rw [if_pos (by omega), List.filter_cons_of_pos (by simp; omega), List.filter_nil]
        show [(1 : Int) + (k : Int)] = _
        rw [Int.add_comm]
      · rw [if_neg (by omega), List.filter_cons_of_neg (by simp; omega)]
        rfl
theorem numL_one {n k : Nat} (hn : n ≤ 1000000) (hk : k < n) : numL n [((k : Int) + 1, (k : Int) + 1)] = [(k : Int) + 1] := by
  unfold numL ofL
  rw [fol_one n hn]
  have hl : lastI (folN 1 n) = (n : Int) := by
    obtain ⟨m, rfl⟩ : ∃ m, n = m + 1 := ⟨n - 1, by omega⟩
    unfold lastI
    rw [folN_length, folN_succ, List.getD_eq_getElem?_getD, List.getElem?_append_right (by rw [folN_length]; omega), folN_length]
    simp
    omega
  rw [hl, ← show (if k < n then [(k : Int) + 1] else []) = [(k : Int) + 1] from if_pos hk, ← folN_pick k n]
  congr 1
  funext m
  have e1 : starI ((k : Int) + 1) (n : Int) = (k : Int) + 1 := by unfold starI; rw [if_neg (by omega)]
  have e2 : pieceB ((k : Int) + 1, (k : Int) + 1) = true := by unfold pieceB endB; simp; omega
  unfold hasB setl inB
  simp only [List.any_cons, List.any_nil, Bool.or_false, e1, e2, Int.min_self, Int.max_self, Bool.true_and]
  rw [decide_eq_true (show (1 : Int) ≤ (n : Int) by omega), Bool.true_and]
theorem find_one {V : PV} {k : Nat} (hk : k < V.rows.length) (hN : V.rows.length ≤ 1000000) : findL V [((k : Int) + 1, (k : Int) + 1)] false = [(uidsP V).getD k 0] ∧ findE V [((k : Int) + 1, (k : Int) + 1)] false = 0 := by
  have hb : badF V [((k : Int) + 1, (k : Int) + 1)] = false := by
    unfold badF takesB
    simp only [List.any_cons, List.any_nil, Bool.or_false, Int.min_self, Int.max_self]
    rw [if_neg (by omega), if_neg (by omega), decide_eq_true (by omega)]
    rfl
  unfold findL findE
  simp only [Bool.false_eq_true, if_false, hb]
  refine ⟨?_, trivial⟩
  rw [numL_one hN hk]
  show [(V.rows.getD ((k : Int) + 1 - 1).toNat ⟨0, false, false, none⟩).uid] = _
  rw [show ((k : Int) + 1 - 1).toNat = k by omega]
  unfold uidsP
  rw [List.getD_eq_getElem?_getD, List.getD_eq_getElem?_getD, List.getElem?_map, List.getElem?_eq_getElem hk]
  rfl
/-- append([]int{}, l...) -/
theorem copyI_run {X : World} {B : Nat} {v src : Value} {l : List Int} (hv : X.ownsRow B 3 1 v 0 []) (hs : Nms X src l) (hl : l.length ≤ 1000000) (hB : B ≤ X.heap.size) (hn : ∀ a c, src = .slice a l.length c → a = none → c = 0) :
    ∃ a c w', (Builtin.append_ #[26, 26] 26 #[v, src]).run Tryz.prog X = .ok (.slice a l.length c) w' ∧ w'.ownsRow B 3 1 (.slice a l.length c) l.length (ic l) ∧ X.grownBy w' v.ownBlock := by
  obtain ⟨i0, hi0, hz0, hz1, hz2⟩ := info_parts' Tryz.infoInt
  obtain ⟨ax, cs, rfl, hc⟩ := hs
  cases has : ax with
  | none =>
    have h0 : l = [] := by
      by_cases h : 0 < l.length
      · obtain ⟨g, off, e, _⟩ := hc h
        rw [has] at e
        cases e
      · exact List.eq_nil_of_length_eq_zero (by omega)
    subst h0
    have hc0 := hn ax cs rfl has
    subst hc0
    have hr := run_append_owned_none (P := Tryz.prog) X B 26 26 3 i0 1 Tryz.underlying26 hi0 v 0 [] hv
    obtain ⟨a, c, rfl⟩ := ownsRow_shape hv
    exact ⟨a, c, X, hr, hv, World.grownBy.refl _ _⟩
  | some ad =>
    obtain ⟨v', W3, hrun, hrow, hgr, _, hat⟩ := run_append_own_at (P := Tryz.prog) X B 26 26 3 i0 (.int .i64 0) 1 8 Tryz.underlying26 hi0 hz0 hz1 hz2 rfl (by decide) v 0 [] hv ad l.length cs (ic l) (by rw [ic_length]; omega) (by
      intro j u hj
      have hjl : j < l.length := by have := (List.getElem?_eq_some_iff.1 hj).1; rw [ic_length] at this; exact this
      obtain ⟨g, off, e, hb, hc⟩ := hc (by omega)
      rw [has] at e
      cases e
      rw [ic_at l j hjl] at hj
      rw [Addr.add_lit, hc j hjl]
      exact hj) (ic_one _) (by unfold maxLen; omega) (by omega) hB
    rw [Nat.zero_add, List.nil_append] at hrow
    obtain ⟨a, c, rfl⟩ := ownsRow_shape hrow
    exact ⟨a, c, W3, hrun, hrow, hgr⟩
end Go.Proofs.YtflkhnmggmfhfaaGreat

/- A step of a walk: what is copied, what is loaded, what is done. -/
namespace Go.Proofs.YtflkhnmggmfhfaaGreat
open Go.RowKit

def stZ : Array Value := #[.int .i64 0, .int .i64 0, .int .i64 0, .int .i64 0, .int .i64 0, .int .i64 0, .int .i64 0, .string ⟨#[]⟩, .slice none 0 0, .slice none 0 0, .slice none 0 0, .slice none 0 0, .int .i64 0, .int .i64 0, .int .i64 0, .int .i64 0, .int .i64 0, .int .i64 0, .int .i64 0, .string ⟨#[]⟩, .bool false, .int .i64 0, .int .i64 0, .slice none 0 0, .bool false, .int .i64 0]
theorem Tryz.sizeSt (s : ST) : (Tryz.prog.info? 47).map (·.size) = some (stL s).length := by kernel_rfl
theorem Tryz.sizeStA (s : ST) : (Tryz.prog.info? 47).map (·.size) = some (stL s).toArray.size := by kernel_rfl
theorem Tryz.sizeBx (b : BX) : (Tryz.prog.info? 54).map (·.size) = some (bxA b).size := by kernel_rfl
theorem Tryz.emptyI (w : World) : (Instr.buildSlice 26 0 #[]).run Tryz.prog w = .ok (.slice (some ⟨w.heap.size, 0, none⟩) 0 0) (w.alloc (.cells #[] 3)) := by kernel_rfl
theorem WK.ofNew {W w2 w3 : World} {P : Nat} {V : PV} {fp : List Nat} (hb : Below W.heap.size W w2) (h1 : VW P V fp w3) (h2 : Below w2.heap.size w2 w3) (h3 : ∀ c ∈ fp, w2.heap.size ≤ c) : WK W P V w3 :=
  ⟨fp, h1, hb.trans (h2.mono hb.size), fun b hb' => Nat.le_trans hb.size (h3 b hb')⟩
/-- Uids, and their copy. -/
theorem uids_copy {W X : World} {P : Nat} {V : PV} {N : Nat} (h : WK W P V X) (hk : PVok V N) (hN : N ≤ 1000000) :
    Calls Tryz.prog 7 #[.pointer (some ⟨P, 0, none⟩)] (X.alloc (.cells #[] 3)) fun e w' => ∃ a c a3 c3 W3, e = .returned (.slice a (uidsP V).length c) ∧ (Builtin.append_ #[26, 26] 26 #[.slice (some ⟨X.heap.size, 0, none⟩) 0 0, .slice a (uidsP V).length c]).run Tryz.prog w' = .ok (.slice a3 (uidsP V).length c3) W3 ∧ WKL W P V (.slice a3 (uidsP V).length c3) (uidsP V) W3 := by
  have hb1 : Below X.heap.size X (X.alloc (.cells #[] 3)) := (Below.refl _ _).alloc (Nat.le_refl _) _
  have hn1 : (X.alloc (.cells #[] 3)).heap[X.heap.size]? = some (.cells #[] 3 (0, 0)) := heap_new _ _
  have h1 := h.on hb1
  obtain ⟨fp, v1, v2, v3⟩ := h1
  refine (Uids_W v1 hk hN).mono ?_
  rintro e w' ⟨v', rfl, ho⟩
  obtain ⟨a, c, rfl⟩ := ownsRow_shape ho.row
  have hlen : (uidsP V).length ≤ 1000000 := by
    have := hk.len
    rw [uidsP_length]
    omega
  have hnw : w'.heap[X.heap.size]? = some (.cells #[] 3 (0, 0)) := by rw [ho.below.block _ (lt_of_heap hn1)]; exact hn1
  have hrow : w'.ownsRow X.heap.size 3 1 (.slice (some ⟨X.heap.size, 0, none⟩) 0 0) 0 [] :=
    ⟨rfl, .inr ⟨X.heap.size, 0, #[], rfl, Nat.le_refl _, hnw, Nat.le_refl _, by unfold maxLen; omega, rfl, rfl⟩⟩
  have hB : X.heap.size ≤ w'.heap.size := Nat.le_of_lt (lt_of_heap hnw)
  obtain ⟨a3, c3, W3, hr, hw3, hg⟩ := copyI_run hrow (nms_of ho.row) hlen hB (fun a' c' e1 e2 => by
    injection e1 with p1 p2 p3
    rcases ho.row.2 with ⟨e3, _⟩ | ⟨g, cap, cur, e3, _⟩
    · injection e3 with q1 q2 q3
      omega
    · injection e3 with q1 q2 q3
      rw [p1, e2] at q1
      cases q1)
  have hb3 : Below X.heap.size w' W3 := ⟨hg.os, hg.tape, hg.output, hg.size, fun b hb => hg.block b (by omega) (by simp [Value.ownBlock]; omega)⟩
  have hbX : Below X.heap.size X W3 := (hb1.trans (ho.below.mono hb1.size)).trans hb3
  obtain ⟨fp0, x1, x2, x3⟩ := h
  refine ⟨a, c, a3, c3, W3, rfl, hr, fp0, x1.on hbX, x2.trans (hbX.mono x2.size), x3, nms_of hw3, fun b hb hm => ?_⟩
  have y1 := x1.lt hm
  rcases hw3.2 with ⟨e3, _⟩ | ⟨g, cap, cur, e3, hgB, _⟩
  · injection e3 with q1 q2 q3
    subst q1
    cases hb
  · injection e3 with q1 q2 q3
    subst q1
    simp [Value.ownBlock] at hb
    omega
/-- Behind act: the view, the copy, the step. -/
structure AC (W : World) (P : Nat) (V : PV) (was : Value) (U : List Int) (xb : Nat) (s : ST) (X : World) : Prop where
  view : WK W P V X
  list : Nms X was U
  step : X.heap[xb]? = some (.cells (stL s).toArray 47 (0, 0))
theorem AC.on {W X Y : World} {P : Nat} {V : PV} {was : Value} {U : List Int} {xb : Nat} {s : ST} (h : AC W P V was U xb s X) (hb : Below X.heap.size X Y) : AC W P V was U xb s Y :=
  ⟨h.view.on hb, h.list.on hb, by rw [hb.block _ (lt_of_heap h.step)]; exact h.step⟩
end Go.Proofs.YtflkhnmggmfhfaaGreat

/- long: flags are few. -/
namespace Go.Proofs.YtflkhnmggmfhfaaGreat
open Go.RowKit

/-- A step's flags are few. -/
def StF (s : ST) : Prop := ∀ m ∈ s.ms, m.fl.length ≤ 6000
def LongOut2 (ml : List MLE) (S : List ST) (w : World) (e : Ending) (w' : World) : Prop := ∃ b, e = .returned (.bool b) ∧ Below w.heap.size w w' ∧ (b = false → ml.length ≤ 300 ∧ S.length ≤ 120 ∧ ∀ s ∈ S, StShort s ∧ StF s)
set_option maxHeartbeats 2000000 in
set_option maxRecDepth 20000 in
theorem long_any2 (mv sv : Value) (ml : List MLE) (S : List ST) (w : World) (hm : MailsAt w mv ml) (hs : StepsAt w sv S) :
    Calls Tryz.prog 5 #[mv, sv] w (LongOut2 ml S w) := by
  obtain ⟨am, cm, rfl, _⟩ := hm
  have HS := Lib.hid hs
  obtain ⟨⟨ax, cx, rfl, _⟩, _⟩ := hs
  by_cases hml : ml.length ≤ 300
  · by_cases hsl : S.length ≤ 120
    · have q1 : ¬ (300 : Int) < (ml.length : Int) := by omega
      have q2 : ¬ (120 : Int) < (S.length : Int) := by omega
      go_enter Tryz.func5, Tryz.ntmps5
      go_wp2_with fail
      go_loopw [5, 6] (fun n i wr => ∃ (z : Int) (k : Nat), k ≤ S.length ∧ n = .int .i64 z ∧ i = .int .i64 k ∧ Below w.heap.size w wr ∧ Hid (∀ t, t < k → StShort (S.getD t ST0) ∧ StF (S.getD t ST0)) ∧ 0 ≤ z ∧ z ≤ 6000) (fun _ i _ => S.length - (intOf i).toNat)
      case atStart => exact ⟨0, 0, Nat.zero_le _, rfl, rfl, Below.refl _ _, Lib.hid (fun t ht => by omega), by omega, by omega⟩
      case round =>
        obtain ⟨z, k, hk, rfl, rfl, hb, HK, hz0, hz6⟩ := hrel
        by_cases hlt : k < S.length
        · have hlti : (k : Int) < (S.length : Int) := by omega
          obtain ⟨⟨a1, c1, e1, hx1⟩, hok⟩ := HS.out.on hb
          obtain ⟨rfl, rfl⟩ : a1 = ax ∧ c1 = cx := by injection e1 with p1 p2 p3; exact ⟨p1.symm, p3.symm⟩
          clear e1
          obtain ⟨g, off, rfl, hg, hc⟩ := hx1 (by omega)
          have hcr := hc k hlt
          have hse := getD_memS hlt
          have hss := hok _ hse
          obtain ⟨sx, hsx⟩ : ∃ sx, S.getD k ST0 = sx := ⟨_, rfl⟩
          rw [hsx] at hcr hss
          have HCr := Lib.hid (stL_evs hcr)
          have m23 : wr.cell? ⟨g, off + k * 26 + 23, none⟩ = some sx.sv := hcr 23 _ rfl
          obtain ⟨Y, hY⟩ : ∃ Y, (wr.alloc (.cells #[.int .i64 0, .int .i64 0, .int .i64 0, .int .i64 0, .int .i64 0, .string ⟨#[]⟩, .slice none 0 0, .slice none 0 0, .slice none 0 0, .slice none 0 0, .int .i64 0, .int .i64 0, .int .i64 0, .int .i64 0, .int .i64 0, .int .i64 0, .int .i64 0, .string ⟨#[]⟩] 45)).setRow wr.heap.size (evA sx.ev) = Y := ⟨_, rfl⟩
          obtain ⟨hbY, hYn⟩ := box_below hY
          have HOne : Hid ((evA sx.ev).all (·.oneCell') = true) := Lib.hid (Array.all_eq_true_iff_forall_mem.2 (fun v hv => hss.one v (stL_ev (by simpa using hv))))
          obtain ⟨ua, uc, euv, _⟩ := hss.ev
          obtain ⟨⟨ma, mc, emv, hmr⟩, hfl⟩ := (hss.mks).on hbY
          obtain ⟨ra, rc, erv⟩ : ∃ a c, sx.sv = .slice a sx.st.length c := by
            rcases hss.st with ⟨e1, a, c, e2, _⟩ | ⟨b, o, c, e2, _⟩
            · exact ⟨a, c, by rw [e2, e1]; rfl⟩
            · exact ⟨_, c, e2⟩
          have e8 : Y.cell? ⟨wr.heap.size, 8, none⟩ = some sx.ev.vu := by unfold evA at hYn; exact cell_of hYn 8
          have e9 : Y.cell? ⟨wr.heap.size, 9, none⟩ = some sx.ev.vm := by unfold evA at hYn; exact cell_of hYn 9
          have m23Y : Y.cell? ⟨g, off + k * 26 + 23, none⟩ = some sx.sv := by rw [hbY.cell (p := ⟨g, off + k * 26 + 23, none⟩) hg]; exact m23
          rw [euv] at e8
          rw [emv] at e9
          rw [erv] at m23Y
          have HBY := Lib.hid (hb.trans (hbY.mono hb.size))
          have HMr := Lib.hid hmr
          have HFl := Lib.hid (fun j (hj : j < sx.ms.length) => (hfl _ (getD_memM (⟨0, none, 0, []⟩ : ME) hj)).len)
          have HKs : Hid (StShort sx ∧ StF sx → ∀ t, t < k + 1 → StShort (S.getD t ST0) ∧ StF (S.getD t ST0)) := Lib.hid (fun h t ht => by
            by_cases et : t = k
            · rw [et, hsx]; exact h
            · exact HK.out t (by omega))
          clear hok hse hss hcr hc hx1 m23 hYn hbY hb hmr hfl euv emv erv hsx
          have HY := Lib.hid hY
          clear hY
          go_upto_region 8 with (first | (refine wpList_load_mid rfl 45 _ rfl g (off + k * 26 + 2) rfl _ _ HCr.out Tryz.underlying45 rfl (Tryz.sizeEvR sx.ev) ?_) | (refine wpList_store_row rfl 45 _ _ rfl wr.heap.size (evA sx.ev) rfl rfl 45 _ (heap_new _ _) (Tryz.sizeEvB sx.ev) rfl HOne.out ?_))
          (try rw [HY.out])
          clear HY HCr HOne
          by_cases hu : sx.us.length ≤ 300
          · have qu : ¬ (300 : Int) < (sx.us.length : Int) := by omega
            by_cases hmm : sx.ms.length ≤ 300
            · have qm : ¬ (300 : Int) < (sx.ms.length : Int) := by omega
              by_cases ht : sx.st.length ≤ 300
              · have qt : ¬ (300 : Int) < (sx.st.length : Int) := by omega
                go_wp2_with fail
                go_loopw [5, 8] (fun n i wq => ∃ (z : Int) (j : Nat), j ≤ sx.ms.length ∧ n = .int .i64 z ∧ i = .int .i64 j ∧ wq = Y ∧ 0 ≤ z ∧ z ≤ 6000 + (j : Int) * 8796093022209 ∧ Hid (∀ t, t < j → ((sx.ms.getD t ⟨0, none, 0, []⟩).fl.length : Int) ≤ z)) (fun _ i _ => sx.ms.length - (intOf i).toNat)
                case atStart => exact ⟨z, 0, Nat.zero_le _, rfl, rfl, rfl, hz0, by omega, Lib.hid (fun t ht => by omega)⟩
                case round =>
                  obtain ⟨z2, j, hj, rfl, rfl, rfl, hy0, hy6, HY⟩ := hrel
                  by_cases hjt : j < sx.ms.length
                  · have hjti : (j : Int) < (sx.ms.length : Int) := by omega
                    obtain ⟨g2, o2, rfl, hg2, hc2⟩ := HMr.out (by omega)
                    have f1 := (hc2 j hjt).2
                    unfold ME.fv at f1
                    clear hc2
                    have hfj := HFl.out j hjt
                    obtain ⟨fz, hfz⟩ : ∃ fz, (sx.ms.getD j ⟨0, none, 0, []⟩).fl.length = fz := ⟨_, rfl⟩
                    rw [hfz] at hfj f1
                    have HFz := Lib.hid hfz
                    have hy1 : (j : Int) * 8796093022209 ≤ 300 * 8796093022209 := by omega
                    have hw1 : IntKind.i64.wrap (z2 + 1) = z2 + 1 := by simp only [IntKind.wrap, IntKind.signed, IntKind.bits]; simp; omega
                    have hw2 : IntKind.i64.wrap (z2 + 1 + (fz : Int)) = z2 + 1 + (fz : Int) := by simp only [IntKind.wrap, IntKind.signed, IntKind.bits]; simp; omega
                    clear hfz
                    generalize (sx.ms.getD j ⟨0, none, 0, []⟩).fa = xfa at *
                    generalize (sx.ms.getD j ⟨0, none, 0, []⟩).fc = xfc at *
                    go_wp2_with fail
                    go_roundw
                    case rel => exact ⟨z2 + 1 + (fz : Int), j + 1, by omega, by first | rfl | (congr 1; omega), by go_num, (by first | rfl | trivial), by omega, by omega, Lib.hid (fun t ht => by
                      by_cases e : t = j
                      · rw [e, HFz.out]; omega
                      · have := HY.out t (by omega); omega)⟩
                    case measure => simp [intOf]; omega
                  · obtain rfl : j = sx.ms.length := by omega
                    by_cases hz : 6000 < z2
                    · go_wp2_with fail
                      go_ret
                      exact ⟨true, rfl, HBY.out, fun h => by cases h⟩
                    · have HBK := Lib.hid (HKs.out ⟨⟨hu, hmm, ht⟩, fun m hm => by
                        obtain ⟨i, hi, rfl⟩ := List.mem_iff_getElem.1 hm
                        have := HY.out i hi
                        rw [List.getD_eq_getElem?_getD, List.getElem?_eq_getElem hi] at this
                        have h2 : ((sx.ms[i]).fl.length : Int) ≤ z2 := this
                        omega⟩)
                      go_wp2_with fail
                      go_roundw
                      case rel => exact ⟨_, k + 1, by omega, rfl, by go_num, HBY.out, HBK, hy0, by omega⟩
                      case measure => simp [intOf]; omega
              · have qt : (300 : Int) < (sx.st.length : Int) := by omega
                go_wp2_with fail
                go_ret
                exact ⟨true, rfl, HBY.out, fun h => by cases h⟩
            · have qm : (300 : Int) < (sx.ms.length : Int) := by omega
              go_wp2_with fail
              go_ret
              exact ⟨true, rfl, HBY.out, fun h => by cases h⟩
          · have qu : (300 : Int) < (sx.us.length : Int) := by omega
            go_wp2_with fail
            go_ret
            exact ⟨true, rfl, HBY.out, fun h => by cases h⟩
        · obtain rfl : k = S.length := by omega
          have HB := Lib.hid hb
          clear hb
          go_wp2_with fail
          go_ret
          refine ⟨false, rfl, HB.out, fun _ => ⟨hml, hsl, fun s hs => ?_⟩⟩
          obtain ⟨i, hi, rfl⟩ := List.mem_iff_getElem.1 hs
          have := HK.out i hi
          rw [List.getD_eq_getElem?_getD, List.getElem?_eq_getElem hi] at this
          exact this
    · have q1 : ¬ (300 : Int) < (ml.length : Int) := by omega
      have q2 : (120 : Int) < (S.length : Int) := by omega
      go_enter Tryz.func5, Tryz.ntmps5
      go_wp2_with fail
      go_ret
      exact ⟨true, rfl, Below.refl _ _, fun h => by cases h⟩
  · have q1 : (300 : Int) < (ml.length : Int) := by omega
    go_enter Tryz.func5, Tryz.ntmps5
    go_wp2_with fail
    go_ret
    exact ⟨true, rfl, Below.refl _ _, fun h => by cases h⟩
end Go.Proofs.YtflkhnmggmfhfaaGreat
