/- Rows of any kind that a call makes; copied; texts that are alike. -/
import Derived.Test.YtflkhnmggmfhfaaGreatR16b
import Derived.Test.YtflkhnmggmfhfaaGreatQ16t
namespace Go.Proofs.YtflkhnmggmfhfaaGreat
open Go.RowKit

/-- A row that the call made, above B. -/
structure OwnE (e : TypeId) (sz B : Nat) (v : Value) (n : Nat) (xs : List Value) (W0 w : World) : Prop where
  row : w.ownsRow 0 e sz v n xs
  below : Below B W0 w
  base : B ≤ w.heap.size
  new : ∀ b, v.ownBlock = some b → B ≤ b
theorem OwnE.nil {e : TypeId} {sz B : Nat} {W0 w : World} (h : Below B W0 w) (hB : B ≤ w.heap.size) : OwnE e sz B (.slice none 0 0) 0 [] W0 w := ⟨World.ownsRow_nil _ _ _ _, h, hB, fun b hb => by cases hb⟩
theorem OwnE.on {e : TypeId} {sz B n : Nat} {v : Value} {xs : List Value} {W0 w w' : World} (h : OwnE e sz B v n xs W0 w) (hb : Below w.heap.size w w') : OwnE e sz B v n xs W0 w' :=
  ⟨ownsRow_same h.row (fun b e => hb.block b (h.row.lt b e).2), h.below.trans (hb.mono h.base), Nat.le_trans h.base hb.size, h.new⟩
/-- Another row of another kind has grown beside it. -/
theorem OwnE.beside {e : TypeId} {sz B n : Nat} {v u : Value} {xs : List Value} {W0 w w' : World} (h : OwnE e sz B v n xs W0 w) (hg : w.grownBy w' u.ownBlock) (hne : ∀ b, v.ownBlock = some b → some b ≠ u.ownBlock) (hu : ∀ b, u.ownBlock = some b → B ≤ b) : OwnE e sz B v n xs W0 w' :=
  ⟨ownsRow_same h.row (fun b e => hg.block b (h.row.lt b e).2 (hne b e)), h.below.trans ⟨hg.os, hg.tape, hg.output, hg.size, fun b hb => hg.block b (by have := h.base; omega) (fun e => by have := hu b e.symm; omega)⟩, Nat.le_trans h.base hg.size, h.new⟩
theorem OwnE.app {P : Program} {B : Nat} {v : Value} {n : Nat} {xs : List Value} {W0 w : World} (t e : TypeId) (z : Value) (size bytes : Nat) (ht : P.underlying t = some (.slice e)) (hi : (P.info? e).map (fun i => (i.zero, i.size, i.bytes)) = some (some z, size, bytes)) (hzs : z.cells.size = size) (hsz : 0 < size)
    (h : OwnE e size B v n xs W0 w) (cs : Array Value) (hcs : cs.size = size) (h1 : ∀ u ∈ cs.toList, u.oneCell' = true) (hl : n + 1 ≤ 4294967296) (hb : bytes ≤ 4096) :
    ∃ a c W1, (Builtin.append_ #[t, t] t #[v, .slice (some ⟨w.heap.size, 0, none⟩) 1 1]).run P (w.alloc (.cells cs e)) = .ok (.slice a (n + 1) c) W1 ∧ OwnE e size B (.slice a (n + 1) c) (n + 1) (xs ++ cs.toList) W0 W1 ∧ w.grownBy W1 v.ownBlock := by
  obtain ⟨a, c, W1, hrun, hrow, hg, hown⟩ := row_app t e z size bytes ht hi hzs hsz h.row cs hcs h1 hl hb
  refine ⟨a, c, W1, hrun, ⟨hrow, h.below.trans ⟨hg.os, hg.tape, hg.output, hg.size, fun b hb => hg.block b (by have := h.base; omega) (fun e => by have := h.new b e.symm; omega)⟩, Nat.le_trans h.base hg.size, fun b hb => ?_⟩, hg⟩
  rcases hown b hb with e | e
  · exact h.new b e
  · exact Nat.le_trans h.base e
/-- A list of texts anywhere. -/
def Txs (w : World) (v : Value) (l : List ByteArray) : Prop :=
  ∃ a c, v = .slice a l.length c ∧ (0 < l.length → ∃ g off, a = some ⟨g, off, none⟩ ∧ g < w.heap.size ∧ ∀ i, i < l.length → w.cell? ⟨g, off + i, none⟩ = some (.string (l.getD i ByteArray.empty)))
theorem txs_of {w : World} {v : Value} {l : List ByteArray} {B : Nat} (h : w.ownsRow B 9 1 v l.length (tcs l)) : Txs w v l := by
  rcases h.2 with ⟨rfl, h0⟩ | ⟨g, cap, cur, rfl, hB, hg, rest⟩
  · exact ⟨none, 0, by rw [h0], fun q => by omega⟩
  · refine ⟨some ⟨g, 0, none⟩, cap, rfl, fun _ => ⟨g, 0, rfl, lt_of_heap hg, fun i hi => ?_⟩⟩
    rw [Nat.zero_add, h.cellAt i (by omega), tcs_at l i hi]
theorem FlAt.txs {w : World} {m : ME} (h : FlAt w m) : Txs w m.fv m.fl := by
  refine ⟨m.fa, m.fc, rfl, fun h0 => ?_⟩
  obtain ⟨b, off, e, hb, hc⟩ := h.cells (fun e => by rw [e] at h0; simp at h0)
  exact ⟨b, off, e, hb, hc⟩
theorem Txs.on {w w' : World} {v : Value} {l : List ByteArray} (h : Txs w v l) (hb : Below w.heap.size w w') : Txs w' v l := by
  obtain ⟨a, c, e, hx⟩ := h
  refine ⟨a, c, e, fun h0 => ?_⟩
  obtain ⟨g, off, e2, hg, hc⟩ := hx h0
  refine ⟨g, off, e2, Nat.lt_of_lt_of_le hg hb.size, fun i hi => ?_⟩
  rw [hb.cell (p := ⟨g, off + i, none⟩) hg]
  exact hc i hi
theorem Txs.len {w : World} {v : Value} {l : List ByteArray} (h : Txs w v l) : ∃ a c, v = .slice a l.length c := by
  obtain ⟨a, c, e, _⟩ := h
  exact ⟨a, c, e⟩
theorem drewN_succ (w : World) (m : Nat) : (w.drewN m).drew = w.drewN (m + 1) := rfl
set_option maxRecDepth 100000 in
set_option maxHeartbeats 1000000 in
theorem words_dr (a b : Value) (l : List ByteArray) (w : World) (h1 : Txs w a l) (h2 : Txs w b l) (hl : l.length ≤ 8796093022208) :
    Calls Tryz.prog 50 #[a, b] w fun e w' => e = .returned (.bool true) ∧ ∃ m, w' = w.drewN m := by
  obtain ⟨a1, c1, rfl, q1⟩ := h1
  obtain ⟨a2, c2, rfl, q2⟩ := h2
  have H1 := Lib.hid q1
  have H2 := Lib.hid q2
  have hne : ((l.length : Int) != (l.length : Int)) = false := by simp
  clear q1 q2
  go_enter Tryz.func50, Tryz.ntmps50
  go_wp2_with fail
  go_loopw [5] (fun i wr => ∃ k : Nat, k ≤ l.length ∧ i = .int .i64 k ∧ (∃ m, wr = w.drewN m)) (fun i _ => l.length - (intOf i).toNat)
  case atStart => exact ⟨0, Nat.zero_le _, rfl, ⟨0, rfl⟩⟩
  case round =>
    obtain ⟨k, hk, rfl, ⟨dm, hdm⟩⟩ := hrel
    have hb : Below w.heap.size w wr := by rw [hdm]; exact below_drewN (Below.refl _ _) dm
    by_cases hlt : k < l.length
    · have hlti : (k : Int) < (l.length : Int) := by omega
      obtain ⟨g1, o1, rfl, hg1, hc1⟩ := H1.out (by omega)
      obtain ⟨g2, o2, rfl, hg2, hc2⟩ := H2.out (by omega)
      have k1 := hc1 k hlt
      have k2 := hc2 k hlt
      rw [← hb.cell (p := ⟨g1, o1 + k, none⟩) hg1] at k1
      rw [← hb.cell (p := ⟨g2, o2 + k, none⟩) hg2] at k2
      have HBd : Hid (∃ m, wr.drew = w.drewN m) := Lib.hid ⟨dm + 1, by rw [hdm]; exact drewN_succ w dm⟩
      clear hc1 hc2 hb hdm
      generalize l.getD k ByteArray.empty = x at *
      have hq : (x.toList == x.toList) = true := by simp
      go_upto_region 6 with fail
      go_region
      go_wp2_with fail
      go_roundw
      case rel => exact ⟨k + 1, by omega, by go_num, HBd.out⟩
      case measure => simp [intOf]; omega
    · obtain rfl : k = l.length := by omega
      have HB : Hid (∃ m, wr = w.drewN m) := Lib.hid ⟨dm, hdm⟩
      clear hb hdm
      go_wp2_with fail
      go_ret
      exact ⟨rfl, HB.out⟩
theorem take_snocT (l : List ByteArray) (k : Nat) (hk : k < l.length) : l.take (k + 1) = l.take k ++ [l.getD k ByteArray.empty] := by
  rw [List.take_succ_eq_append_getElem hk]; simp [hk]
abbrev OwnS (B : Nat) (v : Value) (l : List ByteArray) (W0 w : World) : Prop := OwnE 9 1 B v l.length (tcs l) W0 w
theorem OwnS.app {B : Nat} {v : Value} {l : List ByteArray} {W0 w : World} (h : OwnS B v l W0 w) (x : ByteArray) (hl : l.length + 1 ≤ 4294967296) :
    ∃ a c W1, (Builtin.append_ #[41, 41] 41 #[v, .slice (some ⟨w.heap.size, 0, none⟩) 1 1]).run Tryz.prog (w.alloc (.cells #[.string x] 9)) = .ok (.slice a (l.length + 1) c) W1 ∧ OwnS B (.slice a (l.length + 1) c) (l ++ [x]) W0 W1 := by
  obtain ⟨a, c, W1, hr, ho, _⟩ := OwnE.app (P := Tryz.prog) 41 9 _ 1 16 Tryz.underlying41 Tryz.infoText rfl (by decide) h #[.string x] rfl (by intro y hy; simp at hy; subst hy; rfl) hl (by omega)
  refine ⟨a, c, W1, hr, ?_⟩
  unfold OwnS
  rw [List.length_append, tcs_append]
  exact ho
set_option maxRecDepth 100000 in
set_option maxHeartbeats 1000000 in
theorem rcopied_any (v : Value) (l : List ByteArray) (w : World) (h : Txs w v l) (hl : l.length ≤ 1000000) :
    Calls Tryz.prog 66 #[v] w fun e w' => ∃ a c, e = .returned (.slice a l.length c) ∧ OwnS w.heap.size (.slice a l.length c) l w w' := by
  obtain ⟨a, c, rfl, hx⟩ := h
  have HX := Lib.hid hx
  clear hx
  go_enter Tryz.func66, Tryz.ntmps66
  go_wp2_with fail
  go_loopw [3, 4] (fun lv i wr => ∃ (k : Nat) (lv' : Value) (X : World), X = wr ∧ lv' = lv ∧ k ≤ l.length ∧ i = .int .i64 k ∧ OwnS w.heap.size lv' (l.take k) w X) (fun _ i _ => l.length - (intOf i).toNat)
  case atStart => exact ⟨0, _, _, rfl, rfl, Nat.zero_le _, rfl, OwnE.nil (Below.refl _ _) (Nat.le_refl _)⟩
  case round =>
    obtain ⟨k, lv', X, hX, hlv, hk, rfl, ho⟩ := hrel
    subst hX hlv
    by_cases hlt : k < l.length
    · have hlti : (k : Int) < (l.length : Int) := by omega
      obtain ⟨g, off, rfl, hg, hc⟩ := HX.out (by omega)
      have k1 := hc k hlt
      rw [← ho.below.cell (p := ⟨g, off + k, none⟩) hg] at k1
      have HT : Hid (l.take (k + 1) = l.take k ++ [l.getD k ByteArray.empty]) := Lib.hid (take_snocT _ _ hlt)
      obtain ⟨a4, c4, W4, r4, o4⟩ := ho.app (l.getD k ByteArray.empty) (by rw [List.length_take]; omega)
      have R4 := Lib.hid r4
      have HO4 := Lib.hid o4
      clear hc ho r4 o4
      generalize l.getD k ByteArray.empty = x at *
      generalize (l.take k).length = n4 at *
      go_wp2_with (at_builtin; refine append_by_run (u := lv') (v := .slice (some ⟨X.heap.size, 0, none⟩) 1 1) rfl _ _ _ rfl 41 rfl rfl rfl _ _ R4.out ?_)
      go_roundw
      case rel => exact ⟨k + 1, _, _, rfl, rfl, by omega, by go_num, by rw [HT.out]; exact HO4.out⟩
      case measure => simp [intOf]; omega
    · obtain rfl : k = l.length := by omega
      rw [List.take_length] at ho
      obtain ⟨a5, c5, rfl⟩ := ownsRow_shape ho.row
      have HO := Lib.hid ho
      clear ho
      go_wp2_with fail
      go_ret
      exact ⟨_, _, rfl, HO.out⟩
end Go.Proofs.YtflkhnmggmfhfaaGreat

/- The document's view: goes. -/
namespace Go.Proofs.YtflkhnmggmfhfaaGreat
open Go.RowKit

def lvRR (R : List RR) (us : List Int) : List RR := us.foldl (fun R u => R.map (atUR u rgoE)) R
theorem lvRR_snoc (R : List RR) (us : List Int) (u : Int) : lvRR R (us ++ [u]) = (lvRR R us).map (atUR u rgoE) := by simp [lvRR]
theorem lvRR_uid : ∀ (us : List Int) (R : List RR), rrU (lvRR R us) = rrU R
  | [], _ => rfl
  | u :: us, R => (lvRR_uid us _).trans (rrU_map (f := atUR u rgoE) (atUR_uid (f := rgoE) (fun _ => rfl)) R)
theorem lvRR_len : ∀ (us : List Int) (R : List RR), (lvRR R us).length = R.length
  | [], _ => rfl
  | u :: us, R => (lvRR_len us _).trans (by simp)
theorem lvRR_sh : ∀ (us : List Int) (R : List RR), ShR R → ShR (lvRR R us)
  | [], _, h => h
  | u :: us, R, h => lvRR_sh us _ (ShR.map (fun r hr => by
      unfold atUR
      split
      · exact ⟨none, 0, 0, rfl⟩
      · exact h r hr))
section
variable {P : Nat} {nn : Bool} {val : Int} {rv cv : Value} {R : List RR} {C : List Int} {w : World}
/-- The four stores of a row that goes. -/
theorem RV.go1 {g cap k : Nat} {x : RR} (h : RV nn P val (.slice (some ⟨g, 0, none⟩) R.length cap) cv R C w) (hx : R[k]? = some x) :
    RV nn P val (.slice (some ⟨g, 0, none⟩) R.length cap) cv (R.set k (rgoE x)) C ((((w.setCell ⟨g, k * 6 + 2, none⟩ (.bool true)).setCell ⟨g, k * 6 + 4, none⟩ (.bool false)).setCell ⟨g, k * 6 + 5, none⟩ (.slice none 0 0)).setCell ⟨g, k * 6 + 1, none⟩ (.int .i64 0)) ∧
      FO (fpR P (.slice (some ⟨g, 0, none⟩) R.length cap) cv R) (fpR P (.slice (some ⟨g, 0, none⟩) R.length cap) cv (R.set k (rgoE x))) w ((((w.setCell ⟨g, k * 6 + 2, none⟩ (.bool true)).setCell ⟨g, k * 6 + 4, none⟩ (.bool false)).setCell ⟨g, k * 6 + 5, none⟩ (.slice none 0 0)).setCell ⟨g, k * 6 + 1, none⟩ (.int .i64 0)) := by
  have hk : k < R.length := (List.getElem?_eq_some_iff.1 hx).1
  have hset : ∀ y : RR, (R.set k y)[k]? = some y := fun y => by rw [List.getElem?_set_self hk]
  obtain ⟨s1, _⟩ := h.rows.stored (k * 6 + 2) (.bool true)
  rw [rrC_put R k 2 x ⟨x.uid, x.mod, true, x.rct, x.waits, x.fv, x.fl⟩ (.bool true) hx (by omega) rfl] at s1
  obtain ⟨s2, _⟩ := s1.stored (k * 6 + 4) (.bool false)
  rw [rrC_put (R.set k ⟨x.uid, x.mod, true, x.rct, x.waits, x.fv, x.fl⟩) k 4 ⟨x.uid, x.mod, true, x.rct, x.waits, x.fv, x.fl⟩ ⟨x.uid, x.mod, true, x.rct, false, x.fv, x.fl⟩ (.bool false) (hset _) (by omega) rfl, List.set_set] at s2
  obtain ⟨s3, _⟩ := s2.stored (k * 6 + 5) (.slice none 0 0)
  rw [rrC_put (R.set k ⟨x.uid, x.mod, true, x.rct, false, x.fv, x.fl⟩) k 5 ⟨x.uid, x.mod, true, x.rct, false, x.fv, x.fl⟩ ⟨x.uid, x.mod, true, x.rct, false, .slice none 0 0, []⟩ (.slice none 0 0) (hset _) (by omega) rfl, List.set_set] at s3
  obtain ⟨s4, _⟩ := s3.stored (k * 6 + 1) (.int .i64 0)
  rw [rrC_put (R.set k ⟨x.uid, x.mod, true, x.rct, false, .slice none 0 0, []⟩) k 1 ⟨x.uid, x.mod, true, x.rct, false, .slice none 0 0, []⟩ (rgoE x) (.int .i64 0) (hset _) (by omega) rfl, List.set_set] at s4
  have hm : g ∈ [g] ∨ w.heap.size ≤ g := .inl (by simp)
  exact h.upd (Below.refl _ _) s4 (Stays.setCell (p := ⟨g, k * 6 + 1, none⟩) (Stays.setCell (p := ⟨g, k * 6 + 5, none⟩) (Stays.setCell (p := ⟨g, k * 6 + 4, none⟩) (Stays.setCell (p := ⟨g, k * 6 + 2, none⟩) (Stays.refl _ _) hm _) hm _) hm _) hm _) (fun e => by cases e)
set_option maxRecDepth 100000 in
set_option maxHeartbeats 2000000 in
theorem rgoes_any (h : RV nn P val rv cv R C w) (hr : riseF 0 (rrU R)) (hl : R.length + C.length ≤ 1000000) (v : Value) (us : List Int) (hv : Nms w v us) (hn : 0 < us.length → ∀ b, v.ownBlock = some b → b ∉ fpR P rv cv R) (hU : us.length ≤ 1000000) :
    Calls Tryz.prog 42 #[.pointer (some ⟨P, 0, none⟩), v] w fun e w' => e = .returned (.tuple #[]) ∧ RO nn P val (lvRR R us) (lvC C us) (fpR P rv cv R) w w' := by
  obtain ⟨av, kv, hve, hvs⟩ := hv
  subst hve
  have HV := Lib.hid hvs
  have HN := Lib.hid hn
  have HR := Lib.hid hr
  have H0 := Lib.hid (RO.refl h)
  clear h hvs hn hr
  go_enter Tryz.func42, Tryz.ntmps42
  go_wp2_with fail
  go_loopw [4] (fun i wr => ∃ k : Nat, k ≤ us.length ∧ i = .int .i64 k ∧ RO nn P val (lvRR R (us.take k)) (lvC C (us.take k)) (fpR P rv cv R) w wr) (fun i _ => us.length - (intOf i).toNat)
  case atStart => exact ⟨0, Nat.zero_le _, rfl, H0.out⟩
  case round =>
    obtain ⟨k, hk, rfl, hO⟩ := hrel
    by_cases hlt : k < us.length
    · have hlti : (k : Int) < (us.length : Int) := by omega
      obtain ⟨g, off, rfl, hg, hcc⟩ := HV.out (by omega)
      obtain ⟨rv1, cv1, h1, f1⟩ := hO
      have ck := hcc k hlt
      have hwl : w.heap.size ≤ wr.heap.size := f1.1.size
      have hng : g ∉ fpR P rv cv R := HN.out (by omega) g rfl
      rw [← World.cell?_of_block (a := ⟨g, off + k, none⟩) (f1.keep hg hng)] at ck
      have hng1 : g ∉ fpR P rv1 cv1 (lvRR R (us.take k)) := f1.out hg hng
      have hst : us.take (k + 1) = us.take k ++ [us.getD k 0] := take_snocI us k hlt
      have HSR : Hid (lvRR R (us.take (k + 1)) = (lvRR R (us.take k)).map (atUR (us.getD k 0) rgoE)) := Lib.hid (by rw [hst, lvRR_snoc])
      have HSC : Hid (lvC C (us.take (k + 1)) = (lvC C (us.take k)).filter (fun x => x != us.getD k 0)) := Lib.hid (by rw [hst, lvC_snoc])
      have hr1 : riseF 0 (rrU (lvRR R (us.take k))) := by rw [lvRR_uid]; exact HR.out
      have hl1 : (lvRR R (us.take k)).length + (lvC C (us.take k)).length ≤ 1000000 := by
        have q1 := lvRR_len (us.take k) R
        have q2 := (lvC_sub (us.take k) C).length_le
        omega
      clear hst hcc
      generalize us.getD k 0 = u at *
      generalize lvRR R (us.take k) = R1 at *
      generalize lvC C (us.take k) = C1 at *
      have HFi := Lib.hid (rfind_any h1 u (by omega))
      rcases fx_cases (rrU R1) u with ⟨hz, hnu⟩ | ⟨kk, hkk, hz, hku⟩
      · rw [hz] at HFi
        rw [rmap_no hnu] at HSR
        have HY := Lib.hid h1
        have FY := Lib.hid f1
        have CK : Hid (∀ X, Below wr.heap.size wr X → X.cell? ⟨g, off + k, none⟩ = some (.int .i64 u)) := Lib.hid (fun X hb => by rw [hb.cell (p := ⟨g, off + k, none⟩) (by show g < _; omega)]; exact ck)
        clear hz hnu h1 f1 hr1 hng hng1
        go_upto_region 11 with (go_at_call 59; refine HFi.out.mono ?_; rintro e w' ⟨rfl, hw⟩; subst w')
        generalize wr = Y at *
        go_loopw [6, 7] (fun lv j wx => ∃ (t : Nat) (lv' : Value) (X : World), X = wx ∧ lv' = lv ∧ t ≤ C1.length ∧ j = .int .i64 t ∧ OwnI Y.heap.size lv' ((C1.take t).filter (fun x => x != u)) Y X) (fun _ j _ => C1.length - (intOf j).toNat)
        case atStart => exact ⟨0, _, _, rfl, rfl, Nat.zero_le _, rfl, OwnI.nil (Below.refl _ _) (Nat.le_refl _)⟩
        case round =>
          obtain ⟨t, lv', X, hX, hlv, ht, rfl, ho⟩ := hrel
          subst hX hlv
          obtain ⟨_, _, _, c3⟩ := (HY.out.on ho.below).cells
          by_cases htt : t < C1.length
          · have htti : (t : Int) < (C1.length : Int) := by omega
            obtain ⟨ac, cc, e3, hxc⟩ := nms_of (HY.out.on ho.below).com
            obtain ⟨gc, oc, rfl, hgc, hcc⟩ := hxc (by omega)
            have k1 := hcc t htt
            have k2 := CK.out _ ho.below
            rw [e3] at c3
            have HT : Hid ((C1.take (t + 1)).filter (fun x => x != u) = if C1.getD t 0 = u then (C1.take t).filter (fun x => x != u) else (C1.take t).filter (fun x => x != u) ++ [C1.getD t 0]) := Lib.hid (by
              rw [take_snocI _ _ htt, List.filter_append]
              by_cases e : C1.getD t 0 = u
              · rw [if_pos e, List.filter_cons_of_neg (by simpa using e)]; simp
              · rw [if_neg e, List.filter_cons_of_pos (by simpa using e)]; simp)
            have HLl : Hid (((C1.take t).filter (fun x => x != u)).length + 1 ≤ 17592186044416) := Lib.hid (by have h1 := List.length_filter_le (fun x => x != u) (C1.take t); have h2 := List.length_take_le t C1; omega)
            have HOD : Hid (OwnI Y.heap.size lv' ((C1.take t).filter (fun x => x != u)) Y X.drew) := Lib.hid (ho.drewN 1)
            have c3d : X.drew.cell? ⟨P, 3, none⟩ = some (.slice (some ⟨gc, oc, none⟩) C1.length cc) := c3
            have k1d : X.drew.cell? ⟨gc, oc + t, none⟩ = some (.int .i64 (C1.getD t 0)) := k1
            clear ho hxc hcc e3
            generalize C1.getD t 0 = x at *
            by_cases hxu : x = u
            · have hq : (x != u) = false := by simpa using hxu
              have HT2 := Lib.hid (HT.out.trans (if_pos hxu))
              clear HT hxu
              go_upto_region 13 with fail
              go_region
              generalize X.drew = X2 at *
              go_wp2_with fail
              go_roundw
              case rel => exact ⟨t + 1, _, _, rfl, rfl, by omega, by go_num, by rw [HT2.out]; exact HOD.out⟩
              case measure => simp [intOf]; omega
            · have hq : (x != u) = true := by simpa using hxu
              have HT2 := Lib.hid (HT.out.trans (if_neg hxu))
              clear HT hxu
              go_upto_region 13 with fail
              go_region
              generalize X.drew = X2 at *
              go_wp2_with (at_builtin; refine appI rfl _ _ rfl x HOD.out rfl rfl HLl.out ?_; intro v7 w7 ho7; have HO7 := Lib.hid ho7; clear ho7)
              go_roundw
              case rel => exact ⟨t + 1, _, _, rfl, rfl, by omega, by go_num, by rw [HT2.out]; exact HO7.out⟩
              case measure => simp [intOf]; omega
          · obtain rfl : t = C1.length := by omega
            rw [List.take_length] at ho
            obtain ⟨a5, c5, e5⟩ := ownsRow_shape ho.row
            subst e5
            obtain ⟨q1, q2⟩ := HY.out.newC ho
            have HO5 : Hid (RO nn P val (lvRR R (us.take (k + 1))) (lvC C (us.take (k + 1))) (fpR P rv cv R) w (X.setCell ⟨P, 3, none⟩ (.slice a5 (C1.filter (fun x => x != u)).length c5))) := Lib.hid (by
              rw [HSR.out, HSC.out]
              exact ⟨_, _, q1, FY.out.trans q2⟩)
            obtain ⟨_, f3⟩ := (HY.out.on ho.below).frozen
            clear q1 q2 ho
            generalize (C1.filter (fun x => x != u)).length = n5 at *
            obtain ⟨ac, cc, e3⟩ := ownsRow_shape HY.out.com
            rw [e3] at c3
            clear e3
            go_wp2_with fail
            go_roundw
            case rel => exact ⟨k + 1, by omega, by go_num, HO5.out⟩
            case measure => simp [intOf]; omega
      · rw [hz] at HFi
        rw [rrU_length] at hkk
        obtain ⟨x0, hx0⟩ := rget hkk
        rw [rrU_at hx0] at hku
        rw [← rmap_hit hr1 hx0 hku] at HSR
        obtain ⟨g2, cap2, e2, hg2, ra⟩ := h1.row_at hx0
        subst e2
        obtain ⟨y1, y2⟩ := h1.go1 hx0
        obtain ⟨_, _, c2, _⟩ := h1.cells
        have hpg : P ≠ g2 := fun e => h1.pr (e ▸ rfl)
        have hgg : g ≠ g2 := fun e => hng1 (mem_fpR.2 (.inr (.inl (e ▸ rfl))))
        have a1 := ra.c1
        have a2 := ra.c2
        have a4 := ra.c4
        obtain ⟨fb, a5⟩ : ∃ fb, wr.cell? ⟨g2, kk * 6 + 5, none⟩ = some fb := ⟨_, ra.c5⟩
        have z1 := ra.fz (kk * 6 + 1)
        have z2 := ra.fz (kk * 6 + 2)
        have z4 := ra.fz (kk * 6 + 4)
        have z5 := ra.fz (kk * 6 + 5)
        have hki : (kk : Int) < (R1.length : Int) := by omega
        have HYy := Lib.hid y1
        have FYy := Lib.hid (f1.trans y2)
        have CKy : Hid (∀ X, Below ((((wr.setCell ⟨g2, kk * 6 + 2, none⟩ (.bool true)).setCell ⟨g2, kk * 6 + 4, none⟩ (.bool false)).setCell ⟨g2, kk * 6 + 5, none⟩ (.slice none 0 0)).setCell ⟨g2, kk * 6 + 1, none⟩ (.int .i64 0)).heap.size ((((wr.setCell ⟨g2, kk * 6 + 2, none⟩ (.bool true)).setCell ⟨g2, kk * 6 + 4, none⟩ (.bool false)).setCell ⟨g2, kk * 6 + 5, none⟩ (.slice none 0 0)).setCell ⟨g2, kk * 6 + 1, none⟩ (.int .i64 0)) X → X.cell? ⟨g, off + k, none⟩ = some (.int .i64 u)) := Lib.hid (fun X hb => by
          have hs := y2.1.size
          rw [hb.cell (p := ⟨g, off + k, none⟩) (by show g < _; omega), World.cell?_of_block (a := ⟨g, off + k, none⟩) (y2.keep (by show g < _; omega) hng1)]
          exact ck)
        have hR1 : R1.length ≤ 1000000 := by omega
        clear hz h1 f1 hr1 hng hng1 y1 y2 ra hkk hx0 hku
        go_upto_region 11 with (go_at_call 59; refine HFi.out.mono ?_; rintro e w' ⟨rfl, hw⟩; subst w')
        generalize ((((wr.setCell ⟨g2, kk * 6 + 2, none⟩ (.bool true)).setCell ⟨g2, kk * 6 + 4, none⟩ (.bool false)).setCell ⟨g2, kk * 6 + 5, none⟩ (.slice none 0 0)).setCell ⟨g2, kk * 6 + 1, none⟩ (.int .i64 0)) = Y at *
        have HY := HYy
        have FY := FYy
        have CK := CKy
        clear HYy FYy CKy
        go_loopw [6, 7] (fun lv j wx => ∃ (t : Nat) (lv' : Value) (X : World), X = wx ∧ lv' = lv ∧ t ≤ C1.length ∧ j = .int .i64 t ∧ OwnI Y.heap.size lv' ((C1.take t).filter (fun x => x != u)) Y X) (fun _ j _ => C1.length - (intOf j).toNat)
        case atStart => exact ⟨0, _, _, rfl, rfl, Nat.zero_le _, rfl, OwnI.nil (Below.refl _ _) (Nat.le_refl _)⟩
        case round =>
          obtain ⟨t, lv', X, hX, hlv, ht, rfl, ho⟩ := hrel
          subst hX hlv
          obtain ⟨_, _, _, c3⟩ := (HY.out.on ho.below).cells
          by_cases htt : t < C1.length
          · have htti : (t : Int) < (C1.length : Int) := by omega
            obtain ⟨ac, cc, e3, hxc⟩ := nms_of (HY.out.on ho.below).com
            obtain ⟨gc, oc, rfl, hgc, hcc⟩ := hxc (by omega)
            have k1 := hcc t htt
            have k2 := CK.out _ ho.below
            rw [e3] at c3
            have HT : Hid ((C1.take (t + 1)).filter (fun x => x != u) = if C1.getD t 0 = u then (C1.take t).filter (fun x => x != u) else (C1.take t).filter (fun x => x != u) ++ [C1.getD t 0]) := Lib.hid (by
              rw [take_snocI _ _ htt, List.filter_append]
              by_cases e : C1.getD t 0 = u
              · rw [if_pos e, List.filter_cons_of_neg (by simpa using e)]; simp
              · rw [if_neg e, List.filter_cons_of_pos (by simpa using e)]; simp)
            have HLl : Hid (((C1.take t).filter (fun x => x != u)).length + 1 ≤ 17592186044416) := Lib.hid (by have h1 := List.length_filter_le (fun x => x != u) (C1.take t); have h2 := List.length_take_le t C1; omega)
            have HOD : Hid (OwnI Y.heap.size lv' ((C1.take t).filter (fun x => x != u)) Y X.drew) := Lib.hid (ho.drewN 1)
            have c3d : X.drew.cell? ⟨P, 3, none⟩ = some (.slice (some ⟨gc, oc, none⟩) C1.length cc) := c3
            have k1d : X.drew.cell? ⟨gc, oc + t, none⟩ = some (.int .i64 (C1.getD t 0)) := k1
            clear ho hxc hcc e3
            generalize C1.getD t 0 = x at *
            by_cases hxu : x = u
            · have hq : (x != u) = false := by simpa using hxu
              have HT2 := Lib.hid (HT.out.trans (if_pos hxu))
              clear HT hxu
              go_upto_region 13 with fail
              go_region
              generalize X.drew = X2 at *
              go_wp2_with fail
              go_roundw
              case rel => exact ⟨t + 1, _, _, rfl, rfl, by omega, by go_num, by rw [HT2.out]; exact HOD.out⟩
              case measure => simp [intOf]; omega
            · have hq : (x != u) = true := by simpa using hxu
              have HT2 := Lib.hid (HT.out.trans (if_neg hxu))
              clear HT hxu
              go_upto_region 13 with fail
              go_region
              generalize X.drew = X2 at *
              go_wp2_with (at_builtin; refine appI rfl _ _ rfl x HOD.out rfl rfl HLl.out ?_; intro v7 w7 ho7; have HO7 := Lib.hid ho7; clear ho7)
              go_roundw
              case rel => exact ⟨t + 1, _, _, rfl, rfl, by omega, by go_num, by rw [HT2.out]; exact HO7.out⟩
              case measure => simp [intOf]; omega
          · obtain rfl : t = C1.length := by omega
            rw [List.take_length] at ho
            obtain ⟨a5, c5, e5⟩ := ownsRow_shape ho.row
            subst e5
            obtain ⟨q1, q2⟩ := HY.out.newC ho
            have HO5 : Hid (RO nn P val (lvRR R (us.take (k + 1))) (lvC C (us.take (k + 1))) (fpR P rv cv R) w (X.setCell ⟨P, 3, none⟩ (.slice a5 (C1.filter (fun x => x != u)).length c5))) := Lib.hid (by
              rw [HSR.out, HSC.out]
              exact ⟨_, _, q1, FY.out.trans q2⟩)
            obtain ⟨_, f3⟩ := (HY.out.on ho.below).frozen
            clear q1 q2 ho
            generalize (C1.filter (fun x => x != u)).length = n5 at *
            obtain ⟨ac, cc, e3⟩ := ownsRow_shape HY.out.com
            rw [e3] at c3
            clear e3
            go_wp2_with fail
            go_roundw
            case rel => exact ⟨k + 1, by omega, by go_num, HO5.out⟩
            case measure => simp [intOf]; omega
    · obtain rfl : k = us.length := by omega
      rw [List.take_length] at hO
      have HO := Lib.hid hO
      clear hO
      go_wp2_with fail
      first | refine bodyPost_end (results_none rfl _ _ _) rfl ?_ | refine bodyPost_ret (results_none rfl _ _ _) rfl ?_
      exact ⟨rfl, HO.out⟩
end
end Go.Proofs.YtflkhnmggmfhfaaGreat
