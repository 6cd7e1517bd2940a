/- The document's view: turns. -/
import Derived.Test.YtflkhnmggmfhfaaGreatR16f
namespace Go.Proofs.YtflkhnmggmfhfaaGreat
open Go.RowKit

theorem rturn_no {n : Int} {own : Bool} {u : Int} {fl : List ByteArray} : ∀ {R : List RR}, u ∉ rrU R → (R.map RR.pl).map (turnR n own (u, fl)) = R.map RR.pl
  | [], _ => rfl
  | r :: R, h => by
    have h1 : r.uid ≠ u := fun e => h (by simp [rrU, e])
    rw [List.map_cons, List.map_cons, rturn_no (fun x => h (by simp only [rrU, List.map_cons, List.mem_cons]; exact .inr x))]
    unfold turnR
    rw [if_neg (fun q => h1 q.1)]
theorem rturn_skip {n : Int} {own : Bool} {u : Int} {fl : List ByteArray} : ∀ {R : List RR} {m : Int} {k : Nat} {x : RR}, riseF m (rrU R) → R[k]? = some x → x.uid = u → ¬ (x.gone = false ∧ (own = false ∨ x.waits = true)) → (R.map RR.pl).map (turnR n own (u, fl)) = R.map RR.pl
  | [], _, _, _, _, h, _, _ => by simp at h
  | r :: R, m, 0, x, ⟨_, b⟩, h, e, hc => by
    simp at h
    subst h
    rw [List.map_cons, List.map_cons, rturn_no (fun hx => by have := riseF_gt b hx; omega)]
    congr 1
    unfold turnR
    rw [if_neg (fun q => hc ⟨q.2.1, q.2.2.imp id (fun q3 => by
      by_cases hw : r.waits = true
      · exact hw
      · simp [RR.pl, hw] at q3)⟩)]
  | r :: R, m, k + 1, x, ⟨_, b⟩, h, e, hc => by
    have hx : R[k]? = some x := by simpa using h
    have h1 : r.uid ≠ u := fun q => by
      have h1 : x.uid ∈ rrU R := List.mem_map_of_mem (List.mem_of_getElem? hx)
      have := riseF_gt b h1
      omega
    rw [List.map_cons, List.map_cons, rturn_skip b hx e hc]
    congr 1
    unfold turnR
    rw [if_neg (fun q => h1 q.1)]
theorem rturn_hit {n : Int} {own : Bool} {u : Int} {fv : Value} {fl : List ByteArray} : ∀ {R : List RR} {m : Int} {k : Nat} {x : RR}, riseF m (rrU R) → R[k]? = some x → x.uid = u → x.gone = false → (own = false ∨ x.waits = true) → (R.set k (rturnE n fv fl x)).map RR.pl = (R.map RR.pl).map (turnR n own (u, fl))
  | [], _, _, _, _, h, _, _, _ => by simp at h
  | r :: R, m, 0, x, ⟨_, b⟩, h, e, hg, ho => by
    simp at h
    subst h
    show (rturnE n fv fl r).pl :: R.map RR.pl = turnR n own (u, fl) r.pl :: (R.map RR.pl).map (turnR n own (u, fl))
    rw [rturn_no (fun hx => by have := riseF_gt b hx; omega)]
    congr 1
    unfold turnR
    rw [if_pos ⟨e, hg, ho.imp id (fun q => by simp [RR.pl, q])⟩]
    simp [RR.pl, rturnE]
  | r :: R, m, k + 1, x, ⟨_, b⟩, h, e, hg, ho => by
    have hx : R[k]? = some x := by simpa using h
    have h1 : r.uid ≠ u := fun q => by
      have h1 : x.uid ∈ rrU R := List.mem_map_of_mem (List.mem_of_getElem? hx)
      have := riseF_gt b h1
      omega
    show r.pl :: (R.set k (rturnE n fv fl x)).map RR.pl = turnR n own (u, fl) r.pl :: (R.map RR.pl).map (turnR n own (u, fl))
    rw [rturn_hit b hx e hg ho]
    congr 1
    unfold turnR
    rw [if_neg (fun q => h1 q.1)]
section
variable {P : Nat} {nn : Bool} {val : Int} {rv cv : Value} {R : List RR} {C : List Int} {w : World}
/-- What turns leaves. -/
def TO (nn : Bool) (P : Nat) (val : Int) (pl : List PR) (C : List Int) (fp : List Nat) (w w' : World) : Prop := ∃ R', R'.map RR.pl = pl ∧ ShR R' ∧ RO nn P val R' C fp w w'
theorem RV.turn1 {g cap k : Nat} {x : RR} {W1 w4 : World} {n : Int} {fv : Value} {fl : List ByteArray} (h : RV nn P val (.slice (some ⟨g, 0, none⟩) R.length cap) cv R C w) (hx : R[k]? = some x) (hb1 : Below w.heap.size w W1)
    (hb4 : Below (W1.setCell ⟨g, k * 6 + 4, none⟩ (.bool true)).heap.size (W1.setCell ⟨g, k * 6 + 4, none⟩ (.bool true)) w4) (ho : w4.ownsRow 0 9 1 fv fl.length (tcs fl)) (hnew : ∀ b, fv.ownBlock = some b → (W1.setCell ⟨g, k * 6 + 4, none⟩ (.bool true)).heap.size ≤ b) :
    RV nn P val (.slice (some ⟨g, 0, none⟩) R.length cap) cv (R.set k (rturnE n fv fl x)) C ((w4.setCell ⟨g, k * 6 + 5, none⟩ fv).setCell ⟨g, k * 6 + 1, none⟩ (.int .i64 n)) ∧
      FO (fpR P (.slice (some ⟨g, 0, none⟩) R.length cap) cv R) (fpR P (.slice (some ⟨g, 0, none⟩) R.length cap) cv (R.set k (rturnE n fv fl x))) w ((w4.setCell ⟨g, k * 6 + 5, none⟩ fv).setCell ⟨g, k * 6 + 1, none⟩ (.int .i64 n)) := by
  have hk : k < R.length := (List.getElem?_eq_some_iff.1 hx).1
  have hset : ∀ y : RR, (R.set k y)[k]? = some y := fun y => by rw [List.getElem?_set_self hk]
  have hgl : g < w.heap.size := (h.rows.lt g rfl).2
  have hgl1 : g < W1.heap.size := Nat.lt_of_lt_of_le hgl hb1.size
  have hsz : (W1.setCell ⟨g, k * 6 + 4, none⟩ (.bool true)).heap.size = W1.heap.size := by simp [World.setCell]
  obtain ⟨s1, _⟩ := (h.on hb1).rows.stored (k * 6 + 4) (.bool true)
  rw [rrC_put R k 4 x ⟨x.uid, x.mod, x.gone, x.rct, true, x.fv, x.fl⟩ (.bool true) hx (by omega) rfl] at s1
  have s1' := ownsRow_same s1 (w' := w4) (fun b e => hb4.block b (s1.lt b e).2)
  obtain ⟨s2, _⟩ := s1'.stored (k * 6 + 5) fv
  rw [rrC_put (R.set k ⟨x.uid, x.mod, x.gone, x.rct, true, x.fv, x.fl⟩) k 5 ⟨x.uid, x.mod, x.gone, x.rct, true, x.fv, x.fl⟩ ⟨x.uid, x.mod, x.gone, x.rct, true, fv, fl⟩ fv (hset _) (by omega) rfl, List.set_set] at s2
  obtain ⟨s3, _⟩ := s2.stored (k * 6 + 1) (.int .i64 n)
  rw [rrC_put (R.set k ⟨x.uid, x.mod, x.gone, x.rct, true, fv, fl⟩) k 1 ⟨x.uid, x.mod, x.gone, x.rct, true, fv, fl⟩ (rturnE n fv fl x) (.int .i64 n) (hset _) (by omega) rfl, List.set_set] at s3
  have hm : ∀ X : World, g ∈ [g] ∨ X.heap.size ≤ g := fun _ => .inl (by simp)
  refine h.upd hb1 s3 (Stays.setCell (p := ⟨g, k * 6 + 1, none⟩) (Stays.setCell (p := ⟨g, k * 6 + 5, none⟩) ((Stays.setCell (p := ⟨g, k * 6 + 4, none⟩) (Stays.refl [g] W1) (hm _) (.bool true)).trans (Stays.ofBelow (fp := []) hb4) (fun b hb => by cases hb)) (hm _) _) (hm _) _) (fun _ => ⟨?_, fun b e => ?_⟩)
  · refine ownsRow_same ho (fun b e => ?_)
    have hb := hnew b e
    rw [Below.heap_setCell _ _ _ _ (by show b ≠ g; omega), Below.heap_setCell _ _ _ _ (by show b ≠ g; omega)]
  · have hb := hnew b e
    have := hb1.size
    omega
theorem Txs.hold {w w' : World} {v : Value} {l : List ByteArray} (h : Txs w v l) (hz : w.heap.size ≤ w'.heap.size) (hs : 0 < l.length → ∀ b, v.ownBlock = some b → b < w.heap.size → w'.heap[b]? = w.heap[b]?) : Txs w' v l := by
  obtain ⟨a, c, rfl, hx⟩ := h
  refine ⟨a, c, rfl, fun h0 => ?_⟩
  obtain ⟨g, off, rfl, hg, hc⟩ := hx h0
  refine ⟨g, off, rfl, Nat.lt_of_lt_of_le hg hz, fun i hi => ?_⟩
  rw [World.cell?_of_block (a := ⟨g, off + i, none⟩) (hs h0 g rfl hg)]
  exact hc i hi
set_option maxRecDepth 100000 in
set_option maxHeartbeats 2000000 in
theorem rturns_any (h : RV nn P val rv cv R C w) (hsh : ShR R) (hr : riseF 0 (rrU R)) (hl : R.length ≤ 1000000) (m : ME) (hm : FlAt w m) (hmo : m.fl ≠ [] → ∀ b, m.fv.ownBlock = some b → b ∉ fpR P rv cv R) (hml : m.fl.length ≤ 1000000) (n : Int) (own : Bool) :
    Calls Tryz.prog 43 #[.pointer (some ⟨P, 0, none⟩), .agg #[.int .i64 m.uid, m.fv], .int .i64 n, .bool own] w fun e w' => e = .returned (.tuple #[]) ∧ TO nn P val ((R.map RR.pl).map (turnR n own m.pl)) C (fpR P rv cv R) w w' := by
  have htx := hm.txs
  have HSh := Lib.hid hsh
  clear hsh
  rw [show m.pl = (m.uid, m.fl) from rfl]
  rw [show m.fv = .slice m.fa m.fl.length m.fc from rfl] at htx hmo ⊢
  clear hm
  generalize m.uid = u at *
  generalize m.fa = fa at *
  generalize m.fc = fc at *
  generalize m.fl = fl at *
  obtain ⟨W1, hW1⟩ : ∃ W1, w.alloc (.cells #[.int .i64 u, .slice fa fl.length fc] 58) = W1 := ⟨_, rfl⟩
  have hb1 : Below w.heap.size w W1 := by rw [← hW1]; exact (Below.refl _ _).alloc (Nat.le_refl _) _
  have hn1 : W1.heap[w.heap.size]? = some (.cells #[.int .i64 u, .slice fa fl.length fc] 58 (0, 0)) := by rw [← hW1]; exact heap_new _ _
  have k0 := cell_of hn1 0
  have k1 := cell_of hn1 1
  have h1 := h.on hb1
  have HFi := Lib.hid (rfind_any h1 u hl)
  have H0 : Hid (RO nn P val R C (fpR P rv cv R) w W1) := Lib.hid ⟨rv, cv, h1, FO.below hb1⟩
  simp only [List.getElem?_toArray, List.getElem?_cons_zero, List.getElem?_cons_succ] at k0 k1
  rcases fx_cases (rrU R) u with ⟨hz, hnu⟩ | ⟨kk, hkk, hz, hku⟩
  · rw [hz] at HFi
    have HP : Hid (R.map RR.pl = (R.map RR.pl).map (turnR n own (u, fl))) := Lib.hid (rturn_no hnu).symm
    clear hz hnu h1 h hr hb1 hn1 htx hmo
    go_enter Tryz.func43, Tryz.ntmps43
    go_wp2_with (go_at_call 59; refine HFi.out.mono ?_; rintro e w' ⟨rfl, hw⟩; subst w')
    first | refine bodyPost_end (results_none rfl _ _ _) rfl ?_ | refine bodyPost_ret (results_none rfl _ _ _) rfl ?_
    exact ⟨rfl, R, HP.out, HSh.out, H0.out⟩
  · rw [hz] at HFi
    rw [rrU_length] at hkk
    obtain ⟨x0, hx0⟩ := rget hkk
    rw [rrU_at hx0] at hku
    obtain ⟨g2, cap2, e2, hg2, ra⟩ := h1.row_at hx0
    subst e2
    obtain ⟨_, _, c2, _⟩ := h1.cells
    have hpg : P ≠ g2 := fun e => h1.pr (e ▸ rfl)
    have hbg : w.heap.size ≠ g2 := fun e => by have := (h.rows.lt g2 rfl).2; omega
    have a2 := ra.c2
    have a4 := ra.c4
    have hki : (kk : Int) < (R.length : Int) := by omega
    have hk0 : ¬ (kk : Int) < 0 := by omega
    by_cases hgo : x0.gone = false ∧ (own = false ∨ x0.waits = true)
    · obtain ⟨hg0, hgw⟩ := hgo
      rw [hg0] at a2
      have a5 := ra.c5
      have a1 := ra.c1
      obtain ⟨Y, hY⟩ : ∃ Y, W1.setCell ⟨g2, kk * 6 + 4, none⟩ (.bool true) = Y := ⟨_, rfl⟩
      have hYs : Y.heap.size = W1.heap.size := by rw [← hY]; simp [World.setCell]
      have hYo : ∀ b, b ≠ g2 → Y.heap[b]? = W1.heap[b]? := fun b hb => by rw [← hY]; exact Below.heap_setCell _ _ _ _ hb
      have y2 : Y.cell? ⟨P, 2, none⟩ = some (.slice (some ⟨g2, 0, none⟩) R.length cap2) := by rw [World.cell?_of_block (a := ⟨P, 2, none⟩) (hYo P hpg)]; exact c2
      have y3 : Y.cell? ⟨w.heap.size, 1, none⟩ = some (.slice fa fl.length fc) := by rw [World.cell?_of_block (a := ⟨w.heap.size, 1, none⟩) (hYo _ hbg)]; exact k1
      have y5 : Y.cell? ⟨g2, kk * 6 + 5, none⟩ = some x0.fv := by
        rw [← hY, World.cell?_setCell_other W1 ⟨g2, kk * 6 + 4, none⟩ ⟨g2, kk * 6 + 5, none⟩ (.bool true) (fun e => by injection e with _ e2 _; omega)]
        exact a5
      have y1 : Y.cell? ⟨g2, kk * 6 + 1, none⟩ = some (.int .i64 x0.mod) := by
        rw [← hY, World.cell?_setCell_other W1 ⟨g2, kk * 6 + 4, none⟩ ⟨g2, kk * 6 + 1, none⟩ (.bool true) (fun e => by injection e with _ e2 _; omega)]
        exact a1
      have sY := (h1.rows.stored (kk * 6 + 4) (.bool true)).1
      rw [hY] at sY
      have z4 := ra.fz (kk * 6 + 4)
      have hgY : g2 < Y.heap.size := by omega
      have hPY : P < Y.heap.size := by have := lt_of_heap h1.self; omega
      have htY : Txs Y (.slice fa fl.length fc) fl := htx.hold (by have := hb1.size; omega) (fun h0 b e hb => by
        have : b ≠ g2 := fun e2 => hmo (fun e3 => by rw [e3] at h0; simp at h0) b e (mem_fpR.2 (.inr (.inl (e2 ▸ rfl))))
        rw [hYo b this, hb1.block b hb])
      have HCp : Hid (∀ X, Below Y.heap.size Y X → Calls Tryz.prog 66 #[.slice fa fl.length fc] X (fun e w4 => ∃ a c, e = .returned (.slice a fl.length c) ∧ w4.cell? ⟨P, 2, none⟩ = some (.slice (some ⟨g2, 0, none⟩) R.length cap2) ∧ w4.cell? ⟨g2, kk * 6 + 5, none⟩ = some x0.fv ∧ w4.cell? ⟨g2, kk * 6 + 1, none⟩ = some (.int .i64 x0.mod) ∧ w4.frozen? ⟨g2, kk * 6 + 5, none⟩ = false ∧ w4.frozen? ⟨g2, kk * 6 + 1, none⟩ = false ∧ ∀ Z, Below ((w4.setCell ⟨g2, kk * 6 + 5, none⟩ (.slice a fl.length c)).setCell ⟨g2, kk * 6 + 1, none⟩ (.int .i64 n)).heap.size ((w4.setCell ⟨g2, kk * 6 + 5, none⟩ (.slice a fl.length c)).setCell ⟨g2, kk * 6 + 1, none⟩ (.int .i64 n)) Z → TO nn P val ((R.map RR.pl).map (turnR n own (u, fl))) C (fpR P (.slice (some ⟨g2, 0, none⟩) R.length cap2) cv R) w Z)) := Lib.hid (fun X hX => by
        refine (rcopied_any _ fl X (htY.on hX) hml).mono ?_
        rintro e w4 ⟨a, c, rfl, ho⟩
        have hb4 : Below Y.heap.size Y w4 := hX.trans (ho.below.mono hX.size)
        have s4 := ownsRow_same sY (w' := w4) (fun b e => hb4.block b (sY.lt b e).2)
        obtain ⟨q1, q2⟩ := RV.turn1 (n := n) (fv := .slice a fl.length c) (fl := fl) h hx0 hb1 (by rw [hY]; exact hb4) ho.row (fun b e => by rw [hY]; exact Nat.le_trans hX.size (ho.new b e))
        refine ⟨a, c, rfl, ?_, ?_, ?_, s4.frozenAt _, s4.frozenAt _, fun Z hZ => ⟨_, ?_, HSh.out.set ⟨_, _, _, rfl⟩, _, _, q1.on hZ, q2.trans (FO.below hZ)⟩⟩
        · rw [hb4.cell (p := ⟨P, 2, none⟩) hPY]; exact y2
        · rw [hb4.cell (p := ⟨g2, kk * 6 + 5, none⟩) hgY]; exact y5
        · rw [hb4.cell (p := ⟨g2, kk * 6 + 1, none⟩) hgY]; exact y1
        · exact rturn_hit hr hx0 hku hg0 hgw)
      have hcs : own = false ∨ (own = true ∧ x0.waits = true) := by
        cases own with
        | false => exact .inl rfl
        | true => exact .inr ⟨rfl, hgw.resolve_left (by simp)⟩
      generalize x0.fv = fb at *
      generalize x0.mod = md at *
      clear hz h1 h hr hb1 hn1 htx hmo htY sY hYo hYs ra hx0 hku hg0 hgw y5 y1 a5 a1
      rcases hcs with rfl | ⟨rfl, hw0⟩
      · go_enter Tryz.func43, Tryz.ntmps43
        go_upto_region 4 with (go_at_call 59; refine HFi.out.mono ?_; rintro e w' ⟨rfl, hw⟩; subst w')
        go_region_with (go_at_call 66; refine (HCp.out _ (by first | exact Below.refl _ _ | exact (Below.refl _ _).drew)).mono ?_; rintro e w4 ⟨a, c, rfl, q2, q5, q1, f5, f1, hf⟩; have HFin := Lib.hid hf; clear hf)
        all_goals (go_wp2_with fail)
        all_goals (first | refine bodyPost_end (results_none rfl _ _ _) rfl ?_ | refine bodyPost_ret (results_none rfl _ _ _) rfl ?_)
        all_goals exact ⟨rfl, HFin.out _ (by first | exact Below.refl _ _ | exact (Below.refl _ _).drew)⟩
      · rw [hw0] at a4
        go_enter Tryz.func43, Tryz.ntmps43
        go_upto_region 4 with (go_at_call 59; refine HFi.out.mono ?_; rintro e w' ⟨rfl, hw⟩; subst w')
        go_region_with (go_at_call 66; refine (HCp.out _ (by first | exact Below.refl _ _ | exact (Below.refl _ _).drew)).mono ?_; rintro e w4 ⟨a, c, rfl, q2, q5, q1, f5, f1, hf⟩; have HFin := Lib.hid hf; clear hf)
        all_goals (go_wp2_with fail)
        all_goals (first | refine bodyPost_end (results_none rfl _ _ _) rfl ?_ | refine bodyPost_ret (results_none rfl _ _ _) rfl ?_)
        all_goals exact ⟨rfl, HFin.out _ (by first | exact Below.refl _ _ | exact (Below.refl _ _).drew)⟩
    · have HP : Hid (R.map RR.pl = (R.map RR.pl).map (turnR n own (u, fl))) := Lib.hid (rturn_skip hr hx0 hku hgo).symm
      have hcs : x0.gone = true ∨ (x0.gone = false ∧ own = true ∧ x0.waits = false) := by
        cases hg0 : x0.gone with
        | true => exact .inl rfl
        | false =>
          cases own with
          | false => exact absurd ⟨hg0, .inl rfl⟩ hgo
          | true =>
            cases hw0 : x0.waits with
            | false => exact .inr ⟨rfl, rfl, rfl⟩
            | true => exact absurd ⟨hg0, .inr hw0⟩ hgo
      clear hz h1 h hr hb1 hn1 htx hmo ra hx0 hku hgo
      rcases hcs with hg0 | ⟨hg0, rfl, hw0⟩
      · rw [hg0] at a2
        go_enter Tryz.func43, Tryz.ntmps43
        go_wp2_with (go_at_call 59; refine HFi.out.mono ?_; rintro e w' ⟨rfl, hw⟩; subst w')
        first | refine bodyPost_end (results_none rfl _ _ _) rfl ?_ | refine bodyPost_ret (results_none rfl _ _ _) rfl ?_
        exact ⟨rfl, R, HP.out, HSh.out, H0.out⟩
      · rw [hg0] at a2
        rw [hw0] at a4
        go_enter Tryz.func43, Tryz.ntmps43
        go_wp2_with (go_at_call 59; refine HFi.out.mono ?_; rintro e w' ⟨rfl, hw⟩; subst w')
        first | refine bodyPost_end (results_none rfl _ _ _) rfl ?_ | refine bodyPost_ret (results_none rfl _ _ _) rfl ?_
        exact ⟨rfl, R, HP.out, HSh.out, H0.out⟩
end
end Go.Proofs.YtflkhnmggmfhfaaGreat
