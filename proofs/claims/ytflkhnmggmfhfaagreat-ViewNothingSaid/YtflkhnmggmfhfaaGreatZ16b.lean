/- The house of nothing: a nil or a zero view, the document's, the law's desk. -/
import Derived.Test.YtflkhnmggmfhfaaGreatD16m
import Derived.Test.YtflkhnmggmfhfaaGreatZ16a
namespace Go.Proofs.YtflkhnmggmfhfaaGreat
open Go.RowKit

theorem takeVZ (wh recent : Int) : takeV VZ wh recent = VZ := by
  by_cases h2 : wh = 2
  · subst h2
    simp [takeV, goneV, VZ, stayR, settleP]
  · simp [takeV, goneV, h2, VZ, settleP]
/-- A nil or a zero view. -/
def ZX (vp : Value) (fv : List Nat) (w : World) : Prop := (vp = .pointer none ∧ fv = []) ∨ ∃ P, vp = .pointer (some ⟨P, 0, none⟩) ∧ VWm false P VZ fv w
section
variable {vp : Value} {fv : List Nat} {w w' : World}
theorem ZX.on (h : ZX vp fv w) (hb : Below w.heap.size w w') : ZX vp fv w' := by
  rcases h with h | ⟨P, h1, h2⟩
  · exact .inl h
  · exact .inr ⟨P, h1, h2.on hb⟩
theorem ZX.hold (h : ZX vp fv w) (hs : ∀ b, b ∈ fv → w'.heap[b]? = w.heap[b]?) : ZX vp fv w' := by
  rcases h with h | ⟨P, h1, h2⟩
  · exact .inl h
  · exact .inr ⟨P, h1, h2.hold hs⟩
theorem ZX.lt (h : ZX vp fv w) {b : Nat} (hb : b ∈ fv) : b < w.heap.size := by
  rcases h with ⟨_, h⟩ | ⟨P, h1, h2⟩
  · rw [h] at hb; cases hb
  · exact h2.lt hb
theorem HearX (h : ZX vp fv w) (e : EV) (own : Bool) : Calls Tryz.prog 12 #[vp, .agg (evA e), .bool own] w fun r w' => r = .returned (.tuple #[]) ∧ Below w.heap.size w w' := by
  rcases h with ⟨rfl, _⟩ | ⟨P, rfl, h⟩
  · exact HearN w e own
  · exact HearZ h e own
theorem TakeX (h : ZX vp fv w) (wh recent : Int) : Calls Tryz.prog 8 #[vp, .int .i64 wh, .int .i64 recent] w fun e w' => ∃ tv T, e = .returned tv ∧ Told w' tv T (takeT VZ wh recent) ∧ ∃ fv', ZX vp fv' w' ∧ FO fv fv' w w' := by
  rcases h with ⟨rfl, rfl⟩ | ⟨P, rfl, h⟩
  · exact (TakeN w wh recent).mono (fun _ _ ⟨tv, T, q1, q2, q3⟩ => ⟨tv, T, q1, q2, [], .inl ⟨rfl, rfl⟩, FO.below q3⟩)
  · refine (Take_at h VZ_ok (by omega) wh recent).mono ?_
    rintro e w' ⟨tv, T, q1, q2, ⟨fp', q3, q4⟩, _⟩
    rw [takeVZ] at q3
    exact ⟨tv, T, q1, q2, fp', .inr ⟨P, rfl, q3⟩, q4⟩
theorem FindX (h : ZX vp fv w) (v : Value) (l : List Rg) (hr : Rgs w v l) (hl : l.length ≤ 1000000) (uid : Bool) : Calls Tryz.prog 19 #[vp, v, .bool uid] w fun e w' => ∃ v', e = .returned (.tuple #[v', .bool (findG VZ l uid), .int .i64 (findE VZ l uid)]) ∧ OwnI w.heap.size v' (findL VZ l uid) w w' := by
  rcases h with ⟨rfl, _⟩ | ⟨P, rfl, h⟩
  · exact FindN w v l hr hl uid
  · exact Find_any h VZ_ok (by omega) v l hr hl uid
theorem UidsX (h : ZX vp fv w) : Calls Tryz.prog 7 #[vp] w fun e w' => ∃ v', e = .returned v' ∧ OwnI w.heap.size v' (uidsP VZ) w w' := by
  rcases h with ⟨rfl, _⟩ | ⟨P, rfl, h⟩
  · exact UidsN w
  · exact Uids_W h VZ_ok (by omega)
theorem SeqX (h : ZX vp fv w) (u : Int) : Calls Tryz.prog 25 #[vp, .int .i64 u] w fun e w' => e = .returned (.tuple #[.int .i64 (seqI (uidsP VZ) u), .int .i64 (seqE (uidsP VZ) u)]) ∧ Below w.heap.size w w' := by
  rcases h with ⟨rfl, _⟩ | ⟨P, rfl, h⟩
  · exact SeqN w u
  · exact Seq_W h VZ_ok (by omega) u
theorem GoneX (h : ZX vp fv w) (u : Int) : Calls Tryz.prog 26 #[vp, .int .i64 u] w fun e w' => e = .returned (.bool (atP VZ u).gone) ∧ Below w.heap.size w w' := by
  rcases h with ⟨rfl, _⟩ | ⟨P, rfl, h⟩
  · exact GoneN w u
  · exact Gone_W h VZ_ok (by omega) u
theorem RecentX (h : ZX vp fv w) (u : Int) : Calls Tryz.prog 28 #[vp, .int .i64 u] w fun e w' => e = .returned (.bool (atP VZ u).rct) ∧ Below w.heap.size w w' := by
  rcases h with ⟨rfl, _⟩ | ⟨P, rfl, h⟩
  · exact RecentN w u
  · exact Recent_W h VZ_ok (by omega) u
/-- The document's view of nothing hears nothing. -/
theorem rHearX {Q : Nat} {fr : List Nat} (h : RWm true Q VZ fr w) (e : EV) (own : Bool) : Calls Tryz.prog 11 #[.pointer (some ⟨Q, 0, none⟩), .agg (evA e), .bool own] w fun r w' => r = .returned (.tuple #[]) ∧ Below w.heap.size w w' := by
  obtain ⟨W1, hW1⟩ : ∃ W1, w.alloc (.cells (evA e) 45) = W1 := ⟨_, rfl⟩
  have hb : Below w.heap.size w W1 := by rw [← hW1]; exact below_box (Below.refl _ _) (Nat.le_refl _) _
  have HB := Lib.hid hb
  have d0 : W1.cell? ⟨Q, 0, none⟩ = some (.bool true) := by
    obtain ⟨rv, cv, R, hV, _, rfl, _⟩ := h
    exact (hV.on hb).cells.1
  clear h hb
  go_enter Tryz.func11, Tryz.ntmps11
  go_upto_region 1 with fail
  (try rw [hW1])
  clear hW1
  go_wp2_with fail
  first | refine bodyPost_end (results_none rfl _ _ _) rfl ?_ | refine bodyPost_ret (results_none rfl _ _ _) rfl ?_
  exact ⟨rfl, HB.out⟩
end
structure ZO (W : World) (K : List (Nat × Obj)) (vp : Value) (Q D : Nat) (fv fr : List Nat) (vd : DV) (c : DC) (w : World) : Prop where
  view : ZX vp fv w
  ref : RWm true Q VZ fr w
  desk : DK D vd c w
  ok : DB c
  vr : Apt fv fr
  vk : Apt fv (fpD D vd c.F)
  rk : Apt fr (fpD D vd c.F)
  lv : ∀ b ∈ fv, W.heap.size ≤ b
  lr : ∀ b ∈ fr, W.heap.size ≤ b
  lk : ∀ b ∈ fpD D vd c.F, W.heap.size ≤ b
  base : Below W.heap.size W w
  kp : ∀ p ∈ K, w.heap[p.1]? = some p.2 ∧ p.1 ∉ fv ∧ p.1 ∉ fr ∧ p.1 ∉ fpD D vd c.F
section
variable {W w w' : World} {K : List (Nat × Obj)} {vp : Value} {Q D : Nat} {fv fr fv' fr' : List Nat} {vd vd' : DV} {c c' : DC}
theorem ZO.on (h : ZO W K vp Q D fv fr vd c w) (hb : Below w.heap.size w w') : ZO W K vp Q D fv fr vd c w' :=
  ⟨h.view.on hb, h.ref.on hb, h.desk.on hb, h.ok, h.vr, h.vk, h.rk, h.lv, h.lr, h.lk, h.base.trans (hb.mono h.base.size), fun p hp => by
    obtain ⟨q1, q2⟩ := h.kp p hp
    exact ⟨by rw [hb.block _ (lt_of_heap q1)]; exact q1, q2⟩⟩
theorem ZO.toV (h : ZO W K vp Q D fv fr vd c w) (hv : ZX vp fv' w') (hf : FO fv fv' w w') : ZO W K vp Q D fv' fr vd c w' :=
  ⟨hv, h.ref.hold (fun b hb => hf.keep (h.ref.lt hb) (fun e => h.vr b e hb)), h.desk.hold (fun b hb => hf.keep (h.desk.lt hb) (fun e => h.vk b e hb)), h.ok, apt_new h.vr hf.2 (fun _ hb => h.ref.lt hb), apt_new h.vk hf.2 (fun _ hb => h.desk.lt hb), h.rk, (fo_below h.base h.lv hf).2, h.lr, h.lk, (fo_below h.base h.lv hf).1, fun p hp => by
    obtain ⟨q1, q2, q3, q4⟩ := h.kp p hp
    exact ⟨by rw [hf.keep (lt_of_heap q1) q2]; exact q1, hf.out (lt_of_heap q1) q2, q3, q4⟩⟩
theorem ZO.toR (h : ZO W K vp Q D fv fr vd c w) (hv : RWm true Q VZ fr' w') (hf : FO fr fr' w w') : ZO W K vp Q D fv fr' vd c w' :=
  ⟨h.view.hold (fun b hb => hf.keep (h.view.lt hb) (fun e => h.vr b hb e)), hv, h.desk.hold (fun b hb => hf.keep (h.desk.lt hb) (fun e => h.rk b e hb)), h.ok, apt_new2 h.vr hf.2 (fun _ hb => h.view.lt hb), h.vk, apt_new h.rk hf.2 (fun _ hb => h.desk.lt hb), h.lv, (fo_below h.base h.lr hf).2, h.lk, (fo_below h.base h.lr hf).1, fun p hp => by
    obtain ⟨q1, q2, q3, q4⟩ := h.kp p hp
    exact ⟨by rw [hf.keep (lt_of_heap q1) q3]; exact q1, q2, hf.out (lt_of_heap q1) q3, q4⟩⟩
theorem ZO.toD (h : ZO W K vp Q D fv fr vd c w) (hv : DK D vd' c' w') (ho : DB c') (hf : FO (fpD D vd c.F) (fpD D vd' c'.F) w w') : ZO W K vp Q D fv fr vd' c' w' :=
  ⟨h.view.hold (fun b hb => hf.keep (h.view.lt hb) (fun e => h.vk b hb e)), h.ref.hold (fun b hb => hf.keep (h.ref.lt hb) (fun e => h.rk b hb e)), hv, ho, h.vr, apt_new2 h.vk hf.2 (fun _ hb => h.view.lt hb), apt_new2 h.rk hf.2 (fun _ hb => h.ref.lt hb), h.lv, h.lr, (fo_below h.base h.lk hf).2, (fo_below h.base h.lk hf).1, fun p hp => by
    obtain ⟨q1, q2, q3, q4⟩ := h.kp p hp
    exact ⟨by rw [hf.keep (lt_of_heap q1) q4]; exact q1, q2, q3, hf.out (lt_of_heap q1) q4⟩⟩
/-- The house. -/
def ZHH (W : World) (K : List (Nat × Obj)) (vp : Value) (Q D : Nat) (w : World) : Prop := ∃ fv fr vd c, ZO W K vp Q D fv fr vd c w
theorem ZHH.on (h : ZHH W K vp Q D w) (hb : Below w.heap.size w w') : ZHH W K vp Q D w' := by
  obtain ⟨fv, fr, vd, c, h⟩ := h
  exact ⟨fv, fr, vd, c, h.on hb⟩
theorem ZHH.base (h : ZHH W K vp Q D w) : Below W.heap.size W w := by
  obtain ⟨fv, fr, vd, c, h⟩ := h
  exact h.base
theorem ZHH.drewN (h : ZHH W K vp Q D w) (m : Nat) : ZHH W K vp Q D (w.drewN m) := h.on (below_drewN (Below.refl _ _) m)
theorem ZHH.add {b : Nat} {o : Obj} (h : ZHH W K vp Q D w) (hb : Below w.heap.size w w') (hz : w.heap.size ≤ b) (ho : w'.heap[b]? = some o) : ZHH W ((b, o) :: K) vp Q D w' := by
  obtain ⟨fv, fr, vd, c, h⟩ := h
  refine ⟨fv, fr, vd, c, { h.on hb with kp := fun p hp => ?_ }⟩
  rcases List.mem_cons.1 hp with rfl | hp
  · exact ⟨ho, fun e => by have := h.view.lt e; omega, fun e => by have := h.ref.lt e; omega, fun e => by have := h.desk.lt e; omega⟩
  · exact (h.on hb).kp p hp
theorem ZHH.drop {p : Nat × Obj} (h : ZHH W (p :: K) vp Q D w) : ZHH W K vp Q D w := by
  obtain ⟨fv, fr, vd, c, h⟩ := h
  exact ⟨fv, fr, vd, c, { h with kp := fun q hq => h.kp q (List.mem_cons_of_mem _ hq) }⟩
theorem ZHH.box {p : Nat × Obj} (h : ZHH W (p :: K) vp Q D w) : w.heap[p.1]? = some p.2 := by
  obtain ⟨fv, fr, vd, c, h⟩ := h
  exact (h.kp p List.mem_cons_self).1
/-- An event's lists lie on the desk. -/
def ZHL (W : World) (K : List (Nat × Obj)) (vp : Value) (Q D : Nat) (us : List Int) (ms : List ME) (w : World) : Prop := ∃ fv fr vd c, ZO W K vp Q D fv fr vd c w ∧ EvL us ms c
theorem ZHL.hh {us : List Int} {ms : List ME} (h : ZHL W K vp Q D us ms w) : ZHH W K vp Q D w := by
  obtain ⟨fv, fr, vd, c, h, _⟩ := h
  exact ⟨fv, fr, vd, c, h⟩
theorem ZHL.on {us : List Int} {ms : List ME} (h : ZHL W K vp Q D us ms w) (hb : Below w.heap.size w w') : ZHL W K vp Q D us ms w' := by
  obtain ⟨fv, fr, vd, c, h, h2⟩ := h
  exact ⟨fv, fr, vd, c, h.on hb, h2⟩
/-- An event that lies on the desk. -/
def ZHE (W : World) (K : List (Nat × Obj)) (vp : Value) (Q D : Nat) (us : List Int) (ms : List ME) (pe : PEv) (e' : EV) (ms' : List ME) (w : World) : Prop :=
  ∃ fv fr vd c, ZO W K vp Q D fv fr vd c w ∧ EvL us ms c ∧ EvAt w e' us ms' ∧ plE e' us ms' = pe ∧ (∀ b, e'.vu.ownBlock = some b → b ∈ fpD D vd c.F) ∧ (∀ b, e'.vm.ownBlock = some b → b ∈ fpD D vd c.F) ∧ (∀ m ∈ ms', ∀ b, m.fv.ownBlock = some b → b ∈ fpD D vd c.F)
theorem ZHE.hl {us : List Int} {ms ms' : List ME} {pe : PEv} {e' : EV} (h : ZHE W K vp Q D us ms pe e' ms' w) : ZHL W K vp Q D us ms w := by
  obtain ⟨fv, fr, vd, c, h, h2, _⟩ := h
  exact ⟨fv, fr, vd, c, h, h2⟩
end
variable {W w : World} {K : List (Nat × Obj)} {vp : Value} {Q D : Nat}
theorem rHear_Z (h : ZHH W K vp Q D w) (s : ST) :
    Calls Tryz.prog 11 #[.pointer (some ⟨Q, 0, none⟩), .agg (evA s.ev).toList.toArray, .bool s.own] w fun r w' => r = .returned (.tuple #[]) ∧ ZHH W K vp Q D w' := by
  obtain ⟨fv, fr, vd, c, h⟩ := h
  exact (rHearX h.ref s.ev s.own).mono (fun _ _ ⟨q1, q2⟩ => ⟨q1, fv, fr, vd, c, h.on q2⟩)
theorem vHear_Z {us : List Int} {ms ms' : List ME} {pe : PEv} {e' : EV} (h : ZHE W K vp Q D us ms pe e' ms' w) (own : Bool) :
    Calls Tryz.prog 12 #[vp, .agg (evA e'), .bool own] w fun r w' => r = .returned (.tuple #[]) ∧ ZHL W K vp Q D us ms w' := by
  obtain ⟨fv, fr, vd, c, h, h2, _⟩ := h
  exact (HearX h.view e' own).mono (fun _ _ ⟨q1, q2⟩ => ⟨q1, fv, fr, vd, c, h.on q2, h2⟩)
structure ZHT (W : World) (K : List (Nat × Obj)) (vp : Value) (Q D : Nat) (tv : Value) (T : List TDE) (l : List Td) (f fv fr : List Nat) (vd : DV) (c : DC) (w : World) : Prop where
  ho : ZO W K vp Q D fv fr vd c w
  told : Told w tv T l
  row : ∀ b, tv.ownBlock = some b → b ∉ f
  fls : ∀ t ∈ T, ∀ b, t.fv.ownBlock = some b → b ∉ f
def ZHTr (W : World) (K : List (Nat × Obj)) (vp : Value) (Q D : Nat) (tv : Value) (l : List Td) (w : World) : Prop := ∃ T fv fr vd c, ZHT W K vp Q D tv T l fv fv fr vd c w
def ZHTT (W : World) (K : List (Nat × Obj)) (vp : Value) (Q D : Nat) (tv : Value) (l : List Td) (tv2 : Value) (l2 : List Td) (w : World) : Prop := ZHH W K vp Q D w ∧ (∃ T, Told w tv T l) ∧ ∃ T, Told w tv2 T l2
theorem rTake_Z (h : ZHH W K vp Q D w) (wh recent : Int) :
    Calls Tryz.prog 16 #[.pointer (some ⟨Q, 0, none⟩), .int .i64 wh, .int .i64 recent] w fun r w' => ∃ tv, r = .returned tv ∧ ZHTr W K vp Q D tv (takeT VZ wh recent) w' := by
  obtain ⟨fv, fr, vd, c, h⟩ := h
  refine (Take_RW h.ref VZ_ok (by omega) wh recent).mono ?_
  rintro r w' ⟨tv, T, rfl, q1, ⟨fr', q2, q3⟩, q4, q5⟩
  rw [takeVZ] at q2
  refine ⟨tv, rfl, T, fv, fr', vd, c, h.toR q2 q3, q1, fun b e hm => ?_, fun t ht b e hm => ?_⟩
  · have := q4 b e; have := h.view.lt hm; omega
  · rcases q5 t ht b e with q | q
    · exact h.vr b hm q
    · have := h.view.lt hm; omega
theorem vTake_Z {tv : Value} {l : List Td} (h : ZHTr W K vp Q D tv l w) (wh recent : Int) :
    Calls Tryz.prog 8 #[vp, .int .i64 wh, .int .i64 recent] w fun r w' => ∃ tv2, r = .returned tv2 ∧ ZHTT W K vp Q D tv l tv2 (takeT VZ wh recent) w' := by
  obtain ⟨T, fv, fr, vd, c, h⟩ := h
  refine (TakeX h.ho.view wh recent).mono ?_
  rintro r w' ⟨tv2, T2, rfl, q1, fv', q2, q3⟩
  exact ⟨tv2, rfl, ⟨fv', fr, vd, c, h.ho.toV q2 q3⟩, ⟨T, h.told.hold (fun b e => q3.keep (h.told.row.lt b e).2 (h.row b e)) (fun t ht b e => q3.keep ((h.told.fls t ht).lt b e).2 (h.fls t ht b e))⟩, T2, q1⟩
theorem told_Z {a b : Value} {l : List Td} (h : ZHTT W K vp Q D a l b l w) : Calls Tryz.prog 17 #[b, a] w fun e w' => e = .returned (.bool true) ∧ ZHH W K vp Q D w' := by
  obtain ⟨h1, ⟨T, h2⟩, T2, h3⟩ := h
  refine (told_any b a T2 T l w h3 h2).mono ?_
  rintro e w' ⟨rfl, m, rfl⟩
  exact ⟨rfl, h1.drewN m⟩
def ZHN (W : World) (K : List (Nat × Obj)) (vp : Value) (Q D : Nat) (bv : Value) (l : List Int) (w : World) : Prop := ZHH W K vp Q D w ∧ Nms w bv l
def ZHP (W : World) (K : List (Nat × Obj)) (vp : Value) (Q D : Nat) (bv : Value) (l : List Int) (av : Value) (s : List Rg) (w : World) : Prop :=
  ∃ (fv fr : List Nat) (vd : DV) (c : DC) (n : Nat), ZO W K vp Q D fv fr vd { c with S := s ++ ((List.range n).map fillS).drop s.length } w ∧ s.length ≤ n ∧ n ≤ 1000000 ∧ Nms w bv l ∧ Rgs w av s
theorem rFind_Z (h : ZHH W K vp Q D w) (v : Value) (l : List Rg) (hr : Rgs W v l) (hl : l.length ≤ 300) (uid : Bool) :
    Calls Tryz.prog 18 #[.pointer (some ⟨Q, 0, none⟩), v, .bool uid] w fun e w' => ∃ v', e = .returned (.tuple #[v', .bool (findG VZ l uid), .int .i64 (findE VZ l uid)]) ∧ ZHN W K vp Q D v' (findL VZ l uid) w' ∧ (∀ b, v'.ownBlock = some b → w.heap.size ≤ b) ∧ Below w.heap.size w w' := by
  obtain ⟨fv, fr, vd, c, h⟩ := h
  refine (Find_RW h.ref VZ_ok (by omega) v l (hr.on h.base) (by omega) uid).mono ?_
  rintro r w' ⟨v', rfl, hO⟩
  exact ⟨v', rfl, ⟨⟨fv, fr, vd, c, h.on hO.below⟩, nms_of hO.row⟩, fun b e => (hO.row.lt b e).1, hO.below⟩
theorem pieces_Z {w0 : World} {bv : Value} {lb : List Int} (h0 : ZHH W K vp Q D w0) (hb : Below w0.heap.size w0 w) (hn : Nms w bv lb) (hnew : ∀ b, bv.ownBlock = some b → w0.heap.size ≤ b) (v : Value) (l : List Rg) (hr : Rgs W v l) (hlo : 0 < l.length → ∀ b, v.ownBlock = some b → b < W.heap.size) (hl : l.length ≤ 300) :
    Calls Tryz.prog 20 #[.pointer (some ⟨D, 0, none⟩), v] w fun e w' => ∃ av, e = .returned av ∧ ZHP W K vp Q D bv lb av l w' := by
  obtain ⟨fv, fr, vd, c, h0⟩ := h0
  have h := h0.on hb
  refine (pieces_any h.desk v l (hr.on h.base) (fun q b e hm => by have := hlo q b e; have := h.lk b hm; omega) hl h.ok.s).mono ?_
  rintro r w' ⟨g, cp, n, v', rfl, q1, q2, q3, q4, q5, _⟩
  refine ⟨_, rfl, fv, fr, v', c, n, h.toD (c' := { c with S := l ++ ((List.range n).map fillS).drop l.length }) q1.1 ⟨h.ok.m, h.ok.u, h.ok.k, h.ok.f, by show (l ++ ((List.range n).map fillS).drop l.length).length ≤ _; rw [lay_len fillS l n q2]; exact q3, h.ok.l⟩ q1.2, q2, q3, hn.past q1.2 (fun _ b e hm => by have := hnew b e; have := h0.desk.lt hm; omega), q4⟩
theorem ZHP.on {w' : World} {bv av : Value} {lb : List Int} {l : List Rg} (h : ZHP W K vp Q D bv lb av l w) (hb : Below w.heap.size w w') : ZHP W K vp Q D bv lb av l w' := by
  obtain ⟨fv, fr, vd, c, n, h1, h2, h3, h4, h5⟩ := h
  exact ⟨fv, fr, vd, c, n, h1.on hb, h2, h3, h4.on hb, h5.on hb⟩
theorem ZHP.hh {bv av : Value} {lb : List Int} {l : List Rg} (h : ZHP W K vp Q D bv lb av l w) : ZHH W K vp Q D w := by
  obtain ⟨fv, fr, vd, c, n, h1, _⟩ := h
  exact ⟨fv, fr, vd, _, h1⟩
theorem ZHP.num {bv av : Value} {lb : List Int} {l : List Rg} (h : ZHP W K vp Q D bv lb av l w) : Nms w bv lb := by
  obtain ⟨fv, fr, vd, c, n, h1, h2, h3, h4, h5⟩ := h
  exact h4
theorem vFind_Z {bv av : Value} {lb : List Int} {l : List Rg} (h : ZHP W K vp Q D bv lb av l w) (hl : l.length ≤ 300) (uid : Bool) :
    Calls Tryz.prog 19 #[vp, av, .bool uid] w fun e w' => ∃ v', e = .returned (.tuple #[v', .bool (findG VZ l uid), .int .i64 (findE VZ l uid)]) ∧ ZHP W K vp Q D bv lb av l w' ∧ Nms w' v' (findL VZ l uid) := by
  have h' := h
  obtain ⟨fv, fr, vd, c, n, h1, h2, h3, h4, h5⟩ := h
  refine (FindX h1.view av l h5 (by omega) uid).mono ?_
  rintro r w' ⟨v', rfl, hO⟩
  exact ⟨v', rfl, h'.on hO.below, nms_of hO.row⟩
theorem pieced_Z {bv av : Value} {lb : List Int} {l : List Rg} (h : ZHP W K vp Q D bv lb av l w) (v : Value) (hr : Rgs W v l) :
    Calls Tryz.prog 21 #[.pointer (some ⟨D, 0, none⟩), v] w fun e w' => e = .returned (.bool true) ∧ ∃ m, w' = w.drewN m := by
  obtain ⟨fv, fr, vd, c, n, h1, h2, h3, h4, h5⟩ := h
  exact pieced_any v l h1.desk h2 h3 (hr.on h1.base)
theorem vUids_Z (h : ZHH W K vp Q D w) :
    Calls Tryz.prog 7 #[vp] w fun e w' => ∃ v', e = .returned v' ∧ ZHH W K vp Q D w' ∧ Nms w' v' (uidsP VZ) ∧ Below w.heap.size w w' := by
  obtain ⟨fv, fr, vd, c, h⟩ := h
  refine (UidsX h.view).mono ?_
  rintro r w' ⟨v', rfl, hO⟩
  exact ⟨v', rfl, ⟨fv, fr, vd, c, h.on hO.below⟩, nms_of hO.row, hO.below⟩
theorem rUids_Z (h : ZHH W K vp Q D w) :
    Calls Tryz.prog 30 #[.pointer (some ⟨Q, 0, none⟩)] w fun e w' => ∃ v', e = .returned v' ∧ ZHH W K vp Q D w' ∧ Nms w' v' (uidsP VZ) ∧ Below w.heap.size w w' := by
  obtain ⟨fv, fr, vd, c, h⟩ := h
  refine (Uids_RW h.ref VZ_ok (by omega)).mono ?_
  rintro r w' ⟨v', rfl, hO⟩
  exact ⟨v', rfl, ⟨fv, fr, vd, c, h.on hO.below⟩, nms_of hO.row, hO.below⟩
theorem vSeq_Z (h : ZHH W K vp Q D w) (u : Int) :
    Calls Tryz.prog 25 #[vp, .int .i64 u] w fun e w' => e = .returned (.tuple #[.int .i64 (seqI (uidsP VZ) u), .int .i64 (seqE (uidsP VZ) u)]) ∧ ZHH W K vp Q D w' := by
  obtain ⟨fv, fr, vd, c, h⟩ := h
  exact (SeqX h.view u).mono (fun _ _ ⟨q1, q2⟩ => ⟨q1, fv, fr, vd, c, h.on q2⟩)
theorem rSeq_Z (h : ZHH W K vp Q D w) (u : Int) :
    Calls Tryz.prog 24 #[.pointer (some ⟨Q, 0, none⟩), .int .i64 u] w fun e w' => e = .returned (.tuple #[.int .i64 (seqI (uidsP VZ) u), .int .i64 (seqE (uidsP VZ) u)]) ∧ w' = w := by
  obtain ⟨fv, fr, vd, c, h⟩ := h
  exact Seq_RW h.ref VZ_ok (by omega) u
theorem vGone_Z (h : ZHH W K vp Q D w) (u : Int) :
    Calls Tryz.prog 26 #[vp, .int .i64 u] w fun e w' => e = .returned (.bool (atP VZ u).gone) ∧ ZHH W K vp Q D w' := by
  obtain ⟨fv, fr, vd, c, h⟩ := h
  exact (GoneX h.view u).mono (fun _ _ ⟨q1, q2⟩ => ⟨q1, fv, fr, vd, c, h.on q2⟩)
theorem rGone_Z (h : ZHH W K vp Q D w) (u : Int) :
    Calls Tryz.prog 27 #[.pointer (some ⟨Q, 0, none⟩), .int .i64 u] w fun e w' => e = .returned (.bool (atP VZ u).gone) ∧ w' = w := by
  obtain ⟨fv, fr, vd, c, h⟩ := h
  exact Gone_RW h.ref VZ_ok (by omega) u
theorem vRecent_Z (h : ZHH W K vp Q D w) (u : Int) :
    Calls Tryz.prog 28 #[vp, .int .i64 u] w fun e w' => e = .returned (.bool (atP VZ u).rct) ∧ ZHH W K vp Q D w' := by
  obtain ⟨fv, fr, vd, c, h⟩ := h
  exact (RecentX h.view u).mono (fun _ _ ⟨q1, q2⟩ => ⟨q1, fv, fr, vd, c, h.on q2⟩)
theorem rRecent_Z (h : ZHH W K vp Q D w) (u : Int) :
    Calls Tryz.prog 29 #[.pointer (some ⟨Q, 0, none⟩), .int .i64 u] w fun e w' => e = .returned (.bool (atP VZ u).rct) ∧ w' = w := by
  obtain ⟨fv, fr, vd, c, h⟩ := h
  exact Recent_RW h.ref VZ_ok (by omega) u
theorem alike_Z {a b : Value} {l : List Int} (h : ZHH W K vp Q D w) (h1 : Nms w a l) (h2 : Nms w b l) (hl : l.length ≤ 1000000) :
    Calls Tryz.prog 22 #[a, b] w fun e w' => e = .returned (.bool true) ∧ ZHH W K vp Q D w' :=
  (alike_any a b l l w h1 h2 hl).mono (fun _ _ ⟨q1, q2⟩ => ⟨by rw [q1, decide_eq_true rfl], h.on q2⟩)
theorem ZHH.drew (h : ZHH W K vp Q D w) : ZHH W K vp Q D w.drew := h.on (Below.refl _ _).drew
set_option maxRecDepth 100000 in
set_option maxHeartbeats 2000000 in
theorem stands_Z (h : ZHH W K vp Q D w) :
    Calls Tryz.prog 15 #[vp, .pointer (some ⟨Q, 0, none⟩)] w fun e w' => e = .returned (.bool true) ∧ ZHH W K vp Q D w' := by
  have HU : Hid (Calls Tryz.prog 30 #[.pointer (some ⟨Q, 0, none⟩)] w (fun e w1 => ∃ a c, e = .returned (.slice a 0 c) ∧ Calls Tryz.prog 7 #[vp] w1 (fun e w2 => ∃ v2, e = .returned v2 ∧ Calls Tryz.prog 22 #[v2, .slice a 0 c] w2 (fun e w3 => e = .returned (.bool true) ∧ ZHH W K vp Q D w3)))) := Lib.hid (by
    refine (rUids_Z h).mono ?_
    rintro e w1 ⟨lv, rfl, h1, n1, _⟩
    have n1' := n1
    obtain ⟨a, c, e1, _⟩ := n1
    subst e1
    refine ⟨a, c, rfl, (vUids_Z h1).mono ?_⟩
    rintro e w2 ⟨v2, rfl, h2, n2, b2⟩
    exact ⟨v2, rfl, alike_Z h2 n2 (n1'.on b2) (by simp [VZ, uidsP])⟩)
  clear h
  go_enter Tryz.func15, Tryz.ntmps15
  go_upto_region 5 with (first | (go_at_call 30; refine HU.out.mono ?_; rintro e w1 ⟨a, c, rfl, hq⟩; have HU2 := Lib.hid hq; clear hq HU) | (go_at_call 7; refine HU2.out.mono ?_; rintro e w2 ⟨v2, rfl, hq⟩; have HU3 := Lib.hid hq; clear hq HU2) | (go_at_call 22; refine HU3.out.mono ?_; rintro e w3 ⟨rfl, h3⟩; have H3 := Lib.hid h3; clear h3 HU3))
  go_loopw [6] (fun i wr => ∃ X : World, X = wr ∧ i = .int .i64 0 ∧ X = w3) (fun _ _ => 0)
  case atStart => exact ⟨_, rfl, rfl, rfl⟩
  case round =>
    obtain ⟨X, hX, rfl, hX3⟩ := hrel
    subst hX hX3
    go_wp2_with fail
    go_ret
    exact ⟨rfl, H3.out⟩
end Go.Proofs.YtflkhnmggmfhfaaGreat
