/- What came in, with more: a nil list has no room; mails' flags. -/
import Derived.Test.YtflkhnmggmfhfaaGreatN16f
import Derived.Test.YtflkhnmggmfhfaaGreatR16f
namespace Go.Proofs.YtflkhnmggmfhfaaGreat
open Go.Shelf Go.ChangeShapes Go.WideShapes Go.ChangeAt Go.RowKit Go.Lib
open Go.ChangeMaps (open_string shut_string)

/-- A nil list has no room behind it. -/
def NilCap (v : Value) (l : List Int) : Prop := ∀ a k, v = .slice a l.length k → l.length = 0 → a = none → k = 0
section
variable {H : Type} {enc : TypeId × Value → H} {W : World} {v : Value} {d : DataW H} {p : List MemPlace} {fuel : Nat} {cs : List Value}
theorem open_ints_v2 (hf : DataW.trod enc Tryz.prog W 0 (fun _ => true) true fuel 26 [v] = some (d, p)) (hw : ∀ x ∈ d.weights Tryz.prog 26, x ≤ reachBytes) :
    ∃ l, Nms W v l ∧ (∀ b, 0 < l.length → v.ownBlock = some b → b < W.heap.size) ∧ NilCap v l := by
  obtain ⟨l, ao, cap, rfl, hn, _, hb, hall⟩ := open_list (α := Int) 26 3 1 Tryz.underlying26 Tryz.cInt (by omega) (fun x cs => cs = [.int .i64 x]) 0 (fun cs d' p' n hl hf _ => by
    match cs, hl with
    | [c0], _ =>
      obtain ⟨n0, e0, _, _⟩ := DataW.trod_int Tryz.underlying3 hf
      simp at e0
      subst e0
      exact ⟨n0, rfl⟩) hf hw
  refine ⟨l, ⟨ao, cap, rfl, fun h0 => ?_⟩, fun b h0 e => ?_, fun a k e _ ea => ?_⟩
  · obtain ⟨b, off, rfl, hb'⟩ := hb h0
    refine ⟨b, off, rfl, hb', fun i hi => ?_⟩
    obtain ⟨cs, _, rfl, hc⟩ := hall i hi
    have := hc b off rfl 0 _ rfl
    simpa using this
  · obtain ⟨b', off, rfl, hb'⟩ := hb h0
    cases e
    exact hb'
  · injection e with q1 _ q3
    subst q1 q3
    exact (hn ea).2
set_option maxRecDepth 100000 in
set_option maxHeartbeats 4000000 in
theorem open_ev_v2 (hl : cs.length = 18) (hf : DataW.trod enc Tryz.prog W 0 (fun _ => true) true fuel 45 cs = some (d, p)) (hw : ∀ x ∈ d.weights Tryz.prog 45, x ≤ reachBytes) :
    ∃ (e : EV) (us : List Int) (ms : List ME), cs = (evA e).toList ∧ Nms W e.vu us ∧ MksAt W e.vm ms ∧ -9223372036854775808 ≤ e.fi ∧ e.fi ≤ 9223372036854775807 ∧ (∀ u ∈ cs, u.oneCell' = true) ∧ (0 < us.length → ∀ b, e.vu.ownBlock = some b → b < W.heap.size) ∧ (0 < ms.length → ∀ b, e.vm.ownBlock = some b → b < W.heap.size) ∧ (∀ m ∈ ms, m.fl ≠ [] → ∀ b, m.fv.ownBlock = some b → b < W.heap.size) ∧ NilCap e.vu us := by
  obtain ⟨xs, k, hk, hxy, _, hxl, hg⟩ := DataW.trod_struct Tryz.underlying45 hf
  match xs, hxl, cs, hl with
  | [y0, y1, y2, y3, y4, y5, y6, y7, y8, y9, y10, y11], _, [c0, c1, c2, c3, c4, c5, c6, c7, c8, c9, c10, c11, c12, c13, c14, c15, c16, c17], _ =>
    have g0 := hg 0 _ rfl
    have g1 := hg 1 _ rfl
    have g2 := hg 2 _ rfl
    have g3 := hg 3 _ rfl
    have g4 := hg 4 _ rfl
    have g5 := hg 5 _ rfl
    have g6 := hg 6 _ rfl
    have g7 := hg 7 _ rfl
    have g8 := hg 8 _ rfl
    have g9 := hg 9 _ rfl
    have g10 := hg 10 _ rfl
    have g11 := hg 11 _ rfl
    simp [Tryz.cInt, Tryz.cStr, Tryz.cStrs, Tryz.cInts, Tryz.cMarks, Tryz.cMom] at g0 g1 g2 g3 g4 g5 g6 g7 g8 g9 g10 g11
    have hd0 : d = .agg [y0.1, y1.1, y2.1, y3.1, y4.1, y5.1, y6.1, y7.1, y8.1, y9.1, y10.1, y11.1] := congrArg Prod.fst hxy
    subst hd0
    simp only [DataW.weights, Tryz.underlying45] at hw
    obtain ⟨n0, e0, _, w0⟩ := DataW.trod_int Tryz.underlying3 g0
    obtain ⟨n1, e1, _, w1⟩ := DataW.trod_int Tryz.underlying3 g1
    obtain ⟨n2, e2, _, w2⟩ := DataW.trod_int Tryz.underlying3 g2
    obtain ⟨n3, e3, _, w3⟩ := DataW.trod_int Tryz.underlying3 g3
    obtain ⟨n4, e4, _, w4⟩ := DataW.trod_int Tryz.underlying3 g4
    obtain ⟨s5, e5, _, _⟩ := DataW.trod_string Tryz.underlying9 g5
    obtain ⟨s11, e11, _, _⟩ := DataW.trod_string Tryz.underlying9 g11
    obtain ⟨mn, _, en, _⟩ := open_strs_v (d := y6.1) (p := y6.2) g6 (fun x hx => hw x (DataW.weights_mem_each (j := 6) rfl rfl _ hx)) 0
    obtain ⟨bs, hbs, _⟩ := open_ints_v (d := y7.1) (p := y7.2) g7 (fun x hx => hw x (DataW.weights_mem_each (j := 7) rfl rfl _ hx))
    obtain ⟨us, hus, hub, hnc⟩ := open_ints_v2 (d := y8.1) (p := y8.2) g8 (fun x hx => hw x (DataW.weights_mem_each (j := 8) rfl rfl _ hx))
    obtain ⟨ms, hms, hm1, hm2⟩ := open_marks_v (d := y9.1) (p := y9.2) g9 (fun x hx => hw x (DataW.weights_mem_each (j := 9) rfl rfl _ hx))
    obtain ⟨m0, m1, m2, m3, m4, m5, m6, hmm⟩ := open_mom_v (d := y10.1) (p := y10.2) rfl g10
    simp at e0 e1 e2 e3 e4 e5 e11 hmm
    obtain ⟨f0, f1, f2, f3, f4, f5, f6⟩ := hmm
    subst e0 e1 e2 e3 e4 e5 e11 f0 f1 f2 f3 f4 f5 f6
    have o9 : c9.oneCell' = true := by
      obtain ⟨a, c, e, _⟩ := hms.row
      rw [e]
      rfl
    have o6 : c6.oneCell' = true := by rw [en]; rfl
    refine ⟨⟨n0, n1, n2, n3, n4, s5, c6, c7, c8, c9, m0, m1, m2, m3, m4, m5, m6, s11⟩, us, ms, rfl, hus, hms, (wf_i64 w4).1, (wf_i64 w4).2, ?_, fun h0 b e => hub b h0 e, hm1, hm2, hnc⟩
    exact all_cons rfl (all_cons rfl (all_cons rfl (all_cons rfl (all_cons rfl (all_cons rfl (all_cons o6 (all_cons hbs.one (all_cons hus.one (all_cons o9 (all_cons rfl (all_cons rfl (all_cons rfl (all_cons rfl (all_cons rfl (all_cons rfl (all_cons rfl (all_cons rfl (fun v hv => by cases hv))))))))))))))))))
set_option maxRecDepth 100000 in
set_option maxHeartbeats 4000000 in
theorem open_step_v2 (hl : cs.length = 26) (hf : DataW.trod enc Tryz.prog W 0 (fun _ => true) true fuel 47 cs = some (d, p)) (hw : ∀ x ∈ d.weights Tryz.prog 47, x ≤ reachBytes) : ∃ s : ST, cs = stL s ∧ StOK W s ∧ NilCap s.ev.vu s.us := by
  obtain ⟨xs, k, hk, hxy, _, hxl, hg⟩ := DataW.trod_struct Tryz.underlying47 hf
  match xs, hxl, cs, hl with
  | [y0, y1, y2, y3, y4, y5, y6, y7, y8], _, [c0, c1, c2, c3, c4, c5, c6, c7, c8, c9, c10, c11, c12, c13, c14, c15, c16, c17, c18, c19, c20, c21, c22, c23, c24, c25], _ =>
    have g0 := hg 0 _ rfl
    have g1 := hg 1 _ rfl
    have g2 := hg 2 _ rfl
    have g3 := hg 3 _ rfl
    have g4 := hg 4 _ rfl
    have g5 := hg 5 _ rfl
    have g6 := hg 6 _ rfl
    have g7 := hg 7 _ rfl
    have g8 := hg 8 _ rfl
    simp [Tryz.cInt, Tryz.cBool, Tryz.cRanges, Tryz.cEv] at g0 g1 g2 g3 g4 g5 g6 g7 g8
    have hd0 : d = .agg [y0.1, y1.1, y2.1, y3.1, y4.1, y5.1, y6.1, y7.1, y8.1] := congrArg Prod.fst hxy
    subst hd0
    simp only [DataW.weights, Tryz.underlying47] at hw
    obtain ⟨n0, e0, _, w0⟩ := DataW.trod_int Tryz.underlying3 g0
    obtain ⟨n1, e1, _, w1⟩ := DataW.trod_int Tryz.underlying3 g1
    obtain ⟨n4, e4, _, w4⟩ := DataW.trod_int Tryz.underlying3 g4
    obtain ⟨n5, e5, _, w5⟩ := DataW.trod_int Tryz.underlying3 g5
    obtain ⟨n8, e8, _, w8⟩ := DataW.trod_int Tryz.underlying3 g8
    obtain ⟨b3, e3, _⟩ := DataW.trod_bool Tryz.underlying4 g3
    obtain ⟨b7, e7, _⟩ := DataW.trod_bool Tryz.underlying4 g7
    obtain ⟨e, us, ms, hev, hus, hms, hlo, hhi, hone, hub, hm1, hm2, hnc⟩ := open_ev_v2 (d := y2.1) (p := y2.2) rfl g2 (fun x hx => hw x (DataW.weights_mem_each (j := 2) rfl rfl _ hx))
    obtain ⟨st, hst⟩ := open_ranges_v (d := y6.1) (p := y6.2) g6 (fun x hx => hw x (DataW.weights_mem_each (j := 6) rfl rfl _ hx))
    simp at e0 e1 e3 e4 e5 e7 e8
    subst e0 e1 e3 e4 e5 e7 e8
    have o23 : c23.oneCell' = true := by
      rcases hst with ⟨_, a, c, e, _⟩ | ⟨b, o, c, e, _⟩ <;> (rw [e]; rfl)
    have hcs : ∀ (t : List Value), [c2, c3, c4, c5, c6, c7, c8, c9, c10, c11, c12, c13, c14, c15, c16, c17, c18, c19] ++ t = (evA e).toList ++ t := fun t => by rw [hev]
    have hst2 : ([.int .i64 n0, .int .i64 n1, c2, c3, c4, c5, c6, c7, c8, c9, c10, c11, c12, c13, c14, c15, c16, c17, c18, c19, .bool b3, .int .i64 n4, .int .i64 n5, c23, .bool b7, .int .i64 n8] : List Value) = stL ⟨n0, n1, e, b3, n4, n5, c23, b7, n8, us, ms, st⟩ := by
      unfold stL
      exact congrArg (fun l => Value.int .i64 n0 :: Value.int .i64 n1 :: l) (hcs [.bool b3, .int .i64 n4, .int .i64 n5, c23, .bool b7, .int .i64 n8])
    refine ⟨⟨n0, n1, e, b3, n4, n5, c23, b7, n8, us, ms, st⟩, hst2, ⟨hus, hms, hst, hlo, hhi, ?_, hub, hm1, hm2⟩, hnc⟩
    refine all_cons rfl (all_cons rfl fun v hv => ?_)
    rcases List.mem_append.1 hv with hv | hv
    · exact hone v (by rw [hev]; exact hv)
    · exact all_cons (l := [.int .i64 n4, .int .i64 n5, c23, .bool b7, .int .i64 n8]) rfl (all_cons rfl (all_cons rfl (all_cons o23 (all_cons rfl (all_cons rfl (fun v hv => by cases hv)))))) v hv
set_option maxRecDepth 100000 in
set_option maxHeartbeats 4000000 in
theorem open_mail_v2 (hl : cs.length = 13) (hf : DataW.trod enc Tryz.prog W 0 (fun _ => true) true fuel 88 cs = some (d, p)) (hw : ∀ x ∈ d.weights Tryz.prog 88, x ≤ reachBytes) : ∃ m : MLE, cs = (mlA m).toList ∧ ∃ fl, Txs W (.slice m.fa m.fn m.fc) fl ∧ fl.length ≤ 9223372036854775807 := by
  obtain ⟨xs, k, hk, hxy, _, hxl, hg⟩ := DataW.trod_struct Tryz.underlying88 hf
  match xs, hxl, cs, hl with
  | [y0, y1, y2, y3, y4, y5, y6], _, [c0, c1, c2, c3, c4, c5, c6, c7, c8, c9, c10, c11, c12], _ =>
    have g0 := hg 0 _ rfl
    have g1 := hg 1 _ rfl
    have g2 := hg 2 _ rfl
    have g3 := hg 3 _ rfl
    have g4 := hg 4 _ rfl
    have g5 := hg 5 _ rfl
    have g6 := hg 6 _ rfl
    simp [Tryz.cInt, Tryz.cBool, Tryz.cStr, Tryz.cStrs, Tryz.cMom] at g0 g1 g2 g3 g4 g5 g6
    have hd0 : d = .agg [y0.1, y1.1, y2.1, y3.1, y4.1, y5.1, y6.1] := congrArg Prod.fst hxy
    subst hd0
    simp only [DataW.weights, Tryz.underlying88] at hw
    obtain ⟨n0, e0, _, w0⟩ := DataW.trod_int Tryz.underlying3 g0
    obtain ⟨n1, e1, _, w1⟩ := DataW.trod_int Tryz.underlying3 g1
    obtain ⟨n2, e2, _, w2⟩ := DataW.trod_int Tryz.underlying3 g2
    obtain ⟨b4, e4, _⟩ := DataW.trod_bool Tryz.underlying4 g4
    obtain ⟨s6, e6, _, _⟩ := DataW.trod_string Tryz.underlying9 g6
    obtain ⟨mn, _, en, hfl, _⟩ := open_strs_v (d := y3.1) (p := y3.2) g3 (fun x hx => hw x (DataW.weights_mem_each (j := 3) rfl rfl _ hx)) 0
    obtain ⟨m0, m1, m2, m3, m4, m5, m6, hmm⟩ := open_mom_v (d := y5.1) (p := y5.2) rfl g5
    simp at e0 e1 e2 e4 e6 hmm
    obtain ⟨f0, f1, f2, f3, f4, f5, f6⟩ := hmm
    subst e0 e1 e2 e4 e6 f0 f1 f2 f3 f4 f5 f6
    exact ⟨⟨n0, n1, n2, mn.fa, mn.fl.length, mn.fc, b4, m0, m1, m2, m3, m4, m5, m6, s6⟩, by rw [en]; rfl, mn.fl, hfl.txs, by have := hfl.len; omega⟩
end
set_option maxRecDepth 100000 in
set_option maxHeartbeats 4000000 in
theorem open_steps_arg2 {H : Type} {enc : TypeId × Value → H} {W : World} {v : Value} {d : DataW H} {p : List MemPlace} {base : Nat} {ts : List TypeId} {ds : List (DataW H)} {j : Nat}
    (hok : Value.okWide Tryz.prog W .any base 22 v) (h0 : DataW.Trod enc Tryz.prog W 0 (fun _ => true) true 22 v d p)
    (hsz : (DataW.weightsEach Tryz.prog ts ds).all (· ≤ reachBytes) = true) (ht : ts[j]? = some 22) (hd : ds[j]? = some d) :
    ∃ S, StepsAt W v S ∧ ∀ s ∈ S, NilCap s.ev.vu s.us := by
  obtain ⟨ao0, len0, cap0, rfl⟩ := okWide_slice Tryz.underlying22 hok
  obtain ⟨fuel, hf0⟩ := h0
  have hf : DataW.trod enc Tryz.prog W 0 (fun _ => true) true fuel 22 [.slice ao0 len0 cap0] = some (d, p) := by simpa [Value.cells] using hf0
  have hw : ∀ x ∈ d.weights Tryz.prog 22, x ≤ reachBytes := fun x hx => by
    have := List.all_eq_true.1 hsz _ (DataW.weights_mem_each ht hd _ hx)
    simpa using this
  obtain ⟨l, ao, cap, e, hn, _, hb, hall⟩ := open_list (α := ST) 22 47 26 Tryz.underlying22 Tryz.cStep (by omega) (fun s cs => cs = stL s ∧ StOK W s ∧ NilCap s.ev.vu s.us) ST0 (fun cs d' p' n hl hf hw => open_step_v2 hl hf hw) hf hw
  rw [e]
  refine ⟨l, ⟨⟨ao, cap, rfl, fun h0 => ?_⟩, fun s hs => ?_⟩, fun s hs => ?_⟩
  · obtain ⟨b, off, rfl, hb'⟩ := hb h0
    refine ⟨b, off, rfl, hb', fun i hi j u hj => ?_⟩
    obtain ⟨cs, _, ⟨rfl, _⟩, hc⟩ := hall i hi
    exact hc b off rfl j u hj
  · obtain ⟨i, hi, rfl⟩ := List.mem_iff_getElem.1 hs
    obtain ⟨cs, _, ⟨_, h2, _⟩, _⟩ := hall i hi
    rw [List.getD_eq_getElem?_getD, List.getElem?_eq_getElem hi] at h2
    exact h2
  · obtain ⟨i, hi, rfl⟩ := List.mem_iff_getElem.1 hs
    obtain ⟨cs, _, ⟨_, _, h2⟩, _⟩ := hall i hi
    rw [List.getD_eq_getElem?_getD, List.getElem?_eq_getElem hi] at h2
    exact h2
set_option maxRecDepth 100000 in
set_option maxHeartbeats 4000000 in
theorem open_mails_arg2 {H : Type} {enc : TypeId × Value → H} {W : World} {v : Value} {d : DataW H} {p : List MemPlace} {base : Nat} {ts : List TypeId} {ds : List (DataW H)} {j : Nat}
    (hok : Value.okWide Tryz.prog W .any base 30 v) (h0 : DataW.Trod enc Tryz.prog W 0 (fun _ => true) true 30 v d p)
    (hsz : (DataW.weightsEach Tryz.prog ts ds).all (· ≤ reachBytes) = true) (ht : ts[j]? = some 30) (hd : ds[j]? = some d) :
    ∃ S, MailsAt W v S ∧ ∀ m ∈ S, ∃ fl, Txs W (.slice m.fa m.fn m.fc) fl ∧ fl.length ≤ 9223372036854775807 := by
  obtain ⟨ao0, len0, cap0, rfl⟩ := okWide_slice Tryz.underlying30 hok
  obtain ⟨fuel, hf0⟩ := h0
  have hf : DataW.trod enc Tryz.prog W 0 (fun _ => true) true fuel 30 [.slice ao0 len0 cap0] = some (d, p) := by simpa [Value.cells] using hf0
  have hw : ∀ x ∈ d.weights Tryz.prog 30, x ≤ reachBytes := fun x hx => by
    have := List.all_eq_true.1 hsz _ (DataW.weights_mem_each ht hd _ hx)
    simpa using this
  obtain ⟨l, ao, cap, e, hn, _, hb, hall⟩ := open_list (α := MLE) 30 88 13 Tryz.underlying30 Tryz.cMail (by omega) (fun s cs => cs = (mlA s).toList ∧ ∃ fl, Txs W (.slice s.fa s.fn s.fc) fl ∧ fl.length ≤ 9223372036854775807) ML0 (fun cs d' p' n hl hf hw => open_mail_v2 hl hf hw) hf hw
  rw [e]
  refine ⟨l, ⟨ao, cap, rfl, fun h0 => ?_⟩, fun m hm => ?_⟩
  ·
    obtain ⟨b, off, rfl, hb'⟩ := hb h0
    refine ⟨b, off, rfl, hb', fun i hi j u hj => ?_⟩
    obtain ⟨cs, _, ⟨rfl, _⟩, hc⟩ := hall i hi
    exact hc b off rfl j u (by rw [Array.getElem?_toList]; exact hj)
  · obtain ⟨i, hi, rfl⟩ := List.mem_iff_getElem.1 hm
    obtain ⟨cs, _, ⟨_, h2⟩, _⟩ := hall i hi
    rw [List.getD_eq_getElem?_getD, List.getElem?_eq_getElem hi] at h2
    exact h2
end Go.Proofs.YtflkhnmggmfhfaaGreat
