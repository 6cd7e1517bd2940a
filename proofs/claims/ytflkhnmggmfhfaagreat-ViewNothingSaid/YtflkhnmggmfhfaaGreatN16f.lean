/- What came in: mailboxes, mails, scripts. -/
import Derived.Test.YtflkhnmggmfhfaaGreatN16e
import Derived.Test.YtflkhnmggmfhfaaGreatLr
import Derived.Deep.Slices
namespace Go.Proofs.YtflkhnmggmfhfaaGreat
open Go.Shelf Go.ChangeShapes Go.WideShapes Go.ChangeAt Go.RowKit Go.Lib
open Go.ChangeMaps (open_string shut_string)

theorem Tryz.cInt : Tryz.prog.cellsOf 3 = 1 := by kernel_rfl
theorem Tryz.cBool : Tryz.prog.cellsOf 4 = 1 := by kernel_rfl
theorem Tryz.cStr : Tryz.prog.cellsOf 9 = 1 := by kernel_rfl
theorem Tryz.cStrs : Tryz.prog.cellsOf 41 = 1 := by kernel_rfl
theorem Tryz.cInts : Tryz.prog.cellsOf 26 = 1 := by kernel_rfl
theorem Tryz.cMarks : Tryz.prog.cellsOf 31 = 1 := by kernel_rfl
theorem Tryz.cRanges : Tryz.prog.cellsOf 33 = 1 := by kernel_rfl
theorem Tryz.cMark : Tryz.prog.cellsOf 58 = 2 := by kernel_rfl
theorem Tryz.cRange : Tryz.prog.cellsOf 90 = 2 := by kernel_rfl
theorem Tryz.cMom : Tryz.prog.cellsOf 43 = 7 := by kernel_rfl
theorem Tryz.cEv : Tryz.prog.cellsOf 45 = 18 := by kernel_rfl
theorem Tryz.cBox : Tryz.prog.cellsOf 54 = 8 := by kernel_rfl
theorem Tryz.cMail : Tryz.prog.cellsOf 88 = 13 := by kernel_rfl
theorem Tryz.cStep : Tryz.prog.cellsOf 47 = 26 := by kernel_rfl
theorem Tryz.bStr : Tryz.prog.bytesOf 9 = 16 := by kernel_rfl
theorem Tryz.bInt : Tryz.prog.bytesOf 3 = 8 := by kernel_rfl
theorem Tryz.bRange : Tryz.prog.bytesOf 90 = 16 := by kernel_rfl
theorem weightsAll_mem {H : Type} {P : Program} {t : TypeId} : ∀ {l : List (DataW H)} {d : DataW H} {x : Nat}, d ∈ l → x ∈ d.weights P t → x ∈ DataW.weightsAll P t l
  | e :: l, d, x, hd, hx => by
    simp only [DataW.weightsAll, List.mem_append]
    rcases List.mem_cons.1 hd with rfl | hd
    · exact .inl hx
    · exact .inr (weightsAll_mem hd hx)
set_option maxRecDepth 100000 in
/-- A list that came in, thing by thing. -/
theorem open_list {H : Type} {enc : TypeId × Value → H} {W : World} {v : Value} {d : DataW H} {p : List MemPlace} {fuel : Nat} {α : Type} (t e : TypeId) (c : Nat) (ht : Tryz.prog.underlying t = some (.slice e)) (hc : Tryz.prog.cellsOf e = c) (hc0 : 0 < c) (Pr : α → List Value → Prop) (x0 : α)
    (hop : ∀ (cs : List Value) (d' : DataW H) (p' : List MemPlace) (n : Nat), cs.length = c → DataW.trod enc Tryz.prog W 0 (fun _ => true) true n e cs = some (d', p') → (∀ x ∈ d'.weights Tryz.prog e, x ≤ reachBytes) → ∃ x, Pr x cs)
    (hf : DataW.trod enc Tryz.prog W 0 (fun _ => true) true fuel t [v] = some (d, p)) (hw : ∀ x ∈ d.weights Tryz.prog t, x ≤ reachBytes) :
    ∃ (l : List α) (ao : Option Addr) (cap : Nat), v = .slice ao l.length cap ∧ (ao = none → l.length = 0 ∧ cap = 0) ∧ l.length * Tryz.prog.bytesOf e ≤ reachBytes ∧ (0 < l.length → ∃ b off, ao = some ⟨b, off, none⟩ ∧ b < W.heap.size) ∧ ∀ i, i < l.length → ∃ cs, cs.length = c ∧ Pr (l.getD i x0) cs ∧ ∀ b off, ao = some ⟨b, off, none⟩ → ∀ j u, cs[j]? = some u → W.cell? ⟨b, off + i * c + j, none⟩ = some u := by
  rcases Deep.open_slice ht hf with ⟨hcs, hx⟩ | ⟨a, len, cap, m, n, D, Pl, hcs, _, hl, hm, hmm, hx, hall⟩
  · simp at hcs
    subst hcs
    exact ⟨[], none, 0, rfl, fun _ => ⟨rfl, rfl⟩, by simp, fun h => by simp at h, fun i hi => by simp at hi⟩
  · simp at hcs
    subst hcs
    simp only [if_true] at hmm
    subst hmm
    have hd0 : d = .slice ((List.range len).map D) ((List.range (m - len)).map fun j => D (len + j)) := congrArg Prod.fst hx
    subst hd0
    have hw1 := hw _ (by simp only [DataW.weights, ht, List.length_map, List.length_range]; exact List.mem_cons_self)
    have hwl : len * Tryz.prog.bytesOf e ≤ reachBytes := Nat.le_trans (Nat.mul_le_mul_right _ (by omega)) hw1
    have key : ∀ i, i < len → ∃ x : α, ∃ cs, cs.length = c ∧ Pr x cs ∧ ∀ j u, cs[j]? = some u → W.cell? (a.add (i * c + j)) = some u := by
      intro i hi
      obtain ⟨cs', h1, h2⟩ := hall i (by omega)
      rw [hc] at h1
      obtain ⟨_, hlen, hcc⟩ := World.cells?_some h1
      obtain ⟨x, hx⟩ := hop cs' _ _ _ hlen h2 (fun x hx => hw x (by
        simp only [DataW.weights, ht]
        exact List.mem_cons_of_mem _ (List.mem_append_left _ (weightsAll_mem (d := D i) (List.mem_map.2 ⟨i, List.mem_range.2 hi, rfl⟩) hx))))
      refine ⟨x, cs', hlen, hx, fun j u hj => ?_⟩
      have hjl := (List.getElem?_eq_some_iff.1 hj).1
      have := hcc j (by omega)
      rw [Deep.add_add] at this
      rw [this]; exact hj
    haveI : Inhabited α := ⟨x0⟩
    obtain ⟨f, hf'⟩ := Deep.choose_lt key
    obtain ⟨b, off, spot⟩ := a
    have hsp : 0 < len → spot = none ∧ b < W.heap.size := fun h0 => by
      obtain ⟨cs, hlen, _, hcell⟩ := hf' 0 h0
      have hq := hcell 0 (cs[0]'(by omega)) (List.getElem?_eq_getElem (by omega))
      have hs : spot = none := by simpa [Addr.add] using World.cell?_spot hq
      subst hs
      have := World.block_lt_of_cell? W _ hq
      rw [Addr.add_lit] at this
      exact ⟨rfl, this⟩
    refine ⟨(List.range len).map f, some ⟨b, off, spot⟩, m, by simp, fun h => (by cases h), by simpa using hwl, fun h => ?_, fun i hi => ?_⟩
    · obtain ⟨rfl, hb⟩ := hsp (by simpa using h)
      exact ⟨b, off, rfl, hb⟩
    · have hi' : i < len := by simpa using hi
      obtain ⟨cs, hlen, hp, hcell⟩ := hf' i hi'
      have e1 : ((List.range len).map f).getD i x0 = f i := by simp [hi']
      rw [e1]
      refine ⟨cs, hlen, hp, fun b' off' e2 j u hj => ?_⟩
      obtain ⟨e3, e4, e5⟩ : b = b' ∧ off = off' ∧ spot = none := by
        have := Option.some.inj e2
        exact ⟨congrArg Addr.block this, congrArg Addr.off this, congrArg Addr.spot this⟩
      subst e3 e4 e5
      have := hcell j u hj
      rw [Addr.add_lit] at this
      rw [Nat.add_assoc]; exact this
section
variable {H : Type} {enc : TypeId × Value → H} {W : World} {v : Value} {d : DataW H} {p : List MemPlace} {fuel : Nat}
theorem open_ints_v (hf : DataW.trod enc Tryz.prog W 0 (fun _ => true) true fuel 26 [v] = some (d, p)) (hw : ∀ x ∈ d.weights Tryz.prog 26, x ≤ reachBytes) :
    ∃ l, Nms W v l ∧ ∀ b, 0 < l.length → v.ownBlock = some b → b < W.heap.size := by
  obtain ⟨l, ao, cap, rfl, _, _, hb, hall⟩ := open_list (α := Int) 26 3 1 Tryz.underlying26 Tryz.cInt (by omega) (fun x cs => cs = [.int .i64 x]) 0 (fun cs d' p' n hl hf _ => by
    match cs, hl with
    | [c0], _ =>
      obtain ⟨n0, e0, _, _⟩ := DataW.trod_int Tryz.underlying3 hf
      simp at e0
      subst e0
      exact ⟨n0, rfl⟩) hf hw
  refine ⟨l, ⟨ao, cap, rfl, fun h0 => ?_⟩, fun b h0 e => ?_⟩
  · obtain ⟨b, off, rfl, hb'⟩ := hb h0
    refine ⟨b, off, rfl, hb', fun i hi => ?_⟩
    obtain ⟨cs, _, rfl, hc⟩ := hall i hi
    have := hc b off rfl 0 _ rfl
    simpa using this
  · obtain ⟨b', off, rfl, hb'⟩ := hb h0
    cases e
    exact hb'
theorem open_strs_v (hf : DataW.trod enc Tryz.prog W 0 (fun _ => true) true fuel 41 [v] = some (d, p)) (hw : ∀ x ∈ d.weights Tryz.prog 41, x ≤ reachBytes) (u : Int) :
    ∃ m : ME, m.uid = u ∧ v = m.fv ∧ FlAt W m ∧ (m.fl ≠ [] → ∀ b, m.fv.ownBlock = some b → b < W.heap.size) := by
  obtain ⟨l, ao, cap, rfl, hn, hby, hb, hall⟩ := open_list (α := ByteArray) 41 9 1 Tryz.underlying41 Tryz.cStr (by omega) (fun x cs => cs = [.string x]) ByteArray.empty (fun cs d' p' n hl hf _ => by
    match cs, hl with
    | [c0], _ =>
      obtain ⟨n0, e0, _, _⟩ := DataW.trod_string Tryz.underlying9 hf
      simp at e0
      subst e0
      exact ⟨n0, rfl⟩) hf hw
  rw [Tryz.bStr] at hby
  unfold reachBytes at hby
  refine ⟨⟨u, ao, cap, l⟩, rfl, rfl, ⟨fun e => ⟨List.eq_nil_of_length_eq_zero (hn e).1, (hn e).2⟩, by show l.length ≤ _; omega, fun hl => ?_⟩, fun hl b e => ?_⟩
  · obtain ⟨b, off, rfl, hb'⟩ := hb (List.length_pos_iff.2 hl)
    refine ⟨b, off, rfl, hb', fun i hi => ?_⟩
    obtain ⟨cs, _, rfl, hc⟩ := hall i hi
    have := hc b off rfl 0 _ rfl
    simpa using this
  · obtain ⟨b', off, rfl, hb'⟩ := hb (List.length_pos_iff.2 hl)
    simp [ME.fv, Value.ownBlock] at e
    omega
set_option maxRecDepth 100000 in
theorem open_ranges_v (hf : DataW.trod enc Tryz.prog W 0 (fun _ => true) true fuel 33 [v] = some (d, p)) (hw : ∀ x ∈ d.weights Tryz.prog 33, x ≤ reachBytes) : ∃ l, Rgs W v l := by
  obtain ⟨l, ao, cap, rfl, hn, hby, hb, hall⟩ := open_list (α := Rg) 33 90 2 Tryz.underlying33 Tryz.cRange (by omega) (fun x cs => cs = [.int .i64 x.1, .int .i64 x.2]) (0, 0) (fun cs d' p' n hl hf _ => by
    obtain ⟨xs, k, hk, hxy, _, hxl, hg⟩ := DataW.trod_struct Tryz.underlying90 hf
    match xs, hxl, cs, hl with
    | [y0, y1], _, [c0, c1], _ =>
      have g0 := hg 0 _ rfl
      have g1 := hg 1 _ rfl
      simp [Tryz.cInt] at g0 g1
      obtain ⟨n0, e0, _, _⟩ := DataW.trod_int Tryz.underlying3 g0
      obtain ⟨n1, e1, _, _⟩ := DataW.trod_int Tryz.underlying3 g1
      simp at e0 e1
      subst e0 e1
      exact ⟨(n0, n1), rfl⟩) hf hw
  rw [Tryz.bRange] at hby
  unfold reachBytes at hby
  refine ⟨l, ?_⟩
  by_cases h0 : l = []
  · subst h0
    exact .inl ⟨rfl, ao, cap, rfl, fun e => (hn e).2⟩
  · obtain ⟨b, off, rfl, hb'⟩ := hb (List.length_pos_iff.2 h0)
    refine .inr ⟨b, off, cap, rfl, by omega, hb', fun i hi => ?_⟩
    obtain ⟨cs, _, rfl, hc⟩ := hall i hi
    exact ⟨by simpa using hc b off rfl 0 _ rfl, by simpa using hc b off rfl 1 _ rfl⟩
set_option maxRecDepth 100000 in
theorem open_marks_v (hf : DataW.trod enc Tryz.prog W 0 (fun _ => true) true fuel 31 [v] = some (d, p)) (hw : ∀ x ∈ d.weights Tryz.prog 31, x ≤ reachBytes) :
    ∃ ms, MksAt W v ms ∧ (0 < ms.length → ∀ b, v.ownBlock = some b → b < W.heap.size) ∧ ∀ m ∈ ms, m.fl ≠ [] → ∀ b, m.fv.ownBlock = some b → b < W.heap.size := by
  obtain ⟨l, ao, cap, rfl, hn, _, hb, hall⟩ := open_list (α := ME) 31 58 2 Tryz.underlying31 Tryz.cMark (by omega) (fun m cs => cs = [.int .i64 m.uid, m.fv] ∧ FlAt W m ∧ (m.fl ≠ [] → ∀ b, m.fv.ownBlock = some b → b < W.heap.size)) ⟨0, none, 0, []⟩ (fun cs d' p' n hl hf hw => by
    obtain ⟨xs, k, hk, hxy, _, hxl, hg⟩ := DataW.trod_struct Tryz.underlying58 hf
    match xs, hxl, cs, hl with
    | [y0, y1], _, [c0, c1], _ =>
      have g0 := hg 0 _ rfl
      have g1 := hg 1 _ rfl
      simp [Tryz.cInt, Tryz.cStrs] at g0 g1
      have hd0 : d' = .agg [y0.1, y1.1] := congrArg Prod.fst hxy
      subst hd0
      simp only [DataW.weights, Tryz.underlying58] at hw
      obtain ⟨n0, e0, _, _⟩ := DataW.trod_int Tryz.underlying3 g0
      obtain ⟨m, hmu, rfl, hm, hmb⟩ := open_strs_v (d := y1.1) (p := y1.2) g1 (fun x hx => hw x (DataW.weights_mem_each (j := 1) rfl rfl _ hx)) n0
      simp at e0
      subst e0
      exact ⟨m, by rw [hmu], hm, hmb⟩) hf hw
  refine ⟨l, ⟨⟨ao, cap, rfl, fun h0 => ?_⟩, fun m hm => ?_⟩, fun h0 b e => ?_, fun m hm => ?_⟩
  · obtain ⟨b, off, rfl, hb'⟩ := hb h0
    refine ⟨b, off, rfl, hb', fun i hi => ?_⟩
    obtain ⟨cs, _, ⟨rfl, _⟩, hc⟩ := hall i hi
    exact ⟨by simpa using hc b off rfl 0 _ rfl, by simpa using hc b off rfl 1 _ rfl⟩
  · obtain ⟨i, hi, rfl⟩ := List.mem_iff_getElem.1 hm
    obtain ⟨cs, _, ⟨_, h2, _⟩, _⟩ := hall i hi
    rw [List.getD_eq_getElem?_getD, List.getElem?_eq_getElem hi] at h2
    exact h2
  · obtain ⟨b', off, rfl, hb'⟩ := hb h0
    cases e
    exact hb'
  · obtain ⟨i, hi, rfl⟩ := List.mem_iff_getElem.1 hm
    obtain ⟨cs, _, ⟨_, _, h3⟩, _⟩ := hall i hi
    rw [List.getD_eq_getElem?_getD, List.getElem?_eq_getElem hi] at h3
    exact h3
end
end Go.Proofs.YtflkhnmggmfhfaaGreat

/- What came in: events, steps, mails, a mailbox. -/
namespace Go.Proofs.YtflkhnmggmfhfaaGreat
open Go.Shelf Go.ChangeShapes Go.WideShapes Go.ChangeAt Go.RowKit Go.Lib
open Go.ChangeMaps (open_string shut_string)

theorem all_cons {u : Value} {l : List Value} (h : u.oneCell' = true) (hl : ∀ v ∈ l, v.oneCell' = true) : ∀ v ∈ u :: l, v.oneCell' = true := by
  intro v hv
  rcases List.mem_cons.1 hv with rfl | hv
  · exact h
  · exact hl v hv
section
variable {H : Type} {enc : TypeId × Value → H} {W : World} {d : DataW H} {p : List MemPlace} {fuel : Nat} {cs : List Value}
theorem Nms.one {W : World} {v : Value} {l : List Int} (h : Nms W v l) : v.oneCell' = true := by
  obtain ⟨a, c, rfl, _⟩ := h
  rfl
set_option maxRecDepth 100000 in
set_option maxHeartbeats 2000000 in
theorem open_mom_v (hl : cs.length = 7) (hf : DataW.trod enc Tryz.prog W 0 (fun _ => true) true fuel 43 cs = some (d, p)) : ∃ m0 m1 m2 m3 m4 m5 m6, cs = [.int .i64 m0, .int .i64 m1, .int .i64 m2, .int .i64 m3, .int .i64 m4, .int .i64 m5, .int .i64 m6] := by
  obtain ⟨zs, k2, _, _, _, hzl, hz⟩ := DataW.trod_struct Tryz.underlying43 hf
  match zs, hzl, cs, hl with
  | [z0, z1, z2, z3, z4, z5, z6], _, [c0, c1, c2, c3, c4, c5, c6], _ =>
    have g0 := hz 0 _ rfl
    have g1 := hz 1 _ rfl
    have g2 := hz 2 _ rfl
    have g3 := hz 3 _ rfl
    have g4 := hz 4 _ rfl
    have g5 := hz 5 _ rfl
    have g6 := hz 6 _ rfl
    simp [Tryz.cInt] at g0 g1 g2 g3 g4 g5 g6
    obtain ⟨m0, e0, _, w0⟩ := DataW.trod_int Tryz.underlying3 g0
    obtain ⟨m1, e1, _, w1⟩ := DataW.trod_int Tryz.underlying3 g1
    obtain ⟨m2, e2, _, w2⟩ := DataW.trod_int Tryz.underlying3 g2
    obtain ⟨m3, e3, _, w3⟩ := DataW.trod_int Tryz.underlying3 g3
    obtain ⟨m4, e4, _, w4⟩ := DataW.trod_int Tryz.underlying3 g4
    obtain ⟨m5, e5, _, w5⟩ := DataW.trod_int Tryz.underlying3 g5
    obtain ⟨m6, e6, _, w6⟩ := DataW.trod_int Tryz.underlying3 g6
    simp at e0 e1 e2 e3 e4 e5 e6
    subst e0 e1 e2 e3 e4 e5 e6
    exact ⟨_, _, _, _, _, _, _, rfl⟩
set_option maxRecDepth 100000 in
set_option maxHeartbeats 4000000 in
theorem open_ev_v (hl : cs.length = 18) (hf : DataW.trod enc Tryz.prog W 0 (fun _ => true) true fuel 45 cs = some (d, p)) (hw : ∀ x ∈ d.weights Tryz.prog 45, x ≤ reachBytes) :
    ∃ (e : EV) (us : List Int) (ms : List ME), cs = (evA e).toList ∧ Nms W e.vu us ∧ MksAt W e.vm ms ∧ -9223372036854775808 ≤ e.fi ∧ e.fi ≤ 9223372036854775807 ∧ (∀ u ∈ cs, u.oneCell' = true) ∧ (0 < us.length → ∀ b, e.vu.ownBlock = some b → b < W.heap.size) ∧ (0 < ms.length → ∀ b, e.vm.ownBlock = some b → b < W.heap.size) ∧ ∀ m ∈ ms, m.fl ≠ [] → ∀ b, m.fv.ownBlock = some b → b < W.heap.size := by
  obtain ⟨xs, k, hk, hxy, _, hxl, hg⟩ := DataW.trod_struct Tryz.underlying45 hf
  match xs, hxl, cs, hl with
  | [y0, y1, y2, y3, y4, y5, y6, y7, y8, y9, y10, y11], _, [c0, c1, c2, c3, c4, c5, c6, c7, c8, c9, c10, c11, c12, c13, c14, c15, c16, c17], _ =>
    have g0 := hg 0 _ rfl
    have g1 := hg 1 _ rfl
    have g2 := hg 2 _ rfl
    have g3 := hg 3 _ rfl
    have g4 := hg 4 _ rfl
    have g5 := hg 5 _ rfl
    have g6 := hg 6 _ rfl
    have g7 := hg 7 _ rfl
    have g8 := hg 8 _ rfl
    have g9 := hg 9 _ rfl
    have g10 := hg 10 _ rfl
    have g11 := hg 11 _ rfl
    simp [Tryz.cInt, Tryz.cStr, Tryz.cStrs, Tryz.cInts, Tryz.cMarks, Tryz.cMom] at g0 g1 g2 g3 g4 g5 g6 g7 g8 g9 g10 g11
    have hd0 : d = .agg [y0.1, y1.1, y2.1, y3.1, y4.1, y5.1, y6.1, y7.1, y8.1, y9.1, y10.1, y11.1] := congrArg Prod.fst hxy
    subst hd0
    simp only [DataW.weights, Tryz.underlying45] at hw
    obtain ⟨n0, e0, _, w0⟩ := DataW.trod_int Tryz.underlying3 g0
    obtain ⟨n1, e1, _, w1⟩ := DataW.trod_int Tryz.underlying3 g1
    obtain ⟨n2, e2, _, w2⟩ := DataW.trod_int Tryz.underlying3 g2
    obtain ⟨n3, e3, _, w3⟩ := DataW.trod_int Tryz.underlying3 g3
    obtain ⟨n4, e4, _, w4⟩ := DataW.trod_int Tryz.underlying3 g4
    obtain ⟨s5, e5, _, _⟩ := DataW.trod_string Tryz.underlying9 g5
    obtain ⟨s11, e11, _, _⟩ := DataW.trod_string Tryz.underlying9 g11
    obtain ⟨mn, _, en, _⟩ := open_strs_v (d := y6.1) (p := y6.2) g6 (fun x hx => hw x (DataW.weights_mem_each (j := 6) rfl rfl _ hx)) 0
    obtain ⟨bs, hbs, _⟩ := open_ints_v (d := y7.1) (p := y7.2) g7 (fun x hx => hw x (DataW.weights_mem_each (j := 7) rfl rfl _ hx))
    obtain ⟨us, hus, hub⟩ := open_ints_v (d := y8.1) (p := y8.2) g8 (fun x hx => hw x (DataW.weights_mem_each (j := 8) rfl rfl _ hx))
    obtain ⟨ms, hms, hm1, hm2⟩ := open_marks_v (d := y9.1) (p := y9.2) g9 (fun x hx => hw x (DataW.weights_mem_each (j := 9) rfl rfl _ hx))
    obtain ⟨m0, m1, m2, m3, m4, m5, m6, hmm⟩ := open_mom_v (d := y10.1) (p := y10.2) rfl g10
    simp at e0 e1 e2 e3 e4 e5 e11 hmm
    obtain ⟨f0, f1, f2, f3, f4, f5, f6⟩ := hmm
    subst e0 e1 e2 e3 e4 e5 e11 f0 f1 f2 f3 f4 f5 f6
    have o9 : c9.oneCell' = true := by
      obtain ⟨a, c, e, _⟩ := hms.row
      rw [e]
      rfl
    have o6 : c6.oneCell' = true := by rw [en]; rfl
    refine ⟨⟨n0, n1, n2, n3, n4, s5, c6, c7, c8, c9, m0, m1, m2, m3, m4, m5, m6, s11⟩, us, ms, rfl, hus, hms, (wf_i64 w4).1, (wf_i64 w4).2, ?_, fun h0 b e => hub b h0 e, hm1, hm2⟩
    exact all_cons rfl (all_cons rfl (all_cons rfl (all_cons rfl (all_cons rfl (all_cons rfl (all_cons o6 (all_cons hbs.one (all_cons hus.one (all_cons o9 (all_cons rfl (all_cons rfl (all_cons rfl (all_cons rfl (all_cons rfl (all_cons rfl (all_cons rfl (all_cons rfl (fun v hv => by cases hv))))))))))))))))))
set_option maxRecDepth 100000 in
set_option maxHeartbeats 4000000 in
theorem open_step_v (hl : cs.length = 26) (hf : DataW.trod enc Tryz.prog W 0 (fun _ => true) true fuel 47 cs = some (d, p)) (hw : ∀ x ∈ d.weights Tryz.prog 47, x ≤ reachBytes) : ∃ s : ST, cs = stL s ∧ StOK W s := by
  obtain ⟨xs, k, hk, hxy, _, hxl, hg⟩ := DataW.trod_struct Tryz.underlying47 hf
  match xs, hxl, cs, hl with
  | [y0, y1, y2, y3, y4, y5, y6, y7, y8], _, [c0, c1, c2, c3, c4, c5, c6, c7, c8, c9, c10, c11, c12, c13, c14, c15, c16, c17, c18, c19, c20, c21, c22, c23, c24, c25], _ =>
    have g0 := hg 0 _ rfl
    have g1 := hg 1 _ rfl
    have g2 := hg 2 _ rfl
    have g3 := hg 3 _ rfl
    have g4 := hg 4 _ rfl
    have g5 := hg 5 _ rfl
    have g6 := hg 6 _ rfl
    have g7 := hg 7 _ rfl
    have g8 := hg 8 _ rfl
    simp [Tryz.cInt, Tryz.cBool, Tryz.cRanges, Tryz.cEv] at g0 g1 g2 g3 g4 g5 g6 g7 g8
    have hd0 : d = .agg [y0.1, y1.1, y2.1, y3.1, y4.1, y5.1, y6.1, y7.1, y8.1] := congrArg Prod.fst hxy
    subst hd0
    simp only [DataW.weights, Tryz.underlying47] at hw
    obtain ⟨n0, e0, _, w0⟩ := DataW.trod_int Tryz.underlying3 g0
    obtain ⟨n1, e1, _, w1⟩ := DataW.trod_int Tryz.underlying3 g1
    obtain ⟨n4, e4, _, w4⟩ := DataW.trod_int Tryz.underlying3 g4
    obtain ⟨n5, e5, _, w5⟩ := DataW.trod_int Tryz.underlying3 g5
    obtain ⟨n8, e8, _, w8⟩ := DataW.trod_int Tryz.underlying3 g8
    obtain ⟨b3, e3, _⟩ := DataW.trod_bool Tryz.underlying4 g3
    obtain ⟨b7, e7, _⟩ := DataW.trod_bool Tryz.underlying4 g7
    obtain ⟨e, us, ms, hev, hus, hms, hlo, hhi, hone, hub, hm1, hm2⟩ := open_ev_v (d := y2.1) (p := y2.2) rfl g2 (fun x hx => hw x (DataW.weights_mem_each (j := 2) rfl rfl _ hx))
    obtain ⟨st, hst⟩ := open_ranges_v (d := y6.1) (p := y6.2) g6 (fun x hx => hw x (DataW.weights_mem_each (j := 6) rfl rfl _ hx))
    simp at e0 e1 e3 e4 e5 e7 e8
    subst e0 e1 e3 e4 e5 e7 e8
    have o23 : c23.oneCell' = true := by
      rcases hst with ⟨_, a, c, e, _⟩ | ⟨b, o, c, e, _⟩ <;> (rw [e]; rfl)
    have hcs : ∀ (t : List Value), [c2, c3, c4, c5, c6, c7, c8, c9, c10, c11, c12, c13, c14, c15, c16, c17, c18, c19] ++ t = (evA e).toList ++ t := fun t => by rw [hev]
    have hst2 : ([.int .i64 n0, .int .i64 n1, c2, c3, c4, c5, c6, c7, c8, c9, c10, c11, c12, c13, c14, c15, c16, c17, c18, c19, .bool b3, .int .i64 n4, .int .i64 n5, c23, .bool b7, .int .i64 n8] : List Value) = stL ⟨n0, n1, e, b3, n4, n5, c23, b7, n8, us, ms, st⟩ := by
      unfold stL
      exact congrArg (fun l => Value.int .i64 n0 :: Value.int .i64 n1 :: l) (hcs [.bool b3, .int .i64 n4, .int .i64 n5, c23, .bool b7, .int .i64 n8])
    refine ⟨⟨n0, n1, e, b3, n4, n5, c23, b7, n8, us, ms, st⟩, hst2, hus, hms, hst, hlo, hhi, ?_, hub, hm1, hm2⟩
    refine all_cons rfl (all_cons rfl fun v hv => ?_)
    rcases List.mem_append.1 hv with hv | hv
    · exact hone v (by rw [hev]; exact hv)
    · exact all_cons (l := [.int .i64 n4, .int .i64 n5, c23, .bool b7, .int .i64 n8]) rfl (all_cons rfl (all_cons rfl (all_cons o23 (all_cons rfl (all_cons rfl (fun v hv => by cases hv)))))) v hv
set_option maxRecDepth 100000 in
set_option maxHeartbeats 4000000 in
theorem open_mail_v (hl : cs.length = 13) (hf : DataW.trod enc Tryz.prog W 0 (fun _ => true) true fuel 88 cs = some (d, p)) (hw : ∀ x ∈ d.weights Tryz.prog 88, x ≤ reachBytes) : ∃ m : MLE, cs = (mlA m).toList := by
  obtain ⟨xs, k, hk, hxy, _, hxl, hg⟩ := DataW.trod_struct Tryz.underlying88 hf
  match xs, hxl, cs, hl with
  | [y0, y1, y2, y3, y4, y5, y6], _, [c0, c1, c2, c3, c4, c5, c6, c7, c8, c9, c10, c11, c12], _ =>
    have g0 := hg 0 _ rfl
    have g1 := hg 1 _ rfl
    have g2 := hg 2 _ rfl
    have g3 := hg 3 _ rfl
    have g4 := hg 4 _ rfl
    have g5 := hg 5 _ rfl
    have g6 := hg 6 _ rfl
    simp [Tryz.cInt, Tryz.cBool, Tryz.cStr, Tryz.cStrs, Tryz.cMom] at g0 g1 g2 g3 g4 g5 g6
    have hd0 : d = .agg [y0.1, y1.1, y2.1, y3.1, y4.1, y5.1, y6.1] := congrArg Prod.fst hxy
    subst hd0
    simp only [DataW.weights, Tryz.underlying88] at hw
    obtain ⟨n0, e0, _, w0⟩ := DataW.trod_int Tryz.underlying3 g0
    obtain ⟨n1, e1, _, w1⟩ := DataW.trod_int Tryz.underlying3 g1
    obtain ⟨n2, e2, _, w2⟩ := DataW.trod_int Tryz.underlying3 g2
    obtain ⟨b4, e4, _⟩ := DataW.trod_bool Tryz.underlying4 g4
    obtain ⟨s6, e6, _, _⟩ := DataW.trod_string Tryz.underlying9 g6
    obtain ⟨mn, _, en, _⟩ := open_strs_v (d := y3.1) (p := y3.2) g3 (fun x hx => hw x (DataW.weights_mem_each (j := 3) rfl rfl _ hx)) 0
    obtain ⟨m0, m1, m2, m3, m4, m5, m6, hmm⟩ := open_mom_v (d := y5.1) (p := y5.2) rfl g5
    simp at e0 e1 e2 e4 e6 hmm
    obtain ⟨f0, f1, f2, f3, f4, f5, f6⟩ := hmm
    subst e0 e1 e2 e4 e6 f0 f1 f2 f3 f4 f5 f6
    exact ⟨⟨n0, n1, n2, mn.fa, mn.fl.length, mn.fc, b4, m0, m1, m2, m3, m4, m5, m6, s6⟩, by rw [en]; rfl⟩
end
set_option maxRecDepth 100000 in
theorem open_steps_arg {H : Type} {enc : TypeId × Value → H} {W : World} {v : Value} {d : DataW H} {p : List MemPlace} {base : Nat} {ts : List TypeId} {ds : List (DataW H)} {j : Nat}
    (hok : Value.okWide Tryz.prog W .any base 22 v) (h0 : DataW.Trod enc Tryz.prog W 0 (fun _ => true) true 22 v d p)
    (hsz : (DataW.weightsEach Tryz.prog ts ds).all (· ≤ reachBytes) = true) (ht : ts[j]? = some 22) (hd : ds[j]? = some d) :
    ∃ S, StepsAt W v S := by
  obtain ⟨ao0, len0, cap0, rfl⟩ := okWide_slice Tryz.underlying22 hok
  obtain ⟨fuel, hf0⟩ := h0
  have hf : DataW.trod enc Tryz.prog W 0 (fun _ => true) true fuel 22 [.slice ao0 len0 cap0] = some (d, p) := by simpa [Value.cells] using hf0
  have hw : ∀ x ∈ d.weights Tryz.prog 22, x ≤ reachBytes := fun x hx => by
    have := List.all_eq_true.1 hsz _ (DataW.weights_mem_each ht hd _ hx)
    simpa using this
  obtain ⟨l, ao, cap, e, hn, _, hb, hall⟩ := open_list (α := ST) 22 47 26 Tryz.underlying22 Tryz.cStep (by omega) (fun s cs => cs = stL s ∧ StOK W s) ST0 (fun cs d' p' n hl hf hw => open_step_v hl hf hw) hf hw
  rw [e]
  refine ⟨l, ⟨ao, cap, rfl, fun h0 => ?_⟩, fun s hs => ?_⟩
  · obtain ⟨b, off, rfl, hb'⟩ := hb h0
    refine ⟨b, off, rfl, hb', fun i hi j u hj => ?_⟩
    obtain ⟨cs, _, ⟨rfl, _⟩, hc⟩ := hall i hi
    exact hc b off rfl j u hj
  · obtain ⟨i, hi, rfl⟩ := List.mem_iff_getElem.1 hs
    obtain ⟨cs, _, ⟨_, h2⟩, _⟩ := hall i hi
    rw [List.getD_eq_getElem?_getD, List.getElem?_eq_getElem hi] at h2
    exact h2
set_option maxRecDepth 100000 in
theorem open_mails_arg {H : Type} {enc : TypeId × Value → H} {W : World} {v : Value} {d : DataW H} {p : List MemPlace} {base : Nat} {ts : List TypeId} {ds : List (DataW H)} {j : Nat}
    (hok : Value.okWide Tryz.prog W .any base 30 v) (h0 : DataW.Trod enc Tryz.prog W 0 (fun _ => true) true 30 v d p)
    (hsz : (DataW.weightsEach Tryz.prog ts ds).all (· ≤ reachBytes) = true) (ht : ts[j]? = some 30) (hd : ds[j]? = some d) :
    ∃ S, MailsAt W v S := by
  obtain ⟨ao0, len0, cap0, rfl⟩ := okWide_slice Tryz.underlying30 hok
  obtain ⟨fuel, hf0⟩ := h0
  have hf : DataW.trod enc Tryz.prog W 0 (fun _ => true) true fuel 30 [.slice ao0 len0 cap0] = some (d, p) := by simpa [Value.cells] using hf0
  have hw : ∀ x ∈ d.weights Tryz.prog 30, x ≤ reachBytes := fun x hx => by
    have := List.all_eq_true.1 hsz _ (DataW.weights_mem_each ht hd _ hx)
    simpa using this
  obtain ⟨l, ao, cap, e, hn, _, hb, hall⟩ := open_list (α := MLE) 30 88 13 Tryz.underlying30 Tryz.cMail (by omega) (fun s cs => cs = (mlA s).toList) ML0 (fun cs d' p' n hl hf hw => open_mail_v hl hf hw) hf hw
  rw [e]
  refine ⟨l, ao, cap, rfl, fun h0 => ?_⟩
  obtain ⟨b, off, rfl, hb'⟩ := hb h0
  refine ⟨b, off, rfl, hb', fun i hi j u hj => ?_⟩
  obtain ⟨cs, _, rfl, hc⟩ := hall i hi
  exact hc b off rfl j u (by rw [Array.getElem?_toList]; exact hj)
set_option maxRecDepth 100000 in
set_option maxHeartbeats 4000000 in
theorem open_box_arg {H : Type} {enc : TypeId × Value → H} {W : World} {v : Value} {d : DataW H} {p : List MemPlace} {base : Nat}
    (hok : Value.okWide Tryz.prog W .any base 54 v) (h0 : DataW.Trod enc Tryz.prog W 0 (fun _ => true) true 54 v d p) :
    ∃ b : BX, v = .agg (bxA b) := by
  obtain ⟨cs, rfl, hcsz⟩ := okWide_struct Tryz.underlying54 hok
  obtain ⟨fuel, hf0⟩ := h0
  have hf : DataW.trod enc Tryz.prog W 0 (fun _ => true) true fuel 54 cs.toList = some (d, p) := by simpa [Value.cells] using hf0
  obtain ⟨xs, k, hk, hxy, hlc, hxl, hg⟩ := DataW.trod_struct Tryz.underlying54 hf
  rw [Tryz.cBox] at hlc
  obtain ⟨cl, hcl⟩ : ∃ cl, cs.toList = cl := ⟨_, rfl⟩
  rw [hcl] at hlc hg
  match xs, hxl, cl, hlc with
  | [y0, y1, y2, y3, y4, y5, y6, y7], _, [c0, c1, c2, c3, c4, c5, c6, c7], _ =>
    have g0 := hg 0 _ rfl
    have g1 := hg 1 _ rfl
    have g2 := hg 2 _ rfl
    have g3 := hg 3 _ rfl
    have g4 := hg 4 _ rfl
    have g5 := hg 5 _ rfl
    have g6 := hg 6 _ rfl
    have g7 := hg 7 _ rfl
    simp [Tryz.cInt, Tryz.cBool, Tryz.cStr, Tryz.cStrs] at g0 g1 g2 g3 g4 g5 g6 g7
    obtain ⟨n1, e1, _, w1⟩ := DataW.trod_int Tryz.underlying3 g1
    obtain ⟨n2, e2, _, w2⟩ := DataW.trod_int Tryz.underlying3 g2
    obtain ⟨n3, e3, _, w3⟩ := DataW.trod_int Tryz.underlying3 g3
    obtain ⟨n4, e4, _, w4⟩ := DataW.trod_int Tryz.underlying3 g4
    obtain ⟨n5, e5, _, w5⟩ := DataW.trod_int Tryz.underlying3 g5
    obtain ⟨s0, e0, _, _⟩ := DataW.trod_string Tryz.underlying9 g0
    obtain ⟨b7, e7, _⟩ := DataW.trod_bool Tryz.underlying4 g7
    simp at e0 e1 e2 e3 e4 e5 e7
    subst e0 e1 e2 e3 e4 e5 e7
    refine ⟨⟨s0, n1, n2, n3, n4, n5, c6, b7⟩, ?_⟩
    unfold bxA
    congr 1
    exact Array.ext' hcl
end Go.Proofs.YtflkhnmggmfhfaaGreat

/- The frame: a set of numbers as an argument. -/
namespace Go.Proofs.YtflkhnmggmfhfaaGreat
open Go.Shelf Go.ChangeShapes Go.WideShapes Go.ChangeAt Go.RowKit Go.Lib

set_option maxRecDepth 100000 in
theorem open_rgs_arg {H : Type} {enc : TypeId × Value → H} {W : World} {v : Value} {d : DataW H} {p : List MemPlace} {base : Nat} {ts : List TypeId} {ds : List (DataW H)} {j : Nat}
    (hok : Value.okWide Tryz.prog W .any base 33 v) (h0 : DataW.Trod enc Tryz.prog W 0 (fun _ => true) true 33 v d p)
    (hsz : (DataW.weightsEach Tryz.prog ts ds).all (· ≤ reachBytes) = true) (ht : ts[j]? = some 33) (hd : ds[j]? = some d) :
    ∃ l, Rgs W v l := by
  obtain ⟨ao0, len0, cap0, rfl⟩ := okWide_slice Tryz.underlying33 hok
  obtain ⟨fuel, hf0⟩ := h0
  have hf : DataW.trod enc Tryz.prog W 0 (fun _ => true) true fuel 33 [.slice ao0 len0 cap0] = some (d, p) := by simpa [Value.cells] using hf0
  have hw : ∀ x ∈ d.weights Tryz.prog 33, x ≤ reachBytes := fun x hx => by
    have := List.all_eq_true.1 hsz _ (DataW.weights_mem_each ht hd _ hx)
    simpa using this
  exact open_ranges_v hf hw
end Go.Proofs.YtflkhnmggmfhfaaGreat
