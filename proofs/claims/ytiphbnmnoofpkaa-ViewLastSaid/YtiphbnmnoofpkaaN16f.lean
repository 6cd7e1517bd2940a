/- What came in: mailboxes, mails, scripts. -/
import Derived.Test.YtiphbnmnoofpkaaN16e
import Derived.Test.YtiphbnmnoofpkaaLr
import Derived.Deep.Slices
namespace Go.Proofs.Ytiphbnmnoofpkaa
open Go.Shelf Go.ChangeShapes Go.WideShapes Go.ChangeAt Go.RowKit Go.Lib
open Go.ChangeMaps (open_string shut_string)

theorem Try.cInt : Try.prog.cellsOf 3 = 1 := by kernel_rfl
theorem Try.cBool : Try.prog.cellsOf 4 = 1 := by kernel_rfl
theorem Try.cStr : Try.prog.cellsOf 9 = 1 := by kernel_rfl
theorem Try.cStrs : Try.prog.cellsOf 22 = 1 := by kernel_rfl
theorem Try.cInts : Try.prog.cellsOf 30 = 1 := by kernel_rfl
theorem Try.cMarks : Try.prog.cellsOf 34 = 1 := by kernel_rfl
theorem Try.cRanges : Try.prog.cellsOf 39 = 1 := by kernel_rfl
theorem Try.cMark : Try.prog.cellsOf 59 = 2 := by kernel_rfl
theorem Try.cRange : Try.prog.cellsOf 53 = 2 := by kernel_rfl
theorem Try.cMom : Try.prog.cellsOf 36 = 7 := by kernel_rfl
theorem Try.cEv : Try.prog.cellsOf 38 = 18 := by kernel_rfl
theorem Try.cBox : Try.prog.cellsOf 24 = 8 := by kernel_rfl
theorem Try.cMail : Try.prog.cellsOf 68 = 13 := by kernel_rfl
theorem Try.cStep : Try.prog.cellsOf 41 = 26 := by kernel_rfl
theorem Try.bStr : Try.prog.bytesOf 9 = 16 := by kernel_rfl
theorem Try.bInt : Try.prog.bytesOf 3 = 8 := by kernel_rfl
theorem Try.bRange : Try.prog.bytesOf 53 = 16 := by kernel_rfl
theorem weightsAll_mem {H : Type} {P : Program} {t : TypeId} : ∀ {l : List (DataW H)} {d : DataW H} {x : Nat}, d ∈ l → x ∈ d.weights P t → x ∈ DataW.weightsAll P t l
  | e :: l, d, x, hd, hx => by
    simp only [DataW.weightsAll, List.mem_append]
    rcases List.mem_cons.1 hd with rfl | hd
    · exact .inl hx
    · exact .inr (weightsAll_mem hd hx)
set_option maxRecDepth 100000 in
/-- A list that came in, thing by thing. -/
theorem open_list {H : Type} {enc : TypeId × Value → H} {W : World} {v : Value} {d : DataW H} {p : List MemPlace} {fuel : Nat} {α : Type} (t e : TypeId) (c : Nat) (ht : Try.prog.underlying t = some (.slice e)) (hc : Try.prog.cellsOf e = c) (hc0 : 0 < c) (Pr : α → List Value → Prop) (x0 : α)
    (hop : ∀ (cs : List Value) (d' : DataW H) (p' : List MemPlace) (n : Nat), cs.length = c → DataW.trod enc Try.prog W 0 (fun _ => true) true n e cs = some (d', p') → (∀ x ∈ d'.weights Try.prog e, x ≤ reachBytes) → ∃ x, Pr x cs)
    (hf : DataW.trod enc Try.prog W 0 (fun _ => true) true fuel t [v] = some (d, p)) (hw : ∀ x ∈ d.weights Try.prog t, x ≤ reachBytes) :
    ∃ (l : List α) (ao : Option Addr) (cap : Nat), v = .slice ao l.length cap ∧ (ao = none → l.length = 0 ∧ cap = 0) ∧ l.length * Try.prog.bytesOf e ≤ reachBytes ∧ (0 < l.length → ∃ b off, ao = some ⟨b, off, none⟩ ∧ b < W.heap.size) ∧ ∀ i, i < l.length → ∃ cs, cs.length = c ∧ Pr (l.getD i x0) cs ∧ ∀ b off, ao = some ⟨b, off, none⟩ → ∀ j u, cs[j]? = some u → W.cell? ⟨b, off + i * c + j, none⟩ = some u := by
  rcases Deep.open_slice ht hf with ⟨hcs, hx⟩ | ⟨a, len, cap, m, n, D, Pl, hcs, _, hl, hm, hmm, hx, hall⟩
  · simp at hcs
    subst hcs
    exact ⟨[], none, 0, rfl, fun _ => ⟨rfl, rfl⟩, by simp, fun h => by simp at h, fun i hi => by simp at hi⟩
  · simp at hcs
    subst hcs
    simp only [if_true] at hmm
    subst hmm
    have hd0 : d = .slice ((List.range len).map D) ((List.range (m - len)).map fun j => D (len + j)) := congrArg Prod.fst hx
    subst hd0
    have hw1 := hw _ (by simp only [DataW.weights, ht, List.length_map, List.length_range]; exact List.mem_cons_self)
    have hwl : len * Try.prog.bytesOf e ≤ reachBytes := Nat.le_trans (Nat.mul_le_mul_right _ (by omega)) hw1
    have key : ∀ i, i < len → ∃ x : α, ∃ cs, cs.length = c ∧ Pr x cs ∧ ∀ j u, cs[j]? = some u → W.cell? (a.add (i * c + j)) = some u := by
      intro i hi
      obtain ⟨cs', h1, h2⟩ := hall i (by omega)
      rw [hc] at h1
      obtain ⟨_, hlen, hcc⟩ := World.cells?_some h1
      obtain ⟨x, hx⟩ := hop cs' _ _ _ hlen h2 (fun x hx => hw x (by
        simp only [DataW.weights, ht]
        exact List.mem_cons_of_mem _ (List.mem_append_left _ (weightsAll_mem (d := D i) (List.mem_map.2 ⟨i, List.mem_range.2 hi, rfl⟩) hx))))
      refine ⟨x, cs', hlen, hx, fun j u hj => ?_⟩
      have hjl := (List.getElem?_eq_some_iff.1 hj).1
      have := hcc j (by omega)
      rw [Deep.add_add] at this
      rw [this]; exact hj
    haveI : Inhabited α := ⟨x0⟩
    obtain ⟨f, hf'⟩ := Deep.choose_lt key
    obtain ⟨b, off, spot⟩ := a
    have hsp : 0 < len → spot = none ∧ b < W.heap.size := fun h0 => by
      obtain ⟨cs, hlen, _, hcell⟩ := hf' 0 h0
      have hq := hcell 0 (cs[0]'(by omega)) (List.getElem?_eq_getElem (by omega))
      have hs : spot = none := by simpa [Addr.add] using World.cell?_spot hq
      subst hs
      have := World.block_lt_of_cell? W _ hq
      rw [Addr.add_lit] at this
      exact ⟨rfl, this⟩
    refine ⟨(List.range len).map f, some ⟨b, off, spot⟩, m, by simp, fun h => (by cases h), by simpa using hwl, fun h => ?_, fun i hi => ?_⟩
    · obtain ⟨rfl, hb⟩ := hsp (by simpa using h)
      exact ⟨b, off, rfl, hb⟩
    · have hi' : i < len := by simpa using hi
      obtain ⟨cs, hlen, hp, hcell⟩ := hf' i hi'
      have e1 : ((List.range len).map f).getD i x0 = f i := by simp [hi']
      rw [e1]
      refine ⟨cs, hlen, hp, fun b' off' e2 j u hj => ?_⟩
      obtain ⟨e3, e4, e5⟩ : b = b' ∧ off = off' ∧ spot = none := by
        have := Option.some.inj e2
        exact ⟨congrArg Addr.block this, congrArg Addr.off this, congrArg Addr.spot this⟩
      subst e3 e4 e5
      have := hcell j u hj
      rw [Addr.add_lit] at this
      rw [Nat.add_assoc]; exact this
section
variable {H : Type} {enc : TypeId × Value → H} {W : World} {v : Value} {d : DataW H} {p : List MemPlace} {fuel : Nat}
theorem open_ints_v (hf : DataW.trod enc Try.prog W 0 (fun _ => true) true fuel 30 [v] = some (d, p)) (hw : ∀ x ∈ d.weights Try.prog 30, x ≤ reachBytes) :
    ∃ l, Nms W v l ∧ ∀ b, 0 < l.length → v.ownBlock = some b → b < W.heap.size := by
  obtain ⟨l, ao, cap, rfl, _, _, hb, hall⟩ := open_list (α := Int) 30 3 1 Try.underlying30 Try.cInt (by omega) (fun x cs => cs = [.int .i64 x]) 0 (fun cs d' p' n hl hf _ => by
    match cs, hl with
    | [c0], _ =>
      obtain ⟨n0, e0, _, _⟩ := DataW.trod_int Try.underlying3 hf
      simp at e0
      subst e0
      exact ⟨n0, rfl⟩) hf hw
  refine ⟨l, ⟨ao, cap, rfl, fun h0 => ?_⟩, fun b h0 e => ?_⟩
  · obtain ⟨b, off, rfl, hb'⟩ := hb h0
    refine ⟨b, off, rfl, hb', fun i hi => ?_⟩
    obtain ⟨cs, _, rfl, hc⟩ := hall i hi
    have := hc b off rfl 0 _ rfl
    simpa using this
  · obtain ⟨b', off, rfl, hb'⟩ := hb h0
    cases e
    exact hb'
theorem open_strs_v (hf : DataW.trod enc Try.prog W 0 (fun _ => true) true fuel 22 [v] = some (d, p)) (hw : ∀ x ∈ d.weights Try.prog 22, x ≤ reachBytes) (u : Int) :
    ∃ m : ME, m.uid = u ∧ v = m.fv ∧ FlAt W m ∧ (m.fl ≠ [] → ∀ b, m.fv.ownBlock = some b → b < W.heap.size) := by
  obtain ⟨l, ao, cap, rfl, hn, hby, hb, hall⟩ := open_list (α := ByteArray) 22 9 1 Try.underlying22 Try.cStr (by omega) (fun x cs => cs = [.string x]) ByteArray.empty (fun cs d' p' n hl hf _ => by
    match cs, hl with
    | [c0], _ =>
      obtain ⟨n0, e0, _, _⟩ := DataW.trod_string Try.underlying9 hf
      simp at e0
      subst e0
      exact ⟨n0, rfl⟩) hf hw
  rw [Try.bStr] at hby
  unfold reachBytes at hby
  refine ⟨⟨u, ao, cap, l⟩, rfl, rfl, ⟨fun e => ⟨List.eq_nil_of_length_eq_zero (hn e).1, (hn e).2⟩, by show l.length ≤ _; omega, fun hl => ?_⟩, fun hl b e => ?_⟩
  · obtain ⟨b, off, rfl, hb'⟩ := hb (List.length_pos_iff.2 hl)
    refine ⟨b, off, rfl, hb', fun i hi => ?_⟩
    obtain ⟨cs, _, rfl, hc⟩ := hall i hi
    have := hc b off rfl 0 _ rfl
    simpa using this
  · obtain ⟨b', off, rfl, hb'⟩ := hb (List.length_pos_iff.2 hl)
    simp [ME.fv, Value.ownBlock] at e
    omega
set_option maxRecDepth 100000 in
theorem open_ranges_v (hf : DataW.trod enc Try.prog W 0 (fun _ => true) true fuel 39 [v] = some (d, p)) (hw : ∀ x ∈ d.weights Try.prog 39, x ≤ reachBytes) : ∃ l, Rgs W v l := by
  obtain ⟨l, ao, cap, rfl, hn, hby, hb, hall⟩ := open_list (α := Rg) 39 53 2 Try.underlying39 Try.cRange (by omega) (fun x cs => cs = [.int .i64 x.1, .int .i64 x.2]) (0, 0) (fun cs d' p' n hl hf _ => by
    obtain ⟨xs, k, hk, hxy, _, hxl, hg⟩ := DataW.trod_struct Try.underlying53 hf
    match xs, hxl, cs, hl with
    | [y0, y1], _, [c0, c1], _ =>
      have g0 := hg 0 _ rfl
      have g1 := hg 1 _ rfl
      simp [Try.cInt] at g0 g1
      obtain ⟨n0, e0, _, _⟩ := DataW.trod_int Try.underlying3 g0
      obtain ⟨n1, e1, _, _⟩ := DataW.trod_int Try.underlying3 g1
      simp at e0 e1
      subst e0 e1
      exact ⟨(n0, n1), rfl⟩) hf hw
  rw [Try.bRange] at hby
  unfold reachBytes at hby
  refine ⟨l, ?_⟩
  by_cases h0 : l = []
  · subst h0
    exact .inl ⟨rfl, ao, cap, rfl, fun e => (hn e).2⟩
  · obtain ⟨b, off, rfl, hb'⟩ := hb (List.length_pos_iff.2 h0)
    refine .inr ⟨b, off, cap, rfl, by omega, hb', fun i hi => ?_⟩
    obtain ⟨cs, _, rfl, hc⟩ := hall i hi
    exact ⟨by simpa using hc b off rfl 0 _ rfl, by simpa using hc b off rfl 1 _ rfl⟩
set_option maxRecDepth 100000 in
theorem open_marks_v (hf : DataW.trod enc Try.prog W 0 (fun _ => true) true fuel 34 [v] = some (d, p)) (hw : ∀ x ∈ d.weights Try.prog 34, x ≤ reachBytes) :
    ∃ ms, MksAt W v ms ∧ (0 < ms.length → ∀ b, v.ownBlock = some b → b < W.heap.size) ∧ ∀ m ∈ ms, m.fl ≠ [] → ∀ b, m.fv.ownBlock = some b → b < W.heap.size := by
  obtain ⟨l, ao, cap, rfl, hn, _, hb, hall⟩ := open_list (α := ME) 34 59 2 Try.underlying34 Try.cMark (by omega) (fun m cs => cs = [.int .i64 m.uid, m.fv] ∧ FlAt W m ∧ (m.fl ≠ [] → ∀ b, m.fv.ownBlock = some b → b < W.heap.size)) ⟨0, none, 0, []⟩ (fun cs d' p' n hl hf hw => by
    obtain ⟨xs, k, hk, hxy, _, hxl, hg⟩ := DataW.trod_struct Try.underlying59 hf
    match xs, hxl, cs, hl with
    | [y0, y1], _, [c0, c1], _ =>
      have g0 := hg 0 _ rfl
      have g1 := hg 1 _ rfl
      simp [Try.cInt, Try.cStrs] at g0 g1
      have hd0 : d' = .agg [y0.1, y1.1] := congrArg Prod.fst hxy
      subst hd0
      simp only [DataW.weights, Try.underlying59] at hw
      obtain ⟨n0, e0, _, _⟩ := DataW.trod_int Try.underlying3 g0
      obtain ⟨m, hmu, rfl, hm, hmb⟩ := open_strs_v (d := y1.1) (p := y1.2) g1 (fun x hx => hw x (DataW.weights_mem_each (j := 1) rfl rfl _ hx)) n0
      simp at e0
      subst e0
      exact ⟨m, by rw [hmu], hm, hmb⟩) hf hw
  refine ⟨l, ⟨⟨ao, cap, rfl, fun h0 => ?_⟩, fun m hm => ?_⟩, fun h0 b e => ?_, fun m hm => ?_⟩
  · obtain ⟨b, off, rfl, hb'⟩ := hb h0
    refine ⟨b, off, rfl, hb', fun i hi => ?_⟩
    obtain ⟨cs, _, ⟨rfl, _⟩, hc⟩ := hall i hi
    exact ⟨by simpa using hc b off rfl 0 _ rfl, by simpa using hc b off rfl 1 _ rfl⟩
  · obtain ⟨i, hi, rfl⟩ := List.mem_iff_getElem.1 hm
    obtain ⟨cs, _, ⟨_, h2, _⟩, _⟩ := hall i hi
    rw [List.getD_eq_getElem?_getD, List.getElem?_eq_getElem hi] at h2
    exact h2
  · obtain ⟨b', off, rfl, hb'⟩ := hb h0
    cases e
    exact hb'
  · obtain ⟨i, hi, rfl⟩ := List.mem_iff_getElem.1 hm
    obtain ⟨cs, _, ⟨_, _, h3⟩, _⟩ := hall i hi
    rw [List.getD_eq_getElem?_getD, List.getElem?_eq_getElem hi] at h3
    exact h3
end
end Go.Proofs.Ytiphbnmnoofpkaa
