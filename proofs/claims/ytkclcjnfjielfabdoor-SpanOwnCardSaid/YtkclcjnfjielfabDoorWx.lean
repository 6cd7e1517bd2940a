/- Lists of questions that came in. -/
import Derived.Test.YtkclcjnfjielfabDoorWs
import Derived.Test.YtkclcjnfjielfabDoorWv
namespace Go.Proofs.YtkclcjnfjielfabDoor
open Go.Shelf Go.ChangeShapes Go.WideShapes Go.ChangeAt Go.RowKit Go.Lib

theorem rgs_of_trod {H : Type} {enc : TypeId × Value → H} {W : World} {v : Value} {d : DataW H} {p : List MemPlace} {fuel : Nat}
    (hf : DataW.trod enc Tryd.prog W 0 (fun _ => true) true fuel 25 [v] = some (d, p)) (hw : ∀ x ∈ d.weights Tryd.prog 25, x ≤ reachBytes) :
    ∃ l, Rgs W v l ∧ l.length ≤ 8796093022208 := by
  rcases open_rgs_cells hf with ⟨hv, _⟩ | ⟨a', len', cap', l, D', E', hv, hdd, hD, hE, hlc, hl', hin, hc⟩
  · rw [hv]
    exact ⟨[], .inl ⟨rfl, none, 0, rfl, fun _ => rfl⟩, by simp⟩
  · have hww : (D'.length + E'.length) * 16 ≤ reachBytes := by
      refine hw _ ?_
      rw [hdd]
      simp only [DataW.weights, Tryd.underlying25, Tryd.bytesRange]
      exact List.mem_cons_self
    unfold reachBytes at hww
    rw [hv]
    exact ⟨l, rgs_of_cells hl' (by omega) hc, by omega⟩
theorem ints_of_trod {H : Type} {enc : TypeId × Value → H} {W : World} {v : Value} {d : DataW H} {p : List MemPlace} {fuel : Nat}
    (hf : DataW.trod enc Tryd.prog W 0 (fun _ => true) true fuel 26 [v] = some (d, p)) (hw : ∀ x ∈ d.weights Tryd.prog 26, x ≤ reachBytes) :
    ∃ l, Ints W v l ∧ l.length ≤ 17592186044416 ∧ ∀ n ∈ l, n ≤ 9223372036854775807 := by
  rcases open_ints Tryd.underlying26 Tryd.underlying3 Tryd.cellsInt hf with ⟨hcs, hx⟩ | ⟨a, len, cap, zs, hcs, _, hl, hm, hz, hx, hcell, hwf⟩
  · simp at hcs
    subst hcs
    exact ⟨[], .inl ⟨rfl, none, 0, rfl, fun _ => rfl⟩, by simp, fun p hp => by cases hp⟩
  · simp at hcs
    subst hcs
    simp only [if_true] at hz
    have hd0 : d = .slice (lits .i64 (zs.take len)) (lits .i64 (zs.drop len)) := congrArg Prod.fst hx
    subst hd0
    have hreach := hw _ (by simp only [DataW.weights, Tryd.underlying26, Tryd.bytesInt]; exact List.mem_cons_self)
    have hr : len ≤ 17592186044416 := by
      simp only [lits, List.length_map, List.length_take, List.length_drop, reachBytes] at hreach
      omega
    have hlen : (zs.take len).length = len := by rw [List.length_take]; omega
    refine ⟨zs.take len, ?_, by omega, fun n hn => (wf_i64 (hwf n (List.mem_of_mem_take hn))).2⟩
    by_cases h0 : len = 0
    · subst h0
      exact .inl ⟨rfl, _, _, rfl, fun h => by cases h⟩
    · obtain ⟨b, off, spot⟩ := a
      have hspot : spot = none := by simpa [Addr.add] using World.cell?_spot (hcell 0 (by omega))
      subst hspot
      refine .inr ⟨b, off, cap, by rw [hlen], by omega, block_lt_of_cell (hcell 0 (by omega)), fun i hi => ?_⟩
      have := hcell i (by omega)
      rw [add_none] at this
      rw [this, List.getD_eq_getElem?_getD, List.getD_eq_getElem?_getD, List.getElem?_take, if_pos (by omega)]
theorem Tryd.cellsAsk : Tryd.prog.cellsOf 31 = 6 := by kernel_rfl
theorem Tryd.bytesAsk : Tryd.prog.bytesOf 31 = 104 := by kernel_rfl
theorem Tryd.cellsStr : Tryd.prog.cellsOf 9 = 1 := by kernel_rfl
theorem Tryd.cellsSets : Tryd.prog.cellsOf 27 = 1 := by kernel_rfl
theorem Tryd.cellsInts : Tryd.prog.cellsOf 26 = 1 := by kernel_rfl
set_option maxRecDepth 100000 in
set_option maxHeartbeats 1000000 in
theorem open_ask_cells {H : Type} {enc : TypeId × Value → H} {W : World} {b o : Nat} {cs : List Value} {d : DataW H} {p : List MemPlace} {fuel : Nat}
    (hc : ∀ j, j < 6 → ∃ v, cs[j]? = some v ∧ W.cell? ⟨b, o + j, none⟩ = some v) (hlen : cs.length = 6)
    (hf : DataW.trod enc Tryd.prog W 0 (fun _ => true) true fuel 31 cs = some (d, p)) (hw : ∀ x ∈ d.weights Tryd.prog 31, x ≤ reachBytes) : ∃ q, AskAt W b o q := by
  obtain ⟨xs, k, hk, hxy, _, hxl, hg⟩ := DataW.trod_struct Tryd.underlying31 hf
  match xs, hxl, cs, hlen with
  | [y0, y1, y2, y3, y4, y5], _, [c0, c1, c2, c3, c4, c5], _ =>
    have g0 := hg 0 _ rfl
    have g1 := hg 1 _ rfl
    have g2 := hg 2 _ rfl
    have g3 := hg 3 _ rfl
    have g4 := hg 4 _ rfl
    have g5 := hg 5 _ rfl
    simp [Tryd.cellsStr, Tryd.cellsSets, Tryd.cellsInts, Tryd.cellsRgs, Tryd.cellsInt] at g0 g1 g2 g3 g4 g5
    have hd0 : d = .agg [y0.1, y1.1, y2.1, y3.1, y4.1, y5.1] := congrArg Prod.fst hxy
    subst hd0
    simp only [DataW.weights, Tryd.underlying31] at hw
    obtain ⟨s, hs, hy0, _⟩ := DataW.trod_string Tryd.underlying9 g0
    obtain ⟨n, hn, _, _⟩ := DataW.trod_int Tryd.underlying3 g2
    obtain ⟨g, hgg, _, _⟩ := DataW.trod_int Tryd.underlying3 g3
    obtain ⟨l1, r1, z1⟩ := rgs_of_trod (d := y1.1) (p := y1.2) g1 (fun x hx => hw x (DataW.weights_mem_each (j := 1) rfl rfl _ hx))
    obtain ⟨l4, r4, z4, m4⟩ := ints_of_trod (d := y4.1) (p := y4.2) g4 (fun x hx => hw x (DataW.weights_mem_each (j := 4) rfl rfl _ hx))
    obtain ⟨l5, r5, z5, _⟩ := open_sets_cells (d := y5.1) (p := y5.2) g5 (fun x hx => hw x (DataW.weights_mem_each (j := 5) rfl rfl _ hx))
    have hzs : s.size ≤ 140737488355328 := by
      have := hw s.data.toList.length (DataW.weights_mem_each (j := 0) rfl rfl _ (by rw [hy0]; simp [DataW.weights]))
      unfold reachBytes at this
      have e : s.data.toList.length = s.size := rfl
      omega
    simp at hs hn hgg
    subst hs
    subst hn
    subst hgg
    have k0 := hc 0 (by omega)
    have k1 := hc 1 (by omega)
    have k2 := hc 2 (by omega)
    have k3 := hc 3 (by omega)
    have k4 := hc 4 (by omega)
    have k5 := hc 5 (by omega)
    simp at k0 k1 k2 k3 k4 k5
    exact ⟨⟨s, l1, n, g, l4, l5⟩, k0, hzs, ⟨_, k1, r1⟩, z1, k2, k3, ⟨_, k4, r4⟩, z4, m4, ⟨_, k5, r5⟩, z5⟩
set_option maxRecDepth 100000 in
theorem open_asks_arg0 {H : Type} {enc : TypeId × Value → H} {W : World} {v : Value} {d : DataW H} {p : List MemPlace} {base : Nat} {ts : List TypeId} {ds : List (DataW H)} {j : Nat}
    (hok : Value.okWide Tryd.prog W .any base 22 v) (h0 : DataW.Trod enc Tryd.prog W 0 (fun _ => true) true 22 v d p)
    (hsz : (DataW.weightsEach Tryd.prog ts ds).all (· ≤ reachBytes) = true) (ht : ts[j]? = some 22) (hd : ds[j]? = some d) :
    ∃ A, Asks W v A := by
  obtain ⟨ao, len, cap, rfl⟩ := okWide_slice Tryd.underlying22 hok
  obtain ⟨fuel, hf0⟩ := h0
  have hf : DataW.trod enc Tryd.prog W 0 (fun _ => true) true fuel 22 [.slice ao len cap] = some (d, p) := by simpa [Value.cells] using hf0
  have hw : ∀ x ∈ d.weights Tryd.prog 22, x ≤ reachBytes := fun x hx => by
    have := List.all_eq_true.1 hsz _ (DataW.weights_mem_each ht hd _ hx)
    simpa using this
  rcases Deep.open_slice Tryd.underlying22 hf with ⟨hcs, hx⟩ | ⟨a, len', cap', m, n, D, Pl, hcs, _, hl, hm, hmm, hx, hall⟩
  · simp at hcs
    obtain ⟨rfl, rfl, rfl⟩ := hcs
    exact ⟨[], none, 0, rfl, by simp, fun h => by simp at h⟩
  · simp at hcs
    obtain ⟨rfl, rfl, rfl⟩ := hcs
    simp only [if_true] at hmm
    subst hmm
    have hd0 : d = .slice ((List.range len).map D) ((List.range (m - len)).map fun j => D (len + j)) := congrArg Prod.fst hx
    subst hd0
    have hw1 : m * 104 ≤ reachBytes := by
      have := hw (m * 104) (by simp only [DataW.weights, Tryd.underlying22, Tryd.bytesAsk, List.length_map, List.length_range]; rw [show len + (m - len) = m by omega]; exact List.mem_cons_self)
      exact this
    unfold reachBytes at hw1
    by_cases h0 : len = 0
    · subst h0
      exact ⟨[], _, _, rfl, by simp, fun h => by simp at h⟩
    · obtain ⟨b, off, spot⟩ := a
      have hcell : ∀ i, i < len → ∃ cs', cs'.length = 6 ∧ (∀ j, j < 6 → ∃ v, cs'[j]? = some v ∧ W.cell? ((⟨b, off, spot⟩ : Addr).add (i * 6 + j)) = some v) ∧ DataW.trod enc Tryd.prog W 0 (fun _ => true) true n 31 cs' = some (D i, Pl i) := by
        intro i hi
        obtain ⟨cs', h1, h2⟩ := hall i (by omega)
        rw [Tryd.cellsAsk] at h1
        obtain ⟨_, hlen, hcc⟩ := World.cells?_some h1
        refine ⟨cs', hlen, fun j hj => ?_, h2⟩
        have := hcc j (by omega)
        rw [Deep.add_add] at this
        exact ⟨cs'[j]'(by omega), List.getElem?_eq_getElem _, by rw [this]; exact List.getElem?_eq_getElem _⟩
      have hspot : spot = none := by
        obtain ⟨_, _, h, _⟩ := hcell 0 (by omega)
        obtain ⟨v, _, h⟩ := h 0 (by omega)
        simpa [Addr.add] using World.cell?_spot h
      subst hspot
      have key : ∀ i, i < len → ∃ q, AskAt W b (off + i * 6) q := by
        intro i hi
        obtain ⟨cs', h1, h2, h3⟩ := hcell i hi
        refine open_ask_cells (fun j hj => ?_) h1 h3 (fun x hx => hw x ?_)
        · obtain ⟨v, e1, e2⟩ := h2 j hj
          refine ⟨v, e1, ?_⟩
          rw [add_none] at e2
          rw [← e2, Nat.add_assoc]
        · simp only [DataW.weights, Tryd.underlying22]
          exact List.mem_cons_of_mem _ (List.mem_append_left _ (weightsAll_mem (d := D i) (List.mem_map.2 ⟨i, List.mem_range.2 hi, rfl⟩) hx))
      obtain ⟨q, hq⟩ := Deep.choose_lt key
      refine ⟨(List.range len).map q, _, _, by simp; rfl, by simp; omega, fun _ => ⟨b, off, rfl, fun i hi => ?_⟩⟩
      have hi' : i < len := by simpa using hi
      have eg : ((List.range len).map q).getD i ask0 = q i := by simp [List.getD, hi']
      rw [eg]
      exact hq i hi'
set_option maxRecDepth 100000 in
theorem open_asks_arg {H : Type} {enc : TypeId × Value → H} {W : World} {v : Value} {d : DataW H} {p : List MemPlace} {base : Nat} {ts : List TypeId} {ds : List (DataW H)} {j : Nat}
    (hok : Value.okWide Tryd.prog W .any base 22 v) (h0 : DataW.Trod enc Tryd.prog W 0 (fun _ => true) true 22 v d p)
    (hsz : (DataW.weightsEach Tryd.prog ts ds).all (· ≤ reachBytes) = true) (ht : ts[j]? = some 22) (hd : ds[j]? = some d) :
    ∃ A, Asks W v A ∧ True ∧ True := by
  obtain ⟨A, h⟩ := open_asks_arg0 hok h0 hsz ht hd
  exact ⟨A, h, trivial, trivial⟩
end Go.Proofs.YtkclcjnfjielfabDoor
