/- Lists of lists of pieces that came in. -/
import Derived.Test.YtkclcjnfjielfabDoorWr
namespace Go.Proofs.YtkclcjnfjielfabDoor
open Go.Shelf Go.ChangeShapes Go.WideShapes Go.ChangeAt Go.RowKit Go.Lib

theorem weightsAll_mem {H : Type} {P : Program} {e : TypeId} {d : DataW H} {x : Nat} : ∀ {ds : List (DataW H)}, d ∈ ds → x ∈ d.weights P e → x ∈ DataW.weightsAll P e ds
  | [], h, _ => by cases h
  | a :: r, h, hx => by
    rw [DataW.weightsAll, List.mem_append]
    rcases List.mem_cons.1 h with rfl | h
    · exact .inl hx
    · exact .inr (weightsAll_mem h hx)
theorem Tryd.cellsRgs : Tryd.prog.cellsOf 25 = 1 := by kernel_rfl
theorem Tryd.bytesRgs : Tryd.prog.bytesOf 25 = 24 := by kernel_rfl
/-- A slice of slices of pieces, opened: of its cells; 'hw': what its parts may weigh. -/
theorem open_sets_cells {H : Type} {enc : TypeId × Value → H} {W : World} {v : Value} {d : DataW H} {p : List MemPlace} {fuel : Nat}
    (hf : DataW.trod enc Tryd.prog W 0 (fun _ => true) true fuel 27 [v] = some (d, p)) (hw : ∀ x ∈ d.weights Tryd.prog 27, x ≤ reachBytes) :
    ∃ ll, Sets W v ll ∧ ll.length ≤ 5864062014805 ∧ ∀ l ∈ ll, InR l := by
  rcases Deep.open_slice1 Tryd.underlying27 Tryd.cellsRgs hf with ⟨hcs, hx⟩ | ⟨a, len, cap, m, n, V, D, Pl, hcs, _, hl, hm, hmm, hx, hall⟩
  · simp at hcs
    subst hcs
    exact ⟨[], .inl ⟨rfl, none, 0, rfl, fun _ => rfl⟩, by simp, fun l hl => by cases hl⟩
  · simp at hcs
    subst hcs
    simp only [if_true] at hmm
    subst hmm
    have hd0 : d = .slice ((List.range len).map D) ((List.range (m - len)).map fun j => D (len + j)) := congrArg Prod.fst hx
    subst hd0
    have hw1 : m * 24 ≤ reachBytes := by
      have := hw (m * 24) (by simp only [DataW.weights, Tryd.underlying27, Tryd.bytesRgs, List.length_map, List.length_range]; rw [show len + (m - len) = m by omega]; exact List.mem_cons_self)
      exact this
    unfold reachBytes at hw1
    have key : ∀ i, i < len → ∃ l : List Rg, Rgs W (V i) l ∧ InR l := by
      intro i hi
      obtain ⟨_, ht⟩ := hall i (by omega)
      rcases open_rgs_cells ht with ⟨hv, _⟩ | ⟨a', len', cap', l, D', E', hv, hdd, hD, hE, hlc, hl', hin, hc⟩
      · rw [hv]
        exact ⟨[], .inl ⟨rfl, none, 0, rfl, fun _ => rfl⟩, fun p hp => by cases hp⟩
      · have hww : (D'.length + E'.length) * 16 ≤ reachBytes := by
          refine hw _ ?_
          simp only [DataW.weights, Tryd.underlying27]
          refine List.mem_cons_of_mem _ (List.mem_append_left _ (weightsAll_mem (d := D i) (List.mem_map.2 ⟨i, List.mem_range.2 hi, rfl⟩) ?_))
          rw [hdd]
          simp only [DataW.weights, Tryd.underlying25, Tryd.bytesRange]
          exact List.mem_cons_self
        unfold reachBytes at hww
        rw [hv]
        exact ⟨l, rgs_of_cells hl' (by omega) hc, hin⟩
    obtain ⟨q, hq⟩ := Deep.choose_lt key
    refine ⟨(List.range len).map q, ?_, by simp; omega, ?_⟩
    · by_cases h0 : len = 0
      · subst h0
        exact .inl ⟨rfl, _, _, rfl, fun h => by cases h⟩
      · obtain ⟨b, off, spot⟩ := a
        have hspot : spot = none := by simpa [Addr.add] using World.cell?_spot (hall 0 (by omega)).1
        subst hspot
        refine .inr ⟨b, off, m, V, by simp, by simp; omega, block_lt_of_cell (hall 0 (by omega)).1, fun i hi => ?_⟩
        have hi' : i < len := by simpa using hi
        have := (hall i (by omega)).1
        rw [add_none] at this
        have eg : ((List.range len).map q).getD i [] = q i := by simp [List.getD, hi']
        rw [eg]
        exact ⟨this, (hq i hi').1⟩
    · intro l hl'
      obtain ⟨i, hi, rfl⟩ := List.mem_map.1 hl'
      exact (hq i (List.mem_range.1 hi)).2
set_option maxRecDepth 100000 in
/-- A list of lists of pieces that came in. -/
theorem open_sets_arg {H : Type} {enc : TypeId × Value → H} {W : World} {v : Value} {d : DataW H} {p : List MemPlace} {base : Nat} {ts : List TypeId} {ds : List (DataW H)} {j : Nat}
    (hok : Value.okWide Tryd.prog W .any base 27 v) (h0 : DataW.Trod enc Tryd.prog W 0 (fun _ => true) true 27 v d p)
    (hsz : (DataW.weightsEach Tryd.prog ts ds).all (· ≤ reachBytes) = true) (ht : ts[j]? = some 27) (hd : ds[j]? = some d) :
    ∃ ll, Sets W v ll ∧ ll.length ≤ 5864062014805 ∧ ∀ l ∈ ll, InR l := by
  obtain ⟨ao, len, cap, rfl⟩ := okWide_slice Tryd.underlying27 hok
  obtain ⟨fuel, hf0⟩ := h0
  have hf : DataW.trod enc Tryd.prog W 0 (fun _ => true) true fuel 27 [.slice ao len cap] = some (d, p) := by simpa [Value.cells] using hf0
  refine open_sets_cells hf (fun x hx => ?_)
  have := List.all_eq_true.1 hsz _ (DataW.weights_mem_each ht hd _ hx)
  simpa using this
end Go.Proofs.YtkclcjnfjielfabDoor
