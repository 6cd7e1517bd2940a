/- Rows of texts as an argument (stage 10). -/
import Derived.Test.YtkdmicpfinjpgaaLr
import Derived.Test.YtkdmicpfinjpgaaF10k
import Derived.SliceStrings
import Derived.Lib.Strings
namespace Go.Proofs.Ytkdmicpfinjpgaa
open Go.Shelf Go.ChangeShapes Go.WideShapes Go.ChangeAt Go.RowKit Go.Lib
open Go.ChangeMaps (open_string shut_string)

theorem block_lt {w : World} {a : Addr} {v : Value} (h : w.cell? a = some v) : a.block < w.heap.size := by
  rcases Nat.lt_or_ge a.block w.heap.size with h1 | h1
  · exact h1
  · unfold World.cell? at h
    rw [Array.getElem?_eq_none h1] at h
    simp at h
theorem weights_strs {H : Type} (ss : List ByteArray) (e : TypeId) (s : ByteArray) (h : s ∈ ss) : s.data.toList.length ∈ DataW.weightsAll (H := H) Try.prog e (strs ss) := by
  induction ss with
  | nil => cases h
  | cons a r ih =>
    show _ ∈ DataW.weightsAll Try.prog e (DataW.lit (.string a.data.toList) :: strs r)
    rw [DataW.weightsAll, List.mem_append]
    rcases List.mem_cons.1 h with rfl | h
    · left; simp [DataW.weights]
    · right; exact ih h
theorem Try.cellsStr : Try.prog.cellsOf 9 = 1 := by kernel_rfl
theorem Try.bytesStr : Try.prog.bytesOf 9 = 16 := by kernel_rfl

set_option maxRecDepth 100000 in
theorem open_strs_arg {H : Type} {enc : TypeId × Value → H} {W : World} {v : Value} {d : DataW H} {p : List MemPlace} {base : Nat} {ts : List TypeId} {ds : List (DataW H)} {j : Nat}
    (hok : Value.okWide Try.prog W .any base 36 v) (h0 : DataW.Trod enc Try.prog W 0 (fun _ => true) true 36 v d p)
    (hsz : (DataW.weightsEach Try.prog ts ds).all (· ≤ reachBytes) = true) (ht : ts[j]? = some 36) (hd : ds[j]? = some d) :
    ∃ ss, Strs W v ss ∧ ∀ i, i < ss.length → (ss.getD i ByteArray.empty).size ≤ 140737488355328 := by
  obtain ⟨ao, len, cap, rfl⟩ := okWide_slice Try.underlying36 hok
  obtain ⟨fuel, hf0⟩ := h0
  have hf : DataW.trod enc Try.prog W 0 (fun _ => true) true fuel 36 [.slice ao len cap] = some (d, p) := by simpa [Value.cells] using hf0
  rcases open_strings Try.underlying36 Try.underlying9 Try.cellsStr hf with ⟨hcs, hx⟩ | ⟨a, len', cap', ss, hcs, _, hl, hm, hz, hx, hcell, _⟩
  · simp at hcs
    obtain ⟨rfl, rfl, rfl⟩ := hcs
    exact ⟨[], .inl ⟨rfl, _, _, rfl⟩, fun i hi => by simp at hi⟩
  · simp at hcs
    obtain ⟨rfl, rfl, rfl⟩ := hcs
    simp only [if_true] at hz
    have hd0 : d = .slice (strs (ss.take len)) (strs (ss.drop len)) := congrArg Prod.fst hx
    subst hd0
    have hreach := sized_slice hsz ht hd Try.underlying36
    rw [Try.bytesStr] at hreach
    have hlen : (ss.take len).length = len := by rw [List.length_take]; omega
    have hr : len ≤ 140737488355328 := by
      simp only [strs, List.length_map, List.length_take, List.length_drop, reachBytes] at hreach
      omega
    have hstr : ∀ i, i < (ss.take len).length → ((ss.take len).getD i ByteArray.empty).size ≤ 140737488355328 := by
      intro i hi
      have hmem : (ss.take len).getD i ByteArray.empty ∈ ss.take len := by
        rw [List.getD_eq_getElem?_getD, List.getElem?_eq_getElem hi]; exact List.getElem_mem hi
      have hw := weights_strs (H := H) (ss.take len) 9 _ hmem
      have := List.all_eq_true.1 hsz _ (DataW.weights_mem_each ht hd _ (by
        simp only [DataW.weights, Try.underlying36]
        exact List.mem_cons_of_mem _ (List.mem_append_left _ hw)))
      have h2 : ((ss.take len).getD i ByteArray.empty).data.toList.length ≤ reachBytes := by simpa using this
      unfold reachBytes at h2
      rw [← Lib.size_eq] at h2
      omega
    by_cases h0 : len = 0
    · subst h0
      exact ⟨[], .inl ⟨rfl, _, _, rfl⟩, fun i hi => by simp at hi⟩
    · obtain ⟨b, off, spot⟩ := a
      have hspot : spot = none := by simpa [Addr.add] using World.cell?_spot (hcell 0 (by omega))
      subst hspot
      refine ⟨ss.take len, .inr ⟨b, off, cap, by rw [hlen], by omega, ?_, fun i hi => ?_⟩, hstr⟩
      · exact by simpa [Addr.add] using block_lt (hcell 0 (by omega))
      · have := hcell i (by omega)
        have e : (⟨b, off, none⟩ : Addr).add i = ⟨b, off + i, none⟩ := by
          unfold Addr.add; split
          · rename_i h; rw [h]; rfl
          · rfl
        rw [e] at this
        rw [this]
        congr 2
        rw [List.getD_eq_getElem?_getD, List.getD_eq_getElem?_getD, List.getElem?_take]
        rw [if_pos (by omega)]
end Go.Proofs.Ytkdmicpfinjpgaa
