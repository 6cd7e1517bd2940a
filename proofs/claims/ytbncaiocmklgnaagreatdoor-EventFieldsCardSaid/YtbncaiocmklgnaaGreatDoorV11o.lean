/- event: the cursor's event, of an event with a name. -/
import Derived.Test.YtbncaiocmklgnaaGreatDoorV11n
namespace Go.Proofs.YtbncaiocmklgnaaGreatDoor
open Go.RowKit Go.Lib

set_option maxHeartbeats 2000000 in
/-- read. -/
theorem name_read {cb eb p : Nat} {b : UInt8} {l : List UInt8} {w0 w : World} {n k : Int} {s : ByteArray} {K : List (Nat × Obj)} (h : KC cb w0 ((cb, curO (b :: l)) :: (eb, .cells (evV n k s none 0 0) 35 (0, 0)) :: (p, .cells #[fnV 70 #[]] 106 (0, 0)) :: K) w)
    (hl : l.length ≤ 1000) (hb : b.toNat ≤ 127) (hn : b.toNat ≤ l.length) (hle : w0.heap.size ≤ eb) (hd : ∀ x, x ∈ K → x.1 ≠ cb ∧ x.1 ≠ eb) :
    Calls Tryz.prog 90 #[ptr cb, ptr eb, ptr p] w fun e w' => e = .returned (.tuple #[]) ∧ KC cb w0 ((cb, curO (l.drop b.toNat)) :: (eb, .cells (evV n k (S (l.take b.toNat)) none 0 0) 35 (0, 0)) :: (p, .cells #[fnV 70 #[]] 106 (0, 0)) :: K) w' := by
  have hc := h.kept (cb, _) List.mem_cons_self
  have he := h.kept (eb, _) (List.mem_cons_of_mem _ List.mem_cons_self)
  have hp := h.kept (p, _) (List.mem_cons_of_mem _ (List.mem_cons_of_mem _ List.mem_cons_self))
  simp only at hc he hp
  have n1 : eb ≠ cb := ne_obj he hc (by simp [objT])
  have n2 : p ≠ cb := ne_obj hp hc (by simp [objT])
  have n3 : p ≠ eb := ne_obj hp he (by simp [objT])
  have HT := Lib.hid (text_small ⟨hc⟩ hl hb hn)
  have HA := Lib.hid (at_name eb w)
  have c1 := box1 hp
  have HP : Hid (∀ W, KC cb w [(cb, curO (l.drop b.toNat))] W → W.cell? ⟨eb, 5, none⟩ = some (.string s) ∧ W.frozen? ⟨eb, 5, none⟩ = false ∧ KC cb w0 ((cb, curO (l.drop b.toNat)) :: (eb, .cells (evV n k (S (l.take b.toNat)) none 0 0) 35 (0, 0)) :: (p, .cells #[fnV 70 #[]] 106 (0, 0)) :: K) (W.setCell ⟨eb, 5, none⟩ (.string (S (l.take b.toNat))))) := Lib.hid (fun W hW => by
    have h2 := h.then hW (fun x hx => by
      rcases List.mem_cons.1 hx with rfl | hx
      · exact n1
      · rcases List.mem_cons.1 hx with rfl | hx
        · exact n2
        · exact (hd x hx).1)
    have he2 := h2.kept (eb, _) (List.mem_cons_of_mem _ List.mem_cons_self)
    refine ⟨(ev_cells he2).2.2.2.2.2.1, frozen_of he2 5, ?_⟩
    have h3 : KC cb w0 ((eb, .cells (evV n k s none 0 0) 35 (0, 0)) :: (cb, curO (l.drop b.toNat)) :: (p, .cells #[fnV 70 #[]] 106 (0, 0)) :: K) W := h2.sub (fun x hx => by
      simp only [List.mem_cons] at hx ⊢
      rcases hx with h | h | h | h <;> simp [h])
    have h4 := h3.cell (.inr hle) (fun x hx => by
      rcases List.mem_cons.1 hx with rfl | hx
      · exact n1.symm
      · rcases List.mem_cons.1 hx with rfl | hx
        · exact n3
        · exact (hd x hx).2) 5 (.string (S (l.take b.toNat)))
    exact h4.sub (fun x hx => by
      simp only [List.mem_cons] at hx ⊢
      rcases hx with h | h | h | h
      · simp [h]
      · exact .inl h
      · simp [h]
      · simp [h]))
  clear h hc he hp n1 n2 n3 hl hb hn hle hd
  generalize S (l.take b.toNat) = t1 at *
  generalize l.drop b.toNat = l2 at *
  go_enter Tryz.func90, Tryz.ntmps90
  go_wp2_with (first | (go_at_call 70; refine HA.out.mono ?_; rintro e w2 ⟨rfl, hw2⟩; subst w2) | (go_at_call 91; refine HT.out.mono ?_; rintro e w3 ⟨rfl, hk⟩; obtain ⟨y1, y2, y3⟩ := HP.out _ hk; have HY := Lib.hid y3; clear y3 hk))
  first | refine bodyPost_end (results_none rfl _ _ _) rfl ?_ | refine bodyPost_ret (results_none rfl _ _ _) rfl ?_
  exact ⟨rfl, HY.out⟩
end Go.Proofs.YtbncaiocmklgnaaGreatDoor
