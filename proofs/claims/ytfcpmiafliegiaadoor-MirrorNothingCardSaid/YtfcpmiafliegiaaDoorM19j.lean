/- mirror: a SELECT is answered OK. -/
import Derived.Test.YtfcpmiafliegiaaDoorM19i
namespace Go.Proofs.YtfcpmiafliegiaaDoor
open Go.RowKit

def mpO (P : Nat) : Obj := .cells #[.pointer (some ⟨P, 0, none⟩)] 24
theorem Stays.at_ {fp : List Nat} {w w' : World} {b : Nat} {o : Obj} (h : Stays fp w w') (e : w.heap[b]? = some o) (hn : b ∉ fp) : w'.heap[b]? = some o := by rw [h.block b (lt_of_heap e) hn]; exact e
set_option maxRecDepth 10000 in
set_option maxHeartbeats 2000000 in
theorem answered1_open (P : Nat) (sel : Bool) (v n h : Int) (rows was : Value) (bg : Bool) (g c : Nat) (cs : Array Value) (k : AK) (hk : (k.verb == 5 || k.verb == 6) = true) (hks : ∃ sa sn sc, k.set = .slice sa sn sc) (a : AN) (ha : a.out = 1) (bm bc ba : Nat) (w : World) (hM : w.heap[P]? = some (mirO (.slice (some ⟨g, 0, none⟩) 1 c) sel v n h rows was bg)) (hG : w.heap[g]? = some (.cells cs 78 (0, 0))) (h5 : 5 ≤ cs.size) (h1 : 1 ≤ c)
    (hm : w.heap[bm]? = some (mpO P)) (hc : w.heap[bc]? = some (.cells (akC k) 78 (0, 0))) (hA : w.heap[ba]? = some (anO a)) (hcg : bc ≠ g) :
    Calls Tryd.prog 55 #[.pointer (some ⟨bm, 0, none⟩), .pointer (some ⟨bc, 0, none⟩), .pointer (some ⟨ba, 0, none⟩)] w fun e w' => e = .returned (.tuple #[]) ∧ Stays [P, g] w w' ∧ ∃ q', w'.heap[P]? = some (mirO q' true v n h rows was false) := by
  have HD := Lib.hid (drop_one P sel v n h rows was bg g c cs w hM hG h5 h1)
  have b0 : w.cell? ⟨bm, 0, none⟩ = some (.pointer (some ⟨P, 0, none⟩)) := by unfold mpO at hm; exact cell_of hm 0
  have nm : bm ∉ [P, g] := by
    intro e
    rcases List.mem_cons.1 e with e | e
    · exact kind_ne (by unfold mpO at hm; exact hm) (by unfold mirO at hM; exact hM) (by decide) e
    · exact kind_ne (by unfold mpO at hm; exact hm) hG (by decide) (by simpa using e)
  have nc : bc ∉ [P, g] := by
    intro e
    rcases List.mem_cons.1 e with e | e
    · exact kind_ne hc (by unfold mirO at hM; exact hM) (by decide) e
    · exact hcg (by simpa using e)
  have na : ba ∉ [P, g] := by
    intro e
    rcases List.mem_cons.1 e with e | e
    · exact kind_ne (by unfold anO at hA; exact hA) (by unfold mirO at hM; exact hM) (by decide) e
    · exact kind_ne (by unfold anO at hA; exact hA) hG (by decide) (by simpa using e)
  have HX : Hid (∀ X, Stays [P, g] w X → X.cell? ⟨bm, 0, none⟩ = some (.pointer (some ⟨P, 0, none⟩)) ∧ X.heap[bc]? = some (.cells (akC k) 78 (0, 0)) ∧ X.cell? ⟨ba, 2, none⟩ = some (.int .i64 1)) := Lib.hid (fun X hX => by
    refine ⟨?_, hX.at_ hc nc, ?_⟩
    · have := hX.at_ hm nm
      unfold mpO at this
      exact cell_of this 0
    · rw [(an_cells (hX.at_ hA na)).2.2.1, ha])
  have HO : Hid (∀ X, Calls Tryd.prog 36 #[.agg (akC k)] X fun e w' => e = .returned (.bool true) ∧ Below X.heap.size X w') := Lib.hid (fun X => by rw [← hk]; exact opens_any k X)
  obtain ⟨kt, kv, ku, ks, kst⟩ := k
  obtain ⟨sa, sn, sc, hs⟩ := hks
  simp only at hs
  subst hs
  clear hk hM hG h5 h1 hm hc hA hcg nm nc na ha
  go_enter Tryd.func55, Tryd.ntmps55
  go_upto_region 1 with (go_at_call 56; refine HD.out.mono ?_; rintro e w1 ⟨rfl, hs1, q1, hm1⟩; have HS1 := Lib.hid hs1; have HM1 := Lib.hid hm1; clear hs1 hm1)
  obtain ⟨d0, _, _⟩ := HX.out _ HS1.out
  have m7 := (mir_cells HM1.out).c7
  have f7 := mir_fz HM1.out 7
  go_upto_region 2 with fail
  clear b0 d0 m7 f7 HD
  obtain ⟨W2, hW2⟩ : ∃ W2, w1.setCell ⟨P, 7, none⟩ (.bool false) = W2 := ⟨_, rfl⟩
  rw [hW2]
  have hm2 : W2.heap[P]? = some (mirO q1 sel v n h rows was false) := by rw [← hW2]; exact mir_set7 HM1.out _
  have hs2 : Stays [P, g] w W2 := by rw [← hW2]; exact HS1.out.setCell (.inl (by simp)) _
  obtain ⟨_, e1, e2⟩ := HX.out _ hs2
  obtain ⟨x0, x1, x2, x3, x4⟩ := ak_cells e1
  simp only at x0 x1 x2 x3 x4
  have HM2 := Lib.hid hm2
  have HS2 := Lib.hid hs2
  clear hW2 hm2 hs2 HM1 HS1 e1
  have HXo : Hid (∀ X, Below W2.heap.size W2 X → X.cell? ⟨bm, 0, none⟩ = some (.pointer (some ⟨P, 0, none⟩)) ∧ X.cell? ⟨ba, 2, none⟩ = some (.int .i64 1) ∧ X.cell? ⟨P, 1, none⟩ = some (.bool sel) ∧ X.frozen? ⟨P, 1, none⟩ = false ∧ Stays [P, g] w (X.setCell ⟨P, 1, none⟩ (.bool true)) ∧ (X.setCell ⟨P, 1, none⟩ (.bool true)).heap[P]? = some (mirO q1 true v n h rows was false)) := Lib.hid (fun X hX => by
    have sX : Stays [P, g] w X := HS2.out.trans (Stays.ofBelow (fp := []) hX) (fun b hb => by cases hb)
    have mX : X.heap[P]? = some (mirO q1 sel v n h rows was false) := bel_at hX (lt_of_heap HM2.out) HM2.out
    obtain ⟨y0, _, y2⟩ := HX.out _ sX
    exact ⟨y0, y2, (mir_cells mX).c1, mir_fz mX 1, sX.setCell (.inl (by simp)) _, mir_set1 mX _⟩)
  clear HX HM2 HS2
  unfold akC at HO
  simp only at HO
  go_wp2_with (go_at_call 36; refine (HO.out _).mono ?_; rintro e w3 ⟨rfl, hb3⟩; obtain ⟨y0, y2, y1, yf, ys, ym⟩ := HXo.out _ hb3; have YS := Lib.hid ys; have YM := Lib.hid ym; clear hb3 ys ym)
  first | refine bodyPost_end (results_none rfl _ _ _) rfl ?_ | refine bodyPost_ret (results_none rfl _ _ _) rfl ?_
  exact ⟨rfl, YS.out, q1, YM.out⟩
end Go.Proofs.YtfcpmiafliegiaaDoor
