/- mirror: known. -/
import Derived.Test.YtfcpmiafliegiaaDoorM19u
namespace Go.Proofs.YtfcpmiafliegiaaDoor
open Go.RowKit

theorem row_at {w : World} {e : TypeId} {v : Value} {n : Nat} {xs : List Value} (h : w.ownsRow 0 e 1 v n xs) (hn : 0 < n) : ∃ g cap cur, v = .slice (some ⟨g, 0, none⟩) n cap ∧ w.heap[g]? = some (.cells cur e (0, 0)) ∧ ∀ j, j < n → cur[j]? = xs[j]? := by
  rcases h.2 with ⟨rfl, rfl⟩ | ⟨g, cap, cur, rfl, _, hg, _, _, _, ht⟩
  · omega
  · refine ⟨g, cap, cur, rfl, hg, fun j hj => ?_⟩
    have := congrArg (fun l => l[j]?) ht
    simp only [List.getElem?_take, Nat.mul_one, hj, if_true] at this
    simpa using this
def KnownOut (w : World) (e : Ending) (w' : World) : Prop := e = .returned (.bool true) ∧ Below w.heap.size w w'
set_option maxRecDepth 20000 in
set_option maxHeartbeats 4000000 in
theorem known_any (w : World) : Calls Tryd.prog 13 #[] w (KnownOut w) := by
  obtain ⟨Y0, hY0⟩ : ∃ Y, w.alloc (mirO (.slice none 0 0) false 0 0 0 (.slice none 0 0) (.map none) false) = Y := ⟨_, rfl⟩
  have b0 : Below w.heap.size w Y0 := by rw [← hY0]; exact (Below.refl _ _).alloc (Nat.le_refl _) _
  have m0 : Y0.heap[w.heap.size]? = some (mirO (.slice none 0 0) false 0 0 0 (.slice none 0 0) (.map none) false) := by rw [← hY0]; exact heap_new _ _
  have H3 := Lib.hid (hear_3 w.heap.size Y0 m0)
  have HA : Hid (∀ X, Below Y0.heap.size Y0 X → Calls Tryd.prog 8 #[.pointer (some ⟨w.heap.size, 0, none⟩), .agg (cmC ⟨#[97]⟩ 5 false (.slice none 0 0) (.slice none 0 0))] X fun e w' => e = .returned (.int .i64 0) ∧ ∃ g c, KH w w.heap.size g c false 0 0 0 (.slice none 0 0) (.map none) false w') := Lib.hid (fun X hX => ask_a w w.heap.size X (bel_at hX (lt_of_heap m0) m0) (b0.trans (hX.mono b0.size)) (Nat.le_refl _))
  have H2 : Hid (∀ g c X, KH w w.heap.size g c false 0 0 0 (.slice none 0 0) (.map none) false X → Calls Tryd.prog 9 #[.pointer (some ⟨w.heap.size, 0, none⟩), .agg (anC an2)] X fun e w' => e = .returned (.int .i64 0) ∧ ∃ gr, KH w w.heap.size g c false 0 0 0 (.slice (some ⟨gr, 0, none⟩) 2 2) (.map none) true w' ∧ w'.heap[gr]? = some rw2) := Lib.hid (fun g c X k => hear_2 w w.heap.size g c X k)
  have H7 : Hid (∀ g c gr X, KH w w.heap.size g c false 0 0 0 (.slice (some ⟨gr, 0, none⟩) 2 2) (.map none) true X → X.heap[gr]? = some rw2 → Calls Tryd.prog 9 #[.pointer (some ⟨w.heap.size, 0, none⟩), .agg (anC (an7 X.heap.size))] (X.alloc (.cells #[.int .i64 1, .int .i64 7, .string ⟨#[]⟩, .slice none 0 0] 64)) fun e w' => e = .returned (.int .i64 0) ∧ KH w w.heap.size g c false 7 0 0 (.slice (some ⟨gr, 0, none⟩) 2 2) (.map none) true w' ∧ w'.heap[gr]? = some rw2) := Lib.hid (fun g c gr X k hr => by
    have ha := (Below.refl X.heap.size X).alloc (Nat.le_refl _) (.cells #[.int .i64 1, .int .i64 7, .string ⟨#[]⟩, .slice none 0 0] 64)
    exact hear_7 w w.heap.size g c gr X.heap.size _ (k.on ha) (bel_at ha (lt_of_heap hr) hr) (heap_new _ _))
  have H1 : Hid (∀ g c gr X, KH w w.heap.size g c false 7 0 0 (.slice (some ⟨gr, 0, none⟩) 2 2) (.map none) true X → X.heap[gr]? = some rw2 → Calls Tryd.prog 9 #[.pointer (some ⟨w.heap.size, 0, none⟩), .agg (anC an1)] X fun e w' => e = .returned (.int .i64 0) ∧ ∃ q, w'.heap[w.heap.size]? = some (mirO q true 7 0 0 (.slice (some ⟨gr, 0, none⟩) 2 2) (.map none) false) ∧ w'.heap[gr]? = some rw2 ∧ Below w.heap.size w w') := Lib.hid (fun g c gr X k hr => hear_1 w w.heap.size g c gr X k hr)
  unfold anC an3 at H3
  unfold anC an2 at H2
  unfold anC an7 at H7
  unfold anC an1 at H1
  unfold cmC at HA
  dsimp only at H3 H2 H7 H1
  have HY0 := Lib.hid hY0
  clear hY0 b0 m0
  unfold mirO mirC at HY0
  go_enter Tryd.func13, Tryd.ntmps13
  go_upto_region 2 with (go_at_call 14; refine (New_any w).mono ?_; rintro e w1 ⟨rfl, rfl⟩; unfold mirO mirC)
  rw [HY0.out]
  clear HY0
  go_upto_region 4 with (first | (go_at_call 9; refine H3.out.mono ?_; rintro e w2 ⟨rfl, hb2⟩; have HB2 := Lib.hid hb2; clear hb2) | (go_at_call 7; refine (num_any _ _).mono ?_; rintro e w3 ⟨rfl, rfl⟩))
  go_upto_region 5 with (go_at_call 8; refine (HA.out _ HB2.out).mono ?_; rintro e w4 ⟨rfl, g, c, hk⟩; have HK4 := Lib.hid hk; clear hk)
  clear HA H3 HB2
  go_upto_region 6 with (go_at_call 9; refine (H2.out _ _ _ HK4.out).mono ?_; rintro e w5 ⟨rfl, gr, hk, hr⟩; have HK5 := Lib.hid hk; have HR5 := Lib.hid hr; clear hk hr)
  clear H2 HK4
  go_upto_region 7 with (go_at_call 9; refine (H7.out _ _ _ _ HK5.out HR5.out).mono ?_; rintro e w6 ⟨rfl, hk, hr⟩; have HK6 := Lib.hid hk; have HR6 := Lib.hid hr; clear hk hr)
  clear H7 HK5 HR5
  go_upto_region 8 with (go_at_call 9; refine (H1.out _ _ _ _ HK6.out HR6.out).mono ?_; rintro e w7 ⟨rfl, q, hm, hr, hb⟩; have HM7 := Lib.hid hm; have HR7 := Lib.hid hr; have HB7 := Lib.hid hb; clear hm hr hb)
  clear H1 HK6 HR6
  have HSi := Lib.hid (Sight_two w.heap.size q 7 0 0 gr 2 (.map none) false w7 HM7.out HR7.out)
  go_upto_region 9 with (first | (go_at_call 12; refine HSi.out.mono ?_; rintro e w8 ⟨us, fl, kn, rfl, hb8, hru, hrf, hrk⟩; obtain ⟨gu, cu, xu, hus, hgu, hxu⟩ := row_at hru (by omega); obtain ⟨fa, fc, hfl⟩ := ownsRow_shape hrf; obtain ⟨gk, ck, xk, hkn, hgk, hxk⟩ := row_at hrk (by omega); subst hus hfl hkn; unfold siC; have HB8 := Lib.hid hb8; have HU := Lib.hid (And.intro hgu hxu); have HKk := Lib.hid (And.intro hgk hxk); clear hb8 hru hrf hrk hgu hxu hgk hxk; have HOn : Hid ((#[.bool true, .int .i64 7, .int .i64 0, .int .i64 0, .slice (some ⟨gu, 0, none⟩) 2 cu, .slice fa 2 fc, .slice (some ⟨gk, 0, none⟩) 2 ck] : Array Value).all (·.oneCell') = true) := Lib.hid (by simp [Value.oneCell'])) | (refine wpList_store_row rfl 47 _ _ rfl w8.heap.size #[.bool true, .int .i64 7, .int .i64 0, .int .i64 0, .slice (some ⟨gu, 0, none⟩) 2 cu, .slice fa 2 fc, .slice (some ⟨gk, 0, none⟩) 2 ck] rfl rfl 47 _ (heap_new _ _) Tryd.sizeSi rfl HOn.out ?_))
  clear HSi HOn
  obtain ⟨Y9, hY9⟩ : ∃ Y, (w8.alloc (.cells #[.bool false, .int .i64 0, .int .i64 0, .int .i64 0, .slice none 0 0, .slice none 0 0, .slice none 0 0] 47)).setRow w8.heap.size #[.bool true, .int .i64 7, .int .i64 0, .int .i64 0, .slice (some ⟨gu, 0, none⟩) 2 cu, .slice fa 2 fc, .slice (some ⟨gk, 0, none⟩) 2 ck] = Y := ⟨_, rfl⟩
  rw [hY9]
  obtain ⟨b9, r9⟩ := box_below hY9
  have b79 := HB8.out.trans (b9.mono HB8.out.size)
  have M9 := bel_at b79 (lt_of_heap HM7.out) HM7.out
  have HRs := Lib.hid (Resync_far w.heap.size q 7 0 0 (some ⟨gr, 0, none⟩) 2 2 (.map none) false false 0 0 0 none none none 0 0 0 0 0 0 Y9 M9 (by omega) (.inl (by decide)))
  have hFin : Hid (∀ X, Stays [w.heap.size] Y9 X → X.cell? ⟨w8.heap.size, 0, none⟩ = some (.bool true) ∧ X.cell? ⟨w8.heap.size, 1, none⟩ = some (.int .i64 7) ∧ X.cell? ⟨w8.heap.size, 4, none⟩ = some (.slice (some ⟨gu, 0, none⟩) 2 cu) ∧ X.cell? ⟨w8.heap.size, 6, none⟩ = some (.slice (some ⟨gk, 0, none⟩) 2 ck) ∧ X.cell? ⟨gu, 0, none⟩ = some (.int .i64 0) ∧ X.cell? ⟨gk, 1, none⟩ = some (.bool false) ∧ Below w.heap.size w X) := Lib.hid (fun X hX => by
    obtain ⟨u1, u2⟩ := HU.out
    obtain ⟨k1, k2⟩ := HKk.out
    have u9 := bel_at b9 (lt_of_heap u1) u1
    have k9 := bel_at b9 (lt_of_heap k1) k1
    have rx := hX.at_ r9 (by simpa using kind_ne r9 M9 (by decide))
    have ux := hX.at_ u9 (by simpa using kind_ne u9 M9 (by decide))
    have kx := hX.at_ k9 (by simpa using kind_ne k9 M9 (by decide))
    refine ⟨cell_of rx 0, cell_of rx 1, cell_of rx 4, cell_of rx 6, by rw [cell_of ux]; exact u2 0 (by omega), by rw [cell_of kx]; exact k2 1 (by omega), ?_⟩
    have bw9 : Below w.heap.size w Y9 := HB7.out.trans (b79.mono HB7.out.size)
    exact bw9.trans (hX.below (fun b hb => by simp at hb; omega) bw9.size))
  unfold siC at HRs
  clear hY9 b9 r9 b79 M9 HB8 HU HKk HM7 HR7 HB7
  go_upto_region 10 with (go_at_call 10; refine HRs.out.mono ?_; rintro e w10 ⟨gc, gs, ia, ic, rfl, hs, _, _, _, hc, _, _, _⟩; have HS10 := Lib.hid hs; have HC10 := Lib.hid hc; clear hs hc)
  obtain ⟨f0, f1, f4, f6, fu, fk, fb⟩ := hFin.out _ HS10.out
  have hc10 := HC10.out
  unfold cmC at hc10
  have c10 : w10.cell? ⟨gc, 10, none⟩ = some (.slice ia 2 ic) := cell_of hc10 10
  have FB := Lib.hid fb
  clear fb hc10 HC10 HS10 hFin HRs
  go_wp2_with (go_at_call 7; refine (num_any _ _).mono ?_; rintro e w11 ⟨rfl, rfl⟩)
  go_ret
  exact ⟨rfl, FB.out⟩
end Go.Proofs.YtfcpmiafliegiaaDoor
