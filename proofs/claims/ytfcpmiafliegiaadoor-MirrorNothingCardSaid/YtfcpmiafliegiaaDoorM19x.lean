/- MirrorNothing: the walk. -/
import Derived.Test.YtfcpmiafliegiaaDoorM19v
import Derived.Test.YtfcpmiafliegiaaDoorM19w
namespace Go.Proofs.YtfcpmiafliegiaaDoor
open Go.RowKit

theorem wpList_load_mid_g {ops : Array Oper} {rest : List Oper} {op : Oper} {a : Act} {w : World} {Q : Exit → Act → World → Prop} (hw : Region.wanted op (yielded ops a.tmps) = true) (ty : TypeId) (x : Operand) (ho : op.op = .load ty x)
    (b o : Nat) (hx : a.eval x = .pointer (some ⟨b, o, none⟩)) (cs : List Value) (d : TypeDesc) (hc : w.rangeAt b o cs)
    (hu : Tryd.prog.underlying ty = some d) (hd : d.isRow = true) (hi : (Tryd.prog.info? ty).map (·.size) = some cs.length)
    (h : wpList Tryd.prog ops Q rest (a.put op.dst (.agg cs.toArray)) w) : wpList Tryd.prog ops Q (op :: rest) a w := by
  unfold wpList
  rw [if_pos hw]
  exact .inl (wp_load_mid ty x ho b o hx cs d hc hu hd hi h)
set_option maxRecDepth 20000 in
set_option maxHeartbeats 2000000 in
theorem sights_00 (w : World) : Calls Tryd.prog 11 #[.agg si0, .agg si0] w fun e w' => e = .returned (.bool true) ∧ Below w.heap.size w w' := by
  have b0 := Lib.hid (two_below w (.cells si0 47) (.cells si0 47))
  unfold si0 siC at b0 ⊢
  go_enter Tryd.func11, Tryd.ntmps11
  go_wp2_with fail
  go_loopw [6] (fun i wr => ∃ X : World, X = wr ∧ i = .int .i64 0 ∧ Below w.heap.size w X) (fun _ _ => 0)
  case atStart => exact ⟨_, rfl, rfl, b0.out⟩
  case round =>
    obtain ⟨X, rfl, rfl, hb⟩ := hrel
    have HB := Lib.hid hb
    clear hb
    go_wp2_with fail
    go_ret
    exact ⟨rfl, HB.out⟩
theorem box_range {Y : World} {b z : Nat} {cs : List Value} {t : TypeId} (h : Y.heap[b]? = some (.cells cs.toArray t (0, 0))) (o : Nat) : Y.rangeAt b o ((cs.drop o).take z) := by
  intro j u hj
  rw [cell_of h]
  rw [List.getElem?_take] at hj
  split at hj
  · rw [List.getElem?_drop] at hj
    simpa using hj
  · cases hj
def NothingOut (w : World) (e : Ending) (w' : World) : Prop := e = .returned (.bool true) ∧ Below w.heap.size w w'
set_option maxRecDepth 20000 in
set_option maxHeartbeats 4000000 in
theorem MirrorNothing_walk (W : World) (v : Value) (hv : RowOf W 74 (StC W) v) : Calls Tryd.prog 3 #[v] W (NothingOut W) := by
  have HL := Lib.hid (long_any W W v hv (Below.refl _ _))
  obtain ⟨a, N, c, rfl, hN, hrow⟩ := hv
  have HN := Lib.hid hN
  have HR := Lib.hid hrow
  clear hrow hN
  go_enter Tryd.func3, Tryd.ntmps3
  go_upto_region 3 with (go_at_call 6; refine HL.out.mono ?_; rintro e w1 ⟨b, rfl, hb⟩; have HB1 := Lib.hid hb; clear hb)
  · go_ret
    exact ⟨rfl, HB1.out⟩
  obtain rfl : b = false := by assumption
  clear HL
  go_wp2_with fail
  go_loopw [4] (fun i wr => ∃ (j : Nat) (X : World), X = wr ∧ i = .int .i64 j ∧ j ≤ N ∧ Below W.heap.size W X) (fun i _ => N - (intOf i).toNat)
  case atStart => exact ⟨0, _, rfl, rfl, Nat.zero_le _, HB1.out⟩
  case round =>
    obtain ⟨j, X, rfl, rfl, hj, hbX⟩ := hrel
    have HB := Lib.hid hbX
    clear hbX
    by_cases hlt : j < N
    · have hlti : (j : Int) < (N : Int) := by omega
      have hjb : (N : Int) ≤ 9223372036854775807 := by have := HN.out; omega
      obtain ⟨g, o, rfl, hg, hall⟩ := HR.out (by omega)
      obtain ⟨cs, hlen, hst, hrg⟩ := hall j hlt
      have HRG := Lib.hid (range_on hrg HB.out hg)
      obtain ⟨Y, hY⟩ : ∃ Y, (X.alloc (.cells stZ 49)).setRow X.heap.size cs.toArray = Y := ⟨_, rfl⟩
      obtain ⟨bY, rY⟩ := box_below hY
      have HSz : Hid ((Tryd.prog.info? 49).map (·.size) = some cs.toArray.size) := Lib.hid (by rw [Tryd.sizeSt]; simp [hlen])
      have HSl : Hid ((Tryd.prog.info? 49).map (·.size) = some cs.length) := Lib.hid (by rw [Tryd.sizeSt, hlen])
      have HO : Hid (cs.toArray.all (·.oneCell') = true) := Lib.hid (all_oneCell_toArray hst.one)
      have HZc : Hid (stZ.size = cs.toArray.size) := Lib.hid (by simp [hlen, stZ])
      have HBY : Hid (Below W.heap.size W Y) := Lib.hid (HB.out.trans (bY.mono HB.out.size))
      have HBX : Hid (∀ X2, Below Y.heap.size Y X2 → X2.heap[X.heap.size]? = some (.cells cs.toArray 49 (0, 0))) := Lib.hid (fun X2 h2 => bel_at h2 (lt_of_heap rY) rY)
      have R1 : Hid (∀ X2, Below Y.heap.size Y X2 → X2.rangeAt X.heap.size 2 ((cs.drop 2).take 49)) := Lib.hid (fun X2 h2 => box_range (HBX.out X2 h2) 2)
      have R2 : Hid (∀ X2, Below Y.heap.size Y X2 → X2.rangeAt X.heap.size 51 ((cs.drop 51).take 16)) := Lib.hid (fun X2 h2 => box_range (HBX.out X2 h2) 51)
      have R3 : Hid (∀ X2, Below Y.heap.size Y X2 → X2.rangeAt X.heap.size 67 ((cs.drop 67).take 7)) := Lib.hid (fun X2 h2 => box_range (HBX.out X2 h2) 67)
      have S1 : Hid ((Tryd.prog.info? 38).map (·.size) = some ((cs.drop 2).take 49).length) := Lib.hid (by rw [Tryd.sizeCm]; simp [hlen])
      have S2 : Hid ((Tryd.prog.info? 43).map (·.size) = some ((cs.drop 51).take 16).length) := Lib.hid (by rw [Tryd.sizeAn]; simp [hlen])
      have S3 : Hid ((Tryd.prog.info? 47).map (·.size) = some ((cs.drop 67).take 7).length) := Lib.hid (by rw [Tryd.sizeSi]; simp [hlen])
      have HY := Lib.hid hY
      clear hY bY rY hst hlen hrg hall hg HB
      go_upto_region 8 with (first | (refine wpList_load_mid rfl 49 _ rfl g (o + j * 74) rfl cs _ HRG.out Tryd.underlying49 rfl HSl.out ?_) | (refine wpList_store_row rfl 49 _ _ rfl X.heap.size cs.toArray rfl rfl 49 _ (heap_new _ _) HSz.out HZc.out HO.out ?_))
      refine wp_gen (fun Y' hY' => ?_)
      obtain rfl : Y = Y' := (hY'.trans HY.out).symm
      clear hY' HY HRG HO HSz HSl HZc
      have BR := Lib.hid (Below.refl Y.heap.size Y)
      generalize (cs.drop 2).take 49 = l1 at *
      generalize (cs.drop 51).take 16 = l2 at *
      generalize (cs.drop 67).take 7 = l3 at *
      go_wp2_with (first | (refine wpList_load_mid rfl 38 _ rfl X.heap.size 2 rfl l1 _ (R1.out _ BR.out) Tryd.underlying38 rfl S1.out ?_) | (refine wpList_load_mid_g (by kernel_rfl) 43 _ rfl X.heap.size 51 rfl l2 _ (R2.out _ B1.out) Tryd.underlying43 rfl S2.out ?_) | (refine wpList_load_mid_g (by kernel_rfl) 47 _ rfl X.heap.size 67 rfl l3 _ (R3.out _ B2.out) Tryd.underlying47 rfl S3.out ?_) | (go_at_call 8; refine (Ask_nil _ _).mono ?_; rintro e wa ⟨rfl, hb⟩; have B1 : Hid (Below Y.heap.size Y wa) := Lib.hid hb; clear hb) | (go_at_call 9; refine (Hear_nil _ _).mono ?_; rintro e wb ⟨rfl, hb⟩; have B2 : Hid (Below Y.heap.size Y wb) := Lib.hid (B1.out.trans (hb.mono B1.out.size)); clear hb) | (go_at_call 10; refine (Resync_nil _ _).mono ?_; rintro e wc ⟨rfl, hb⟩; have B3 : Hid (Below Y.heap.size Y wc) := Lib.hid (B2.out.trans (hb.mono B2.out.size)); clear hb) | (go_at_call 12; refine (Sight_nil _).mono ?_; rintro e wd ⟨rfl, hb⟩; have B4 : Hid (Below Y.heap.size Y wd) := Lib.hid (B3.out.trans (hb.mono B3.out.size)); clear hb) | (go_at_call 11; refine (sights_00 _).mono ?_; rintro e we ⟨rfl, hb⟩; have B5 : Hid (Below Y.heap.size Y we) := Lib.hid (B4.out.trans (hb.mono B4.out.size)); clear hb) | (go_at_call 7; refine (num_any _ _).mono ?_; rintro e wn ⟨rfl, rfl⟩))
      go_roundw
      case rel => exact ⟨j + 1, _, rfl, by go_num, by omega, HBY.out.trans (B5.out.mono HBY.out.size)⟩
      case measure => simp [intOf]; omega
    · have hlti : ¬ (j : Int) < (N : Int) := by omega
      go_wp2_with (go_at_call 13; refine (known_any _).mono ?_; rintro e wk ⟨rfl, hb⟩; have HBk := Lib.hid hb; clear hb)
      go_ret
      exact ⟨rfl, HB.out.trans (HBk.out.mono HB.out.size)⟩
end Go.Proofs.YtfcpmiafliegiaaDoor
