/- DiskNothing: called, of all kinds; the walk. -/
import Derived.Test.YtgadmfbilmlnkabGreatDoorN9i
import Derived.Test.YtgadmfbilmlnkabGreatDoorN9f
namespace Go.Proofs.YtgadmfbilmlnkabGreatDoor
open Go.RowKit Go.Lib

theorem called_all {A : Whys} {B : Nat} {p : Value} {w : World} (h : Noth p w) (he : Env A B w) (hg : w.cell? ⟨1, 0, none⟩ = some (rtV 39)) (q : ActR) (ll : List (Int × Int × Int)) (hst : StopsCame w q.sa q.sn q.sc ll) (hsn : q.sn ≤ 5864062014634) (hns : q.name.size ≤ 140737488355328) (hts : q.dest.size ≤ 140737488355328) :
    Calls Tryz.prog 7 #[p, refD 0, .agg q.cells] w fun e w' => e = .returned (.tuple #[refD 0, .bool true]) ∧ Below w.heap.size w w' := by
  by_cases h1 : 1 ≤ q.kind ∧ q.kind ≤ 6
  · exact called_op h he hg q h1 hns hts
  by_cases h7 : q.kind = 7
  · exact called_plan h q ll hst hsn h7
  by_cases h8 : q.kind = 8
  · exact called_start h q h8
  exact called_none q (by omega)
set_option maxRecDepth 20000 in
set_option maxHeartbeats 8000000 in
theorem noth_walk {A : Whys} {B : Nat} {w : World} (he : Env A B w) (hg : w.cell? ⟨1, 0, none⟩ = some (rtV 39)) (a : Option Addr) (len c : Nat) (hs : ActsSt w a len) :
    Calls Tryz.prog 3 #[.slice a len c] w fun e w' => e = .returned (.bool true) ∧ Below w.heap.size w w' := by
  have HK := Lib.hid (known_any he)
  have HCa : Hid (∀ (W : World) (p : Value) (q : ActR) (ll : List (Int × Int × Int)) (b o : Nat), Below w.heap.size w W → Noth p W → ActSt W b o q ll → Calls Tryz.prog 7 #[p, refD 0, .agg q.cells] W fun e w' => e = .returned (.tuple #[refD 0, .bool true]) ∧ Below W.heap.size W w') := Lib.hid (fun W p q ll b o hb hp hac => called_all hp (he.below (hb.mono he.hi)) (by rw [World.cell?_of_block (hb.block _ (World.block_lt_of_cell? w _ hg))]; exact hg) q ll hac.stops hac.sn hac.act.hname hac.act.hdest)
  have HSm : Hid (∀ (W : World) (p : Value), Noth p W → Calls Tryz.prog 8 #[p, refD 0] W fun e w' => e = .returned (.bool true) ∧ Below W.heap.size W w') := Lib.hid (fun W p hp => same_0 hp 0 rfl)
  have HA := Lib.hid hs
  have hlen : (len : Int) ≤ 4611686018427387904 := by have := hs.1; omega
  clear he hs hg
  unfold refD at *
  go_enter Tryz.func3, Tryz.ntmps3
  go_upto_region 6 with (go_at_call 6; refine HK.out.mono ?_; rintro e w1 ⟨rfl, hb1⟩; have HB1 := Lib.hid hb1; clear hb1)
  obtain ⟨W2, hW2⟩ : ∃ W2, w1.alloc (.cells #[.int .i64 0, .int .i64 0, .int .i64 0, .bool false, .slice none 0 0, .map none] 28) = W2 := ⟨_, rfl⟩
  have HZ : Hid (W2.heap[w1.heap.size]? = some zeroO) := Lib.hid (by rw [← hW2]; exact heap_alloc_new _ _)
  have HB2 : Hid (Below w.heap.size w W2) := Lib.hid (by rw [← hW2]; exact below_box HB1.out _)
  rw [hW2]
  clear hW2 HK
  have HN : Hid (∀ X, Below W2.heap.size W2 X → Noth (.pointer (some ⟨w1.heap.size, 0, none⟩)) X ∧ Below w.heap.size w X) := Lib.hid (fun X hX => ⟨.inr ⟨_, rfl, by rw [hX.block _ (lt_of_heap HZ.out)]; exact HZ.out⟩, HB2.out.trans (hX.mono HB2.out.size)⟩)
  go_wp2_with fail
  go_loopw [6] (fun vi wr => ∃ (k : Nat) (X : World), X = wr ∧ vi = .int .i64 k ∧ k ≤ 40 ∧ Below W2.heap.size W2 X) (fun i _ => 40 - (Go.RowKit.intOf i).toNat)
  case atStart => exact ⟨0, _, rfl, rfl, by omega, Below.refl _ _⟩
  case round =>
    obtain ⟨k, X, hX, rfl, hk, hbX⟩ := hrel
    subst hX
    have hk2 : (k : Int) ≤ 40 := by omega
    have HX := Lib.hid hbX
    by_cases hlt : k < len
    · by_cases h40 : k < 40
      · obtain ⟨b, o, ha, hbw, hall⟩ := HA.out.2 (by omega)
        obtain ⟨ac, ll, hac0⟩ := hall k hlt
        have hli : (k : Int) < (len : Int) := by omega
        have h15 : (k : Int) < 40 := by omega
        have hac := hac0.on hbw (HN.out X hbX).2
        have HC1 := Lib.hid (HCa.out X (.pointer none) ac ll b _ (HN.out X hbX).2 (.inl rfl) hac)
        have HC2 : Hid (∀ W, Below X.heap.size X W → Calls Tryz.prog 7 #[.pointer (some ⟨w1.heap.size, 0, none⟩), .agg #[.slice none 0 0, .int .i64 0, .int .i64 0, .slice none 0 0, .int .i64 0, .bool false], .agg ac.cells] W fun e w' => e = .returned (.tuple #[.agg #[.slice none 0 0, .int .i64 0, .int .i64 0, .slice none 0 0, .int .i64 0, .bool false], .bool true]) ∧ Below W.heap.size W w') := Lib.hid (fun W hW => HCa.out W _ ac ll b (o + k * 7) (HN.out W (HX.out.trans (hW.mono HX.out.size))).2 (HN.out W (HX.out.trans (hW.mono HX.out.size))).1 (hac0.on hbw (HN.out W (HX.out.trans (hW.mono HX.out.size))).2))
        have HAc : Hid (∀ W, Below X.heap.size X W → ActAt W b (o + k * 7) ac) := Lib.hid (fun W hW => (hac0.on hbw (HN.out W (HX.out.trans (hW.mono HX.out.size))).2).act)
        obtain ⟨kind, on, name, dest, data, nn, sa, sn, sc⟩ := ac
        obtain ⟨c0, c1, c2, c3, c4, c5, c6, _, _⟩ := hac.act
        simp only [ActR.cells] at c0 c1 c2 c3 c4 c5 c6 HC1 HC2
        subst ha
        have HLt := Lib.hid (And.intro hlt h40)
        clear hac hac0 hall hbw hbX hk hlt h40
        go_upto_region 10 with (go_at_call 7; refine HC1.out.mono ?_; rintro e w3 ⟨rfl, hb3⟩; have HB3 := Lib.hid hb3; clear hb3)
        clear c0 c1 c2 c3 c4 c5 c6 HC1
        obtain ⟨W4, hW4⟩ : ∃ W4, w3.alloc (.cells #[.slice none 0 0, .int .i64 0, .int .i64 0, .slice none 0 0, .int .i64 0, .bool false] 31) = W4 := ⟨_, rfl⟩
        have HB4 : Hid (Below X.heap.size X W4) := Lib.hid (by rw [← hW4]; exact below_box HB3.out _)
        rw [hW4]
        clear hW4
        obtain ⟨c0, c1, c2, c3, c4, c5, c6, _, _⟩ := HAc.out W4 HB4.out
        simp only at c0 c1 c2 c3 c4 c5 c6
        have HC3 := Lib.hid (HC2.out W4 HB4.out)
        clear HC2
        go_wp2_with (go_at_call 7; refine HC3.out.mono ?_; rintro e w5 ⟨rfl, hb5⟩; have HB5 := Lib.hid hb5; clear hb5)
        go_roundw
        case rel =>
          have h4 := HB4.out
          have h5 : Below X.heap.size X w5 := h4.trans (HB5.out.mono h4.size)
          have h6 := below_box h5 (.cells #[.slice none 0 0, .int .i64 0, .int .i64 0, .slice none 0 0, .int .i64 0, .bool false] 31)
          exact ⟨k + 1, _, rfl, by go_num, by have := HLt.out.2; omega, HX.out.trans (h6.mono HX.out.size)⟩
        case measure => have := HLt.out.2; simp [Go.RowKit.intOf]; omega
      · have hli : (k : Int) < (len : Int) := by omega
        have h15 : ¬ (k : Int) < 40 := by omega
        have HS1 := Lib.hid (HSm.out X (.pointer none) (.inl rfl))
        have HS2 : Hid (∀ W, Below X.heap.size X W → Calls Tryz.prog 8 #[.pointer (some ⟨w1.heap.size, 0, none⟩), .agg #[.slice none 0 0, .int .i64 0, .int .i64 0, .slice none 0 0, .int .i64 0, .bool false]] W fun e w' => e = .returned (.bool true) ∧ Below W.heap.size W w') := Lib.hid (fun W hW => HSm.out W _ (HN.out W (HX.out.trans (hW.mono HX.out.size))).1)
        clear hbX hk
        go_wp2_with (go_at_call 8; first | (refine (HS2.out _ HB3.out).mono ?_; rintro e w4 ⟨rfl, hb4⟩; have HB4 := Lib.hid hb4; clear hb4) | (refine HS1.out.mono ?_; rintro e w3 ⟨rfl, hb3⟩; have HB3 := Lib.hid hb3; clear hb3))
        go_ret
        have h3 := HB3.out
        exact ⟨rfl, (HN.out _ (HX.out.trans ((h3.trans (HB4.out.mono h3.size)).mono HX.out.size))).2⟩
    · have hli : ¬ (k : Int) < (len : Int) := by omega
      have HS1 := Lib.hid (HSm.out X (.pointer none) (.inl rfl))
      have HS2 : Hid (∀ W, Below X.heap.size X W → Calls Tryz.prog 8 #[.pointer (some ⟨w1.heap.size, 0, none⟩), .agg #[.slice none 0 0, .int .i64 0, .int .i64 0, .slice none 0 0, .int .i64 0, .bool false]] W fun e w' => e = .returned (.bool true) ∧ Below W.heap.size W w') := Lib.hid (fun W hW => HSm.out W _ (HN.out W (HX.out.trans (hW.mono HX.out.size))).1)
      clear hbX hk
      go_wp2_with (go_at_call 8; first | (refine (HS2.out _ HB3.out).mono ?_; rintro e w4 ⟨rfl, hb4⟩; have HB4 := Lib.hid hb4; clear hb4) | (refine HS1.out.mono ?_; rintro e w3 ⟨rfl, hb3⟩; have HB3 := Lib.hid hb3; clear hb3))
      go_ret
      have h3 := HB3.out
      exact ⟨rfl, (HN.out _ (HX.out.trans ((h3.trans (HB4.out.mono h3.size)).mono HX.out.size))).2⟩
theorem DiskNothing_walk (v : Value) (w : World) (he : ∃ A B, Env A B w ∧ w.cell? ⟨1, 0, none⟩ = some (rtV 39)) (hv : ∃ a len c, v = .slice a len c ∧ ActsSt w a len) :
    Calls Tryz.prog 3 #[v] w fun e w' => e = .returned (.bool true) ∧ Below w.heap.size w w' := by
  obtain ⟨A, B, he, hg⟩ := he
  obtain ⟨a, len, c, rfl, hs⟩ := hv
  exact noth_walk he hg a len c hs
end Go.Proofs.YtgadmfbilmlnkabGreatDoor
