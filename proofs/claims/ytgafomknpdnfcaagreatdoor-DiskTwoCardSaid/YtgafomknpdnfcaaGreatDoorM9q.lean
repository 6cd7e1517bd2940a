/- DiskTwo: the walk. -/
import Derived.Test.YtgafomknpdnfcaaGreatDoorM9j
namespace Go.Proofs.YtgafomknpdnfcaaGreatDoor
open Go.RowKit Go.Lib

theorem wrap_tmod (x : Int) : IntKind.i64.wrap (Int.tmod x 2) = Int.tmod x 2 := by
  have h := Int.natAbs_tmod x 2
  have h2 : x.natAbs % (2 : Int).natAbs < 2 := Nat.mod_lt _ (by decide)
  rw [← h] at h2
  have h1 : Int.tmod x 2 = 0 ∨ Int.tmod x 2 = 1 ∨ Int.tmod x 2 = -1 := by
    generalize Int.tmod x 2 = t at h2 ⊢
    omega
  rcases h1 with h | h | h <;> rw [h] <;> decide
set_option maxRecDepth 20000 in
set_option maxHeartbeats 16000000 in
theorem two_walk {A : Whys} {B : Nat} {w : World} (he : Env A B w) (hg : w.cell? ⟨5, 0, none⟩ = some (rtV 26)) (q1 q2 : Nat) (hq1 : 1 ≤ q1) (hq2 : q1 ≤ 1048576) (hr1 : 1 ≤ q2) (hr2 : q2 ≤ 1048576) (a : Option Addr) (len c : Nat) (hs : ActsSt w a len) :
    Calls Tryz.prog 4 #[.int .i64 (q1 : Int), .int .i64 (q2 : Int), .slice a len c] w fun e w' => e = .returned (.bool true) ∧ Below w.heap.size w w' := by
  have HK := Lib.hid (known_any he)
  have HEn : Hid (∀ W, Below w.heap.size w W → Env A w.heap.size W) := Lib.hid (fun W hb => (he.up he.hi (Nat.le_refl _)).below hb)
  have HN := Lib.hid (fun W (hb : Below w.heap.size w W) => NewD (A := A) (w0 := w) (w := W) hb (HEn.out W hb) q1 hq1 hq2)
  have HN2 := Lib.hid (fun W d1 (h1 : Dk A w d1 ⟨q1, 0, true, []⟩ [] [] W) => New2 (A := A) (w0 := w) h1.w0 h1.envW h1 q2 hr1 hr2)
  have HRN := Lib.hid (fun W (x : Int) (h1 : 1 ≤ x) (h2 : x ≤ 1048576) => rNew_ok x h1 h2 W)
  have HA := Lib.hid hs
  have HG := Lib.hid hg
  have HQ := Lib.hid (And.intro hq1 hq2)
  have HQ2 := Lib.hid (And.intro hr1 hr2)
  have hqi : (q1 : Int) ≤ 1048576 := by omega
  have hqj : (q2 : Int) ≤ 1048576 := by omega
  have hlen : (len : Int) ≤ 4611686018427387904 := by have := hs.1; omega
  clear he hs hq1 hq2 hg hr1 hr2
  unfold refD at HRN
  go_enter Tryz.func4, Tryz.ntmps4
  go_upto_region 5 with (first | (go_at_call 5; refine HK.out.mono ?_; rintro e w1 ⟨rfl, hb1⟩; have HB1 := Lib.hid hb1; clear hb1) | (go_at_call 6; refine (HN.out _ HB1.out).mono ?_; rintro e w2 ⟨d1, rfl, h2⟩; have K2 := Lib.hid h2; clear h2))
  go_upto_region 6 with (go_at_call 6; refine (HN2.out _ _ K2.out).mono ?_; rintro e w3 ⟨d2, rfl, h3⟩; have K3 := Lib.hid h3; clear h3)
  go_upto_region 7 with (go_at_call 7; refine (HRN.out _ _ (by have := HQ.out; omega) (by have := HQ.out; omega)).mono ?_; rintro e w4 ⟨rfl, hb4⟩; have HB4 := Lib.hid hb4; clear hb4)
  have K4 := Lib.hid ((K3.out.up HB4.out).keep (w' := w4.alloc (.cells #[.slice none 0 0, .int .i64 (q1 : Int), .int .i64 0, .slice none 0 0, .int .i64 0, .bool false] 32)) ((Below.refl _ _).alloc (Nat.le_refl _) _) (Nat.le_refl _) (heap_alloc_new _ _))
  have HLo : Hid (w.heap.size ≤ w4.heap.size) := Lib.hid (K3.out.up HB4.out).w0.size
  have HL1 : Hid (w4.heap.size < (w4.alloc (.cells #[.slice none 0 0, .int .i64 (q1 : Int), .int .i64 0, .slice none 0 0, .int .i64 0, .bool false] 32)).heap.size) := Lib.hid (by simp)
  generalize w4.heap.size = b1 at K4 HLo HL1 ⊢
  generalize w4.alloc (.cells #[.slice none 0 0, .int .i64 (q1 : Int), .int .i64 0, .slice none 0 0, .int .i64 0, .bool false] 32) = W4 at K4 HL1 ⊢
  go_upto_region 8 with (go_at_call 7; refine (HRN.out _ _ (by have := HQ2.out; omega) (by have := HQ2.out; omega)).mono ?_; rintro e w5 ⟨rfl, hb5⟩; have HB5 := Lib.hid hb5; clear hb5)
  have HI0 : Hid (TwoI A w d1 d2 b1 w5.heap.size 0 [] ⟨q1, 0, true, []⟩ [] [] [] 0 (.slice none 0 0) (.slice none 0 0) ⟨q2, 0, true, []⟩ [] [] [] 0 (.slice none 0 0) (.slice none 0 0) (w5.alloc (.cells #[.slice none 0 0, .int .i64 (q2 : Int), .int .i64 0, .slice none 0 0, .int .i64 0, .bool false] 32))) := Lib.hid (by
    have hd := (K4.out.up HB5.out).keep (w' := w5.alloc (.cells #[.slice none 0 0, .int .i64 (q2 : Int), .int .i64 0, .slice none 0 0, .int .i64 0, .bool false] 32)) ((Below.refl _ _).alloc (Nat.le_refl _) _) (Nat.le_refl _) (heap_alloc_new _ _)
    have h5 := HB5.out.size
    have h1 := HL1.out
    have hlo := HLo.out
    exact ⟨hd.fewer (fun x hx => by simp only [List.mem_cons] at hx ⊢; rcases hx with hx | hx | hx <;> simp [hx]), ⟨.inl ⟨rfl, rfl⟩, ⟨none, 0, rfl, .inl rfl⟩, (fun b e => by cases e), (fun b e => by cases e)⟩, ⟨.inl ⟨rfl, rfl⟩, ⟨none, 0, rfl, .inl rfl⟩, (fun b e => by cases e), (fun b e => by cases e)⟩, Meet.new HQ.out.1 HQ.out.2, Meet.new HQ2.out.1 HQ2.out.2, Nat.le_refl _, Nat.le_refl _, (fun x hx => by cases hx), by omega, hlo, by omega⟩)
  generalize w5.heap.size = b2 at HI0 ⊢
  generalize w5.alloc (.cells #[.slice none 0 0, .int .i64 (q2 : Int), .int .i64 0, .slice none 0 0, .int .i64 0, .bool false] 32) = W5 at HI0 ⊢
  clear HN HN2 HK HB1 HB4 HB5 HRN K2 K3 K4 HLo HL1 HEn
  go_wp2_with fail
  go_loopw [16, 17] (fun vi vo wr => ∃ (k : Nat) (X : World) (u : Value) (K : List (Nat × Obj)) (S1 : DS) (P1 l1 : List PF) (rs1 : List (Int × Int × Int)) (si1 : Int) (fv1 sv1 : Value) (S2 : DS) (P2 l2 : List PF) (rs2 : List (Int × Int × Int)) (si2 : Int) (fv2 sv2 : Value), X = wr ∧ vo = u ∧ vi = .int .i64 k ∧ k ≤ 150 ∧ TwoI A w d1 d2 b1 b2 k K S1 P1 l1 rs1 si1 fv1 sv1 S2 P2 l2 rs2 si2 fv2 sv2 X) (fun i _ _ => 150 - (Go.RowKit.intOf i).toNat)
  case atStart => exact ⟨0, _, _, _, _, _, _, _, _, _, _, _, _, _, _, _, _, _, rfl, rfl, rfl, by omega, HI0.out⟩
  case round =>
    clear HI0
    obtain ⟨k, X, u, K0, S1, P1, l1, rs1, si1, fv1, sv1, S2, P2, l2, rs2, si2, fv2, sv2, hX, hu, rfl, hk, hI⟩ := hrel
    subst hX
    subst hu
    have hk2 : (k : Int) ≤ 150 := by omega
    have HW := Lib.hid hI.dk.w0
    by_cases hlt : k < len
    · by_cases h150 : k < 150
      · obtain ⟨b, o, ha, hbw, hall⟩ := HA.out.2 (by omega)
        obtain ⟨ac, ll, hac0⟩ := hall k hlt
        obtain ⟨fa1, fc1, hfv1, _⟩ := hI.rf1.fs.form
        obtain ⟨sa1, sc1, hsv1, _⟩ := id hI.rf1.ss
        obtain ⟨fa2, fc2, hfv2, _⟩ := hI.rf2.fs.form
        obtain ⟨sa2, sc2, hsv2, _⟩ := id hI.rf2.ss
        subst hfv1 hsv1 hfv2 hsv2
        subst ha
        generalize hfl1 : l1.length = fl1 at hI
        generalize hsl1 : rs1.length = sl1 at hI
        generalize hfl2 : l2.length = fl2 at hI
        generalize hsl2 : rs2.length = sl2 at hI
        clear hfl1 hsl1 hfl2 hsl2
        have hli : (k : Int) < (len : Int) := by omega
        have h15 : (k : Int) < 150 := by omega
        have HLt := Lib.hid (And.intro hlt h150)
        have hbx1 := hI.dk.kept (List.mem_cons_self ..)
        have hbx2 := hI.dk.kept (List.mem_cons_of_mem _ (List.mem_cons_self ..))
        simp only at hbx1 hbx2
        have HAct : Hid (∀ W, Below w.heap.size w W → ActAt W b (o + k * 7) ac) := Lib.hid (fun W hW => (hac0.on hbw hW).act)
        have hwr : IntKind.i64.wrap (Int.tmod ac.on 2) = Int.tmod ac.on 2 := wrap_tmod _
        obtain ⟨r, hrem⟩ : ∃ r, (Int.tmod ac.on 2 == 0) = r := ⟨_, rfl⟩
        cases r with
        | true =>
          have HS0 : Hid (X.drew.heap[b1]? = some (.cells #[.slice fa1 fl1 fc1, .int .i64 (S1.quota : Int), .int .i64 (S1.steps : Int), .slice sa1 sl1 sc1, .int .i64 si1, .bool (!S1.runs)] 32 (0, 0)) ∧ Below w.heap.size w X.drew) := Lib.hid ⟨hbx1, HW.out.drew⟩
          have HCal := Lib.hid (hI.called (by omega) HG.out (Below.refl X.heap.size X).drew ac ll hac0)
          obtain ⟨kind, on, name, dest, data, nn, qsa, qsn, qsc⟩ := ac
          simp only [ActR.cells] at HCal
          obtain ⟨c0, c1, c2, c3, c4, c5, c6, _, _⟩ := HAct.out X HW.out
          simp only at c0 c1 c2 c3 c4 c5 c6 hrem
          obtain ⟨x0, x1, x2, x3, x4, x5⟩ := dskC hbx1
          clear hac0 hall hbw hI hlt h150 hbx1 hbx2 hk
          go_upto_region 17 with fail
          clear c0 c1 c2 c3 c4 c5 c6 x0 x1 x2 x3 x4 x5
          refine wp_region_N 10 (fun X => X.heap[b1]? = some (.cells #[.slice fa1 fl1 fc1, .int .i64 (S1.quota : Int), .int .i64 (S1.steps : Int), .slice sa1 sl1 sc1, .int .i64 si1, .bool (!S1.runs)] 32 (0, 0)) ∧ Below w.heap.size w X) (by kernel_rfl) ?_
          refine wpAnyN_take (i := 0) (oi := { dst := some 93, op := Go.Op.move (Go.Operand.tmp 8), type := 24, pos := "law.go:206", after := #[], guard := none }) (oL := { dst := none, op := Go.Op.store 32 (Go.Operand.tmp 12) (Go.Operand.tmp 100), type := 0, pos := "law.go:206", after := #[{ on := 8, ground := Go.Ground.data }, { on := 6, ground := Go.Ground.chain }, { on := 0, ground := Go.Ground.phase }, { on := 1, ground := Go.Ground.phase }, { on := 2, ground := Go.Ground.phase }, { on := 3, ground := Go.Ground.phase }, { on := 4, ground := Go.Ground.phase }, { on := 5, ground := Go.Ground.phase }, { on := 6, ground := Go.Ground.phase }, { on := 7, ground := Go.Ground.phase }, { on := 8, ground := Go.Ground.phase }, { on := 9, ground := Go.Ground.textOnly Go.Departure.lateStores }], guard := none }) (v := .pointer (some ⟨d1, 0, none⟩)) rfl rfl (by kernel_rfl) (by kernel_rfl) (by kernel_rfl) (by kernel_rfl) (fun _ _ _ h => h) (Or.inl ⟨by kernel_rfl, ?_⟩) HS0.out ?_
          · (intro X hX; obtain ⟨x0, x1, x2, x3, x4, x5⟩ := dskC hX.1; obtain ⟨c0, c1, c2, c3, c4, c5, c6, _, _⟩ := HAct.out _ hX.2; simp only at c0 c1 c2 c3 c4 c5 c6 <;> (go_simp; (try (with_reducible rfl)); (try omega)))
          (try simp only [Act.put, List.setIfInBounds_toArray, List.set_cons_zero, List.set_cons_succ])
          refine wpAnyN_take (i := 1) (oi := { dst := some 94, op := Go.Op.load 32 (Go.Operand.tmp 12), type := 32, pos := "law.go:206", after := #[], guard := none }) (oL := { dst := none, op := Go.Op.store 32 (Go.Operand.tmp 12) (Go.Operand.tmp 100), type := 0, pos := "law.go:206", after := #[{ on := 8, ground := Go.Ground.data }, { on := 6, ground := Go.Ground.chain }, { on := 0, ground := Go.Ground.phase }, { on := 1, ground := Go.Ground.phase }, { on := 2, ground := Go.Ground.phase }, { on := 3, ground := Go.Ground.phase }, { on := 4, ground := Go.Ground.phase }, { on := 5, ground := Go.Ground.phase }, { on := 6, ground := Go.Ground.phase }, { on := 7, ground := Go.Ground.phase }, { on := 8, ground := Go.Ground.phase }, { on := 9, ground := Go.Ground.textOnly Go.Departure.lateStores }], guard := none }) (v := .agg #[.slice fa1 fl1 fc1, .int .i64 (S1.quota : Int), .int .i64 (S1.steps : Int), .slice sa1 sl1 sc1, .int .i64 si1, .bool (!S1.runs)]) rfl rfl (by kernel_rfl) (by kernel_rfl) (by kernel_rfl) (by kernel_rfl) (fun _ _ _ h => h) (Or.inl ⟨by kernel_rfl, ?_⟩) HS0.out ?_
          · (intro X hX; obtain ⟨x0, x1, x2, x3, x4, x5⟩ := dskC hX.1; obtain ⟨c0, c1, c2, c3, c4, c5, c6, _, _⟩ := HAct.out _ hX.2; simp only at c0 c1 c2 c3 c4 c5 c6 <;> (go_simp; (try (with_reducible rfl)); (try omega)))
          (try simp only [Act.put, List.setIfInBounds_toArray, List.set_cons_zero, List.set_cons_succ])
          refine wpAnyN_take (i := 2) (oi := { dst := some 95, op := Go.Op.move (Go.Operand.tmp 2), type := 22, pos := "law.go:206", after := #[], guard := none }) (oL := { dst := none, op := Go.Op.store 32 (Go.Operand.tmp 12) (Go.Operand.tmp 100), type := 0, pos := "law.go:206", after := #[{ on := 8, ground := Go.Ground.data }, { on := 6, ground := Go.Ground.chain }, { on := 0, ground := Go.Ground.phase }, { on := 1, ground := Go.Ground.phase }, { on := 2, ground := Go.Ground.phase }, { on := 3, ground := Go.Ground.phase }, { on := 4, ground := Go.Ground.phase }, { on := 5, ground := Go.Ground.phase }, { on := 6, ground := Go.Ground.phase }, { on := 7, ground := Go.Ground.phase }, { on := 8, ground := Go.Ground.phase }, { on := 9, ground := Go.Ground.textOnly Go.Departure.lateStores }], guard := none }) (v := .slice (some ⟨b, o, none⟩) len c) rfl rfl (by kernel_rfl) (by kernel_rfl) (by kernel_rfl) (by kernel_rfl) (fun _ _ _ h => h) (Or.inl ⟨by kernel_rfl, ?_⟩) HS0.out ?_
          · (intro X hX; obtain ⟨x0, x1, x2, x3, x4, x5⟩ := dskC hX.1; obtain ⟨c0, c1, c2, c3, c4, c5, c6, _, _⟩ := HAct.out _ hX.2; simp only at c0 c1 c2 c3 c4 c5 c6 <;> (go_simp; (try (with_reducible rfl)); (try omega)))
          (try simp only [Act.put, List.setIfInBounds_toArray, List.set_cons_zero, List.set_cons_succ])
          refine wpAnyN_take (i := 3) (oi := { dst := some 96, op := Go.Op.move (Go.Operand.tmp 16), type := 3, pos := "law.go:206", after := #[], guard := none }) (oL := { dst := none, op := Go.Op.store 32 (Go.Operand.tmp 12) (Go.Operand.tmp 100), type := 0, pos := "law.go:206", after := #[{ on := 8, ground := Go.Ground.data }, { on := 6, ground := Go.Ground.chain }, { on := 0, ground := Go.Ground.phase }, { on := 1, ground := Go.Ground.phase }, { on := 2, ground := Go.Ground.phase }, { on := 3, ground := Go.Ground.phase }, { on := 4, ground := Go.Ground.phase }, { on := 5, ground := Go.Ground.phase }, { on := 6, ground := Go.Ground.phase }, { on := 7, ground := Go.Ground.phase }, { on := 8, ground := Go.Ground.phase }, { on := 9, ground := Go.Ground.textOnly Go.Departure.lateStores }], guard := none }) (v := .int .i64 (k : Int)) rfl rfl (by kernel_rfl) (by kernel_rfl) (by kernel_rfl) (by kernel_rfl) (fun _ _ _ h => h) (Or.inl ⟨by kernel_rfl, ?_⟩) HS0.out ?_
          · (intro X hX; obtain ⟨x0, x1, x2, x3, x4, x5⟩ := dskC hX.1; obtain ⟨c0, c1, c2, c3, c4, c5, c6, _, _⟩ := HAct.out _ hX.2; simp only at c0 c1 c2 c3 c4 c5 c6 <;> (go_simp; (try (with_reducible rfl)); (try omega)))
          (try simp only [Act.put, List.setIfInBounds_toArray, List.set_cons_zero, List.set_cons_succ])
          refine wpAnyN_take (i := 4) (oi := { dst := some 97, op := Go.Op.indexAddr 22 (Go.Operand.tmp 95) (Go.Operand.tmp 96), type := 0, pos := "law.go:206", after := #[{ on := 2, ground := Go.Ground.data }, { on := 3, ground := Go.Ground.data }], guard := none }) (oL := { dst := none, op := Go.Op.store 32 (Go.Operand.tmp 12) (Go.Operand.tmp 100), type := 0, pos := "law.go:206", after := #[{ on := 8, ground := Go.Ground.data }, { on := 6, ground := Go.Ground.chain }, { on := 0, ground := Go.Ground.phase }, { on := 1, ground := Go.Ground.phase }, { on := 2, ground := Go.Ground.phase }, { on := 3, ground := Go.Ground.phase }, { on := 4, ground := Go.Ground.phase }, { on := 5, ground := Go.Ground.phase }, { on := 6, ground := Go.Ground.phase }, { on := 7, ground := Go.Ground.phase }, { on := 8, ground := Go.Ground.phase }, { on := 9, ground := Go.Ground.textOnly Go.Departure.lateStores }], guard := none }) (v := .pointer (some ⟨b, o + k * 7, none⟩)) rfl rfl (by kernel_rfl) (by kernel_rfl) (by kernel_rfl) (by kernel_rfl) (fun _ _ _ h => h) (Or.inl ⟨by kernel_rfl, ?_⟩) HS0.out ?_
          · (intro X hX; obtain ⟨x0, x1, x2, x3, x4, x5⟩ := dskC hX.1; obtain ⟨c0, c1, c2, c3, c4, c5, c6, _, _⟩ := HAct.out _ hX.2; simp only at c0 c1 c2 c3 c4 c5 c6 <;> (go_simp; (try (with_reducible rfl)); (try omega)))
          (try simp only [Act.put, List.setIfInBounds_toArray, List.set_cons_zero, List.set_cons_succ])
          refine wpAnyN_take (i := 5) (oi := { dst := some 98, op := Go.Op.load 38 (Go.Operand.tmp 97), type := 38, pos := "law.go:206", after := #[{ on := 4, ground := Go.Ground.data }], guard := none }) (oL := { dst := none, op := Go.Op.store 32 (Go.Operand.tmp 12) (Go.Operand.tmp 100), type := 0, pos := "law.go:206", after := #[{ on := 8, ground := Go.Ground.data }, { on := 6, ground := Go.Ground.chain }, { on := 0, ground := Go.Ground.phase }, { on := 1, ground := Go.Ground.phase }, { on := 2, ground := Go.Ground.phase }, { on := 3, ground := Go.Ground.phase }, { on := 4, ground := Go.Ground.phase }, { on := 5, ground := Go.Ground.phase }, { on := 6, ground := Go.Ground.phase }, { on := 7, ground := Go.Ground.phase }, { on := 8, ground := Go.Ground.phase }, { on := 9, ground := Go.Ground.textOnly Go.Departure.lateStores }], guard := none }) (v := .agg #[.int .i64 kind, .int .i64 on, .string name, .string dest, .string data, .int .i64 nn, .slice qsa qsn qsc]) rfl rfl (by kernel_rfl) (by kernel_rfl) (by kernel_rfl) (by kernel_rfl) (fun _ _ _ h => h) (Or.inl ⟨by kernel_rfl, ?_⟩) HS0.out ?_
          · (intro X hX; obtain ⟨x0, x1, x2, x3, x4, x5⟩ := dskC hX.1; obtain ⟨c0, c1, c2, c3, c4, c5, c6, _, _⟩ := HAct.out _ hX.2; simp only at c0 c1 c2 c3 c4 c5 c6 <;> (go_simp; (try (with_reducible rfl)); (try omega)))
          (try simp only [Act.put, List.setIfInBounds_toArray, List.set_cons_zero, List.set_cons_succ])
          refine wpAnyN_one (i := 6) (o := { dst := some 99, op := Go.Op.call { callee := Go.Callee.value (Go.Operand.func 8), args := #[Go.Operand.tmp 93, Go.Operand.tmp 94, Go.Operand.tmp 98], argTypes := #[24, 32, 38] }, type := 35, pos := "law.go:206", after := #[{ on := 0, ground := Go.Ground.data }, { on := 1, ground := Go.Ground.data }, { on := 5, ground := Go.Ground.data }], guard := none }) (by kernel_rfl) rfl (fun K hK => ?_)
          go_simp
          refine HCal.out.mono ?_
          rintro e w5 ⟨S', P', K', l', rs', si', fa', fl', fc', sa', sl', sc', rfl, hb5, hw5, hT5⟩
          have HS5 : Hid (w5.heap[b1]? = some (.cells #[.slice fa1 fl1 fc1, .int .i64 (S1.quota : Int), .int .i64 (S1.steps : Int), .slice sa1 sl1 sc1, .int .i64 si1, .bool (!S1.runs)] 32 (0, 0)) ∧ Below w.heap.size w w5) := Lib.hid ⟨hb5, hw5⟩
          have HT5 := Lib.hid hT5
          clear hb5 hw5 hT5
          refine hK.out _ _ (fun _ => HS5.out) ?_
          clear hK K
          (try simp only [Act.put, List.setIfInBounds_toArray, List.set_cons_zero, List.set_cons_succ])
          refine wpAnyN_take (i := 7) (oi := { dst := some 92, op := Go.Op.move (Go.Operand.tmp 99), type := 35, pos := "law.go:206", after := #[{ on := 6, ground := Go.Ground.data }], guard := none }) (oL := { dst := none, op := Go.Op.store 32 (Go.Operand.tmp 12) (Go.Operand.tmp 100), type := 0, pos := "law.go:206", after := #[{ on := 8, ground := Go.Ground.data }, { on := 6, ground := Go.Ground.chain }, { on := 0, ground := Go.Ground.phase }, { on := 1, ground := Go.Ground.phase }, { on := 2, ground := Go.Ground.phase }, { on := 3, ground := Go.Ground.phase }, { on := 4, ground := Go.Ground.phase }, { on := 5, ground := Go.Ground.phase }, { on := 6, ground := Go.Ground.phase }, { on := 7, ground := Go.Ground.phase }, { on := 8, ground := Go.Ground.phase }, { on := 9, ground := Go.Ground.textOnly Go.Departure.lateStores }], guard := none }) (v := .tuple #[.agg #[.slice fa' fl' fc', .int .i64 (S'.quota : Int), .int .i64 (S'.steps : Int), .slice sa' sl' sc', .int .i64 si', .bool (!S'.runs)], .bool true]) rfl rfl (by kernel_rfl) (by kernel_rfl) (by kernel_rfl) (by kernel_rfl) (fun _ _ _ h => h) (Or.inl ⟨by kernel_rfl, ?_⟩) HS5.out ?_
          · (intro X hX; obtain ⟨x0, x1, x2, x3, x4, x5⟩ := dskC hX.1; obtain ⟨c0, c1, c2, c3, c4, c5, c6, _, _⟩ := HAct.out _ hX.2; simp only at c0 c1 c2 c3 c4 c5 c6 <;> (go_simp; (try (with_reducible rfl)); (try omega)))
          (try simp only [Act.put, List.setIfInBounds_toArray, List.set_cons_zero, List.set_cons_succ])
          refine wpAnyN_take (i := 8) (oi := { dst := some 100, op := Go.Op.extract (Go.Operand.tmp 92) 0, type := 32, pos := "law.go:206", after := #[{ on := 7, ground := Go.Ground.data }], guard := none }) (oL := { dst := none, op := Go.Op.store 32 (Go.Operand.tmp 12) (Go.Operand.tmp 100), type := 0, pos := "law.go:206", after := #[{ on := 8, ground := Go.Ground.data }, { on := 6, ground := Go.Ground.chain }, { on := 0, ground := Go.Ground.phase }, { on := 1, ground := Go.Ground.phase }, { on := 2, ground := Go.Ground.phase }, { on := 3, ground := Go.Ground.phase }, { on := 4, ground := Go.Ground.phase }, { on := 5, ground := Go.Ground.phase }, { on := 6, ground := Go.Ground.phase }, { on := 7, ground := Go.Ground.phase }, { on := 8, ground := Go.Ground.phase }, { on := 9, ground := Go.Ground.textOnly Go.Departure.lateStores }], guard := none }) (v := .agg #[.slice fa' fl' fc', .int .i64 (S'.quota : Int), .int .i64 (S'.steps : Int), .slice sa' sl' sc', .int .i64 si', .bool (!S'.runs)]) rfl rfl (by kernel_rfl) (by kernel_rfl) (by kernel_rfl) (by kernel_rfl) (fun _ _ _ h => h) (Or.inl ⟨by kernel_rfl, ?_⟩) HS5.out ?_
          · (intro X hX; obtain ⟨x0, x1, x2, x3, x4, x5⟩ := dskC hX.1; obtain ⟨c0, c1, c2, c3, c4, c5, c6, _, _⟩ := HAct.out _ hX.2; simp only at c0 c1 c2 c3 c4 c5 c6 <;> (go_simp; (try (with_reducible rfl)); (try omega)))
          (try simp only [Act.put, List.setIfInBounds_toArray, List.set_cons_zero, List.set_cons_succ])
          refine wpAnyN_two (i := 9) (j := 10) (o1 := { dst := some 101, op := Go.Op.extract (Go.Operand.tmp 92) 1, type := 4, pos := "law.go:206", after := #[{ on := 7, ground := Go.Ground.data }, { on := 10, ground := Go.Ground.gcOnly Go.Departure.lateStores }], guard := none }) (o2 := { dst := none, op := Go.Op.store 32 (Go.Operand.tmp 12) (Go.Operand.tmp 100), type := 0, pos := "law.go:206", after := #[{ on := 8, ground := Go.Ground.data }, { on := 6, ground := Go.Ground.chain }, { on := 0, ground := Go.Ground.phase }, { on := 1, ground := Go.Ground.phase }, { on := 2, ground := Go.Ground.phase }, { on := 3, ground := Go.Ground.phase }, { on := 4, ground := Go.Ground.phase }, { on := 5, ground := Go.Ground.phase }, { on := 6, ground := Go.Ground.phase }, { on := 7, ground := Go.Ground.phase }, { on := 8, ground := Go.Ground.phase }, { on := 9, ground := Go.Ground.textOnly Go.Departure.lateStores }], guard := none }) (by kernel_rfl) rfl rfl (fun K hK => ?_) (fun K hK => ?_)
          · go_simp
            refine hK.out _ _ (fun _ => HS5.out) ?_
            clear hK K
            (try simp only [Act.put, List.setIfInBounds_toArray, List.set_cons_zero, List.set_cons_succ])
            refine wpAnyN_one (i := 10) (o := { dst := none, op := Go.Op.store 32 (Go.Operand.tmp 12) (Go.Operand.tmp 100), type := 0, pos := "law.go:206", after := #[{ on := 8, ground := Go.Ground.data }, { on := 6, ground := Go.Ground.chain }, { on := 0, ground := Go.Ground.phase }, { on := 1, ground := Go.Ground.phase }, { on := 2, ground := Go.Ground.phase }, { on := 3, ground := Go.Ground.phase }, { on := 4, ground := Go.Ground.phase }, { on := 5, ground := Go.Ground.phase }, { on := 6, ground := Go.Ground.phase }, { on := 7, ground := Go.Ground.phase }, { on := 8, ground := Go.Ground.phase }, { on := 9, ground := Go.Ground.textOnly Go.Departure.lateStores }], guard := none }) (by kernel_rfl) rfl (fun K hK => ?_)
            refine wp_store_row 32 _ _ rfl b1 #[.slice fa' fl' fc', .int .i64 (S'.quota : Int), .int .i64 (S'.steps : Int), .slice sa' sl' sc', .int .i64 si', .bool (!S'.runs)] rfl rfl 32 _ HS5.out.1 Tryz.sizeRD rfl (by simp [Value.oneCell']) ?_
            refine hK.out _ _ (fun e => absurd (e.symm.trans (by kernel_rfl) : false = true) Bool.false_ne_true) ?_
            clear hK K
            (try simp only [Act.put])
            refine wpAnyN_of_H (S' := fun _ => True) _ _ _ _ (by kernel_rfl) ?_
            refine wpAnyH_take (i := 11) (oi := { dst := some 17, op := Go.Op.assign (Go.Operand.tmp 101), type := 4, pos := "law.go:206", after := #[{ on := 9, ground := Go.Ground.data }, { on := 10, ground := Go.Ground.chain }, { on := 0, ground := Go.Ground.phase }, { on := 1, ground := Go.Ground.phase }, { on := 2, ground := Go.Ground.phase }, { on := 3, ground := Go.Ground.phase }, { on := 4, ground := Go.Ground.phase }, { on := 5, ground := Go.Ground.phase }, { on := 6, ground := Go.Ground.phase }, { on := 7, ground := Go.Ground.phase }, { on := 8, ground := Go.Ground.phase }, { on := 9, ground := Go.Ground.phase }, { on := 10, ground := Go.Ground.phase }], guard := none }) (v := .bool true) rfl (by kernel_rfl) (by kernel_rfl) (by kernel_rfl) (fun _ _ _ h => h) (Or.inl ⟨by kernel_rfl, ?_⟩) trivial ?_
            · (intro X hX; go_simp; try (with_reducible rfl))
            (try simp only [Act.put, List.setIfInBounds_toArray, List.set_cons_zero, List.set_cons_succ])
            refine wpAnyH_done (by kernel_rfl) ?_ _
            generalize w5.setRow b1 #[.slice fa' fl' fc', .int .i64 (S'.quota : Int), .int .i64 (S'.steps : Int), .slice sa' sl' sc', .int .i64 si', .bool (!S'.runs)] = Y at HT5 ⊢
            have HTT := Lib.hid HT5.out
            clear HT5
            obtain ⟨y0, y1, y2, y3, y4, y5⟩ := dskC (HTT.out.dk.kept (List.mem_cons_self ..))
            simp only at y0 y1 y2 y3 y4 y5
            have HSm1 := Lib.hid (HTT.out.same (by have := HLt.out.2; omega))
            have HSm2 := Lib.hid (fun W (hW : Below Y.heap.size Y W) => (HTT.out.up hW).swap.same (by have := HLt.out.2; omega))
            go_wp2_with (go_at_call 9; first | (refine (HSm2.out _ HB8.out).mono ?_; rintro e w9 ⟨rfl, hb9⟩; have HB9 := Lib.hid hb9; clear hb9) | (refine HSm1.out.mono ?_; rintro e w8 ⟨rfl, hb8⟩; have HB8 := Lib.hid hb8; clear hb8 y0 y1 y2 y3 y4 y5; obtain ⟨y0, y1, y2, y3, y4, y5⟩ := dskC ((HTT.out.up HB8.out).dk.kept (List.mem_cons_of_mem _ (List.mem_cons_self ..))); simp only at y0 y1 y2 y3 y4 y5))
            go_roundw
            case rel => exact ⟨k + 1, _, _, _, _, _, _, _, _, _, _, _, _, _, _, _, _, _, rfl, rfl, by go_num, by have := HLt.out.2; omega, (HTT.out.up HB8.out).up HB9.out⟩
            case measure => have := HLt.out.2; simp [Go.RowKit.intOf]; omega
          · refine wp_store_row 32 _ _ rfl b1 #[.slice fa' fl' fc', .int .i64 (S'.quota : Int), .int .i64 (S'.steps : Int), .slice sa' sl' sc', .int .i64 si', .bool (!S'.runs)] rfl rfl 32 _ HS5.out.1 Tryz.sizeRD rfl (by simp [Value.oneCell']) ?_
            refine hK.out _ _ (fun e => absurd (e.symm.trans (by kernel_rfl) : false = true) Bool.false_ne_true) ?_
            clear hK K
            (try simp only [Act.put])
            refine wpAnyN_of_H (S' := fun _ => True) _ _ _ _ (by kernel_rfl) ?_
            refine wpAnyH_take (i := 9) (oi := { dst := some 101, op := Go.Op.extract (Go.Operand.tmp 92) 1, type := 4, pos := "law.go:206", after := #[{ on := 7, ground := Go.Ground.data }, { on := 10, ground := Go.Ground.gcOnly Go.Departure.lateStores }], guard := none }) (v := .bool true) rfl (by kernel_rfl) (by kernel_rfl) (by kernel_rfl) (fun _ _ _ h => h) (Or.inl ⟨by kernel_rfl, ?_⟩) trivial ?_
            · (intro X hX; go_simp; try (with_reducible rfl))
            (try simp only [Act.put, List.setIfInBounds_toArray, List.set_cons_zero, List.set_cons_succ])
            refine wpAnyH_take (i := 11) (oi := { dst := some 17, op := Go.Op.assign (Go.Operand.tmp 101), type := 4, pos := "law.go:206", after := #[{ on := 9, ground := Go.Ground.data }, { on := 10, ground := Go.Ground.chain }, { on := 0, ground := Go.Ground.phase }, { on := 1, ground := Go.Ground.phase }, { on := 2, ground := Go.Ground.phase }, { on := 3, ground := Go.Ground.phase }, { on := 4, ground := Go.Ground.phase }, { on := 5, ground := Go.Ground.phase }, { on := 6, ground := Go.Ground.phase }, { on := 7, ground := Go.Ground.phase }, { on := 8, ground := Go.Ground.phase }, { on := 9, ground := Go.Ground.phase }, { on := 10, ground := Go.Ground.phase }], guard := none }) (v := .bool true) rfl (by kernel_rfl) (by kernel_rfl) (by kernel_rfl) (fun _ _ _ h => h) (Or.inl ⟨by kernel_rfl, ?_⟩) trivial ?_
            · (intro X hX; go_simp; try (with_reducible rfl))
            (try simp only [Act.put, List.setIfInBounds_toArray, List.set_cons_zero, List.set_cons_succ])
            refine wpAnyH_done (by kernel_rfl) ?_ _
            generalize w5.setRow b1 #[.slice fa' fl' fc', .int .i64 (S'.quota : Int), .int .i64 (S'.steps : Int), .slice sa' sl' sc', .int .i64 si', .bool (!S'.runs)] = Y at HT5 ⊢
            have HTT := Lib.hid HT5.out
            clear HT5
            obtain ⟨y0, y1, y2, y3, y4, y5⟩ := dskC (HTT.out.dk.kept (List.mem_cons_self ..))
            simp only at y0 y1 y2 y3 y4 y5
            have HSm1 := Lib.hid (HTT.out.same (by have := HLt.out.2; omega))
            have HSm2 := Lib.hid (fun W (hW : Below Y.heap.size Y W) => (HTT.out.up hW).swap.same (by have := HLt.out.2; omega))
            go_wp2_with (go_at_call 9; first | (refine (HSm2.out _ HB8.out).mono ?_; rintro e w9 ⟨rfl, hb9⟩; have HB9 := Lib.hid hb9; clear hb9) | (refine HSm1.out.mono ?_; rintro e w8 ⟨rfl, hb8⟩; have HB8 := Lib.hid hb8; clear hb8 y0 y1 y2 y3 y4 y5; obtain ⟨y0, y1, y2, y3, y4, y5⟩ := dskC ((HTT.out.up HB8.out).dk.kept (List.mem_cons_of_mem _ (List.mem_cons_self ..))); simp only at y0 y1 y2 y3 y4 y5))
            go_roundw
            case rel => exact ⟨k + 1, _, _, _, _, _, _, _, _, _, _, _, _, _, _, _, _, _, rfl, rfl, by go_num, by have := HLt.out.2; omega, (HTT.out.up HB8.out).up HB9.out⟩
            case measure => have := HLt.out.2; simp [Go.RowKit.intOf]; omega
        | false =>
          have HS0 : Hid (X.drew.heap[b2]? = some (.cells #[.slice fa2 fl2 fc2, .int .i64 (S2.quota : Int), .int .i64 (S2.steps : Int), .slice sa2 sl2 sc2, .int .i64 si2, .bool (!S2.runs)] 32 (0, 0)) ∧ Below w.heap.size w X.drew) := Lib.hid ⟨hbx2, HW.out.drew⟩
          have HCal := Lib.hid (hI.swap.called (by omega) HG.out (Below.refl X.heap.size X).drew ac ll hac0)
          obtain ⟨kind, on, name, dest, data, nn, qsa, qsn, qsc⟩ := ac
          simp only [ActR.cells] at HCal
          obtain ⟨c0, c1, c2, c3, c4, c5, c6, _, _⟩ := HAct.out X HW.out
          simp only at c0 c1 c2 c3 c4 c5 c6 hrem
          obtain ⟨x0, x1, x2, x3, x4, x5⟩ := dskC hbx2
          clear hac0 hall hbw hI hlt h150 hbx1 hbx2 hk
          go_upto_region 18 with fail
          clear c0 c1 c2 c3 c4 c5 c6 x0 x1 x2 x3 x4 x5
          refine wp_region_N 10 (fun X => X.heap[b2]? = some (.cells #[.slice fa2 fl2 fc2, .int .i64 (S2.quota : Int), .int .i64 (S2.steps : Int), .slice sa2 sl2 sc2, .int .i64 si2, .bool (!S2.runs)] 32 (0, 0)) ∧ Below w.heap.size w X) (by kernel_rfl) ?_
          refine wpAnyN_take (i := 0) (oi := { dst := some 103, op := Go.Op.move (Go.Operand.tmp 10), type := 24, pos := "law.go:208", after := #[], guard := none }) (oL := { dst := none, op := Go.Op.store 32 (Go.Operand.tmp 14) (Go.Operand.tmp 110), type := 0, pos := "law.go:208", after := #[{ on := 8, ground := Go.Ground.data }, { on := 6, ground := Go.Ground.chain }, { on := 0, ground := Go.Ground.phase }, { on := 1, ground := Go.Ground.phase }, { on := 2, ground := Go.Ground.phase }, { on := 3, ground := Go.Ground.phase }, { on := 4, ground := Go.Ground.phase }, { on := 5, ground := Go.Ground.phase }, { on := 6, ground := Go.Ground.phase }, { on := 7, ground := Go.Ground.phase }, { on := 8, ground := Go.Ground.phase }, { on := 9, ground := Go.Ground.textOnly Go.Departure.lateStores }], guard := none }) (v := .pointer (some ⟨d2, 0, none⟩)) rfl rfl (by kernel_rfl) (by kernel_rfl) (by kernel_rfl) (by kernel_rfl) (fun _ _ _ h => h) (Or.inl ⟨by kernel_rfl, ?_⟩) HS0.out ?_
          · (intro X hX; obtain ⟨x0, x1, x2, x3, x4, x5⟩ := dskC hX.1; obtain ⟨c0, c1, c2, c3, c4, c5, c6, _, _⟩ := HAct.out _ hX.2; simp only at c0 c1 c2 c3 c4 c5 c6 <;> (go_simp; (try (with_reducible rfl)); (try omega)))
          (try simp only [Act.put, List.setIfInBounds_toArray, List.set_cons_zero, List.set_cons_succ])
          refine wpAnyN_take (i := 1) (oi := { dst := some 104, op := Go.Op.load 32 (Go.Operand.tmp 14), type := 32, pos := "law.go:208", after := #[], guard := none }) (oL := { dst := none, op := Go.Op.store 32 (Go.Operand.tmp 14) (Go.Operand.tmp 110), type := 0, pos := "law.go:208", after := #[{ on := 8, ground := Go.Ground.data }, { on := 6, ground := Go.Ground.chain }, { on := 0, ground := Go.Ground.phase }, { on := 1, ground := Go.Ground.phase }, { on := 2, ground := Go.Ground.phase }, { on := 3, ground := Go.Ground.phase }, { on := 4, ground := Go.Ground.phase }, { on := 5, ground := Go.Ground.phase }, { on := 6, ground := Go.Ground.phase }, { on := 7, ground := Go.Ground.phase }, { on := 8, ground := Go.Ground.phase }, { on := 9, ground := Go.Ground.textOnly Go.Departure.lateStores }], guard := none }) (v := .agg #[.slice fa2 fl2 fc2, .int .i64 (S2.quota : Int), .int .i64 (S2.steps : Int), .slice sa2 sl2 sc2, .int .i64 si2, .bool (!S2.runs)]) rfl rfl (by kernel_rfl) (by kernel_rfl) (by kernel_rfl) (by kernel_rfl) (fun _ _ _ h => h) (Or.inl ⟨by kernel_rfl, ?_⟩) HS0.out ?_
          · (intro X hX; obtain ⟨x0, x1, x2, x3, x4, x5⟩ := dskC hX.1; obtain ⟨c0, c1, c2, c3, c4, c5, c6, _, _⟩ := HAct.out _ hX.2; simp only at c0 c1 c2 c3 c4 c5 c6 <;> (go_simp; (try (with_reducible rfl)); (try omega)))
          (try simp only [Act.put, List.setIfInBounds_toArray, List.set_cons_zero, List.set_cons_succ])
          refine wpAnyN_take (i := 2) (oi := { dst := some 105, op := Go.Op.move (Go.Operand.tmp 2), type := 22, pos := "law.go:208", after := #[], guard := none }) (oL := { dst := none, op := Go.Op.store 32 (Go.Operand.tmp 14) (Go.Operand.tmp 110), type := 0, pos := "law.go:208", after := #[{ on := 8, ground := Go.Ground.data }, { on := 6, ground := Go.Ground.chain }, { on := 0, ground := Go.Ground.phase }, { on := 1, ground := Go.Ground.phase }, { on := 2, ground := Go.Ground.phase }, { on := 3, ground := Go.Ground.phase }, { on := 4, ground := Go.Ground.phase }, { on := 5, ground := Go.Ground.phase }, { on := 6, ground := Go.Ground.phase }, { on := 7, ground := Go.Ground.phase }, { on := 8, ground := Go.Ground.phase }, { on := 9, ground := Go.Ground.textOnly Go.Departure.lateStores }], guard := none }) (v := .slice (some ⟨b, o, none⟩) len c) rfl rfl (by kernel_rfl) (by kernel_rfl) (by kernel_rfl) (by kernel_rfl) (fun _ _ _ h => h) (Or.inl ⟨by kernel_rfl, ?_⟩) HS0.out ?_
          · (intro X hX; obtain ⟨x0, x1, x2, x3, x4, x5⟩ := dskC hX.1; obtain ⟨c0, c1, c2, c3, c4, c5, c6, _, _⟩ := HAct.out _ hX.2; simp only at c0 c1 c2 c3 c4 c5 c6 <;> (go_simp; (try (with_reducible rfl)); (try omega)))
          (try simp only [Act.put, List.setIfInBounds_toArray, List.set_cons_zero, List.set_cons_succ])
          refine wpAnyN_take (i := 3) (oi := { dst := some 106, op := Go.Op.move (Go.Operand.tmp 16), type := 3, pos := "law.go:208", after := #[], guard := none }) (oL := { dst := none, op := Go.Op.store 32 (Go.Operand.tmp 14) (Go.Operand.tmp 110), type := 0, pos := "law.go:208", after := #[{ on := 8, ground := Go.Ground.data }, { on := 6, ground := Go.Ground.chain }, { on := 0, ground := Go.Ground.phase }, { on := 1, ground := Go.Ground.phase }, { on := 2, ground := Go.Ground.phase }, { on := 3, ground := Go.Ground.phase }, { on := 4, ground := Go.Ground.phase }, { on := 5, ground := Go.Ground.phase }, { on := 6, ground := Go.Ground.phase }, { on := 7, ground := Go.Ground.phase }, { on := 8, ground := Go.Ground.phase }, { on := 9, ground := Go.Ground.textOnly Go.Departure.lateStores }], guard := none }) (v := .int .i64 (k : Int)) rfl rfl (by kernel_rfl) (by kernel_rfl) (by kernel_rfl) (by kernel_rfl) (fun _ _ _ h => h) (Or.inl ⟨by kernel_rfl, ?_⟩) HS0.out ?_
          · (intro X hX; obtain ⟨x0, x1, x2, x3, x4, x5⟩ := dskC hX.1; obtain ⟨c0, c1, c2, c3, c4, c5, c6, _, _⟩ := HAct.out _ hX.2; simp only at c0 c1 c2 c3 c4 c5 c6 <;> (go_simp; (try (with_reducible rfl)); (try omega)))
          (try simp only [Act.put, List.setIfInBounds_toArray, List.set_cons_zero, List.set_cons_succ])
          refine wpAnyN_take (i := 4) (oi := { dst := some 107, op := Go.Op.indexAddr 22 (Go.Operand.tmp 105) (Go.Operand.tmp 106), type := 0, pos := "law.go:208", after := #[{ on := 2, ground := Go.Ground.data }, { on := 3, ground := Go.Ground.data }], guard := none }) (oL := { dst := none, op := Go.Op.store 32 (Go.Operand.tmp 14) (Go.Operand.tmp 110), type := 0, pos := "law.go:208", after := #[{ on := 8, ground := Go.Ground.data }, { on := 6, ground := Go.Ground.chain }, { on := 0, ground := Go.Ground.phase }, { on := 1, ground := Go.Ground.phase }, { on := 2, ground := Go.Ground.phase }, { on := 3, ground := Go.Ground.phase }, { on := 4, ground := Go.Ground.phase }, { on := 5, ground := Go.Ground.phase }, { on := 6, ground := Go.Ground.phase }, { on := 7, ground := Go.Ground.phase }, { on := 8, ground := Go.Ground.phase }, { on := 9, ground := Go.Ground.textOnly Go.Departure.lateStores }], guard := none }) (v := .pointer (some ⟨b, o + k * 7, none⟩)) rfl rfl (by kernel_rfl) (by kernel_rfl) (by kernel_rfl) (by kernel_rfl) (fun _ _ _ h => h) (Or.inl ⟨by kernel_rfl, ?_⟩) HS0.out ?_
          · (intro X hX; obtain ⟨x0, x1, x2, x3, x4, x5⟩ := dskC hX.1; obtain ⟨c0, c1, c2, c3, c4, c5, c6, _, _⟩ := HAct.out _ hX.2; simp only at c0 c1 c2 c3 c4 c5 c6 <;> (go_simp; (try (with_reducible rfl)); (try omega)))
          (try simp only [Act.put, List.setIfInBounds_toArray, List.set_cons_zero, List.set_cons_succ])
          refine wpAnyN_take (i := 5) (oi := { dst := some 108, op := Go.Op.load 38 (Go.Operand.tmp 107), type := 38, pos := "law.go:208", after := #[{ on := 4, ground := Go.Ground.data }], guard := none }) (oL := { dst := none, op := Go.Op.store 32 (Go.Operand.tmp 14) (Go.Operand.tmp 110), type := 0, pos := "law.go:208", after := #[{ on := 8, ground := Go.Ground.data }, { on := 6, ground := Go.Ground.chain }, { on := 0, ground := Go.Ground.phase }, { on := 1, ground := Go.Ground.phase }, { on := 2, ground := Go.Ground.phase }, { on := 3, ground := Go.Ground.phase }, { on := 4, ground := Go.Ground.phase }, { on := 5, ground := Go.Ground.phase }, { on := 6, ground := Go.Ground.phase }, { on := 7, ground := Go.Ground.phase }, { on := 8, ground := Go.Ground.phase }, { on := 9, ground := Go.Ground.textOnly Go.Departure.lateStores }], guard := none }) (v := .agg #[.int .i64 kind, .int .i64 on, .string name, .string dest, .string data, .int .i64 nn, .slice qsa qsn qsc]) rfl rfl (by kernel_rfl) (by kernel_rfl) (by kernel_rfl) (by kernel_rfl) (fun _ _ _ h => h) (Or.inl ⟨by kernel_rfl, ?_⟩) HS0.out ?_
          · (intro X hX; obtain ⟨x0, x1, x2, x3, x4, x5⟩ := dskC hX.1; obtain ⟨c0, c1, c2, c3, c4, c5, c6, _, _⟩ := HAct.out _ hX.2; simp only at c0 c1 c2 c3 c4 c5 c6 <;> (go_simp; (try (with_reducible rfl)); (try omega)))
          (try simp only [Act.put, List.setIfInBounds_toArray, List.set_cons_zero, List.set_cons_succ])
          refine wpAnyN_one (i := 6) (o := { dst := some 109, op := Go.Op.call { callee := Go.Callee.value (Go.Operand.func 8), args := #[Go.Operand.tmp 103, Go.Operand.tmp 104, Go.Operand.tmp 108], argTypes := #[24, 32, 38] }, type := 35, pos := "law.go:208", after := #[{ on := 0, ground := Go.Ground.data }, { on := 1, ground := Go.Ground.data }, { on := 5, ground := Go.Ground.data }], guard := none }) (by kernel_rfl) rfl (fun K hK => ?_)
          go_simp
          refine HCal.out.mono ?_
          rintro e w5 ⟨S', P', K', l', rs', si', fa', fl', fc', sa', sl', sc', rfl, hb5, hw5, hT5⟩
          have HS5 : Hid (w5.heap[b2]? = some (.cells #[.slice fa2 fl2 fc2, .int .i64 (S2.quota : Int), .int .i64 (S2.steps : Int), .slice sa2 sl2 sc2, .int .i64 si2, .bool (!S2.runs)] 32 (0, 0)) ∧ Below w.heap.size w w5) := Lib.hid ⟨hb5, hw5⟩
          have HT5 := Lib.hid hT5
          clear hb5 hw5 hT5
          refine hK.out _ _ (fun _ => HS5.out) ?_
          clear hK K
          (try simp only [Act.put, List.setIfInBounds_toArray, List.set_cons_zero, List.set_cons_succ])
          refine wpAnyN_take (i := 7) (oi := { dst := some 102, op := Go.Op.move (Go.Operand.tmp 109), type := 35, pos := "law.go:208", after := #[{ on := 6, ground := Go.Ground.data }], guard := none }) (oL := { dst := none, op := Go.Op.store 32 (Go.Operand.tmp 14) (Go.Operand.tmp 110), type := 0, pos := "law.go:208", after := #[{ on := 8, ground := Go.Ground.data }, { on := 6, ground := Go.Ground.chain }, { on := 0, ground := Go.Ground.phase }, { on := 1, ground := Go.Ground.phase }, { on := 2, ground := Go.Ground.phase }, { on := 3, ground := Go.Ground.phase }, { on := 4, ground := Go.Ground.phase }, { on := 5, ground := Go.Ground.phase }, { on := 6, ground := Go.Ground.phase }, { on := 7, ground := Go.Ground.phase }, { on := 8, ground := Go.Ground.phase }, { on := 9, ground := Go.Ground.textOnly Go.Departure.lateStores }], guard := none }) (v := .tuple #[.agg #[.slice fa' fl' fc', .int .i64 (S'.quota : Int), .int .i64 (S'.steps : Int), .slice sa' sl' sc', .int .i64 si', .bool (!S'.runs)], .bool true]) rfl rfl (by kernel_rfl) (by kernel_rfl) (by kernel_rfl) (by kernel_rfl) (fun _ _ _ h => h) (Or.inl ⟨by kernel_rfl, ?_⟩) HS5.out ?_
          · (intro X hX; obtain ⟨x0, x1, x2, x3, x4, x5⟩ := dskC hX.1; obtain ⟨c0, c1, c2, c3, c4, c5, c6, _, _⟩ := HAct.out _ hX.2; simp only at c0 c1 c2 c3 c4 c5 c6 <;> (go_simp; (try (with_reducible rfl)); (try omega)))
          (try simp only [Act.put, List.setIfInBounds_toArray, List.set_cons_zero, List.set_cons_succ])
          refine wpAnyN_take (i := 8) (oi := { dst := some 110, op := Go.Op.extract (Go.Operand.tmp 102) 0, type := 32, pos := "law.go:208", after := #[{ on := 7, ground := Go.Ground.data }], guard := none }) (oL := { dst := none, op := Go.Op.store 32 (Go.Operand.tmp 14) (Go.Operand.tmp 110), type := 0, pos := "law.go:208", after := #[{ on := 8, ground := Go.Ground.data }, { on := 6, ground := Go.Ground.chain }, { on := 0, ground := Go.Ground.phase }, { on := 1, ground := Go.Ground.phase }, { on := 2, ground := Go.Ground.phase }, { on := 3, ground := Go.Ground.phase }, { on := 4, ground := Go.Ground.phase }, { on := 5, ground := Go.Ground.phase }, { on := 6, ground := Go.Ground.phase }, { on := 7, ground := Go.Ground.phase }, { on := 8, ground := Go.Ground.phase }, { on := 9, ground := Go.Ground.textOnly Go.Departure.lateStores }], guard := none }) (v := .agg #[.slice fa' fl' fc', .int .i64 (S'.quota : Int), .int .i64 (S'.steps : Int), .slice sa' sl' sc', .int .i64 si', .bool (!S'.runs)]) rfl rfl (by kernel_rfl) (by kernel_rfl) (by kernel_rfl) (by kernel_rfl) (fun _ _ _ h => h) (Or.inl ⟨by kernel_rfl, ?_⟩) HS5.out ?_
          · (intro X hX; obtain ⟨x0, x1, x2, x3, x4, x5⟩ := dskC hX.1; obtain ⟨c0, c1, c2, c3, c4, c5, c6, _, _⟩ := HAct.out _ hX.2; simp only at c0 c1 c2 c3 c4 c5 c6 <;> (go_simp; (try (with_reducible rfl)); (try omega)))
          (try simp only [Act.put, List.setIfInBounds_toArray, List.set_cons_zero, List.set_cons_succ])
          refine wpAnyN_two (i := 9) (j := 10) (o1 := { dst := some 111, op := Go.Op.extract (Go.Operand.tmp 102) 1, type := 4, pos := "law.go:208", after := #[{ on := 7, ground := Go.Ground.data }, { on := 10, ground := Go.Ground.gcOnly Go.Departure.lateStores }], guard := none }) (o2 := { dst := none, op := Go.Op.store 32 (Go.Operand.tmp 14) (Go.Operand.tmp 110), type := 0, pos := "law.go:208", after := #[{ on := 8, ground := Go.Ground.data }, { on := 6, ground := Go.Ground.chain }, { on := 0, ground := Go.Ground.phase }, { on := 1, ground := Go.Ground.phase }, { on := 2, ground := Go.Ground.phase }, { on := 3, ground := Go.Ground.phase }, { on := 4, ground := Go.Ground.phase }, { on := 5, ground := Go.Ground.phase }, { on := 6, ground := Go.Ground.phase }, { on := 7, ground := Go.Ground.phase }, { on := 8, ground := Go.Ground.phase }, { on := 9, ground := Go.Ground.textOnly Go.Departure.lateStores }], guard := none }) (by kernel_rfl) rfl rfl (fun K hK => ?_) (fun K hK => ?_)
          · go_simp
            refine hK.out _ _ (fun _ => HS5.out) ?_
            clear hK K
            (try simp only [Act.put, List.setIfInBounds_toArray, List.set_cons_zero, List.set_cons_succ])
            refine wpAnyN_one (i := 10) (o := { dst := none, op := Go.Op.store 32 (Go.Operand.tmp 14) (Go.Operand.tmp 110), type := 0, pos := "law.go:208", after := #[{ on := 8, ground := Go.Ground.data }, { on := 6, ground := Go.Ground.chain }, { on := 0, ground := Go.Ground.phase }, { on := 1, ground := Go.Ground.phase }, { on := 2, ground := Go.Ground.phase }, { on := 3, ground := Go.Ground.phase }, { on := 4, ground := Go.Ground.phase }, { on := 5, ground := Go.Ground.phase }, { on := 6, ground := Go.Ground.phase }, { on := 7, ground := Go.Ground.phase }, { on := 8, ground := Go.Ground.phase }, { on := 9, ground := Go.Ground.textOnly Go.Departure.lateStores }], guard := none }) (by kernel_rfl) rfl (fun K hK => ?_)
            refine wp_store_row 32 _ _ rfl b2 #[.slice fa' fl' fc', .int .i64 (S'.quota : Int), .int .i64 (S'.steps : Int), .slice sa' sl' sc', .int .i64 si', .bool (!S'.runs)] rfl rfl 32 _ HS5.out.1 Tryz.sizeRD rfl (by simp [Value.oneCell']) ?_
            refine hK.out _ _ (fun e => absurd (e.symm.trans (by kernel_rfl) : false = true) Bool.false_ne_true) ?_
            clear hK K
            (try simp only [Act.put])
            refine wpAnyN_of_H (S' := fun _ => True) _ _ _ _ (by kernel_rfl) ?_
            refine wpAnyH_take (i := 11) (oi := { dst := some 17, op := Go.Op.assign (Go.Operand.tmp 111), type := 4, pos := "law.go:208", after := #[{ on := 9, ground := Go.Ground.data }, { on := 10, ground := Go.Ground.chain }, { on := 0, ground := Go.Ground.phase }, { on := 1, ground := Go.Ground.phase }, { on := 2, ground := Go.Ground.phase }, { on := 3, ground := Go.Ground.phase }, { on := 4, ground := Go.Ground.phase }, { on := 5, ground := Go.Ground.phase }, { on := 6, ground := Go.Ground.phase }, { on := 7, ground := Go.Ground.phase }, { on := 8, ground := Go.Ground.phase }, { on := 9, ground := Go.Ground.phase }, { on := 10, ground := Go.Ground.phase }], guard := none }) (v := .bool true) rfl (by kernel_rfl) (by kernel_rfl) (by kernel_rfl) (fun _ _ _ h => h) (Or.inl ⟨by kernel_rfl, ?_⟩) trivial ?_
            · (intro X hX; go_simp; try (with_reducible rfl))
            (try simp only [Act.put, List.setIfInBounds_toArray, List.set_cons_zero, List.set_cons_succ])
            refine wpAnyH_done (by kernel_rfl) ?_ _
            generalize w5.setRow b2 #[.slice fa' fl' fc', .int .i64 (S'.quota : Int), .int .i64 (S'.steps : Int), .slice sa' sl' sc', .int .i64 si', .bool (!S'.runs)] = Y at HT5 ⊢
            have HTT := Lib.hid HT5.out.swap
            clear HT5
            obtain ⟨y0, y1, y2, y3, y4, y5⟩ := dskC (HTT.out.dk.kept (List.mem_cons_self ..))
            simp only at y0 y1 y2 y3 y4 y5
            have HSm1 := Lib.hid (HTT.out.same (by have := HLt.out.2; omega))
            have HSm2 := Lib.hid (fun W (hW : Below Y.heap.size Y W) => (HTT.out.up hW).swap.same (by have := HLt.out.2; omega))
            go_wp2_with (go_at_call 9; first | (refine (HSm2.out _ HB8.out).mono ?_; rintro e w9 ⟨rfl, hb9⟩; have HB9 := Lib.hid hb9; clear hb9) | (refine HSm1.out.mono ?_; rintro e w8 ⟨rfl, hb8⟩; have HB8 := Lib.hid hb8; clear hb8 y0 y1 y2 y3 y4 y5; obtain ⟨y0, y1, y2, y3, y4, y5⟩ := dskC ((HTT.out.up HB8.out).dk.kept (List.mem_cons_of_mem _ (List.mem_cons_self ..))); simp only at y0 y1 y2 y3 y4 y5))
            go_roundw
            case rel => exact ⟨k + 1, _, _, _, _, _, _, _, _, _, _, _, _, _, _, _, _, _, rfl, rfl, by go_num, by have := HLt.out.2; omega, (HTT.out.up HB8.out).up HB9.out⟩
            case measure => have := HLt.out.2; simp [Go.RowKit.intOf]; omega
          · refine wp_store_row 32 _ _ rfl b2 #[.slice fa' fl' fc', .int .i64 (S'.quota : Int), .int .i64 (S'.steps : Int), .slice sa' sl' sc', .int .i64 si', .bool (!S'.runs)] rfl rfl 32 _ HS5.out.1 Tryz.sizeRD rfl (by simp [Value.oneCell']) ?_
            refine hK.out _ _ (fun e => absurd (e.symm.trans (by kernel_rfl) : false = true) Bool.false_ne_true) ?_
            clear hK K
            (try simp only [Act.put])
            refine wpAnyN_of_H (S' := fun _ => True) _ _ _ _ (by kernel_rfl) ?_
            refine wpAnyH_take (i := 9) (oi := { dst := some 111, op := Go.Op.extract (Go.Operand.tmp 102) 1, type := 4, pos := "law.go:208", after := #[{ on := 7, ground := Go.Ground.data }, { on := 10, ground := Go.Ground.gcOnly Go.Departure.lateStores }], guard := none }) (v := .bool true) rfl (by kernel_rfl) (by kernel_rfl) (by kernel_rfl) (fun _ _ _ h => h) (Or.inl ⟨by kernel_rfl, ?_⟩) trivial ?_
            · (intro X hX; go_simp; try (with_reducible rfl))
            (try simp only [Act.put, List.setIfInBounds_toArray, List.set_cons_zero, List.set_cons_succ])
            refine wpAnyH_take (i := 11) (oi := { dst := some 17, op := Go.Op.assign (Go.Operand.tmp 111), type := 4, pos := "law.go:208", after := #[{ on := 9, ground := Go.Ground.data }, { on := 10, ground := Go.Ground.chain }, { on := 0, ground := Go.Ground.phase }, { on := 1, ground := Go.Ground.phase }, { on := 2, ground := Go.Ground.phase }, { on := 3, ground := Go.Ground.phase }, { on := 4, ground := Go.Ground.phase }, { on := 5, ground := Go.Ground.phase }, { on := 6, ground := Go.Ground.phase }, { on := 7, ground := Go.Ground.phase }, { on := 8, ground := Go.Ground.phase }, { on := 9, ground := Go.Ground.phase }, { on := 10, ground := Go.Ground.phase }], guard := none }) (v := .bool true) rfl (by kernel_rfl) (by kernel_rfl) (by kernel_rfl) (fun _ _ _ h => h) (Or.inl ⟨by kernel_rfl, ?_⟩) trivial ?_
            · (intro X hX; go_simp; try (with_reducible rfl))
            (try simp only [Act.put, List.setIfInBounds_toArray, List.set_cons_zero, List.set_cons_succ])
            refine wpAnyH_done (by kernel_rfl) ?_ _
            generalize w5.setRow b2 #[.slice fa' fl' fc', .int .i64 (S'.quota : Int), .int .i64 (S'.steps : Int), .slice sa' sl' sc', .int .i64 si', .bool (!S'.runs)] = Y at HT5 ⊢
            have HTT := Lib.hid HT5.out.swap
            clear HT5
            obtain ⟨y0, y1, y2, y3, y4, y5⟩ := dskC (HTT.out.dk.kept (List.mem_cons_self ..))
            simp only at y0 y1 y2 y3 y4 y5
            have HSm1 := Lib.hid (HTT.out.same (by have := HLt.out.2; omega))
            have HSm2 := Lib.hid (fun W (hW : Below Y.heap.size Y W) => (HTT.out.up hW).swap.same (by have := HLt.out.2; omega))
            go_wp2_with (go_at_call 9; first | (refine (HSm2.out _ HB8.out).mono ?_; rintro e w9 ⟨rfl, hb9⟩; have HB9 := Lib.hid hb9; clear hb9) | (refine HSm1.out.mono ?_; rintro e w8 ⟨rfl, hb8⟩; have HB8 := Lib.hid hb8; clear hb8 y0 y1 y2 y3 y4 y5; obtain ⟨y0, y1, y2, y3, y4, y5⟩ := dskC ((HTT.out.up HB8.out).dk.kept (List.mem_cons_of_mem _ (List.mem_cons_self ..))); simp only at y0 y1 y2 y3 y4 y5))
            go_roundw
            case rel => exact ⟨k + 1, _, _, _, _, _, _, _, _, _, _, _, _, _, _, _, _, _, rfl, rfl, by go_num, by have := HLt.out.2; omega, (HTT.out.up HB8.out).up HB9.out⟩
            case measure => have := HLt.out.2; simp [Go.RowKit.intOf]; omega
      · have hli : (k : Int) < (len : Int) := by omega
        have h15 : ¬ (k : Int) < 150 := by omega
        clear hI hk
        go_wp2_with fail
        go_ret
        exact ⟨rfl, HW.out⟩
    · have hli : ¬ (k : Int) < (len : Int) := by omega
      clear hI hk
      go_wp2_with fail
      go_ret
      exact ⟨rfl, HW.out⟩
end Go.Proofs.YtgafomknpdnfcaaGreatDoor
