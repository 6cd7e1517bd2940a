/- DiskKeeps: the walk. -/
import Derived.Test.YtbnicjpkfldcdaaDoorK9p
import Derived.Test.YtbnicjpkfldcdaaDoorD9zb
import Derived.Deep.QuietTactic
import Derived.BigQuiet
import Derived.Deep.CutBlock
namespace Go.Proofs.YtbnicjpkfldcdaaDoor
open Go.RowKit Go.Lib

theorem act_cells {X : World} {ab : Nat} {kind on nn : Int} {name dest data : ByteArray} {sa : Option Addr} {sn sc : Nat} (h : X.heap[ab]? = some (.cells #[.int .i64 kind, .int .i64 on, .string name, .string dest, .string data, .int .i64 nn, .slice sa sn sc] 35 (0, 0))) :
    X.cell? ⟨ab, 0, none⟩ = some (.int .i64 kind) ∧ X.cell? ⟨ab, 1, none⟩ = some (.int .i64 on) ∧ X.cell? ⟨ab, 2, none⟩ = some (.string name) ∧ X.cell? ⟨ab, 3, none⟩ = some (.string dest) ∧ X.cell? ⟨ab, 4, none⟩ = some (.string data) ∧ X.cell? ⟨ab, 5, none⟩ = some (.int .i64 nn) ∧ X.cell? ⟨ab, 6, none⟩ = some (.slice sa sn sc) := by
  have y0 := cell_of h 0
  have y1 := cell_of h 1
  have y2 := cell_of h 2
  have y3 := cell_of h 3
  have y4 := cell_of h 4
  have y5 := cell_of h 5
  have y6 := cell_of h 6
  simp only [List.getElem?_toArray, List.getElem?_cons_zero, List.getElem?_cons_succ] at y0 y1 y2 y3 y4 y5 y6
  exact ⟨y0, y1, y2, y3, y4, y5, y6⟩
/-- The log's cells. -/
theorem KD.lcells {A : Whys} {w0 X : World} {d bp : Nat} {T : DS} {P : List PF} {G : List LE} {K : List (Nat × Obj)} (h : KD A w0 d bp T P G K X) {i : Nat} {e : LE} (he : G[i]? = some e) :
    ∃ gn cn ga ca, X.cell? ⟨bp, 0, none⟩ = some (.slice (some ⟨gn, 0, none⟩) G.length cn) ∧ X.cell? ⟨gn, i, none⟩ = some (.string e.name) ∧ X.cell? ⟨bp, 1, none⟩ = some (.slice (some ⟨ga, 0, none⟩) G.length ca) ∧ X.cell? ⟨ga, i, none⟩ = some (.string e.all) := by
  obtain ⟨vn, va, vs, hL, _⟩ := h.log
  obtain ⟨gn, cn, hv, hc, _⟩ := row_at hL.rn (i := i) (x := e.name) (by rw [List.getElem?_map, he]; rfl)
  obtain ⟨ga, ca, hva, hca, _⟩ := row_at hL.ra (i := i) (x := e.all) (by rw [List.getElem?_map, he]; rfl)
  have b0 := cell_of hL.self 0
  have b1 := cell_of hL.self 1
  simp only [List.getElem?_toArray, List.getElem?_cons_zero, List.getElem?_cons_succ] at b0 b1
  rw [List.length_map] at hv hva
  rw [hv] at b0
  rw [hva] at b1
  exact ⟨gn, cn, ga, ca, b0, hc, b1, hca⟩
theorem KD.lcell0 {A : Whys} {w0 X : World} {d bp : Nat} {T : DS} {P : List PF} {G : List LE} {K : List (Nat × Obj)} (h : KD A w0 d bp T P G K X) : ∃ a c, X.cell? ⟨bp, 0, none⟩ = some (.slice a G.length c) := by
  obtain ⟨vn, va, vs, hL, _⟩ := h.log
  obtain ⟨a, c, hv⟩ := ownsRow_shape hL.rn
  have b0 := cell_of hL.self 0
  simp only [List.getElem?_toArray, List.getElem?_cons_zero] at b0
  rw [List.length_map] at hv
  rw [hv] at b0
  exact ⟨a, c, b0⟩
theorem KI.on1 {A : Whys} {w X : World} {d bp k : Nat} {T : DS} {P : List PF} {G : List LE} {K : List (Nat × Obj)} (h : KI A w d bp k T P G K X) : KI A w d bp (k + 1) T P G K X := ⟨h.kd, h.quota, h.ok, h.runs, by have := h.steps; omega, by have := h.len; omega, h.log, h.nm⟩
theorem KI.planned {A : Whys} {w X Y : World} {d bp k : Nat} {T : DS} {P : List PF} {G : List LE} {K : List (Nat × Obj)} (h : KI A w d bp k T P G K X) {l : List (Int × Int × Int)} (hl : ∀ s, s ∈ l → inI s.1 ∧ inI s.2.1 ∧ inI s.2.2) (hk : KD A w d bp { T with stops := planP l } P G K Y) : KI A w d bp (k + 1) { T with stops := planP l } P G K Y :=
  ⟨hk, h.quota, plan_in hl, h.runs, Nat.le_trans h.steps (by omega), by have := h.len; omega, h.log, h.nm⟩
/-- Behind an operation that went well: where its file is. -/
theorem done_at {T : DS} {P : List PF} {G : List LE} (h : LogOf P G) {q : ActR} (hc : codeK T P q = 0) : (q.kind = 1 ∧ atL q.name G = -1) ∨ ∃ p i, getK q.name P = some p ∧ p ∈ P ∧ atL q.name G = ((i : Nat) : Int) ∧ G[i]? = some (toLE p) := by
  rcases h.at q.name with ⟨h0, hi⟩ | ⟨p, i, h0, hn, hi, hG⟩
  · refine .inl ⟨?_, by unfold atL; rw [hi]⟩
    by_cases h1 : q.kind = 1
    · exact h1
    · exfalso
      have hl : lookC P q.name = 0 := by
        unfold codeK at hc
        rw [if_neg h1] at hc
        split at hc
        · exact (ren_nm hc).2
        · split at hc
          · exact (tru_look hc).1
          · exact hc
      obtain ⟨p, hp⟩ := look_getK hl
      rw [h0] at hp
      cases hp
  · exact .inr ⟨p, i, h0, List.mem_of_find?_eq_some h0, by unfold atL; rw [hi], hG⟩
theorem KDone.notes {A : Whys} {w X W : World} {d bp k : Nat} {T0 : DS} {P : List PF} {G : List LE} {K K0 : List (Nat × Obj)} {q : ActR} {T : DS} {X0 : World} (h : KDone A w d bp k T0 P G K q T X) (hb : Below X.heap.size X W) (h0 : KI A w d bp k T0 P G K0 X0) (hk : k < 150) (hq : 1 ≤ q.kind ∧ q.kind ≤ 6) (hds : q.data.size ≤ 140737488355328) :
    Calls Tryd.prog 14 #[.pointer (some ⟨bp, 0, none⟩), .agg q.cells] W fun e w' => e = .returned (.tuple #[]) ∧ ∃ G', KI A w d bp (k + 1) T (doneK P q) G' K w' := by
  have hs := h0.small
  have hln := h0.len
  have hst := h.steps
  refine ((h.kd.up hb).notes (T0 := T0) (P0 := P) (by rw [hs.2.1]; omega) h0.log q hq h.code h0.kd.fok.1 (fun p hp => by have := hs.1 p hp; omega) hds h.kd.names).mono ?_
  rintro e w' ⟨rfl, G', hK, hL⟩
  exact ⟨rfl, G', hK, h.quota, h.ok, h.runs, by omega, h.len, hL, h.nm⟩
theorem tru_size {T : DS} {P : List PF} {q : ActR} (h6 : q.kind = 6) (hc : codeK T P q = 0) {p : PF} (hp : getK q.name P = some p) : 0 ≤ q.n ∧ q.n ≤ ((S p.data).size : Int) := by
  unfold codeK at hc
  rw [if_neg (by omega), if_neg (by omega), if_pos h6] at hc
  obtain ⟨_, h1, h2⟩ := tru_look hc
  refine ⟨h1, ?_⟩
  have e : sizeP q.name P = (p.data.length : Int) := by
    unfold sizeP
    have : P.find? (fun x => decide (x.name = q.name)) = some p := hp
    rw [this]
  rw [e] at h2
  rw [S_size]
  exact h2
theorem read_all {P : List PF} {n : ByteArray} {p : PF} (hp : getK n P = some p) : S (dataP n P) = (toLE p).all := by
  have : P.find? (fun x => decide (x.name = n)) = some p := hp
  unfold dataP
  rw [this]
  rfl
set_option maxHeartbeats 8000000 in
set_option maxRecDepth 20000 in
theorem keeps_walk {A : Whys} {B : Nat} {w : World} (he : Env A B w) (a : Option Addr) (len c : Nat) (hs : ActsSt w a len) :
    Calls Tryd.prog 3 #[.slice a len c] w fun e w' => e = .returned (.bool true) ∧ Below w.heap.size w w' := by
  have HK := Lib.hid (known_any he)
  have HN := Lib.hid (fun W (hb : Below w.heap.size w W) => NewD (A := A) (w0 := w) (w := W) hb ((he.up he.hi (Nat.le_refl _)).below hb) 4000 (by decide) (by decide))
  have HA := Lib.hid hs
  have hlen : (len : Int) ≤ 4611686018427387904 := by have := hs.1; omega
  clear he hs
  go_enter Tryd.func3, Tryd.ntmps3
  go_wp2_with (first | (go_at_call 4; refine HK.out.mono ?_; rintro e w1 ⟨rfl, hb1⟩; have HB1 := Lib.hid hb1; clear hb1) | (go_at_call 5; refine (HN.out _ HB1.out).mono ?_; rintro e w2 ⟨d, rfl, h2⟩; have K2 := Lib.hid h2; clear h2))
  clear HN HK HB1
  go_loopw [7] (fun vi wr => ∃ (k : Nat) (T : DS) (P : List PF) (G : List LE) (K : List (Nat × Obj)) (X : World), X = wr ∧ vi = .int .i64 k ∧ k ≤ 150 ∧ KI A w d w2.heap.size k T P G K X) (fun i _ => 150 - (Go.RowKit.intOf i).toNat)
  case atStart => exact ⟨0, _, _, _, _, _, rfl, rfl, by omega, ⟨K2.out.newlog, rfl, fun s hs => (by cases hs), rfl, Nat.le_refl _, Nat.le_refl _, ⟨List.Perm.refl _, List.nodup_nil⟩, fun p hp => (by cases hp)⟩⟩
  case round =>
    clear K2
    obtain ⟨k, T, P, G, K, X, hX, rfl, hk, hI⟩ := hrel
    subst hX
    have hk2 : (k : Int) ≤ 150 := by omega
    have hb := hI.kd.w0
    by_cases hrun : k < len ∧ k < 150
    · obtain ⟨hlt, h150⟩ := hrun
      obtain ⟨b, o, ha, hbw, hall⟩ := HA.out.2 (by omega)
      obtain ⟨ac, ll, hac0⟩ := hall k hlt
      have hac := hac0.on hbw hb
      obtain ⟨kind, on, name, dest, data, nn, sa, sn, sc⟩ := ac
      obtain ⟨⟨c0, c1, c2, c3, c4, c5, c6, hns, hts⟩, hst, hin, hsn, hdata⟩ := hac
      simp only at c0 c1 c2 c3 c4 c5 c6 hns hts hst hsn hdata
      subst ha
      have hli : (k : Int) < (len : Int) := by omega
      have h15 : (k : Int) < 150 := by omega
      obtain ⟨Y, hY⟩ : ∃ Y, X.alloc (.cells #[.int .i64 kind, .int .i64 on, .string name, .string dest, .string data, .int .i64 nn, .slice sa sn sc] 35) = Y := ⟨_, rfl⟩
      have hoY := heap_alloc_new X (.cells #[.int .i64 kind, .int .i64 on, .string name, .string dest, .string data, .int .i64 nn, .slice sa sn sc] 35)
      have hbY : Below X.heap.size X (X.alloc (.cells #[.int .i64 kind, .int .i64 on, .string name, .string dest, .string data, .int .i64 nn, .slice sa sn sc] 35)) := (Below.refl _ _).alloc (Nat.le_refl _) _
      rw [hY] at hoY hbY
      have HY := Lib.hid hY
      have HI := Lib.hid (hI.keep hbY hoY)
      have HF := Lib.hid (And.intro h150 (And.intro hns (And.intro hts (And.intro hin (And.intro hsn (And.intro hdata (hst.on hbY)))))))
      have HZ : Hid (∀ T' P' G' K' W, KD A w d w2.heap.size T' P' G' K' W → (X.heap.size, Obj.cells #[.int .i64 kind, .int .i64 on, .string name, .string dest, .string data, .int .i64 nn, .slice sa sn sc] 35 (0, 0)) ∈ K' → W.cell? ⟨X.heap.size, 0, none⟩ = some (.int .i64 kind) ∧ W.cell? ⟨X.heap.size, 1, none⟩ = some (.int .i64 on) ∧ W.cell? ⟨X.heap.size, 2, none⟩ = some (.string name) ∧ W.cell? ⟨X.heap.size, 3, none⟩ = some (.string dest) ∧ W.cell? ⟨X.heap.size, 4, none⟩ = some (.string data) ∧ W.cell? ⟨X.heap.size, 5, none⟩ = some (.int .i64 nn) ∧ W.cell? ⟨X.heap.size, 6, none⟩ = some (.slice sa sn sc)) := Lib.hid (fun T' P' G' K' W h hm => act_cells (h.kept hm))
      clear hk hns hts hst hin hsn hdata h150 hlt hI
      clear hb hac0 hall hbw hbY hY hoY
      go_upto_region 10 with fail
      rw [HY.out]
      clear c0 c1 c2 c3 c4 c5 c6 HY
      obtain ⟨y0, y1, y2, y3, y4, y5, y6⟩ := HZ.out _ _ _ _ _ HI.out.kd List.mem_cons_self
      by_cases h7 : kind = 7
      · subst h7
        have HT := Lib.hid (fun W (hb : Below Y.heap.size Y W) => twin_any (HF.out.2.2.2.2.2.2.on hb) HF.out.2.2.2.2.1)
        have HPl : Hid (∀ W g cp, Below Y.heap.size Y W → Y.heap.size ≤ g → StopsIn W g 0 sn ll → Calls Tryd.prog 6 #[.pointer (some ⟨d, 0, none⟩), .slice (some ⟨g, 0, none⟩) sn cp] W fun e w' => e = .returned (.tuple #[]) ∧ KI A w d w2.heap.size (k + 1) { T with stops := planP ll } P G ((X.heap.size, Obj.cells #[.int .i64 7, .int .i64 on, .string name, .string dest, .string data, .int .i64 nn, .slice sa sn sc] 35 (0, 0)) :: K) w') := Lib.hid (fun W g cp hb hg hi => by
          have hl : ll.length = sn := HF.out.2.2.2.2.2.2.1
          refine (HI.out.kd.planG (by rw [HI.out.quota]; decide) hb ll g sn cp hl hg HF.out.2.2.2.2.1 hi).mono ?_
          rintro e w' ⟨rfl, hK⟩
          exact ⟨rfl, HI.out.planned HF.out.2.2.2.1 hK⟩)
        have hsni : (sn : Int) ≤ 5864062014634 := by have := HF.out.2.2.2.2.1; omega
        have HZ6 : Hid (∀ W, Below Y.heap.size Y W → W.cell? ⟨X.heap.size, 6, none⟩ = some (.slice sa sn sc)) := Lib.hid (fun W hb => by rw [hb.cell (World.block_lt_of_cell? _ _ y6)]; exact y6)
        have HCP : Hid (∀ cp : Nat, sn + 1 ≤ cp → (sn : Int) ≤ (cp : Int)) := Lib.hid (fun cp h => by omega)
        go_upto_region 11 with fail
        go_region_with (first | (go_at_call 7; refine (HT.out _ ?_).mono ?_; (first | exact Below.refl _ _ | exact (Below.refl _ _).drew | exact (Below.refl _ _).drew.drew | exact (Below.refl _ _).drew.drew.drew | exact drewB (Below.refl _ _) _); rintro e w5 ⟨g, cp, rfl, hcp, hg, hsi, hb5⟩; have hb5' : Below Y.heap.size Y w5 := (Below.refl _ _).drew.trans hb5; have y5' := HZ6.out _ hb5'; have hcpi : (sn : Int) ≤ (cp : Int) := HCP.out _ hcp; have hcpn : sn ≤ cp := Nat.le_of_succ_le hcp) | (go_at_call 6; refine (HPl.out _ _ _ hb5' hg hsi).mono ?_; rintro e w6 ⟨rfl, hD6⟩))
        all_goals (
          go_wp2_with fail
          go_roundw
          case rel => exact ⟨k + 1, _, _, _, _, _, rfl, by go_num, by have := HF.out.1; omega, hD6⟩
          case measure => simp [Go.RowKit.intOf]; omega)
      · have b7 := beqI_no h7
        clear h7
        by_cases hkd : 1 ≤ kind ∧ kind ≤ 6
        · have h1 : ¬ kind < 1 := by omega
          have h6 : ¬ 6 < kind := by omega
          have HKd := Lib.hid hkd
          clear hkd
          have HDo := Lib.hid (HI.out.does HF.out.1 ⟨kind, on, name, dest, data, nn, sa, sn, sc⟩ HKd.out HF.out.2.1 HF.out.2.2.1)
          simp only [ActR.cells] at HDo
          go_upto_region 14 with (go_at_call 8; refine HDo.out.mono ?_; rintro e w4 ⟨s4, r4, rfl, hD4⟩; have H4 := Lib.hid hD4; clear hD4)
          clear y0 y1 y2 y3 y4 y5 y6 HDo
          rcases H4.out with ⟨b4, op4, nm4, st4, T4, P4, rfl, hK4⟩ | ⟨b4, op4, nm4, st4, co4, T4, h93, rfl, rfl, hK4⟩ | ⟨T4, rfl, hs4, hK4⟩
          · -- the machine has stopped
            clear H4
            have HDw := Lib.hid (hK4.kd.down (b := true) (by rw [hK4.runs]; rfl))
            have HIs := Lib.hid (hK4.kd.is List.mem_cons_self true (by decide))
            unfold whyV failV at HIs
            unfold failV
            have ce4 : w4.cell? ⟨0, 0, none⟩ = some (.iface 128 (.pointer (some (A.at 93)))) := hK4.kd.env.d
            have HPn := Lib.hid hK4.plan
            have HSt := Lib.hid (fun W (h : KStop A w d w2.heap.size k G _ _ { T4 with stops := [] } P4 W) => KStop.start (q := ⟨kind, on, name, dest, data, nn, sa, sn, sc⟩) (K := (b4, failObj A op4 nm4 st4 93) :: (X.heap.size, Obj.cells #[.int .i64 kind, .int .i64 on, .string name, .string dest, .string data, .int .i64 nn, .slice sa sn sc] 35 (0, 0)) :: K) h)
            have hgl := HI.out.small
            have HRd := Lib.hid (fun V W (h : KStop A w d w2.heap.size k G _ _ { T4 with stops := [] } P4 V) hW => KStop.reads (q := ⟨kind, on, name, dest, data, nn, sa, sn, sc⟩) (K := (b4, failObj A op4 nm4 st4 93) :: (X.heap.size, Obj.cells #[.int .i64 kind, .int .i64 on, .string name, .string dest, .string data, .int .i64 nn, .slice sa sn sc] 35 (0, 0)) :: K) (W := W) h HF.out.1 (by have := HI.out.len; have := HF.out.1; rw [hgl.2.1]; omega) hgl.2.2 hW)
            simp only [ActR.cells] at HRd
            have HDn : Hid (∀ T' P' G' K' W, KI A w d w2.heap.size (k + 1) T' P' G' K' W → Calls Tryd.prog 9 #[.pointer (some ⟨d, 0, none⟩)] W fun e w' => e = .returned (.bool false) ∧ w' = W) := Lib.hid (fun T' P' G' K' W h => h.kd.down (by rw [h.runs]; rfl))
            clear hgl hK4
            go_upto_region 19 with (first | (go_at_call 9; refine HDw.out.mono ?_; rintro e w5 ⟨rfl, hw5⟩; subst w5) | (go_at_call 10; refine HIs.out.mono ?_; rintro e w5 ⟨rfl, hw5⟩; subst w5) | (go_at_call 6; refine HPn.out.mono ?_; rintro e w5 ⟨rfl, h5⟩; have K5 := Lib.hid h5; clear h5) | (go_at_call 11; refine (HSt.out _ K5.out).mono ?_; rintro e w6 ⟨rfl, h6⟩; have K6 := Lib.hid h6; clear h6))
            clear HDw HIs ce4 HPn HSt
            obtain ⟨z0, z1, z2, z3, z4, z5, z6⟩ := HZ.out _ _ _ _ _ K6.out (List.mem_cons_of_mem _ List.mem_cons_self)
            go_wp2_with (first | (go_at_call 12; refine (HRd.out _ _ K5.out K6.out).mono ?_; rintro e w7 ⟨rfl, T7, G7, h7⟩; have K7 := Lib.hid h7; clear h7) | (go_at_call 9; refine (HDn.out _ _ _ _ _ K7.out).mono ?_; rintro e w8 ⟨rfl, hw8⟩; subst w8))
            go_roundw
            case rel => exact ⟨k + 1, _, _, _, _, _, rfl, by go_num, by have := HF.out.1; omega, K7.out⟩
            case measure => simp [Go.RowKit.intOf]; omega
          · -- it was refused
            clear H4
            have HDw := Lib.hid (hK4.kd.down (b := false) (by rw [hK4.runs]; rfl))
            have HIs := Lib.hid (hK4.kd.is List.mem_cons_self false (by rw [decide_eq_false h93]))
            unfold whyV failV at HIs
            unfold failV
            have ce4 : w4.cell? ⟨0, 0, none⟩ = some (.iface 128 (.pointer (some (A.at 93)))) := hK4.kd.env.d
            have K4 := Lib.hid hK4
            clear hK4 h93
            go_wp2_with (first | (go_at_call 9; refine HDw.out.mono ?_; rintro e w5 ⟨rfl, hw5⟩; subst w5) | (go_at_call 10; refine HIs.out.mono ?_; rintro e w5 ⟨rfl, hw5⟩; subst w5))
            go_roundw
            case rel => exact ⟨k + 1, _, _, _, _, _, rfl, by go_num, by have := HF.out.1; omega, K4.out⟩
            case measure => simp [Go.RowKit.intOf]; omega
          · -- it went well
            clear H4
            have HDw := Lib.hid (hK4.kd.down (b := false) (by rw [hK4.runs]; rfl))
            obtain ⟨z0, z1, z2, z3, z4, z5, z6⟩ := HZ.out _ _ _ _ _ hK4.kd List.mem_cons_self
            have HNt := Lib.hid (fun W (hb : Below w4.heap.size w4 W) => hK4.notes hb HI.out HF.out.1 HKd.out HF.out.2.2.2.2.2.1)
            simp only [ActR.cells] at HNt
            have HAt := Lib.hid (hK4.kd.at (by have := HI.out.small.2.1; have := HI.out.len; have := HF.out.1; omega) name)
            rcases done_at HI.out.log hK4.code with ⟨hk1, hat⟩ | ⟨p, i, hp, hpm, hat, hG⟩
            · simp only at hk1 hat
              rw [hat] at HAt
              subst hk1
              clear hat hs4 hK4
              go_upto_region 26 with (first | (go_at_call 9; refine HDw.out.mono ?_; rintro e w5 ⟨rfl, hw5⟩; subst w5) | (go_at_call 13; refine HAt.out.mono ?_; rintro e w5 ⟨rfl, hw5⟩; subst w5))
              go_quiet (fail)
              go_wp2_with (go_at_call 14; refine (HNt.out _ (drewB (Below.refl _ _) _)).mono ?_; rintro e w7 ⟨rfl, G7, h7⟩; have K7 := Lib.hid h7; clear h7)
              go_roundw
              case rel => exact ⟨k + 1, _, _, _, _, _, rfl, by go_num, by have := HF.out.1; omega, K7.out⟩
              case measure => simp [Go.RowKit.intOf]; omega
            · simp only at hat hp hs4
              rw [hat] at HAt
              obtain ⟨gn, cn, ga, ca, l0, l1, l2, l3⟩ := hK4.kd.lcells hG
              have hil : i < G.length := (List.getElem?_eq_some_iff.1 hG).1
              have hGl : G.length ≤ 1000 := by have := HI.out.small.2.1; have := HI.out.len; have := HF.out.1; omega
              have hii : (i : Int) < (G.length : Int) := by omega
              have hi0 : ¬ (i : Int) < 0 := by omega
              have hi0b : decide ((i : Int) < 0) = false := decide_eq_false hi0
              have hil2 : (i : Int) ≤ 1000 := by omega
              have hGi : (G.length : Int) ≤ 1000 := by omega
              by_cases h3 : kind = 3
              · subst h3
                rw [if_pos rfl, read_all hp] at hs4
                subst hs4
                obtain ⟨t3, ht3⟩ : ∃ t, (toLE p).all = t := ⟨_, rfl⟩
                rw [ht3] at l3 ⊢
                have tt := ts_yes t3
                clear hat hp hpm hG hK4 ht3 hGl
                go_upto_region 26 with (first | (go_at_call 9; refine HDw.out.mono ?_; rintro e w5 ⟨rfl, hw5⟩; subst w5) | (go_at_call 13; refine HAt.out.mono ?_; rintro e w5 ⟨rfl, hw5⟩; subst w5))
                go_quiet (fail)
                go_wp2_with (go_at_call 14; refine (HNt.out _ (drewB (Below.refl _ _) _)).mono ?_; rintro e w7 ⟨rfl, G7, h7⟩; have K7 := Lib.hid h7; clear h7)
                go_roundw
                case rel => exact ⟨k + 1, _, _, _, _, _, rfl, by go_num, by have := HF.out.1; omega, K7.out⟩
                case measure => simp [Go.RowKit.intOf]; omega
              · have b3 := beqI_no h3
                rw [if_neg h3] at hs4
                subst hs4
                by_cases h6' : kind = 6
                · subst h6'
                  obtain ⟨n0, n1⟩ := tru_size (q := ⟨6, on, name, dest, data, nn, sa, sn, sc⟩) rfl hK4.code hp
                  simp only at n0 n1
                  obtain ⟨t3, ht3⟩ : ∃ t, (toLE p).all = t := ⟨_, rfl⟩
                  have ht3' : S p.data = t3 := ht3
                  rw [ht3] at l3
                  rw [ht3'] at n1
                  have n0b : decide (nn < 0) = false := decide_eq_false (by omega)
                  have n0c : ¬ nn < 0 := by omega
                  have n1b : decide ((t3.size : Int) < nn) = false := decide_eq_false (by omega)
                  have n1c : ¬ (t3.size : Int) < nn := by omega
                  clear hat hp hpm hG hK4 ht3 ht3' hGl h3
                  go_upto_region 26 with (first | (go_at_call 9; refine HDw.out.mono ?_; rintro e w5 ⟨rfl, hw5⟩; subst w5) | (go_at_call 13; refine HAt.out.mono ?_; rintro e w5 ⟨rfl, hw5⟩; subst w5))
                  go_quiet (fail)
                  go_wp2_with (go_at_call 14; refine (HNt.out _ (drewB (Below.refl _ _) _)).mono ?_; rintro e w7 ⟨rfl, G7, h7⟩; have K7 := Lib.hid h7; clear h7)
                  go_roundw
                  case rel => exact ⟨k + 1, _, _, _, _, _, rfl, by go_num, by have := HF.out.1; omega, K7.out⟩
                  case measure => simp [Go.RowKit.intOf]; omega
                · have b6 := beqI_no h6'
                  clear hat hp hpm hG hK4 hGl h3 h6'
                  go_upto_region 26 with (first | (go_at_call 9; refine HDw.out.mono ?_; rintro e w5 ⟨rfl, hw5⟩; subst w5) | (go_at_call 13; refine HAt.out.mono ?_; rintro e w5 ⟨rfl, hw5⟩; subst w5))
                  go_quiet (fail)
                  go_wp2_with (go_at_call 14; refine (HNt.out _ (drewB (Below.refl _ _) _)).mono ?_; rintro e w7 ⟨rfl, G7, h7⟩; have K7 := Lib.hid h7; clear h7)
                  go_roundw
                  case rel => exact ⟨k + 1, _, _, _, _, _, rfl, by go_num, by have := HF.out.1; omega, K7.out⟩
                  case measure => simp [Go.RowKit.intOf]; omega
        · by_cases h1 : kind < 1
          · clear hkd
            go_wp2_with fail
            go_roundw
            case rel => exact ⟨k + 1, _, _, _, _, _, rfl, by go_num, by have := HF.out.1; omega, HI.out.on1⟩
            case measure => simp [Go.RowKit.intOf]; omega
          · have h6 : 6 < kind := by omega
            clear hkd
            go_wp2_with fail
            go_roundw
            case rel => exact ⟨k + 1, _, _, _, _, _, rfl, by go_num, by have := HF.out.1; omega, HI.out.on1⟩
            case measure => simp [Go.RowKit.intOf]; omega
    · have hne : (¬ (k : Int) < (len : Int)) ∨ ((k : Int) < (len : Int) ∧ ¬ (k : Int) < 150) := by omega
      have hsm := hI.small
      have hln := hI.len
      have hst := hI.steps
      have hGl : G.length ≤ 1000 := by omega
      have hGi : (G.length : Int) ≤ 1000 := by omega
      have HPn := Lib.hid (hI.kd.planN (by rw [hI.quota]; decide))
      have HRd : Hid (∀ W, KD A w d w2.heap.size { T with stops := [] } P G K W → Calls Tryd.prog 12 #[.pointer (some ⟨w2.heap.size, 0, none⟩), .pointer (some ⟨d, 0, none⟩), .agg #[.int .i64 0, .int .i64 0, .string ⟨#[]⟩, .string ⟨#[]⟩, .string ⟨#[]⟩, .int .i64 0, .slice none 0 0]] W fun e w' => e = .returned (.bool true) ∧ Below w.heap.size w w') := Lib.hid (fun W h => by
        refine (reads_any h (fun s hs => (by cases hs)) (by show T.steps + P.length < _; omega) hI.runs rfl hI.nm (by omega) (by omega) (fun p hp => by have := hsm.1 p hp; omega) (fun e he => by have := hsm.2.2 e he; omega) ⟨0, 0, ⟨#[]⟩, ⟨#[]⟩, ⟨#[]⟩, 0, none, 0, 0⟩ (rel_same _ hI.log)).mono ?_
        rintro e w' ⟨rfl, G', hK, _⟩
        exact ⟨rfl, hK.w0⟩)
      have HL := Lib.hid hI.log
      clear hI hb hrun hsm hln hst hk
      rcases hne with hne | ⟨hli, hne⟩
      all_goals (
        go_wp2_with (go_at_call 6; refine HPn.out.mono ?_; rintro e w5 ⟨rfl, h5⟩; have K5 := Lib.hid h5; clear h5)
        go_loopw [13] (fun i wr => ∃ (j : Nat) (V : World), V = wr ∧ V = w5 ∧ j ≤ G.length ∧ i = .int .i64 j) (fun i _ => G.length - (Go.RowKit.intOf i).toNat)
        case atStart => exact ⟨0, _, rfl, rfl, Nat.zero_le _, rfl⟩
        case round =>
          obtain ⟨j, V, hV, hV5, hj, rfl⟩ := hrel
          subst hV
          subst hV5
          have hji : (j : Int) ≤ 1000 := by omega
          by_cases hjl : j < G.length
          · obtain ⟨x, hx⟩ : ∃ x, G[j]? = some x := ⟨_, List.getElem?_eq_getElem hjl⟩
            obtain ⟨p, hpm, rfl⟩ := HL.out.mem.1 (List.mem_of_getElem? hx)
            obtain ⟨gn, cn, ga, ca, l0, l1, l2, l3⟩ := K5.out.lcells hx
            have HPk := Lib.hid (K5.out.peek hpm)
            change V.cell? ⟨gn, j, none⟩ = some (.string p.name) at l1
            change V.cell? ⟨ga, j, none⟩ = some (.string (S p.data)) at l3
            have tt := ts_yes (S p.data)
            have hli2 : (j : Int) < (G.length : Int) := by omega
            clear hx hpm
            go_wp2_with (go_at_call 15; refine HPk.out.mono ?_; rintro e w6 ⟨rfl, hw6⟩; subst w6)
            go_roundw
            case rel => exact ⟨j + 1, _, rfl, rfl, hjl, by go_num⟩
            case measure => simp [Go.RowKit.intOf]; omega
          · obtain ⟨a0, cc, l0⟩ := K5.out.lcell0
            have hli2 : ¬ (j : Int) < (G.length : Int) := by omega
            go_wp2_with (go_at_call 12; refine (HRd.out _ K5.out).mono ?_; rintro e w7 ⟨rfl, h7⟩; have K7 := Lib.hid h7; clear h7)
            go_ret
            exact ⟨rfl, K7.out⟩)
end Go.Proofs.YtbnicjpkfldcdaaDoor

/- DiskKeeps: the walk whole. -/
namespace Go.Proofs.YtbnicjpkfldcdaaDoor
open Go.RowKit Go.Lib

theorem DiskKeeps_walk (v : Value) (w : World) (he : ∃ A B, Env A B w) (hv : ∃ a len c, v = .slice a len c ∧ ActsSt w a len) :
    Calls Tryd.prog 3 #[v] w fun e w' => e = .returned (.bool true) ∧ Below w.heap.size w w' := by
  obtain ⟨A, B, he⟩ := he
  obtain ⟨a, len, c, rfl, hs⟩ := hv
  exact keeps_walk he a len c hs
end Go.Proofs.YtbnicjpkfldcdaaDoor
