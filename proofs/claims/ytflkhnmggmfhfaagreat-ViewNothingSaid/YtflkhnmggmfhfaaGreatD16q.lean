/- step: Find. -/
import Derived.Test.YtflkhnmggmfhfaaGreatD16l
namespace Go.Proofs.YtflkhnmggmfhfaaGreat
open Go.RowKit

variable {W w : World} {K : List (Nat × Obj)} {P Q D N : Nat} {V : PV}
/-- What Find of the document's view leaves. -/
def HNf (W : World) (K : List (Nat × Obj)) (P Q D : Nat) (V U : PV) (bv : Value) (l : List Int) (w : World) : Prop := HH W K P Q D V U w ∧ Nms w bv l ∧ ∃ w0, HH W K P Q D V U w0 ∧ Below w0.heap.size w0 w ∧ ∀ b, bv.ownBlock = some b → w0.heap.size ≤ b
theorem HNf.drew {U : PV} {bv : Value} {l : List Int} (h : HNf W K P Q D V U bv l w) : HNf W K P Q D V U bv l w.drew := by
  obtain ⟨h1, h2, w0, h3, h4, h5⟩ := h
  exact ⟨h1.drew, h2.on (Below.refl _ _).drew, w0, h3, h4.trans ((Below.refl _ _).drew.mono h4.size), h5⟩
theorem findL_len {U : PV} (hk : PVok U N) (hN : N ≤ 1000000) (l : List Rg) (uid : Bool) : (findL U l uid).length ≤ 1000000 := by
  have hl := hk.len
  unfold findL
  split
  · unfold ofL
    refine Nat.le_trans (List.length_filter_le _ _) ?_
    unfold leftU
    rw [uidsP_length]
    have : (stayR U.rows).length ≤ U.rows.length := by unfold stayR; exact List.length_filter_le _ _
    show (stayR U.rows).length ≤ _
    omega
  · split
    · simp
    · rw [List.length_map]
      unfold numL ofL
      refine Nat.le_trans (List.length_filter_le _ _) ?_
      rw [fol_one _ (by omega), folN_length]
      omega
theorem rgs_low {v : Value} {l : List Rg} (h : Rgs W v l) : 0 < l.length → ∀ b, v.ownBlock = some b → b < W.heap.size := by
  obtain ⟨sp, scap, rfl, hs⟩ := h.shape
  intro h0 b e
  obtain ⟨g, o, rfl, hg, _⟩ := hs h0
  cases e
  exact hg
set_option maxRecDepth 100000 in
set_option maxHeartbeats 16000000 in
theorem step_find (h : HH W K P Q D V V w) (hk : PVok V N) (hN : N + 301 ≤ 1000000) (s : ST) (ho : StOK W s) (hs : StShort s) (lk : Int) (k3 : s.kind = 3) (b4 : Bool) (q1 : ((lk.tdiv 4).tmod 2 == 0) = b4) (q0 : IntKind.i64.wrap (lk.tdiv 4) = lk.tdiv 4) :
    Calls Tryz.prog 6 #[.pointer (some ⟨P, 0, none⟩), .pointer (some ⟨Q, 0, none⟩), .pointer (some ⟨D, 0, none⟩), .agg (stL s).toArray, .int .i64 lk] w fun e w' => e = .returned (.bool true) ∧ HH W K P Q D (V) (V) w' := by
  obtain ⟨W1, hW1⟩ : ∃ W1, w.alloc (.cells (stL s).toArray 47) = W1 := ⟨_, rfl⟩
  have h1 : W1.heap[w.heap.size]? = some (.cells (stL s).toArray 47 (0, 0)) := by rw [← hW1]; exact heap_new _ _
  have hb1 : Below w.heap.size w W1 := by rw [← hW1]; exact (Below.refl _ _).alloc (Nat.le_refl _) _
  have h2 : HH W (SBx w.heap.size s :: K) P Q D V V W1 := h.add hb1 (Nat.le_refl _) h1
  obtain ⟨c0, c20, c21, c22, c23, c24, cr⟩ := stL_at h1
  rw [k3] at c0
  have hst := hs.st
  obtain ⟨sa, sc, esv⟩ : ∃ a c, s.sv = .slice a s.st.length c := by
    obtain ⟨a, c, e, _⟩ := ho.st.shape
    exact ⟨a, c, e⟩
  obtain ⟨sn, hsn⟩ : ∃ sn, s.st.length = sn := ⟨_, rfl⟩
  rw [hsn] at esv
  have hfl : (findL V s.st s.uid).length ≤ 1000000 := findL_len hk (by omega) s.st s.uid
  obtain ⟨gb, hgb⟩ : ∃ gb, findG V s.st s.uid = gb := ⟨_, rfl⟩
  obtain ⟨eb, heb⟩ : ∃ eb, findE V s.st s.uid = eb := ⟨_, rfl⟩
  obtain ⟨L, hL⟩ : ∃ L, findL V s.st s.uid = L := ⟨_, rfl⟩
  rw [hL] at hfl
  have HR : Hid (Calls Tryz.prog 18 #[.pointer (some ⟨Q, 0, none⟩), .slice sa sn sc, .bool s.uid] W1 fun r w' => ∃ ba bn bc, r = .returned (.tuple #[.slice ba bn bc, .bool gb, .int .i64 eb]) ∧ HNf W (SBx w.heap.size s :: K) P Q D V V (.slice ba bn bc) L w') := Lib.hid (by
    rw [← esv, ← hgb, ← heb, ← hL]
    refine (rFind_H h2 hk (by omega) s.sv s.st ho.st hst s.uid).mono ?_
    rintro r w' ⟨v', rfl, ⟨q1, q2⟩, q3, q4⟩
    obtain ⟨ba, bc, e, q⟩ := q2
    subst e
    exact ⟨ba, _, bc, rfl, q1, ⟨ba, bc, rfl, q⟩, W1, h2, q4, q3⟩)
  have HPc : Hid (∀ X bv, HNf W (SBx w.heap.size s :: K) P Q D V V bv L X → Calls Tryz.prog 20 #[.pointer (some ⟨D, 0, none⟩), .slice sa sn sc] X fun r w' => ∃ pa pn pc, r = .returned (.slice pa pn pc) ∧ HP W (SBx w.heap.size s :: K) P Q D V V bv L (.slice pa pn pc) s.st w') := Lib.hid (fun X bv q => by
    obtain ⟨q1, q2, w0, q3, q4, q5⟩ := q
    rw [← esv]
    refine (pieces_H q3 q4 q2 q5 s.sv s.st ho.st (rgs_low ho.st) hst).mono ?_
    rintro r w' ⟨av, rfl, q⟩
    obtain ⟨fv, fr, vd, c, n, p1, p2, p3, p4, p5⟩ := q
    obtain ⟨a, c5, e, _⟩ := p5.shape
    subst e
    exact ⟨a, _, c5, rfl, fv, fr, vd, c, n, p1, p2, p3, p4, p5⟩)
  have HFi : Hid (∀ X bv av, HP W (SBx w.heap.size s :: K) P Q D V V bv L av s.st X → Calls Tryz.prog 19 #[.pointer (some ⟨P, 0, none⟩), av, .bool s.uid] X fun r w' => ∃ aa an ac, r = .returned (.tuple #[.slice aa an ac, .bool gb, .int .i64 eb]) ∧ HP W (SBx w.heap.size s :: K) P Q D V V bv L av s.st w' ∧ Nms w' (.slice aa an ac) L) := Lib.hid (fun X bv av q => by
    refine (vFind_H q hk (by omega) hst s.uid).mono ?_
    rw [hgb, heb, hL]
    rintro r w' ⟨v', rfl, q1, q2⟩
    obtain ⟨aa, ac, e, q⟩ := q2
    subst e
    exact ⟨aa, _, ac, rfl, q1, ⟨aa, ac, rfl, q⟩⟩)
  have HPd : Hid (∀ X bv av, HP W (SBx w.heap.size s :: K) P Q D V V bv L av s.st X → Calls Tryz.prog 21 #[.pointer (some ⟨D, 0, none⟩), .slice sa sn sc] X fun r w' => r = .returned (.bool true) ∧ Below X.heap.size X w') := Lib.hid (fun X bv av q => by
    rw [← esv]
    refine (pieced_H q s.sv ho.st).mono ?_
    rintro r w' ⟨rfl, m, rfl⟩
    exact ⟨rfl, below_drewN (Below.refl _ _) m⟩)
  have HAl : Hid (∀ X a b, HH W (SBx w.heap.size s :: K) P Q D V V X → Nms X a L → Nms X b L → Calls Tryz.prog 22 #[a, b] X fun e w' => e = .returned (.bool true) ∧ HH W K P Q D V V w') := Lib.hid (fun X a b q1 q2 q3 => (alike_H q1 q2 q3 hfl).mono (fun _ _ ⟨p1, p2⟩ => ⟨p1, p2.drop⟩))
  have HNum := Lib.hid (num_any eb)
  have HCl : Hid (∀ X bv av, HP W (SBx w.heap.size s :: K) P Q D V V bv L av s.st X → X.cell? ⟨w.heap.size, 23, none⟩ = some (.slice sa sn sc)) := Lib.hid (fun X bv av q => by
    have hb : X.heap[w.heap.size]? = some (.cells (stL s).toArray 47 (0, 0)) := q.hh.box
    rw [← esv]
    exact (stL_at hb).2.2.2.2.1)
  have HSt : Hid (s.sv = .slice sa sn sc) := Lib.hid esv
  rw [esv] at c23
  have qg : (gb == gb) = true := by simp
  have qe : (eb == eb) = true := by simp
  clear h h1 hb1 h2 hk hN ho hs cr k3 hst hfl hgb heb hL esv hsn
  go_enter Tryz.func6, Tryz.ntmps6
  go_upto_region 1 with fail
  (try rw [hW1])
  clear hW1
  go_upto_region 14 with (go_at_call 18; refine HR.out.mono ?_; rintro r w2 ⟨ba, bn, bc, rfl, hv⟩; have H2d := Lib.hid hv.drew; clear hv)
  clear c0 c20 c21 c22 c23 c24 HR
  refine wp_region_N 14 (fun X => X.heap[w.heap.size]? = some (.cells (stL s).toArray 47 (0, 0))) (by kernel_rfl) ?_
  refine wpAnyN_take (i := 0) (oi := { dst := some 101, op := Go.Op.move (Go.Operand.tmp 0), type := 24, pos := "law.go:274", after := #[], guard := none }) (oL := { dst := some 19, op := Go.Op.assign (Go.Operand.tmp 111), type := 66, pos := "law.go:274", after := #[{ on := 11, ground := Go.Ground.data }, { on := 13, ground := Go.Ground.chain }, { on := 0, ground := Go.Ground.phase }, { on := 1, ground := Go.Ground.phase }, { on := 2, ground := Go.Ground.phase }, { on := 3, ground := Go.Ground.phase }, { on := 4, ground := Go.Ground.phase }, { on := 5, ground := Go.Ground.phase }, { on := 6, ground := Go.Ground.phase }, { on := 7, ground := Go.Ground.phase }, { on := 8, ground := Go.Ground.phase }, { on := 9, ground := Go.Ground.phase }, { on := 10, ground := Go.Ground.phase }, { on := 11, ground := Go.Ground.phase }, { on := 12, ground := Go.Ground.phase }, { on := 13, ground := Go.Ground.phase }], guard := none }) (v := .pointer (some ⟨P, 0, none⟩)) rfl rfl (by kernel_rfl) (by kernel_rfl) (by kernel_rfl) (by kernel_rfl) (fun _ _ _ h => h) (Or.inl ⟨by kernel_rfl, ?_⟩) H2d.out.1.box ?_
  · (intro X hX; obtain ⟨z0, z20, z21, z22, z23, z24, _⟩ := stL_at hX; rw [HSt.out] at z23 <;> (go_simp; try (with_reducible rfl)))
  (try simp only [Act.put, List.setIfInBounds_toArray, List.set_cons_zero, List.set_cons_succ])
  refine wpAnyN_take (i := 1) (oi := { dst := some 102, op := Go.Op.move (Go.Operand.tmp 2), type := 29, pos := "law.go:274", after := #[], guard := none }) (oL := { dst := some 19, op := Go.Op.assign (Go.Operand.tmp 111), type := 66, pos := "law.go:274", after := #[{ on := 11, ground := Go.Ground.data }, { on := 13, ground := Go.Ground.chain }, { on := 0, ground := Go.Ground.phase }, { on := 1, ground := Go.Ground.phase }, { on := 2, ground := Go.Ground.phase }, { on := 3, ground := Go.Ground.phase }, { on := 4, ground := Go.Ground.phase }, { on := 5, ground := Go.Ground.phase }, { on := 6, ground := Go.Ground.phase }, { on := 7, ground := Go.Ground.phase }, { on := 8, ground := Go.Ground.phase }, { on := 9, ground := Go.Ground.phase }, { on := 10, ground := Go.Ground.phase }, { on := 11, ground := Go.Ground.phase }, { on := 12, ground := Go.Ground.phase }, { on := 13, ground := Go.Ground.phase }], guard := none }) (v := .pointer (some ⟨D, 0, none⟩)) rfl rfl (by kernel_rfl) (by kernel_rfl) (by kernel_rfl) (by kernel_rfl) (fun _ _ _ h => h) (Or.inl ⟨by kernel_rfl, ?_⟩) H2d.out.1.box ?_
  · (intro X hX; obtain ⟨z0, z20, z21, z22, z23, z24, _⟩ := stL_at hX; rw [HSt.out] at z23 <;> (go_simp; try (with_reducible rfl)))
  (try simp only [Act.put, List.setIfInBounds_toArray, List.set_cons_zero, List.set_cons_succ])
  refine wpAnyN_take (i := 2) (oi := { dst := some 103, op := Go.Op.fieldAddr 47 (Go.Operand.tmp 8) 6, type := 0, pos := "law.go:274", after := #[], guard := none }) (oL := { dst := some 19, op := Go.Op.assign (Go.Operand.tmp 111), type := 66, pos := "law.go:274", after := #[{ on := 11, ground := Go.Ground.data }, { on := 13, ground := Go.Ground.chain }, { on := 0, ground := Go.Ground.phase }, { on := 1, ground := Go.Ground.phase }, { on := 2, ground := Go.Ground.phase }, { on := 3, ground := Go.Ground.phase }, { on := 4, ground := Go.Ground.phase }, { on := 5, ground := Go.Ground.phase }, { on := 6, ground := Go.Ground.phase }, { on := 7, ground := Go.Ground.phase }, { on := 8, ground := Go.Ground.phase }, { on := 9, ground := Go.Ground.phase }, { on := 10, ground := Go.Ground.phase }, { on := 11, ground := Go.Ground.phase }, { on := 12, ground := Go.Ground.phase }, { on := 13, ground := Go.Ground.phase }], guard := none }) (v := .pointer (some ⟨w.heap.size, 23, none⟩)) rfl rfl (by kernel_rfl) (by kernel_rfl) (by kernel_rfl) (by kernel_rfl) (fun _ _ _ h => h) (Or.inl ⟨by kernel_rfl, ?_⟩) H2d.out.1.box ?_
  · (intro X hX; obtain ⟨z0, z20, z21, z22, z23, z24, _⟩ := stL_at hX; rw [HSt.out] at z23 <;> (go_simp; try (with_reducible rfl)))
  (try simp only [Act.put, List.setIfInBounds_toArray, List.set_cons_zero, List.set_cons_succ])
  refine wpAnyN_take (i := 3) (oi := { dst := some 104, op := Go.Op.load 33 (Go.Operand.tmp 103), type := 33, pos := "law.go:274", after := #[{ on := 2, ground := Go.Ground.data }], guard := none }) (oL := { dst := some 19, op := Go.Op.assign (Go.Operand.tmp 111), type := 66, pos := "law.go:274", after := #[{ on := 11, ground := Go.Ground.data }, { on := 13, ground := Go.Ground.chain }, { on := 0, ground := Go.Ground.phase }, { on := 1, ground := Go.Ground.phase }, { on := 2, ground := Go.Ground.phase }, { on := 3, ground := Go.Ground.phase }, { on := 4, ground := Go.Ground.phase }, { on := 5, ground := Go.Ground.phase }, { on := 6, ground := Go.Ground.phase }, { on := 7, ground := Go.Ground.phase }, { on := 8, ground := Go.Ground.phase }, { on := 9, ground := Go.Ground.phase }, { on := 10, ground := Go.Ground.phase }, { on := 11, ground := Go.Ground.phase }, { on := 12, ground := Go.Ground.phase }, { on := 13, ground := Go.Ground.phase }], guard := none }) (v := .slice sa sn sc) rfl rfl (by kernel_rfl) (by kernel_rfl) (by kernel_rfl) (by kernel_rfl) (fun _ _ _ h => h) (Or.inl ⟨by kernel_rfl, ?_⟩) H2d.out.1.box ?_
  · (intro X hX; obtain ⟨z0, z20, z21, z22, z23, z24, _⟩ := stL_at hX; rw [HSt.out] at z23 <;> (go_simp; try (with_reducible rfl)))
  (try simp only [Act.put, List.setIfInBounds_toArray, List.set_cons_zero, List.set_cons_succ])
  refine wpAnyN_take (i := 5) (oi := { dst := some 106, op := Go.Op.fieldAddr 47 (Go.Operand.tmp 8) 7, type := 0, pos := "law.go:274", after := #[], guard := none }) (oL := { dst := some 19, op := Go.Op.assign (Go.Operand.tmp 111), type := 66, pos := "law.go:274", after := #[{ on := 11, ground := Go.Ground.data }, { on := 13, ground := Go.Ground.chain }, { on := 0, ground := Go.Ground.phase }, { on := 1, ground := Go.Ground.phase }, { on := 2, ground := Go.Ground.phase }, { on := 3, ground := Go.Ground.phase }, { on := 4, ground := Go.Ground.phase }, { on := 5, ground := Go.Ground.phase }, { on := 6, ground := Go.Ground.phase }, { on := 7, ground := Go.Ground.phase }, { on := 8, ground := Go.Ground.phase }, { on := 9, ground := Go.Ground.phase }, { on := 10, ground := Go.Ground.phase }, { on := 11, ground := Go.Ground.phase }, { on := 12, ground := Go.Ground.phase }, { on := 13, ground := Go.Ground.phase }], guard := none }) (v := .pointer (some ⟨w.heap.size, 24, none⟩)) rfl rfl (by kernel_rfl) (by kernel_rfl) (by kernel_rfl) (by kernel_rfl) (fun _ _ _ h => h) (Or.inl ⟨by kernel_rfl, ?_⟩) H2d.out.1.box ?_
  · (intro X hX; obtain ⟨z0, z20, z21, z22, z23, z24, _⟩ := stL_at hX; rw [HSt.out] at z23 <;> (go_simp; try (with_reducible rfl)))
  (try simp only [Act.put, List.setIfInBounds_toArray, List.set_cons_zero, List.set_cons_succ])
  refine wpAnyN_take (i := 6) (oi := { dst := some 107, op := Go.Op.load 4 (Go.Operand.tmp 106), type := 4, pos := "law.go:274", after := #[{ on := 5, ground := Go.Ground.data }], guard := none }) (oL := { dst := some 19, op := Go.Op.assign (Go.Operand.tmp 111), type := 66, pos := "law.go:274", after := #[{ on := 11, ground := Go.Ground.data }, { on := 13, ground := Go.Ground.chain }, { on := 0, ground := Go.Ground.phase }, { on := 1, ground := Go.Ground.phase }, { on := 2, ground := Go.Ground.phase }, { on := 3, ground := Go.Ground.phase }, { on := 4, ground := Go.Ground.phase }, { on := 5, ground := Go.Ground.phase }, { on := 6, ground := Go.Ground.phase }, { on := 7, ground := Go.Ground.phase }, { on := 8, ground := Go.Ground.phase }, { on := 9, ground := Go.Ground.phase }, { on := 10, ground := Go.Ground.phase }, { on := 11, ground := Go.Ground.phase }, { on := 12, ground := Go.Ground.phase }, { on := 13, ground := Go.Ground.phase }], guard := none }) (v := .bool s.uid) rfl rfl (by kernel_rfl) (by kernel_rfl) (by kernel_rfl) (by kernel_rfl) (fun _ _ _ h => h) (Or.inl ⟨by kernel_rfl, ?_⟩) H2d.out.1.box ?_
  · (intro X hX; obtain ⟨z0, z20, z21, z22, z23, z24, _⟩ := stL_at hX; rw [HSt.out] at z23 <;> (go_simp; try (with_reducible rfl)))
  (try simp only [Act.put, List.setIfInBounds_toArray, List.set_cons_zero, List.set_cons_succ])
  refine wpAnyN_one (i := 4) (o := { dst := some 105, op := Go.Op.call { callee := Go.Callee.value (Go.Operand.func 20), args := #[Go.Operand.tmp 102, Go.Operand.tmp 104], argTypes := #[29, 33] }, type := 33, pos := "law.go:274", after := #[{ on := 1, ground := Go.Ground.data }, { on := 3, ground := Go.Ground.data }], guard := none }) (by kernel_rfl) rfl (fun K hK => ?_)
  go_simp
  refine (HPc.out _ _ H2d.out).mono ?_
  rintro r w3 ⟨pa, pn, pc, rfl, hv⟩
  have H3 := Lib.hid hv
  clear hv
  refine hK.out _ _ (fun _ => H3.out.hh.box) ?_
  clear hK K
  (try simp only [Act.put, List.setIfInBounds_toArray, List.set_cons_zero, List.set_cons_succ])
  refine wpAnyN_one (i := 7) (o := { dst := some 108, op := Go.Op.call { callee := Go.Callee.value (Go.Operand.func 19), args := #[Go.Operand.tmp 101, Go.Operand.tmp 105, Go.Operand.tmp 107], argTypes := #[24, 33, 4] }, type := 67, pos := "law.go:274", after := #[{ on := 0, ground := Go.Ground.data }, { on := 4, ground := Go.Ground.data }, { on := 6, ground := Go.Ground.data }, { on := 4, ground := Go.Ground.chain }], guard := none }) (by kernel_rfl) rfl (fun K hK => ?_)
  go_simp
  refine (HFi.out _ _ _ H3.out).mono ?_
  rintro r w4 ⟨aa, an, ac, rfl, hv⟩
  have H4 := Lib.hid hv
  clear hv
  refine hK.out _ _ (fun _ => H4.out.1.hh.box) ?_
  clear hK K
  (try simp only [Act.put, List.setIfInBounds_toArray, List.set_cons_zero, List.set_cons_succ])
  refine wpAnyN_take (i := 8) (oi := { dst := some 100, op := Go.Op.move (Go.Operand.tmp 108), type := 67, pos := "law.go:274", after := #[{ on := 7, ground := Go.Ground.data }], guard := none }) (oL := { dst := some 19, op := Go.Op.assign (Go.Operand.tmp 111), type := 66, pos := "law.go:274", after := #[{ on := 11, ground := Go.Ground.data }, { on := 13, ground := Go.Ground.chain }, { on := 0, ground := Go.Ground.phase }, { on := 1, ground := Go.Ground.phase }, { on := 2, ground := Go.Ground.phase }, { on := 3, ground := Go.Ground.phase }, { on := 4, ground := Go.Ground.phase }, { on := 5, ground := Go.Ground.phase }, { on := 6, ground := Go.Ground.phase }, { on := 7, ground := Go.Ground.phase }, { on := 8, ground := Go.Ground.phase }, { on := 9, ground := Go.Ground.phase }, { on := 10, ground := Go.Ground.phase }, { on := 11, ground := Go.Ground.phase }, { on := 12, ground := Go.Ground.phase }, { on := 13, ground := Go.Ground.phase }], guard := none }) (v := .tuple #[.slice aa an ac, .bool gb, .int .i64 eb]) rfl rfl (by kernel_rfl) (by kernel_rfl) (by kernel_rfl) (by kernel_rfl) (fun _ _ _ h => h) (Or.inl ⟨by kernel_rfl, ?_⟩) H4.out.1.hh.box ?_
  · (intro X hX; obtain ⟨z0, z20, z21, z22, z23, z24, _⟩ := stL_at hX; rw [HSt.out] at z23 <;> (go_simp; try (with_reducible rfl)))
  (try simp only [Act.put, List.setIfInBounds_toArray, List.set_cons_zero, List.set_cons_succ])
  refine wpAnyN_take (i := 9) (oi := { dst := some 109, op := Go.Op.extract (Go.Operand.tmp 100) 0, type := 26, pos := "law.go:274", after := #[{ on := 8, ground := Go.Ground.data }], guard := none }) (oL := { dst := some 19, op := Go.Op.assign (Go.Operand.tmp 111), type := 66, pos := "law.go:274", after := #[{ on := 11, ground := Go.Ground.data }, { on := 13, ground := Go.Ground.chain }, { on := 0, ground := Go.Ground.phase }, { on := 1, ground := Go.Ground.phase }, { on := 2, ground := Go.Ground.phase }, { on := 3, ground := Go.Ground.phase }, { on := 4, ground := Go.Ground.phase }, { on := 5, ground := Go.Ground.phase }, { on := 6, ground := Go.Ground.phase }, { on := 7, ground := Go.Ground.phase }, { on := 8, ground := Go.Ground.phase }, { on := 9, ground := Go.Ground.phase }, { on := 10, ground := Go.Ground.phase }, { on := 11, ground := Go.Ground.phase }, { on := 12, ground := Go.Ground.phase }, { on := 13, ground := Go.Ground.phase }], guard := none }) (v := .slice aa an ac) rfl rfl (by kernel_rfl) (by kernel_rfl) (by kernel_rfl) (by kernel_rfl) (fun _ _ _ h => h) (Or.inl ⟨by kernel_rfl, ?_⟩) H4.out.1.hh.box ?_
  · (intro X hX; obtain ⟨z0, z20, z21, z22, z23, z24, _⟩ := stL_at hX; rw [HSt.out] at z23 <;> (go_simp; try (with_reducible rfl)))
  (try simp only [Act.put, List.setIfInBounds_toArray, List.set_cons_zero, List.set_cons_succ])
  refine wpAnyN_take (i := 12) (oi := { dst := some 17, op := Go.Op.assign (Go.Operand.tmp 109), type := 26, pos := "law.go:274", after := #[{ on := 9, ground := Go.Ground.data }, { on := 7, ground := Go.Ground.chain }, { on := 0, ground := Go.Ground.phase }, { on := 1, ground := Go.Ground.phase }, { on := 2, ground := Go.Ground.phase }, { on := 3, ground := Go.Ground.phase }, { on := 4, ground := Go.Ground.phase }, { on := 5, ground := Go.Ground.phase }, { on := 6, ground := Go.Ground.phase }, { on := 7, ground := Go.Ground.phase }, { on := 8, ground := Go.Ground.phase }, { on := 9, ground := Go.Ground.phase }, { on := 10, ground := Go.Ground.textOnly Go.Departure.lateStores }, { on := 11, ground := Go.Ground.textOnly Go.Departure.lateStores }], guard := none }) (oL := { dst := some 19, op := Go.Op.assign (Go.Operand.tmp 111), type := 66, pos := "law.go:274", after := #[{ on := 11, ground := Go.Ground.data }, { on := 13, ground := Go.Ground.chain }, { on := 0, ground := Go.Ground.phase }, { on := 1, ground := Go.Ground.phase }, { on := 2, ground := Go.Ground.phase }, { on := 3, ground := Go.Ground.phase }, { on := 4, ground := Go.Ground.phase }, { on := 5, ground := Go.Ground.phase }, { on := 6, ground := Go.Ground.phase }, { on := 7, ground := Go.Ground.phase }, { on := 8, ground := Go.Ground.phase }, { on := 9, ground := Go.Ground.phase }, { on := 10, ground := Go.Ground.phase }, { on := 11, ground := Go.Ground.phase }, { on := 12, ground := Go.Ground.phase }, { on := 13, ground := Go.Ground.phase }], guard := none }) (v := .slice aa an ac) rfl rfl (by kernel_rfl) (by kernel_rfl) (by kernel_rfl) (by kernel_rfl) (fun _ _ _ h => h) (Or.inl ⟨by kernel_rfl, ?_⟩) H4.out.1.hh.box ?_
  · (intro X hX; obtain ⟨z0, z20, z21, z22, z23, z24, _⟩ := stL_at hX; rw [HSt.out] at z23 <;> (go_simp; try (with_reducible rfl)))
  (try simp only [Act.put, List.setIfInBounds_toArray, List.set_cons_zero, List.set_cons_succ])
  refine wpAnyN_take (i := 10) (oi := { dst := some 110, op := Go.Op.extract (Go.Operand.tmp 100) 1, type := 4, pos := "law.go:274", after := #[{ on := 8, ground := Go.Ground.data }, { on := 12, ground := Go.Ground.gcOnly Go.Departure.lateStores }], guard := none }) (oL := { dst := some 19, op := Go.Op.assign (Go.Operand.tmp 111), type := 66, pos := "law.go:274", after := #[{ on := 11, ground := Go.Ground.data }, { on := 13, ground := Go.Ground.chain }, { on := 0, ground := Go.Ground.phase }, { on := 1, ground := Go.Ground.phase }, { on := 2, ground := Go.Ground.phase }, { on := 3, ground := Go.Ground.phase }, { on := 4, ground := Go.Ground.phase }, { on := 5, ground := Go.Ground.phase }, { on := 6, ground := Go.Ground.phase }, { on := 7, ground := Go.Ground.phase }, { on := 8, ground := Go.Ground.phase }, { on := 9, ground := Go.Ground.phase }, { on := 10, ground := Go.Ground.phase }, { on := 11, ground := Go.Ground.phase }, { on := 12, ground := Go.Ground.phase }, { on := 13, ground := Go.Ground.phase }], guard := none }) (v := .bool gb) rfl rfl (by kernel_rfl) (by kernel_rfl) (by kernel_rfl) (by kernel_rfl) (fun _ _ _ h => h) (Or.inl ⟨by kernel_rfl, ?_⟩) H4.out.1.hh.box ?_
  · (intro X hX; obtain ⟨z0, z20, z21, z22, z23, z24, _⟩ := stL_at hX; rw [HSt.out] at z23 <;> (go_simp; try (with_reducible rfl)))
  (try simp only [Act.put, List.setIfInBounds_toArray, List.set_cons_zero, List.set_cons_succ])
  refine wpAnyN_take (i := 13) (oi := { dst := some 18, op := Go.Op.assign (Go.Operand.tmp 110), type := 4, pos := "law.go:274", after := #[{ on := 10, ground := Go.Ground.data }, { on := 12, ground := Go.Ground.chain }, { on := 0, ground := Go.Ground.phase }, { on := 1, ground := Go.Ground.phase }, { on := 2, ground := Go.Ground.phase }, { on := 3, ground := Go.Ground.phase }, { on := 4, ground := Go.Ground.phase }, { on := 5, ground := Go.Ground.phase }, { on := 6, ground := Go.Ground.phase }, { on := 7, ground := Go.Ground.phase }, { on := 8, ground := Go.Ground.phase }, { on := 9, ground := Go.Ground.phase }, { on := 10, ground := Go.Ground.phase }, { on := 11, ground := Go.Ground.textOnly Go.Departure.lateStores }, { on := 12, ground := Go.Ground.phase }], guard := none }) (oL := { dst := some 19, op := Go.Op.assign (Go.Operand.tmp 111), type := 66, pos := "law.go:274", after := #[{ on := 11, ground := Go.Ground.data }, { on := 13, ground := Go.Ground.chain }, { on := 0, ground := Go.Ground.phase }, { on := 1, ground := Go.Ground.phase }, { on := 2, ground := Go.Ground.phase }, { on := 3, ground := Go.Ground.phase }, { on := 4, ground := Go.Ground.phase }, { on := 5, ground := Go.Ground.phase }, { on := 6, ground := Go.Ground.phase }, { on := 7, ground := Go.Ground.phase }, { on := 8, ground := Go.Ground.phase }, { on := 9, ground := Go.Ground.phase }, { on := 10, ground := Go.Ground.phase }, { on := 11, ground := Go.Ground.phase }, { on := 12, ground := Go.Ground.phase }, { on := 13, ground := Go.Ground.phase }], guard := none }) (v := .bool gb) rfl rfl (by kernel_rfl) (by kernel_rfl) (by kernel_rfl) (by kernel_rfl) (fun _ _ _ h => h) (Or.inl ⟨by kernel_rfl, ?_⟩) H4.out.1.hh.box ?_
  · (intro X hX; obtain ⟨z0, z20, z21, z22, z23, z24, _⟩ := stL_at hX; rw [HSt.out] at z23 <;> (go_simp; try (with_reducible rfl)))
  (try simp only [Act.put, List.setIfInBounds_toArray, List.set_cons_zero, List.set_cons_succ])
  refine wpAnyN_take (i := 11) (oi := { dst := some 111, op := Go.Op.extract (Go.Operand.tmp 100) 2, type := 66, pos := "law.go:274", after := #[{ on := 8, ground := Go.Ground.data }, { on := 13, ground := Go.Ground.gcOnly Go.Departure.lateStores }], guard := none }) (oL := { dst := some 19, op := Go.Op.assign (Go.Operand.tmp 111), type := 66, pos := "law.go:274", after := #[{ on := 11, ground := Go.Ground.data }, { on := 13, ground := Go.Ground.chain }, { on := 0, ground := Go.Ground.phase }, { on := 1, ground := Go.Ground.phase }, { on := 2, ground := Go.Ground.phase }, { on := 3, ground := Go.Ground.phase }, { on := 4, ground := Go.Ground.phase }, { on := 5, ground := Go.Ground.phase }, { on := 6, ground := Go.Ground.phase }, { on := 7, ground := Go.Ground.phase }, { on := 8, ground := Go.Ground.phase }, { on := 9, ground := Go.Ground.phase }, { on := 10, ground := Go.Ground.phase }, { on := 11, ground := Go.Ground.phase }, { on := 12, ground := Go.Ground.phase }, { on := 13, ground := Go.Ground.phase }], guard := none }) (v := .int .i64 eb) rfl rfl (by kernel_rfl) (by kernel_rfl) (by kernel_rfl) (by kernel_rfl) (fun _ _ _ h => h) (Or.inl ⟨by kernel_rfl, ?_⟩) H4.out.1.hh.box ?_
  · (intro X hX; obtain ⟨z0, z20, z21, z22, z23, z24, _⟩ := stL_at hX; rw [HSt.out] at z23 <;> (go_simp; try (with_reducible rfl)))
  (try simp only [Act.put, List.setIfInBounds_toArray, List.set_cons_zero, List.set_cons_succ])
  refine wpAnyN_one (i := 14) (o := { dst := some 19, op := Go.Op.assign (Go.Operand.tmp 111), type := 66, pos := "law.go:274", after := #[{ on := 11, ground := Go.Ground.data }, { on := 13, ground := Go.Ground.chain }, { on := 0, ground := Go.Ground.phase }, { on := 1, ground := Go.Ground.phase }, { on := 2, ground := Go.Ground.phase }, { on := 3, ground := Go.Ground.phase }, { on := 4, ground := Go.Ground.phase }, { on := 5, ground := Go.Ground.phase }, { on := 6, ground := Go.Ground.phase }, { on := 7, ground := Go.Ground.phase }, { on := 8, ground := Go.Ground.phase }, { on := 9, ground := Go.Ground.phase }, { on := 10, ground := Go.Ground.phase }, { on := 11, ground := Go.Ground.phase }, { on := 12, ground := Go.Ground.phase }, { on := 13, ground := Go.Ground.phase }], guard := none }) (by kernel_rfl) rfl (fun K hK => ?_)
  go_simp
  refine hK.out _ _ (fun e => absurd (e.symm.trans (by kernel_rfl) : false = true) Bool.false_ne_true) ?_
  clear hK K
  (try simp only [Act.put, List.setIfInBounds_toArray, List.set_cons_zero, List.set_cons_succ])
  refine wpAnyN_of_H (S' := fun _ => True) _ _ _ _ (by kernel_rfl) ?_
  refine wpAnyH_done (by kernel_rfl) ?_ _
  have z23 := HCl.out _ _ _ H4.out.1
  clear HPc HFi H3 H2d HCl HSt
  go_upto_region 15 with fail
  cases b4 with
  | true =>
    go_wp2_with (go_at_call 21; refine (HPd.out _ _ _ H4.out.1).mono ?_; rintro r w5 ⟨rfl, hv⟩; have H5 := Lib.hid (H4.out.1.hh.on hv); clear hv)
    go_ret
    exact ⟨rfl, H5.out.drop⟩
  | false =>
    go_wp2_with (first | (go_at_call 21; refine (HPd.out _ _ _ H4.out.1).mono ?_; rintro r w5 ⟨rfl, hv⟩; have H5 := Lib.hid (And.intro (H4.out.1.hh.on hv) (And.intro (H4.out.2.on hv) (H4.out.1.num.on hv))); clear hv) | (go_at_call 22; refine (HAl.out _ _ _ H5.out.1 H5.out.2.1 H5.out.2.2).mono ?_; rintro r w6 ⟨rfl, hv⟩; have H6 := Lib.hid hv; clear hv) | (go_at_call 23; refine (HNum.out _).mono ?_; rintro r w7 ⟨rfl, hv⟩; subst w7))
    go_ret
    exact ⟨rfl, H6.out⟩
end Go.Proofs.YtflkhnmggmfhfaaGreat
