/- played. -/
import Derived.Test.YtmedpcldfpfpnaaGreatD16s
import Derived.Test.YtmedpcldfpfpnaaGreatD16f
namespace Go.Proofs.YtmedpcldfpfpnaaGreat
open Go.RowKit

def DV0 : DV := ⟨.slice none 0 0, .slice none 0 0, .slice none 0 0, .slice none 0 0, .slice none 0 0⟩
def DC0 : DC := ⟨[], [], [], [], []⟩
theorem bx_cells {X : World} {g : Nat} {b : BX} {t : TypeId} (h : X.heap[g]? = some (.cells (bxA b) t (0, 0))) : X.cell? ⟨g, 0, none⟩ = some (.string b.nm) ∧ X.cell? ⟨g, 1, none⟩ = some (.int .i64 b.val) ∧ X.cell? ⟨g, 2, none⟩ = some (.int .i64 b.nx) ∧ X.cell? ⟨g, 3, none⟩ = some (.int .i64 b.hi) ∧ X.cell? ⟨g, 4, none⟩ = some (.int .i64 b.co) ∧ X.cell? ⟨g, 5, none⟩ = some (.int .i64 b.un) ∧ X.cell? ⟨g, 6, none⟩ = some b.vk ∧ X.cell? ⟨g, 7, none⟩ = some (.bool b.sb) :=
  ⟨cell_of h 0, cell_of h 1, cell_of h 2, cell_of h 3, cell_of h 4, cell_of h 5, cell_of h 6, cell_of h 7⟩
theorem desk_new (w : World) : DK w.heap.size DV0 DC0 (w.alloc (.cells #[.slice none 0 0, .slice none 0 0, .slice none 0 0, .slice none 0 0, .slice none 0 0] 34)) :=
  ⟨heap_new _ _, World.ownsRow_nil _ _ _ _, World.ownsRow_nil _ _ _ _, World.ownsRow_nil _ _ _ _, World.ownsRow_nil _ _ _ _, World.ownsRow_nil _ _ _ _, fun f hf => (by cases hf), List.Pairwise.nil⟩
/-- The document's view and the desk. -/
structure HQ (W : World) (Q D : Nat) (U : PV) (c : DC) (w : World) : Prop where
  ex : ∃ fr vd, RW Q U fr w ∧ DK D vd c w ∧ Apt fr (fpD D vd c.F) ∧ (∀ b ∈ fr, W.heap.size ≤ b) ∧ (∀ b ∈ fpD D vd c.F, W.heap.size ≤ b)
  ok : DB c
  base : Below W.heap.size W w
section
variable {W w w' : World} {K : List (Nat × Obj)} {P Q D N : Nat} {V U : PV} {c : DC}
theorem HQ.on (h : HQ W Q D U c w) (hb : Below w.heap.size w w') : HQ W Q D U c w' := by
  obtain ⟨⟨fr, vd, h1, h2, h3⟩, h4, h5⟩ := h
  exact ⟨⟨fr, vd, h1.on hb, h2.on hb, h3⟩, h4, h5.trans (hb.mono h5.size)⟩
theorem mails_low {v : Value} {ml : List MLE} (h : MailsAt W v ml) : 0 < ml.length → ∀ b, v.ownBlock = some b → b < W.heap.size := by
  obtain ⟨a, k, rfl, hs⟩ := h
  intro h0 b e
  obtain ⟨g, o, rfl, hg, _⟩ := hs h0
  cases e
  exact hg
theorem mail_Q (h : HQ W Q D U DC0 w) (lv : Value) (ml : List MLE) (hr : MailsAt W lv ml) (hl : ml.length ≤ 300) :
    Calls Tryz.prog 12 #[.pointer (some ⟨D, 0, none⟩), lv] w fun r w' => ∃ ga gn gc, r = .returned (.slice ga gn gc) ∧ ∃ n, (ml.length ≤ n ∧ n ≤ 1000000 ∧ MailsAt w' (.slice ga gn gc) ml) ∧ HQ W Q D U { DC0 with M := layM ml n ml.length } w' := by
  obtain ⟨⟨fr, vd, h1, h2, h3, h4, h5⟩, h6, h7⟩ := h
  refine (mail_any h2 lv ml (hr.on h7) (fun q b e hm => by have := mails_low hr q b e; have := h5 b hm; omega) hl h6.m).mono ?_
  rintro r w' ⟨g, cp, n, v', rfl, q1, q2, q3, q4, q5⟩
  refine ⟨_, _, _, rfl, n, ⟨q2, q3, q4⟩, ⟨fr, v', h1.hold (fun b hb => q1.2.keep (h1.lt hb) (fun e => h3 b hb e)), q1.1, apt_new2 h3 q1.2.2 (fun _ hb => h1.lt hb), h4, (fo_below h7 h5 q1.2).2⟩, ⟨by show (layM ml n ml.length).length ≤ _; rw [layM_length]; exact q3, h6.u, h6.k, h6.f, h6.s, h6.l⟩, (fo_below h7 h5 q1.2).1⟩
/-- The house, with the mails on the desk. -/
def HM (W : World) (P Q D : Nat) (V U : PV) (ml : List MLE) (w : World) : Prop := ∃ fv fr vd n, HO W [] P Q D V U fv fr vd { DC0 with M := layM ml n ml.length } w ∧ ml.length ≤ n ∧ n ≤ 1000000
theorem HM.hh {ml : List MLE} (h : HM W P Q D V U ml w) : HH W [] P Q D V U w := by
  obtain ⟨fv, fr, vd, n, h, _⟩ := h
  exact ⟨fv, fr, vd, _, h⟩
theorem HM.on {ml : List MLE} (h : HM W P Q D V U ml w) (hb : Below w.heap.size w w') : HM W P Q D V U ml w' := by
  obtain ⟨fv, fr, vd, n, h, h2⟩ := h
  exact ⟨fv, fr, vd, n, h.on hb, h2⟩
theorem new_Q (b : BX) (recent : Int) {v : Value} {ml : List MLE} {n : Nat} (h : HQ W Q D U { DC0 with M := layM ml n ml.length } w) (hn : ml.length ≤ n ∧ n ≤ 1000000 ∧ MailsAt w v ml) :
    Calls Tryz.prog 11 #[.agg (bxA b), v, .int .i64 recent] w fun e w' => ∃ P, e = .returned (.pointer (some ⟨P, 0, none⟩)) ∧ HM W P Q D (newP b.val (ml.map MLE.u) recent) U ml w' := by
  obtain ⟨⟨fr, vd, h1, h2, h3, h4, h5⟩, h6, h7⟩ := h
  refine (New_any b v ml recent w hn.2.2 (by omega)).mono ?_
  rintro e w' ⟨P, fp, rfl, q1, q2, q3⟩
  refine ⟨P, rfl, fp, fr, vd, n, ⟨q1, h1.on q2, h2.on q2, h6, fun x hx hy => ?_, fun x hx hy => ?_, h3, fun x hx => ?_, h4, h5, h7.trans (q2.mono h7.size), fun p hp => (by cases hp)⟩, hn.1, hn.2.1⟩
  · have := q3 x hx; have := h1.lt hy; omega
  · have := q3 x hx; have := h2.lt hy; omega
  · have := q3 x hx; have := h7.size; omega
theorem mailed_M {ml : List MLE} (h : HM W P Q D V U ml w) (lv : Value) (hr : MailsAt W lv ml) (hf : ∀ m ∈ ml, ∃ fl, Txs W (.slice m.fa m.fn m.fc) fl ∧ fl.length ≤ 9223372036854775807) :
    Calls Tryz.prog 44 #[.pointer (some ⟨D, 0, none⟩), lv] w fun e w' => e = .returned (.bool true) ∧ HH W [] P Q D V U w' := by
  obtain ⟨fv, fr, vd, n, h, h2, h3⟩ := h
  refine (mailed_any (c := DC0) lv ml h.desk h2 h3 (hr.on h.base) (fun m hm => by obtain ⟨fl, q1, q2⟩ := hf m hm; exact ⟨fl, q1.on h.base, q2⟩)).mono ?_
  rintro e w' ⟨rfl, hb⟩
  exact ⟨rfl, fv, fr, vd, _, h.on hb⟩
theorem mail_H (h : HH W K P Q D V U w) :
    Calls Tryz.prog 12 #[.pointer (some ⟨D, 0, none⟩), .slice none 0 0] w fun r w' => ∃ rv, r = .returned rv ∧ HH W K P Q D V U w' := by
  obtain ⟨fv, fr, vd, c, h⟩ := h
  refine (mail_any h.desk (.slice none 0 0) [] ⟨none, 0, rfl, fun q => by simp at q⟩ (fun q => by simp at q) (by simp) h.ok.m).mono ?_
  rintro r w' ⟨g, cp, n, v', rfl, q1, q2, q3, q4, q5⟩
  exact ⟨_, rfl, fv, fr, v', _, h.toD q1.1 ⟨by show (layM [] n 0).length ≤ _; rw [layM_length]; exact q3, h.ok.u, h.ok.k, h.ok.f, h.ok.s, h.ok.l⟩ q1.2⟩
end
set_option maxRecDepth 100000 in
set_option maxHeartbeats 16000000 in
theorem played_any (b : BX) (mv sv : Value) (ml : List MLE) (S : List ST) (recent lk : Int) (W : World) (hm : MailsAt W mv ml) (hs : StepsAt W sv S) (hx : ∀ s ∈ S, StX s) (hmf : ∀ m ∈ ml, ∃ fl, Txs W (.slice m.fa m.fn m.fc) fl ∧ fl.length ≤ 9223372036854775807) (hlk : 0 ≤ lk ∧ lk ≤ 15) :
    Calls Tryz.prog 19 #[.agg (bxA b), mv, .int .i64 recent, sv, .int .i64 lk] W fun e W' => e = .returned (.bool true) ∧ Below W.heap.size W W' := by
  obtain ⟨W1, hW1⟩ : ∃ W1, W.alloc (.cells (bxA b) 24) = W1 := ⟨_, rfl⟩
  have h1 : W1.heap[W.heap.size]? = some (.cells (bxA b) 24 (0, 0)) := by rw [← hW1]; exact heap_new _ _
  have hb1 : Below W.heap.size W W1 := by rw [← hW1]; exact (Below.refl _ _).alloc (Nat.le_refl _) _
  have hm1 := hm.on hb1
  have hs1 := hs.on hb1
  have HL := Lib.hid (long_any2 mv sv ml S W1 hm1 hs1)
  have HS := Lib.hid hs1
  have HX := Lib.hid hx
  have HK := Lib.hid hlk
  have HMf : Hid (∀ m ∈ ml, ∃ fl, Txs W1 (.slice m.fa m.fn m.fc) fl ∧ fl.length ≤ 9223372036854775807) := Lib.hid (fun m hm => by obtain ⟨fl, q1, q2⟩ := hmf m hm; exact ⟨fl, q1.on hb1, q2⟩)
  have HFin : Hid (∀ X, Below W1.heap.size W1 X → Below W.heap.size W X) := Lib.hid (fun X q => hb1.trans (q.mono hb1.size))
  have HBx : Hid (∀ X, Below W1.heap.size W1 X → X.heap[W.heap.size]? = some (.cells (bxA b) 24 (0, 0))) := Lib.hid (fun X q => by rw [q.block _ (lt_of_heap h1)]; exact h1)
  obtain ⟨am, cm, rfl, _⟩ := hm
  obtain ⟨⟨ax, cx, rfl, _⟩, _⟩ := hs
  have HM1 := Lib.hid hm1
  clear hb1 h1 hm1 hs1 hx hmf hlk
  go_enter Tryz.func19, Tryz.ntmps19
  go_upto_region 1 with fail
  (try rw [hW1])
  clear hW1
  go_upto_region 3 with (go_at_call 9; refine HL.out.mono ?_; rintro e w2 ⟨lb, rfl, hb2, hc2⟩; have HB2 := Lib.hid hb2; have HC2 := Lib.hid hc2; clear hb2 hc2)
  · go_ret
    exact ⟨rfl, HFin.out _ HB2.out⟩
  have hlf : lb = false := by first | assumption | (cases lb <;> simp_all)
  obtain ⟨hml, hsl, hss⟩ := HC2.out hlf
  subst hlf
  have HSS := Lib.hid hss
  obtain ⟨w3, hw3⟩ : ∃ w3, w2.alloc (.cells #[.slice none 0 0, .slice none 0 0, .slice none 0 0, .slice none 0 0, .slice none 0 0] 34) = w3 := ⟨_, rfl⟩
  have hb3 : Below w2.heap.size w2 w3 := by rw [← hw3]; exact (Below.refl _ _).alloc (Nat.le_refl _) _
  have hd3 : DK w2.heap.size DV0 DC0 w3 := by rw [← hw3]; exact desk_new w2
  have hb13 : Below W1.heap.size W1 w3 := HB2.out.trans (hb3.mono HB2.out.size)
  obtain ⟨U0, hU0⟩ : ∃ U0, newP b.val (ml.map MLE.u) recent = U0 := ⟨_, rfl⟩
  have HNr : Hid (Calls Tryz.prog 10 #[.agg (bxA b), .slice am ml.length cm, .int .i64 recent] w3 fun e w' => ∃ Q, e = .returned (.pointer (some ⟨Q, 0, none⟩)) ∧ HQ W1 Q w2.heap.size U0 DC0 w') := Lib.hid (by
    refine (rNew_any b _ ml recent w3 (HM1.out.on hb13) (by omega)).mono ?_
    rintro e w' ⟨Q, fp, rfl, q1, q2, q3⟩
    rw [hU0] at q1
    refine ⟨Q, rfl, ⟨fp, DV0, q1, hd3.on q2, fun x hx hy => ?_, fun x hx => ?_, fun x hx => ?_⟩, ⟨by simp [DC0], by simp [DC0], by simp [DC0], by simp [DC0], by simp [DC0], fun f hf => (by cases hf)⟩, hb13.trans (q2.mono hb13.size)⟩
    · have := q3 x hx; have := hd3.lt hy; omega
    · have := q3 x hx; have := hb13.size; omega
    · have h0 : x = w2.heap.size := by
        rcases mem_fpD.1 hx with e | e | e | e | e | e | ⟨f, hf, e⟩
        · exact e
        all_goals first | (cases e; done) | (cases hf; done)
      have := HB2.out.size
      omega)
  have HMa : Hid (∀ Q X, HQ W1 Q w2.heap.size U0 DC0 X → Calls Tryz.prog 12 #[.pointer (some ⟨w2.heap.size, 0, none⟩), .slice am ml.length cm] X fun r w' => ∃ ga gn gc, r = .returned (.slice ga gn gc) ∧ ∃ n, (ml.length ≤ n ∧ n ≤ 1000000 ∧ MailsAt w' (.slice ga gn gc) ml) ∧ HQ W1 Q w2.heap.size U0 { DC0 with M := layM ml n ml.length } w') := Lib.hid (fun Q X q => mail_Q q _ ml HM1.out hml)
  have HNv : Hid (∀ Q X v, (∃ n, (ml.length ≤ n ∧ n ≤ 1000000 ∧ MailsAt X v ml) ∧ HQ W1 Q w2.heap.size U0 { DC0 with M := layM ml n ml.length } X) → Calls Tryz.prog 11 #[.agg (bxA b), v, .int .i64 recent] X fun e w' => ∃ P, e = .returned (.pointer (some ⟨P, 0, none⟩)) ∧ HM W1 P Q w2.heap.size U0 U0 ml w') := Lib.hid (fun Q X v q => by
    obtain ⟨n, q1, q2⟩ := q
    have := new_Q b recent q2 q1
    rw [hU0] at this
    exact this)
  have HMd : Hid (∀ P Q X, HM W1 P Q w2.heap.size U0 U0 ml X → Calls Tryz.prog 44 #[.pointer (some ⟨w2.heap.size, 0, none⟩), .slice am ml.length cm] X fun e w' => e = .returned (.bool true) ∧ HH W1 [] P Q w2.heap.size U0 U0 w') := Lib.hid (fun P Q X q => mailed_M q _ HM1.out HMf.out)
  have hp0 : PVok U0 300 := by rw [← hU0]; exact (newP_ok b.val (ml.map MLE.u) recent).mono (by simpa using hml)
  have HP0 := Lib.hid hp0
  have HBm : Hid (∀ Q X v, (∃ n, (ml.length ≤ n ∧ n ≤ 1000000 ∧ MailsAt X v ml) ∧ HQ W1 Q w2.heap.size U0 { DC0 with M := layM ml n ml.length } X) → Below W1.heap.size W1 X) := Lib.hid (fun Q X v q => by obtain ⟨n, _, q2⟩ := q; exact q2.base)
  have HB3 := Lib.hid (HBx.out w3 hb13)
  clear hss HC2 HL hb3 hd3 hb13 hU0 hp0 HB2
  go_upto_region 4 with fail
  (try rw [hw3])
  clear hw3
  go_upto_region 5 with (first | (refine wpList_load_row rfl 24 _ rfl W.heap.size rfl 24 _ (0, 0) _ HB3.out Tryz.underlying24 rfl (Tryz.sizeBx b) ?_) | (go_at_call 10; refine HNr.out.mono ?_; rintro e w4 ⟨Q, rfl, hv⟩; have H4d := Lib.hid (hv.on (Below.refl _ _).drew); clear hv))
  clear HNr HB3
  refine wp_region_N 6 (fun X => Below W1.heap.size W1 X) (by kernel_rfl) ?_
  refine wpAnyN_take (i := 1) (oi := { dst := some 25, op := Go.Op.move (Go.Operand.tmp 11), type := 28, pos := "law.go:291", after := #[], guard := none }) (oL := { dst := some 13, op := Go.Op.assign (Go.Operand.tmp 29), type := 37, pos := "law.go:291", after := #[{ on := 5, ground := Go.Ground.data }, { on := 5, ground := Go.Ground.chain }, { on := 0, ground := Go.Ground.phase }, { on := 1, ground := Go.Ground.phase }, { on := 2, ground := Go.Ground.phase }, { on := 3, ground := Go.Ground.phase }, { on := 4, ground := Go.Ground.phase }, { on := 5, ground := Go.Ground.phase }], guard := none }) (v := .pointer (some ⟨w2.heap.size, 0, none⟩)) rfl rfl (by kernel_rfl) (by kernel_rfl) (by kernel_rfl) (by kernel_rfl) (fun _ _ _ h => h) (Or.inl ⟨by kernel_rfl, ?_⟩) H4d.out.base ?_
  · (intro X hX; obtain ⟨z0, z1, z2, z3, z4, z5, z6, z7⟩ := bx_cells (HBx.out X hX) <;> (go_simp; try (with_reducible rfl)))
  (try simp only [Act.put, List.setIfInBounds_toArray, List.set_cons_zero, List.set_cons_succ])
  refine wpAnyN_take (i := 2) (oi := { dst := some 26, op := Go.Op.move (Go.Operand.tmp 1), type := 25, pos := "law.go:291", after := #[], guard := none }) (oL := { dst := some 13, op := Go.Op.assign (Go.Operand.tmp 29), type := 37, pos := "law.go:291", after := #[{ on := 5, ground := Go.Ground.data }, { on := 5, ground := Go.Ground.chain }, { on := 0, ground := Go.Ground.phase }, { on := 1, ground := Go.Ground.phase }, { on := 2, ground := Go.Ground.phase }, { on := 3, ground := Go.Ground.phase }, { on := 4, ground := Go.Ground.phase }, { on := 5, ground := Go.Ground.phase }], guard := none }) (v := .slice am ml.length cm) rfl rfl (by kernel_rfl) (by kernel_rfl) (by kernel_rfl) (by kernel_rfl) (fun _ _ _ h => h) (Or.inl ⟨by kernel_rfl, ?_⟩) H4d.out.base ?_
  · (intro X hX; obtain ⟨z0, z1, z2, z3, z4, z5, z6, z7⟩ := bx_cells (HBx.out X hX) <;> (go_simp; try (with_reducible rfl)))
  (try simp only [Act.put, List.setIfInBounds_toArray, List.set_cons_zero, List.set_cons_succ])
  refine wpAnyN_take (i := 4) (oi := { dst := some 28, op := Go.Op.move (Go.Operand.tmp 2), type := 3, pos := "law.go:291", after := #[], guard := none }) (oL := { dst := some 13, op := Go.Op.assign (Go.Operand.tmp 29), type := 37, pos := "law.go:291", after := #[{ on := 5, ground := Go.Ground.data }, { on := 5, ground := Go.Ground.chain }, { on := 0, ground := Go.Ground.phase }, { on := 1, ground := Go.Ground.phase }, { on := 2, ground := Go.Ground.phase }, { on := 3, ground := Go.Ground.phase }, { on := 4, ground := Go.Ground.phase }, { on := 5, ground := Go.Ground.phase }], guard := none }) (v := .int .i64 recent) rfl rfl (by kernel_rfl) (by kernel_rfl) (by kernel_rfl) (by kernel_rfl) (fun _ _ _ h => h) (Or.inl ⟨by kernel_rfl, ?_⟩) H4d.out.base ?_
  · (intro X hX; obtain ⟨z0, z1, z2, z3, z4, z5, z6, z7⟩ := bx_cells (HBx.out X hX) <;> (go_simp; try (with_reducible rfl)))
  (try simp only [Act.put, List.setIfInBounds_toArray, List.set_cons_zero, List.set_cons_succ])
  refine wpAnyN_take (i := 0) (oi := { dst := some 24, op := Go.Op.load 24 (Go.Operand.tmp 5), type := 24, pos := "law.go:291", after := #[], guard := none }) (oL := { dst := some 13, op := Go.Op.assign (Go.Operand.tmp 29), type := 37, pos := "law.go:291", after := #[{ on := 5, ground := Go.Ground.data }, { on := 5, ground := Go.Ground.chain }, { on := 0, ground := Go.Ground.phase }, { on := 1, ground := Go.Ground.phase }, { on := 2, ground := Go.Ground.phase }, { on := 3, ground := Go.Ground.phase }, { on := 4, ground := Go.Ground.phase }, { on := 5, ground := Go.Ground.phase }], guard := none }) (v := .agg #[.string b.nm, .int .i64 b.val, .int .i64 b.nx, .int .i64 b.hi, .int .i64 b.co, .int .i64 b.un, b.vk, .bool b.sb]) rfl rfl (by kernel_rfl) (by kernel_rfl) (by kernel_rfl) (by kernel_rfl) (fun _ _ _ h => h) (Or.inl ⟨by kernel_rfl, ?_⟩) H4d.out.base ?_
  · (intro X hX; obtain ⟨z0, z1, z2, z3, z4, z5, z6, z7⟩ := bx_cells (HBx.out X hX) <;> (go_simp; try (with_reducible rfl)))
  (try simp only [Act.put, List.setIfInBounds_toArray, List.set_cons_zero, List.set_cons_succ])
  refine wpAnyN_one (i := 3) (o := { dst := some 27, op := Go.Op.call { callee := Go.Callee.value (Go.Operand.func 12), args := #[Go.Operand.tmp 25, Go.Operand.tmp 26], argTypes := #[28, 25] }, type := 25, pos := "law.go:291", after := #[{ on := 1, ground := Go.Ground.data }, { on := 2, ground := Go.Ground.data }], guard := none }) (by kernel_rfl) rfl (fun K hK => ?_)
  go_simp
  refine (HMa.out _ _ H4d.out).mono ?_
  rintro r w5 ⟨ga, gn, gc, rfl, hv⟩
  have H5 := Lib.hid hv
  clear hv
  refine hK.out _ _ (fun _ => (HBm.out _ _ _ H5.out)) ?_
  clear hK K
  (try simp only [Act.put, List.setIfInBounds_toArray, List.set_cons_zero, List.set_cons_succ])
  refine wpAnyN_one (i := 5) (o := { dst := some 29, op := Go.Op.call { callee := Go.Callee.value (Go.Operand.func 11), args := #[Go.Operand.tmp 24, Go.Operand.tmp 27, Go.Operand.tmp 28], argTypes := #[24, 25, 3] }, type := 37, pos := "law.go:291", after := #[{ on := 0, ground := Go.Ground.data }, { on := 3, ground := Go.Ground.data }, { on := 4, ground := Go.Ground.data }, { on := 3, ground := Go.Ground.chain }], guard := none }) (by kernel_rfl) rfl (fun K hK => ?_)
  go_simp
  refine (HNv.out _ _ _ H5.out).mono ?_
  rintro r w6 ⟨P, rfl, hv⟩
  have H6 := Lib.hid hv
  clear hv
  refine hK.out _ _ (fun _ => H6.out.hh.base) ?_
  clear hK K
  (try simp only [Act.put, List.setIfInBounds_toArray, List.set_cons_zero, List.set_cons_succ])
  refine wpAnyN_one (i := 6) (o := { dst := some 13, op := Go.Op.assign (Go.Operand.tmp 29), type := 37, pos := "law.go:291", after := #[{ on := 5, ground := Go.Ground.data }, { on := 5, ground := Go.Ground.chain }, { on := 0, ground := Go.Ground.phase }, { on := 1, ground := Go.Ground.phase }, { on := 2, ground := Go.Ground.phase }, { on := 3, ground := Go.Ground.phase }, { on := 4, ground := Go.Ground.phase }, { on := 5, ground := Go.Ground.phase }], guard := none }) (by kernel_rfl) rfl (fun K hK => ?_)
  go_simp
  refine hK.out _ _ (fun e => absurd (e.symm.trans (by kernel_rfl) : false = true) Bool.false_ne_true) ?_
  clear hK K
  (try simp only [Act.put, List.setIfInBounds_toArray, List.set_cons_zero, List.set_cons_succ])
  refine wpAnyN_of_H (S' := fun _ => True) _ _ _ _ (by kernel_rfl) ?_
  refine wpAnyH_done (by kernel_rfl) ?_ _
  clear HMa HNv H5 H4d HBm
  go_upto_region 8 with (first | (go_at_call 44; refine (HMd.out _ _ _ H6.out).mono ?_; rintro e w7 ⟨rfl, hv⟩; have H7 := Lib.hid hv; clear hv) | (go_at_call 17; refine (stands_H H7.out HP0.out (by omega)).mono ?_; rintro e w8 ⟨rfl, hv⟩; have H8 := Lib.hid hv; clear hv))
  clear HMd H6 H7
  go_upto_region 10 with (go_at_call 12; refine (mail_H H8.out).mono ?_; rintro r w9 ⟨rv, rfl, hv⟩; have H9 := Lib.hid hv; clear hv)
  clear H8
  generalize w2.heap.size = D at *
  go_loopw [14] (fun i wr => ∃ (k : Nat) (V : PV), k ≤ S.length ∧ i = .int .i64 k ∧ HH W1 [] P Q D V V wr ∧ PVok V (300 + 301 * k)) (fun i _ => S.length - (intOf i).toNat)
  case atStart => exact ⟨0, U0, Nat.zero_le _, rfl, H9.out, HP0.out⟩
  case round =>
    obtain ⟨k, V, hk, rfl, hh, hpk⟩ := hrel
    by_cases hlt : k < S.length
    · have hlti : (k : Int) < (S.length : Int) := by omega
      obtain ⟨⟨a1, c1, e1, hx1⟩, hok⟩ := HS.out
      obtain ⟨rfl, rfl⟩ : a1 = ax ∧ c1 = cx := by injection e1 with p1 p2 p3; exact ⟨p1.symm, p3.symm⟩
      clear e1
      obtain ⟨g, off, rfl, hg, hc⟩ := hx1 (by omega)
      have hcr := hc k hlt
      have hse := getD_memS hlt
      have hso := hok _ hse
      have hsx := HX.out _ hse
      obtain ⟨hsh, hsf⟩ := HSS.out _ hse
      obtain ⟨sx, hes⟩ : ∃ sx, S.getD k ST0 = sx := ⟨_, rfl⟩
      rw [hes] at hcr hso hsh hsf hsx
      have HRg : Hid (wr.rangeAt g (off + k * 26) (stL sx)) := Lib.hid (fun j u hj => by
        rw [hh.base.cell (p := ⟨g, off + k * 26 + j, none⟩) hg]
        exact hcr j u hj)
      have HSt := Lib.hid (step_any hh hpk (by omega) sx hso hsh hsx hsf lk HK.out)
      have HP2 : Hid (PVok (actV V sx) (300 + 301 * (k + 1))) := Lib.hid ((actV_ok hpk sx hsh).mono (by omega))
      clear hok hse hso hsh hsf hsx hcr hc hx1 hes hpk hh
      go_wp2_with (first | (refine wpList_load_mid rfl 45 _ rfl g (off + k * 26) rfl _ _ HRg.out Tryz.underlying45 rfl (Tryz.sizeSt sx) ?_) | (go_at_call 13; refine HSt.out.mono ?_; rintro r w10 ⟨rfl, hv⟩; have H10 := Lib.hid hv; clear hv))
      go_roundw
      case rel => exact ⟨k + 1, _, by omega, by go_num, H10.out, HP2.out⟩
      case measure => simp [intOf]; omega
    · obtain rfl : k = S.length := by omega
      have HH1 := Lib.hid hh
      have HPk := Lib.hid hpk
      have HPt : Hid (PVok (takeV V 2 recent) (300 + 301 * S.length)) := Lib.hid (takeV_ok hpk 2 recent)
      have HSl : Hid (300 + 301 * S.length ≤ 1000000) := Lib.hid (by omega)
      clear hh hpk
      go_wp2_with (first | (go_at_call 17; first | (have hq := HJ4; clear hq; refine (stands_H HJ4.out HPt.out HSl.out).mono ?_; rintro e w15 ⟨rfl, hv⟩; have HJ5 := Lib.hid hv.base; clear hv) | (refine (stands_H HH1.out HPk.out HSl.out).mono ?_; rintro e w11 ⟨rfl, hv⟩; have HJ1 := Lib.hid hv; clear hv)) | (go_at_call 28; refine (vTake_H HJ1.out HPk.out HSl.out 2 recent).mono ?_; rintro e w12 ⟨tv, rfl, hv⟩; have HJ2 := Lib.hid hv; clear hv) | (go_at_call 27; refine (rTake_T HJ2.out HPk.out HSl.out 2 recent).mono ?_; rintro e w13 ⟨tv2, rfl, hv⟩; have HJ3 := Lib.hid hv; clear hv) | (go_at_call 29; refine (told_T2 HJ3.out).mono ?_; rintro e w14 ⟨rfl, hv⟩; have HJ4 := Lib.hid hv; clear hv) | (go_at_call 18; refine (known_any _).mono ?_; rintro e w16 ⟨rfl, hv⟩; have HJ6 := Lib.hid (HJ5.out.trans (hv.mono HJ5.out.size)); clear hv))
      go_ret
      exact ⟨rfl, HFin.out _ HJ6.out⟩
end Go.Proofs.YtmedpcldfpfpnaaGreat

/- ViewHears, ViewTakes, ViewFinds, ViewTells, ViewGoes: played. -/
namespace Go.Proofs.YtmedpcldfpfpnaaGreat
open Go.RowKit

set_option maxHeartbeats 2000000 in
theorem ViewHears_walk (b : BX) (mv sv : Value) (ml : List MLE) (S : List ST) (recent : Int) (W : World) (hm : MailsAt W mv ml) (hs : StepsAt W sv S) (hx : ∀ s ∈ S, StX s) (hmf : ∀ m ∈ ml, ∃ fl, Txs W (.slice m.fa m.fn m.fc) fl ∧ fl.length ≤ 9223372036854775807) :
    Calls Tryz.prog 4 #[.agg (bxA b), mv, .int .i64 recent, sv] W fun e W' => e = .returned (.bool true) ∧ Below W.heap.size W W' := by
  obtain ⟨W1, hW1⟩ : ∃ W1, W.alloc (.cells (bxA b) 24) = W1 := ⟨_, rfl⟩
  have h1 : W1.heap[W.heap.size]? = some (.cells (bxA b) 24 (0, 0)) := by rw [← hW1]; exact heap_new _ _
  have hb1 : Below W.heap.size W W1 := by rw [← hW1]; exact (Below.refl _ _).alloc (Nat.le_refl _) _
  have HP : Hid (Calls Tryz.prog 19 #[.agg (bxA b), mv, .int .i64 recent, sv, .int .i64 1] W1 fun e W' => e = .returned (.bool true) ∧ Below W.heap.size W W') := Lib.hid ((played_any b mv sv ml S recent 1 W1 (hm.on hb1) (hs.on hb1) hx (fun m hm => by obtain ⟨fl, q1, q2⟩ := hmf m hm; exact ⟨fl, q1.on hb1, q2⟩) (by decide)).mono (fun _ _ ⟨q1, q2⟩ => ⟨q1, hb1.trans (q2.mono hb1.size)⟩))
  have H1 := Lib.hid h1
  clear hm hs hx hmf h1 hb1
  go_enter Tryz.func4, Tryz.ntmps4
  go_upto_region 1 with fail
  (try rw [hW1])
  clear hW1
  go_wp2_with (first | (refine wpList_load_row rfl 24 _ rfl W.heap.size rfl 24 _ (0, 0) _ H1.out Tryz.underlying24 rfl (Tryz.sizeBx b) ?_) | (go_at_call 19; refine HP.out.mono ?_; rintro e w3 ⟨rfl, hv⟩; have HV := Lib.hid hv; clear hv))
  go_ret
  exact ⟨rfl, HV.out⟩
set_option maxHeartbeats 2000000 in
theorem ViewTakes_walk (b : BX) (mv sv : Value) (ml : List MLE) (S : List ST) (recent : Int) (W : World) (hm : MailsAt W mv ml) (hs : StepsAt W sv S) (hx : ∀ s ∈ S, StX s) (hmf : ∀ m ∈ ml, ∃ fl, Txs W (.slice m.fa m.fn m.fc) fl ∧ fl.length ≤ 9223372036854775807) :
    Calls Tryz.prog 5 #[.agg (bxA b), mv, .int .i64 recent, sv] W fun e W' => e = .returned (.bool true) ∧ Below W.heap.size W W' := by
  obtain ⟨W1, hW1⟩ : ∃ W1, W.alloc (.cells (bxA b) 24) = W1 := ⟨_, rfl⟩
  have h1 : W1.heap[W.heap.size]? = some (.cells (bxA b) 24 (0, 0)) := by rw [← hW1]; exact heap_new _ _
  have hb1 : Below W.heap.size W W1 := by rw [← hW1]; exact (Below.refl _ _).alloc (Nat.le_refl _) _
  have HP : Hid (Calls Tryz.prog 19 #[.agg (bxA b), mv, .int .i64 recent, sv, .int .i64 2] W1 fun e W' => e = .returned (.bool true) ∧ Below W.heap.size W W') := Lib.hid ((played_any b mv sv ml S recent 2 W1 (hm.on hb1) (hs.on hb1) hx (fun m hm => by obtain ⟨fl, q1, q2⟩ := hmf m hm; exact ⟨fl, q1.on hb1, q2⟩) (by decide)).mono (fun _ _ ⟨q1, q2⟩ => ⟨q1, hb1.trans (q2.mono hb1.size)⟩))
  have H1 := Lib.hid h1
  clear hm hs hx hmf h1 hb1
  go_enter Tryz.func5, Tryz.ntmps5
  go_upto_region 1 with fail
  (try rw [hW1])
  clear hW1
  go_wp2_with (first | (refine wpList_load_row rfl 24 _ rfl W.heap.size rfl 24 _ (0, 0) _ H1.out Tryz.underlying24 rfl (Tryz.sizeBx b) ?_) | (go_at_call 19; refine HP.out.mono ?_; rintro e w3 ⟨rfl, hv⟩; have HV := Lib.hid hv; clear hv))
  go_ret
  exact ⟨rfl, HV.out⟩
set_option maxHeartbeats 2000000 in
theorem ViewFinds_walk (b : BX) (mv sv : Value) (ml : List MLE) (S : List ST) (recent : Int) (W : World) (hm : MailsAt W mv ml) (hs : StepsAt W sv S) (hx : ∀ s ∈ S, StX s) (hmf : ∀ m ∈ ml, ∃ fl, Txs W (.slice m.fa m.fn m.fc) fl ∧ fl.length ≤ 9223372036854775807) :
    Calls Tryz.prog 6 #[.agg (bxA b), mv, .int .i64 recent, sv] W fun e W' => e = .returned (.bool true) ∧ Below W.heap.size W W' := by
  obtain ⟨W1, hW1⟩ : ∃ W1, W.alloc (.cells (bxA b) 24) = W1 := ⟨_, rfl⟩
  have h1 : W1.heap[W.heap.size]? = some (.cells (bxA b) 24 (0, 0)) := by rw [← hW1]; exact heap_new _ _
  have hb1 : Below W.heap.size W W1 := by rw [← hW1]; exact (Below.refl _ _).alloc (Nat.le_refl _) _
  have HP : Hid (Calls Tryz.prog 19 #[.agg (bxA b), mv, .int .i64 recent, sv, .int .i64 4] W1 fun e W' => e = .returned (.bool true) ∧ Below W.heap.size W W') := Lib.hid ((played_any b mv sv ml S recent 4 W1 (hm.on hb1) (hs.on hb1) hx (fun m hm => by obtain ⟨fl, q1, q2⟩ := hmf m hm; exact ⟨fl, q1.on hb1, q2⟩) (by decide)).mono (fun _ _ ⟨q1, q2⟩ => ⟨q1, hb1.trans (q2.mono hb1.size)⟩))
  have H1 := Lib.hid h1
  clear hm hs hx hmf h1 hb1
  go_enter Tryz.func6, Tryz.ntmps6
  go_upto_region 1 with fail
  (try rw [hW1])
  clear hW1
  go_wp2_with (first | (refine wpList_load_row rfl 24 _ rfl W.heap.size rfl 24 _ (0, 0) _ H1.out Tryz.underlying24 rfl (Tryz.sizeBx b) ?_) | (go_at_call 19; refine HP.out.mono ?_; rintro e w3 ⟨rfl, hv⟩; have HV := Lib.hid hv; clear hv))
  go_ret
  exact ⟨rfl, HV.out⟩
set_option maxHeartbeats 2000000 in
theorem ViewTells_walk (b : BX) (mv sv : Value) (ml : List MLE) (S : List ST) (recent : Int) (W : World) (hm : MailsAt W mv ml) (hs : StepsAt W sv S) (hx : ∀ s ∈ S, StX s) (hmf : ∀ m ∈ ml, ∃ fl, Txs W (.slice m.fa m.fn m.fc) fl ∧ fl.length ≤ 9223372036854775807) :
    Calls Tryz.prog 7 #[.agg (bxA b), mv, .int .i64 recent, sv] W fun e W' => e = .returned (.bool true) ∧ Below W.heap.size W W' := by
  obtain ⟨W1, hW1⟩ : ∃ W1, W.alloc (.cells (bxA b) 24) = W1 := ⟨_, rfl⟩
  have h1 : W1.heap[W.heap.size]? = some (.cells (bxA b) 24 (0, 0)) := by rw [← hW1]; exact heap_new _ _
  have hb1 : Below W.heap.size W W1 := by rw [← hW1]; exact (Below.refl _ _).alloc (Nat.le_refl _) _
  have HP : Hid (Calls Tryz.prog 19 #[.agg (bxA b), mv, .int .i64 recent, sv, .int .i64 8] W1 fun e W' => e = .returned (.bool true) ∧ Below W.heap.size W W') := Lib.hid ((played_any b mv sv ml S recent 8 W1 (hm.on hb1) (hs.on hb1) hx (fun m hm => by obtain ⟨fl, q1, q2⟩ := hmf m hm; exact ⟨fl, q1.on hb1, q2⟩) (by decide)).mono (fun _ _ ⟨q1, q2⟩ => ⟨q1, hb1.trans (q2.mono hb1.size)⟩))
  have H1 := Lib.hid h1
  clear hm hs hx hmf h1 hb1
  go_enter Tryz.func7, Tryz.ntmps7
  go_upto_region 1 with fail
  (try rw [hW1])
  clear hW1
  go_wp2_with (first | (refine wpList_load_row rfl 24 _ rfl W.heap.size rfl 24 _ (0, 0) _ H1.out Tryz.underlying24 rfl (Tryz.sizeBx b) ?_) | (go_at_call 19; refine HP.out.mono ?_; rintro e w3 ⟨rfl, hv⟩; have HV := Lib.hid hv; clear hv))
  go_ret
  exact ⟨rfl, HV.out⟩
set_option maxHeartbeats 2000000 in
theorem ViewGoes_walk (b : BX) (mv sv : Value) (ml : List MLE) (S : List ST) (recent : Int) (W : World) (hm : MailsAt W mv ml) (hs : StepsAt W sv S) (hx : ∀ s ∈ S, StX s) (hmf : ∀ m ∈ ml, ∃ fl, Txs W (.slice m.fa m.fn m.fc) fl ∧ fl.length ≤ 9223372036854775807) :
    Calls Tryz.prog 8 #[.agg (bxA b), mv, .int .i64 recent, sv] W fun e W' => e = .returned (.bool true) ∧ Below W.heap.size W W' := by
  obtain ⟨W1, hW1⟩ : ∃ W1, W.alloc (.cells (bxA b) 24) = W1 := ⟨_, rfl⟩
  have h1 : W1.heap[W.heap.size]? = some (.cells (bxA b) 24 (0, 0)) := by rw [← hW1]; exact heap_new _ _
  have hb1 : Below W.heap.size W W1 := by rw [← hW1]; exact (Below.refl _ _).alloc (Nat.le_refl _) _
  have HP : Hid (Calls Tryz.prog 19 #[.agg (bxA b), mv, .int .i64 recent, sv, .int .i64 15] W1 fun e W' => e = .returned (.bool true) ∧ Below W.heap.size W W') := Lib.hid ((played_any b mv sv ml S recent 15 W1 (hm.on hb1) (hs.on hb1) hx (fun m hm => by obtain ⟨fl, q1, q2⟩ := hmf m hm; exact ⟨fl, q1.on hb1, q2⟩) (by decide)).mono (fun _ _ ⟨q1, q2⟩ => ⟨q1, hb1.trans (q2.mono hb1.size)⟩))
  have H1 := Lib.hid h1
  clear hm hs hx hmf h1 hb1
  go_enter Tryz.func8, Tryz.ntmps8
  go_upto_region 1 with fail
  (try rw [hW1])
  clear hW1
  go_wp2_with (first | (refine wpList_load_row rfl 24 _ rfl W.heap.size rfl 24 _ (0, 0) _ H1.out Tryz.underlying24 rfl (Tryz.sizeBx b) ?_) | (go_at_call 19; refine HP.out.mono ?_; rintro e w3 ⟨rfl, hv⟩; have HV := Lib.hid hv; clear hv))
  go_ret
  exact ⟨rfl, HV.out⟩
end Go.Proofs.YtmedpcldfpfpnaaGreat
