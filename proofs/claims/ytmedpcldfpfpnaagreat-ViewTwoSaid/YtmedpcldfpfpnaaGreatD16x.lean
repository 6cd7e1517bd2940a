/- Two views, one desk. -/
import Derived.Test.YtmedpcldfpfpnaaGreatD16u
namespace Go.Proofs.YtmedpcldfpfpnaaGreat
open Go.RowKit

/-- Blocks, and what lies in them. -/
def bl (f : List Nat) (w : World) : List (Nat × Obj) := f.filterMap (fun b => (w.heap[b]?).map (fun o => (b, o)))
theorem mem_bl {f : List Nat} {w : World} {p : Nat × Obj} : p ∈ bl f w ↔ p.1 ∈ f ∧ w.heap[p.1]? = some p.2 := by
  simp only [bl, List.mem_filterMap, Option.map_eq_some_iff]
  constructor
  · rintro ⟨b, hb, o, ho, rfl⟩
    exact ⟨hb, ho⟩
  · rintro ⟨h1, h2⟩
    exact ⟨p.1, h1, p.2, h2, rfl⟩
theorem Apt.symm {a b : List Nat} (h : Apt a b) : Apt b a := fun x hx hy => h x hy hx
/-- Two houses with one desk. -/
def H2 (W : World) (K : List (Nat × Obj)) (P Q P2 Q2 D : Nat) (V V2 : PV) (w : World) : Prop :=
  ∃ fv fr fv2 fr2 vd c, HO W K P Q D V V fv fr vd c w ∧ HO W K P2 Q2 D V2 V2 fv2 fr2 vd c w ∧ Apt fv fv2 ∧ Apt fv fr2 ∧ Apt fr fv2 ∧ Apt fr fr2
section
variable {W w w' : World} {K : List (Nat × Obj)} {P Q P2 Q2 D N : Nat} {V V2 V' : PV}
theorem H2.swap (h : H2 W K P Q P2 Q2 D V V2 w) : H2 W K P2 Q2 P Q D V2 V w := by
  obtain ⟨fv, fr, fv2, fr2, vd, c, h1, h2, a1, a2, a3, a4⟩ := h
  exact ⟨fv2, fr2, fv, fr, vd, c, h2, h1, a1.symm, a3.symm, a2.symm, a4.symm⟩
theorem H2.on (h : H2 W K P Q P2 Q2 D V V2 w) (hb : Below w.heap.size w w') : H2 W K P Q P2 Q2 D V V2 w' := by
  obtain ⟨fv, fr, fv2, fr2, vd, c, h1, h2, a⟩ := h
  exact ⟨fv, fr, fv2, fr2, vd, c, h1.on hb, h2.on hb, a⟩
theorem H2.base (h : H2 W K P Q P2 Q2 D V V2 w) : Below W.heap.size W w := by
  obtain ⟨fv, fr, fv2, fr2, vd, c, h1, _⟩ := h
  exact h1.base
theorem H2.box {p : Nat × Obj} (h : H2 W (p :: K) P Q P2 Q2 D V V2 w) : w.heap[p.1]? = some p.2 := by
  obtain ⟨fv, fr, fv2, fr2, vd, c, h1, _⟩ := h
  exact (h1.kp p List.mem_cons_self).1
theorem H2.drop {p : Nat × Obj} (h : H2 W (p :: K) P Q P2 Q2 D V V2 w) : H2 W K P Q P2 Q2 D V V2 w := by
  obtain ⟨fv, fr, fv2, fr2, vd, c, h1, h2, a⟩ := h
  exact ⟨fv, fr, fv2, fr2, vd, c, { h1 with kp := fun q hq => h1.kp q (List.mem_cons_of_mem _ hq) }, { h2 with kp := fun q hq => h2.kp q (List.mem_cons_of_mem _ hq) }, a⟩
theorem HO.addK {fv fr : List Nat} {vd : DV} {c : DC} {U : PV} {b : Nat} {o : Obj} (h : HO W K P Q D V U fv fr vd c w) (hb : Below w.heap.size w w') (hz : w.heap.size ≤ b) (ho : w'.heap[b]? = some o) : HO W ((b, o) :: K) P Q D V U fv fr vd c w' := by
  refine { h.on hb with kp := fun p hp => ?_ }
  rcases List.mem_cons.1 hp with rfl | hp
  · exact ⟨ho, fun e => by have := h.view.lt e; omega, fun e => by have := h.ref.lt e; omega, fun e => by have := h.desk.lt e; omega⟩
  · exact (h.on hb).kp p hp
theorem H2.add {b : Nat} {o : Obj} (h : H2 W K P Q P2 Q2 D V V2 w) (hb : Below w.heap.size w w') (hz : w.heap.size ≤ b) (ho : w'.heap[b]? = some o) : H2 W ((b, o) :: K) P Q P2 Q2 D V V2 w' := by
  obtain ⟨fv, fr, fv2, fr2, vd, c, h1, h2, a⟩ := h
  exact ⟨fv, fr, fv2, fr2, vd, c, h1.addK hb hz ho, h2.addK hb hz ho, a⟩
/-- The kept block is written over. -/
theorem HO.putK {fv fr : List Nat} {vd : DV} {c : DC} {U : PV} {b : Nat} {o o' : Obj} (h : HO W [(b, o)] P Q D V U fv fr vd c w) (hst : Stays [b] w w') (hW : W.heap.size ≤ b) (ho : w'.heap[b]? = some o') : HO W [(b, o')] P Q D V U fv fr vd c w' := by
  obtain ⟨k1, k2, k3, k4⟩ := h.kp (b, o) List.mem_cons_self
  have hk : ∀ x, x < w.heap.size → x ≠ b → w'.heap[x]? = w.heap[x]? := fun x hx hn => hst.block x hx (by simpa using hn)
  refine ⟨h.view.hold (fun x hx => hk x (h.view.lt hx) (fun e => k2 (e ▸ hx))), h.ref.hold (fun x hx => hk x (h.ref.lt hx) (fun e => k3 (e ▸ hx))), h.desk.hold (fun x hx => hk x (h.desk.lt hx) (fun e => k4 (e ▸ hx))), h.ok, h.vr, h.vk, h.rk, h.lv, h.lr, h.lk, h.base.trans (hst.below (fun x hx => by simp at hx; omega) h.base.size), fun p hp => ?_⟩
  simp at hp
  subst hp
  exact ⟨ho, k2, k3, k4⟩
theorem H2.putK {b : Nat} {o o' : Obj} (h : H2 W [(b, o)] P Q P2 Q2 D V V2 w) (hst : Stays [b] w w') (hW : W.heap.size ≤ b) (ho : w'.heap[b]? = some o') : H2 W [(b, o')] P Q P2 Q2 D V V2 w' := by
  obtain ⟨fv, fr, fv2, fr2, vd, c, h1, h2, a⟩ := h
  exact ⟨fv, fr, fv2, fr2, vd, c, h1.putK hst hW ho, h2.putK hst hW ho, a⟩
theorem h2_back {fv2 fr2 : List Nat} {vd : DV} {c : DC} (h2 : HO W K P2 Q2 D V2 V2 fv2 fr2 vd c w) (h' : HH W (bl (fv2 ++ fr2) w ++ K) P Q D V' V' w') : H2 W K P Q P2 Q2 D V' V2 w' := by
  obtain ⟨fv', fr', vd', c', h'⟩ := h'
  have kb : ∀ b, b ∈ fv2 ++ fr2 → w'.heap[b]? = w.heap[b]? ∧ b ∉ fv' ∧ b ∉ fr' ∧ b ∉ fpD D vd' c'.F := fun b hb => by
    have hl : b < w.heap.size := by
      rcases List.mem_append.1 hb with q | q
      · exact h2.view.lt q
      · exact h2.ref.lt q
    have := h'.kp (b, w.heap[b]) (List.mem_append_left _ (mem_bl.2 ⟨hb, Array.getElem?_eq_getElem hl⟩))
    exact ⟨this.1.trans (Array.getElem?_eq_getElem hl).symm, this.2⟩
  have kv : ∀ b, b ∈ fv2 → _ := fun b hb => kb b (List.mem_append_left _ hb)
  have kr : ∀ b, b ∈ fr2 → _ := fun b hb => kb b (List.mem_append_right _ hb)
  refine ⟨fv', fr', fv2, fr2, vd', c', { h' with kp := fun p hp => h'.kp p (List.mem_append_right _ hp) }, ⟨h2.view.hold (fun b hb => (kv b hb).1), h2.ref.hold (fun b hb => (kr b hb).1), h'.desk, h'.ok, h2.vr, fun x hx hy => (kv x hx).2.2.2 hy, fun x hx hy => (kr x hx).2.2.2 hy, h2.lv, h2.lr, h'.lk, h'.base, fun p hp => ?_⟩, fun x hx hy => (kv x hy).2.1 hx, fun x hx hy => (kr x hy).2.1 hx, fun x hx hy => (kv x hy).2.2.1 hx, fun x hx hy => (kr x hy).2.2.1 hx⟩
  have q := h'.kp p (List.mem_append_right _ hp)
  have q2 := h2.kp p hp
  exact ⟨q.1, q2.2.1, q2.2.2.1, q.2.2.2⟩
theorem step_2 (h : H2 W K P Q P2 Q2 D V V2 w) (hk : PVok V N) (hN : N + 301 ≤ 1000000) (s : ST) (ho : StOK W s) (hs : StShort s) (hx : StX s) (hf : StF s) (lk : Int) (hl : 0 ≤ lk ∧ lk ≤ 15) :
    Calls Tryz.prog 13 #[.pointer (some ⟨P, 0, none⟩), .pointer (some ⟨Q, 0, none⟩), .pointer (some ⟨D, 0, none⟩), .agg (stL s).toArray, .int .i64 lk] w fun e w' => e = .returned (.bool true) ∧ H2 W K P Q P2 Q2 D (actV V s) V2 w' := by
  obtain ⟨fv, fr, fv2, fr2, vd, c, h1, h2, a1, a2, a3, a4⟩ := h
  have hkp : ∀ p ∈ bl (fv2 ++ fr2) w ++ K, w.heap[p.1]? = some p.2 ∧ p.1 ∉ fv ∧ p.1 ∉ fr ∧ p.1 ∉ fpD D vd c.F := fun p hp => by
    rcases List.mem_append.1 hp with hp | hp
    · obtain ⟨q1, q2⟩ := mem_bl.1 hp
      rcases List.mem_append.1 q1 with q | q
      · exact ⟨q2, fun e => a1 _ e q, fun e => a3 _ e q, fun e => h2.vk _ q e⟩
      · exact ⟨q2, fun e => a2 _ e q, fun e => a4 _ e q, fun e => h2.rk _ q e⟩
    · exact h1.kp p hp
  have hh : HH W (bl (fv2 ++ fr2) w ++ K) P Q D V V w := ⟨fv, fr, vd, c, { h1 with kp := hkp }⟩
  exact (step_any hh hk hN s ho hs hx hf lk hl).mono (fun _ _ ⟨q1, q2⟩ => ⟨q1, h2_back h2 q2⟩)
theorem stands_2 (h : H2 W K P Q P2 Q2 D V V2 w) (hk : PVok V N) (hN : N ≤ 1000000) :
    Calls Tryz.prog 17 #[.pointer (some ⟨P, 0, none⟩), .pointer (some ⟨Q, 0, none⟩)] w fun e w' => e = .returned (.bool true) ∧ H2 W K P Q P2 Q2 D V V2 w' := by
  have h' := h
  obtain ⟨fv, fr, fv2, fr2, vd, c, h1, _⟩ := h
  exact (stands_any h1.view h1.ref hk hN).mono (fun _ _ ⟨q1, q2⟩ => ⟨q1, h'.on q2⟩)
/-- What Uids of both tell, one behind the other. -/
theorem uids_2 (h : H2 W K P Q P2 Q2 D V V2 w) (hk : PVok V N) (hN : N ≤ 1000000) :
    Calls Tryz.prog 15 #[.pointer (some ⟨P, 0, none⟩)] w fun e w1 => ∃ a c n, e = .returned (.slice a n c) ∧ Calls Tryz.prog 16 #[.pointer (some ⟨Q, 0, none⟩)] w1 fun e w2 => ∃ a2 c2 n2, e = .returned (.slice a2 n2 c2) ∧ Calls Tryz.prog 14 #[.slice a n c, .slice a2 n2 c2] w2 fun e w3 => e = .returned (.bool true) ∧ H2 W K P Q P2 Q2 D V V2 w3 := by
  have h' := h
  obtain ⟨fv, fr, fv2, fr2, vd, c, h1, _⟩ := h
  have hl : (uidsP V).length ≤ 1000000 := by
    have := hk.len
    rw [uidsP_length]
    omega
  refine (Uids_W h1.view hk hN).mono ?_
  rintro e w1 ⟨v1, rfl, o1⟩
  obtain ⟨a, k, e1⟩ := ownsRow_shape o1.row
  subst e1
  refine ⟨a, k, _, rfl, (Uids_RW (h1.on o1.below).ref hk hN).mono ?_⟩
  rintro e w2 ⟨v2, rfl, o2⟩
  obtain ⟨a2, k2, e2⟩ := ownsRow_shape o2.row
  subst e2
  refine ⟨a2, k2, _, rfl, (alike_any _ _ (uidsP V) (uidsP V) w2 ((nms_of o1.row).on o2.below) (nms_of o2.row) hl).mono ?_⟩
  rintro e w3 ⟨rfl, hb3⟩
  exact ⟨by rw [decide_eq_true rfl], ((h'.on o1.below).on o2.below).on hb3⟩
/-- The desk, apart from f. -/
structure HD (W : World) (f : List Nat) (D : Nat) (w : World) : Prop where
  ex : ∃ vd c, DK D vd c w ∧ DB c ∧ (∀ b ∈ fpD D vd c.F, W.heap.size ≤ b) ∧ ∀ b ∈ f, b < w.heap.size ∧ b ∉ fpD D vd c.F
  base : Below W.heap.size W w
theorem HD.on {f : List Nat} (h : HD W f D w) (hb : Below w.heap.size w w') : HD W f D w' := by
  obtain ⟨⟨vd, c, h1, h2, h3, h4⟩, h5⟩ := h
  exact ⟨⟨vd, c, h1.on hb, h2, h3, fun b hm => ⟨Nat.lt_of_lt_of_le (h4 b hm).1 hb.size, (h4 b hm).2⟩⟩, h5.trans (hb.mono h5.size)⟩
theorem HD.more {f g : List Nat} (h : HD W f D w) (hb : Below w.heap.size w w') (hg : ∀ b ∈ g, w.heap.size ≤ b ∧ b < w'.heap.size) : HD W (g ++ f) D w' := by
  obtain ⟨⟨vd, c, h1, h2, h3, h4⟩, h5⟩ := h.on hb
  obtain ⟨⟨vd0, c0, k1, k2, k3, k4⟩, k5⟩ := h
  refine ⟨⟨vd0, c0, k1.on hb, k2, k3, fun b hm => ?_⟩, h5⟩
  rcases List.mem_append.1 hm with hm | hm
  · exact ⟨(hg b hm).2, fun e => by have := k1.lt e; have := (hg b hm).1; omega⟩
  · exact ⟨Nat.lt_of_lt_of_le (k4 b hm).1 hb.size, (k4 b hm).2⟩
theorem mail_D {f : List Nat} (h : HD W f D w) (lv : Value) (ml : List MLE) (hr : MailsAt W lv ml) (hl : ml.length ≤ 300) :
    Calls Tryz.prog 12 #[.pointer (some ⟨D, 0, none⟩), lv] w fun r w' => ∃ ga gn gc, r = .returned (.slice ga gn gc) ∧ MailsAt w' (.slice ga gn gc) ml ∧ HD W f D w' ∧ ∀ b ∈ f, w'.heap[b]? = w.heap[b]? := by
  obtain ⟨⟨vd, c, h1, h2, h3, h4⟩, h5⟩ := h
  refine (mail_any h1 lv ml (hr.on h5) (fun q b e hm => by have := mails_low hr q b e; have := h3 b hm; omega) hl h2.m).mono ?_
  rintro r w' ⟨g, cp, n, v', rfl, q1, q2, q3, q4, q5⟩
  refine ⟨_, _, _, rfl, q4, ⟨⟨v', _, q1.1, ⟨by show (layM ml n ml.length).length ≤ _; rw [layM_length]; exact q3, h2.u, h2.k, h2.f, h2.s, h2.l⟩, (fo_below h5 h3 q1.2).2, fun b hb => ⟨Nat.lt_of_lt_of_le (h4 b hb).1 q1.2.1.size, q1.2.out (h4 b hb).1 (h4 b hb).2⟩⟩, (fo_below h5 h3 q1.2).1⟩, fun b hb => q1.2.keep (h4 b hb).1 (h4 b hb).2⟩
theorem StOK.turn {s : ST} (h : StOK W s) (b : Bool) : StOK W { s with own := b } := by
  refine ⟨h.ev, h.mks, h.st, h.low, h.high, fun u hu => ?_, h.ub, h.mb⟩
  have h1 := h.one
  simp only [stL, List.mem_cons, List.mem_append] at hu h1
  rcases hu with rfl | rfl | hu | rfl | hu
  · rfl
  · rfl
  · exact h1 u (.inr (.inr (.inl hu)))
  · rfl
  · exact h1 u (.inr (.inr (.inr (.inr hu))))
end
end Go.Proofs.YtmedpcldfpfpnaaGreat

/- ViewTwo, its walk. -/
namespace Go.Proofs.YtmedpcldfpfpnaaGreat
open Go.RowKit

theorem wpList_load_rowG {P : Program} {ops : Array Oper} {rest : List Oper} {o : Oper} {a : Act} {w : World} {Q : Exit → Act → World → Prop} (ty : TypeId) (x : Operand) (ho : o.op = .load ty x)
    (g : Nat) (hx : a.eval x = .pointer (some ⟨g, 0, none⟩)) (t : TypeId) (cs : Array Value) (fr : Nat × Nat) (d : TypeDesc) (hg : w.heap[g]? = some (.cells cs t fr))
    (hu : P.underlying ty = some d) (hd : (match d with | .struct _ | .array _ _ => true | _ => false) = true) (hi : (P.info? ty).map (·.size) = some cs.size)
    (hw : Region.wanted o (yielded ops a.tmps) = true) (h : wpList P ops Q rest (a.put o.dst (.agg cs)) w) : wpList P ops Q (o :: rest) a w :=
  wpList_step fun K hK => by rw [if_pos hw]; exact wp_load_row ty x ho g hx t cs fr d hg hu hd hi (hK _ _ h)
/-- The document's view, the desk. -/
def T4 (W : World) (Q D : Nat) (U : PV) (w : World) : Prop := ∃ fr, RW Q U fr w ∧ HD W fr D w ∧ ∀ x ∈ fr, W.heap.size ≤ x
def T5 (W : World) (Q Q2 D : Nat) (U U2 : PV) (w : World) : Prop := ∃ fr fr2, RW Q U fr w ∧ RW Q2 U2 fr2 w ∧ Apt fr fr2 ∧ HD W (fr2 ++ fr) D w ∧ (∀ x ∈ fr, W.heap.size ≤ x) ∧ ∀ x ∈ fr2, W.heap.size ≤ x
def T6 (W : World) (P Q Q2 D : Nat) (V U2 : PV) (w : World) : Prop := ∃ fv fr fr2, VW P V fv w ∧ RW Q V fr w ∧ RW Q2 U2 fr2 w ∧ Apt fv fr ∧ Apt fv fr2 ∧ Apt fr fr2 ∧ HD W (fv ++ (fr2 ++ fr)) D w ∧ (∀ x ∈ fv, W.heap.size ≤ x) ∧ (∀ x ∈ fr, W.heap.size ≤ x) ∧ ∀ x ∈ fr2, W.heap.size ≤ x
section
variable {W w : World} {P Q Q2 D : Nat} {V U U2 : PV}
theorem T5.base (h : T5 W Q Q2 D U U2 w) : Below W.heap.size W w := by
  obtain ⟨fr, fr2, _, _, _, h, _⟩ := h
  exact h.base
theorem T6.base (h : T6 W P Q Q2 D V U2 w) : Below W.heap.size W w := by
  obtain ⟨fv, fr, fr2, _, _, _, _, _, _, h, _⟩ := h
  exact h.base
theorem T5.drew (h : T5 W Q Q2 D U U2 w) : T5 W Q Q2 D U U2 w.drew := by
  have hb : Below w.heap.size w w.drew := (Below.refl _ _).drew
  obtain ⟨fr, fr2, h1, h2, h3, h4, h5⟩ := h
  exact ⟨fr, fr2, h1.on hb, h2.on hb, h3, h4.on hb, h5⟩
theorem T6.drew (h : T6 W P Q Q2 D V U2 w) : T6 W P Q Q2 D V U2 w.drew := by
  have hb : Below w.heap.size w w.drew := (Below.refl _ _).drew
  obtain ⟨fv, fr, fr2, h1, h2, h3, h4, h5, h6, h7, h8⟩ := h
  exact ⟨fv, fr, fr2, h1.on hb, h2.on hb, h3.on hb, h4, h5, h6, h7.on hb, h8⟩
theorem new_4 (h : HD W [] D w) (b : BX) (v : Value) (ml : List MLE) (recent : Int) (hm : MailsAt W v ml) (hl : ml.length ≤ 300) :
    Calls Tryz.prog 10 #[.agg (bxA b), v, .int .i64 recent] w fun e w' => ∃ Q, e = .returned (.pointer (some ⟨Q, 0, none⟩)) ∧ T4 W Q D (newP b.val (ml.map MLE.u) recent) w' := by
  refine (rNew_any b v ml recent w (hm.on h.base) (by omega)).mono ?_
  rintro e w' ⟨Q, fp, rfl, q1, q2, q3⟩
  have := h.more q2 (g := fp) (fun x hx => ⟨q3 x hx, q1.lt hx⟩)
  rw [List.append_nil] at this
  exact ⟨Q, rfl, fp, q1, this, fun x hx => by have := q3 x hx; have := h.base.size; omega⟩
theorem new_5 (h : T4 W Q D U w) (b : BX) (v : Value) (ml : List MLE) (recent : Int) (hm : MailsAt W v ml) (hl : ml.length ≤ 300) :
    Calls Tryz.prog 10 #[.agg (bxA b), v, .int .i64 recent] w fun e w' => ∃ Q2, e = .returned (.pointer (some ⟨Q2, 0, none⟩)) ∧ T5 W Q Q2 D U (newP b.val (ml.map MLE.u) recent) w' := by
  obtain ⟨fr, h1, h2, h3⟩ := h
  refine (rNew_any b v ml recent w (hm.on h2.base) (by omega)).mono ?_
  rintro e w' ⟨Q2, fp, rfl, q1, q2, q3⟩
  exact ⟨Q2, rfl, fr, fp, h1.on q2, q1, fun x hx hy => by have := q3 x hy; have := h1.lt hx; omega, h2.more q2 (fun x hx => ⟨q3 x hx, q1.lt hx⟩), h3, fun x hx => by have := q3 x hx; have := h2.base.size; omega⟩
theorem mail_5 (h : T5 W Q Q2 D U U2 w) (v : Value) (ml : List MLE) (hm : MailsAt W v ml) (hl : ml.length ≤ 300) :
    Calls Tryz.prog 12 #[.pointer (some ⟨D, 0, none⟩), v] w fun r w' => ∃ ga gn gc, r = .returned (.slice ga gn gc) ∧ MailsAt w' (.slice ga gn gc) ml ∧ T5 W Q Q2 D U U2 w' := by
  obtain ⟨fr, fr2, h1, h2, h3, h4, h5⟩ := h
  refine (mail_D h4 v ml hm hl).mono ?_
  rintro r w' ⟨ga, gn, gc, rfl, q1, q2, q3⟩
  exact ⟨ga, gn, gc, rfl, q1, fr, fr2, h1.hold (fun x hx => q3 x (List.mem_append_right _ hx)), h2.hold (fun x hx => q3 x (List.mem_append_left _ hx)), h3, q2, h5⟩
theorem new_6 {v : Value} {ml : List MLE} (h : MailsAt w v ml ∧ T5 W Q Q2 D U U2 w) (b : BX) (recent : Int) (hU : newP b.val (ml.map MLE.u) recent = U) (hl : ml.length ≤ 300) :
    Calls Tryz.prog 11 #[.agg (bxA b), v, .int .i64 recent] w fun e w' => ∃ P, e = .returned (.pointer (some ⟨P, 0, none⟩)) ∧ T6 W P Q Q2 D U U2 w' := by
  obtain ⟨hm, fr, fr2, h1, h2, h3, h4, h5, h6⟩ := h
  refine (New_any b v ml recent w hm (by omega)).mono ?_
  rintro e w' ⟨P, fp, rfl, q1, q2, q3⟩
  rw [hU] at q1
  exact ⟨P, rfl, fp, fr, fr2, q1, h1.on q2, h2.on q2, fun x hx hy => by have := q3 x hx; have := h1.lt hy; omega, fun x hx hy => by have := q3 x hx; have := h2.lt hy; omega, h3, h4.more q2 (fun x hx => ⟨q3 x hx, q1.lt hx⟩), fun x hx => by have := q3 x hx; have := h4.base.size; omega, h5, h6⟩
theorem mail_6 (h : T6 W P Q Q2 D V U2 w) (v : Value) (ml : List MLE) (hm : MailsAt W v ml) (hl : ml.length ≤ 300) :
    Calls Tryz.prog 12 #[.pointer (some ⟨D, 0, none⟩), v] w fun r w' => ∃ ga gn gc, r = .returned (.slice ga gn gc) ∧ MailsAt w' (.slice ga gn gc) ml ∧ T6 W P Q Q2 D V U2 w' := by
  obtain ⟨fv, fr, fr2, h1, h2, h3, h4, h5, h6, h7, h8⟩ := h
  refine (mail_D h7 v ml hm hl).mono ?_
  rintro r w' ⟨ga, gn, gc, rfl, q1, q2, q3⟩
  exact ⟨ga, gn, gc, rfl, q1, fv, fr, fr2, h1.hold (fun x hx => q3 x (List.mem_append_left _ hx)), h2.hold (fun x hx => q3 x (List.mem_append_right _ (List.mem_append_right _ hx))), h3.hold (fun x hx => q3 x (List.mem_append_right _ (List.mem_append_left _ hx))), h4, h5, h6, q2, h8⟩
theorem new_7 {v : Value} {ml : List MLE} (h : MailsAt w v ml ∧ T6 W P Q Q2 D V U2 w) (b : BX) (recent : Int) (hU : newP b.val (ml.map MLE.u) recent = U2) (hl : ml.length ≤ 300) :
    Calls Tryz.prog 11 #[.agg (bxA b), v, .int .i64 recent] w fun e w' => ∃ P2, e = .returned (.pointer (some ⟨P2, 0, none⟩)) ∧ H2 W [] P Q P2 Q2 D V U2 w' := by
  obtain ⟨hm, fv, fr, fr2, h1, h2, h3, h4, h5, h6, h7, h8, h9, h10⟩ := h
  obtain ⟨⟨vd, c, k1, k2, k3, k4⟩, k5⟩ := h7
  refine (New_any b v ml recent w hm (by omega)).mono ?_
  rintro e w' ⟨P2, fp, rfl, q1, q2, q3⟩
  rw [hU] at q1
  have nw : ∀ x, x ∈ fp → ∀ y, y < w.heap.size → x ≠ y := fun x hx y hy => by have := q3 x hx; omega
  have hb := k5.trans (q2.mono k5.size)
  refine ⟨P2, rfl, fv, fr, fp, fr2, vd, c, ⟨h1.on q2, h2.on q2, k1.on q2, k2, h4, fun x hx hy => (k4 x (List.mem_append_left _ hx)).2 hy, fun x hx hy => (k4 x (List.mem_append_right _ (List.mem_append_right _ hx))).2 hy, h8, h9, k3, hb, fun p hp => (by cases hp)⟩, ⟨q1, h3.on q2, k1.on q2, k2, fun x hx hy => nw x hx x (h3.lt hy) rfl, fun x hx hy => nw x hx x (k1.lt hy) rfl, fun x hx hy => (k4 x (List.mem_append_right _ (List.mem_append_left _ hx))).2 hy, fun x hx => by have := q3 x hx; have := k5.size; omega, h10, k3, hb, fun p hp => (by cases hp)⟩, fun x hx hy => nw x hy x (h1.lt hx) rfl, h5, fun x hx hy => nw x hy x (h2.lt hx) rfl, h6⟩
end
set_option maxRecDepth 100000 in
set_option maxHeartbeats 16000000 in
theorem ViewTwo_walk (b b2 : BX) (mv sv : Value) (ml : List MLE) (S : List ST) (recent : Int) (W : World) (hm : MailsAt W mv ml) (hs : StepsAt W sv S) (hx : ∀ s ∈ S, StX s) (hr : -9223372036854775808 ≤ recent ∧ recent ≤ 9223372036854775807) :
    Calls Tryz.prog 3 #[.agg (bxA b), .agg (bxA b2), mv, .int .i64 recent, sv] W fun e W' => e = .returned (.bool true) ∧ Below W.heap.size W W' := by
  obtain ⟨W0, hW0⟩ : ∃ W0, W.alloc (.cells (bxA b) 24) = W0 := ⟨_, rfl⟩
  obtain ⟨W1, hW1⟩ : ∃ W1, W0.alloc (.cells (bxA b2) 24) = W1 := ⟨_, rfl⟩
  have hb0 : Below W.heap.size W W0 := by rw [← hW0]; exact (Below.refl _ _).alloc (Nat.le_refl _) _
  have hb01 : Below W0.heap.size W0 W1 := by rw [← hW1]; exact (Below.refl _ _).alloc (Nat.le_refl _) _
  have hb1 : Below W.heap.size W W1 := hb0.trans (hb01.mono hb0.size)
  have h0 : W0.heap[W.heap.size]? = some (.cells (bxA b) 24 (0, 0)) := by rw [← hW0]; exact heap_new _ _
  have h1 : W1.heap[W.heap.size]? = some (.cells (bxA b) 24 (0, 0)) := by rw [hb01.block _ (lt_of_heap h0)]; exact h0
  have h2 : W1.heap[W0.heap.size]? = some (.cells (bxA b2) 24 (0, 0)) := by rw [← hW1]; exact heap_new _ _
  have hm1 := hm.on hb1
  have hs1 := hs.on hb1
  have HL := Lib.hid (long_any2 mv sv ml S W1 hm1 hs1)
  have HS := Lib.hid hs1
  have HX := Lib.hid hx
  have HFin : Hid (∀ X, Below W1.heap.size W1 X → Below W.heap.size W X) := Lib.hid (fun X q => hb1.trans (q.mono hb1.size))
  have HBx : Hid (∀ X, Below W1.heap.size W1 X → X.heap[W.heap.size]? = some (.cells (bxA b) 24 (0, 0))) := Lib.hid (fun X q => by rw [q.block _ (lt_of_heap h1)]; exact h1)
  have HBy : Hid (∀ X, Below W1.heap.size W1 X → X.heap[W0.heap.size]? = some (.cells (bxA b2) 24 (0, 0))) := Lib.hid (fun X q => by rw [q.block _ (lt_of_heap h2)]; exact h2)
  have hrw : IntKind.i64.wrap (recent.tdiv 2) = recent.tdiv 2 := by
    have e1 : recent = 2 * recent.tdiv 2 + recent.tmod 2 := (Int.mul_tdiv_add_tmod recent 2).symm
    have e2 : recent.tmod 2 < 2 := Int.tmod_lt_of_pos recent (by omega)
    have e3 : -2 < recent.tmod 2 := by
      rcases Int.le_total 0 recent with h | h
      · have := Int.tmod_nonneg 2 h; omega
      · have h5 := Int.tmod_nonneg 2 (show 0 ≤ -recent by omega)
        have h6 := Int.tmod_lt_of_pos (-recent) (show (0 : Int) < 2 by omega)
        rw [Int.neg_tmod] at h5 h6
        omega
    simp only [IntKind.wrap, IntKind.signed, IntKind.bits]
    simp
    omega
  obtain ⟨am, cm, rfl, _⟩ := hm
  obtain ⟨⟨ax, cx, rfl, _⟩, _⟩ := hs
  have HM1 := Lib.hid hm1
  clear hb0 hb01 hb1 h0 h1 h2 hm1 hs1 hx hr
  go_enter Tryz.func3, Tryz.ntmps3
  go_upto_region 1 with fail
  (try rw [hW0])
  (try rw [hW1])
  clear hW0 hW1
  go_upto_region 3 with (go_at_call 9; refine HL.out.mono ?_; rintro e w2 ⟨lb, rfl, hb2, hc2⟩; have HB2 := Lib.hid hb2; have HC2 := Lib.hid hc2; clear hb2 hc2)
  · go_ret
    exact ⟨rfl, HFin.out _ HB2.out⟩
  have hlf : lb = false := by first | assumption | (cases lb <;> simp_all)
  obtain ⟨hml, hsl, hss⟩ := HC2.out hlf
  subst hlf
  have HSS := Lib.hid hss
  obtain ⟨w3, hw3⟩ : ∃ w3, w2.alloc (.cells #[.slice none 0 0, .slice none 0 0, .slice none 0 0, .slice none 0 0, .slice none 0 0] 34) = w3 := ⟨_, rfl⟩
  have hb3 : Below w2.heap.size w2 w3 := by rw [← hw3]; exact (Below.refl _ _).alloc (Nat.le_refl _) _
  have hd3 : DK w2.heap.size DV0 DC0 w3 := by rw [← hw3]; exact desk_new w2
  have hb13 : Below W1.heap.size W1 w3 := HB2.out.trans (hb3.mono HB2.out.size)
  have hD3 : HD W1 [] w2.heap.size w3 := by
    refine ⟨⟨DV0, DC0, hd3, ⟨by simp [DC0], by simp [DC0], by simp [DC0], by simp [DC0], by simp [DC0], fun f hf => (by cases hf)⟩, fun x hx => ?_, fun b hb => (by cases hb)⟩, hb13⟩
    have h0 : x = w2.heap.size := by
      rcases mem_fpD.1 hx with e | e | e | e | e | e | ⟨f, hf, e⟩
      · exact e
      all_goals first | (cases e; done) | (cases hf; done)
    have := HB2.out.size
    omega
  obtain ⟨U, hU⟩ : ∃ U, newP b.val (ml.map MLE.u) recent = U := ⟨_, rfl⟩
  obtain ⟨U2, hU2⟩ : ∃ U2, newP b2.val (ml.map MLE.u) (recent.tdiv 2) = U2 := ⟨_, rfl⟩
  have HN4 : Hid (Calls Tryz.prog 10 #[.agg (bxA b), .slice am ml.length cm, .int .i64 recent] w3 fun e w' => ∃ Q, e = .returned (.pointer (some ⟨Q, 0, none⟩)) ∧ T4 W1 Q w2.heap.size U w') := Lib.hid (by rw [← hU]; exact new_4 hD3 b _ ml recent HM1.out hml)
  have HN5 : Hid (∀ Q X, T4 W1 Q w2.heap.size U X → Calls Tryz.prog 10 #[.agg (bxA b2), .slice am ml.length cm, .int .i64 (recent.tdiv 2)] X fun e w' => ∃ Q2, e = .returned (.pointer (some ⟨Q2, 0, none⟩)) ∧ T5 W1 Q Q2 w2.heap.size U U2 w') := Lib.hid (fun Q X q => by rw [← hU2]; exact new_5 q b2 _ ml (recent.tdiv 2) HM1.out hml)
  have HB4 : Hid (∀ Q X, T4 W1 Q w2.heap.size U X → Below W1.heap.size W1 X) := Lib.hid (fun Q X q => by obtain ⟨fr, _, q, _⟩ := q; exact q.base)
  have HM5' : Hid (∀ Q Q2 X, T5 W1 Q Q2 w2.heap.size U U2 X → Calls Tryz.prog 12 #[.pointer (some ⟨w2.heap.size, 0, none⟩), .slice am ml.length cm] X fun r w' => ∃ ga gn gc, r = .returned (.slice ga gn gc) ∧ MailsAt w' (.slice ga gn gc) ml ∧ T5 W1 Q Q2 w2.heap.size U U2 w') := Lib.hid (fun Q Q2 X q => mail_5 q _ ml HM1.out hml)
  have HN6' : Hid (∀ Q Q2 X v, MailsAt X v ml ∧ T5 W1 Q Q2 w2.heap.size U U2 X → Calls Tryz.prog 11 #[.agg (bxA b), v, .int .i64 recent] X fun e w' => ∃ P, e = .returned (.pointer (some ⟨P, 0, none⟩)) ∧ T6 W1 P Q Q2 w2.heap.size U U2 w') := Lib.hid (fun Q Q2 X v q => new_6 q b recent hU hml)
  have HM6' : Hid (∀ Q Q2 P X, T6 W1 P Q Q2 w2.heap.size U U2 X → Calls Tryz.prog 12 #[.pointer (some ⟨w2.heap.size, 0, none⟩), .slice am ml.length cm] X fun r w' => ∃ ga gn gc, r = .returned (.slice ga gn gc) ∧ MailsAt w' (.slice ga gn gc) ml ∧ T6 W1 P Q Q2 w2.heap.size U U2 w') := Lib.hid (fun Q Q2 P X q => mail_6 q _ ml HM1.out hml)
  have HN7' : Hid (∀ Q Q2 P X v, MailsAt X v ml ∧ T6 W1 P Q Q2 w2.heap.size U U2 X → Calls Tryz.prog 11 #[.agg (bxA b2), v, .int .i64 (recent.tdiv 2)] X fun e w' => ∃ P2, e = .returned (.pointer (some ⟨P2, 0, none⟩)) ∧ H2 W1 [] P Q P2 Q2 w2.heap.size U U2 w') := Lib.hid (fun Q Q2 P X v q => new_7 q b2 (recent.tdiv 2) hU2 hml)
  have HPu : Hid (PVok U 300) := Lib.hid (by rw [← hU]; exact (newP_ok b.val (ml.map MLE.u) recent).mono (by simpa using hml))
  have HPu2 : Hid (PVok U2 300) := Lib.hid (by rw [← hU2]; exact (newP_ok b2.val (ml.map MLE.u) (recent.tdiv 2)).mono (by simpa using hml))
  have HB3 := Lib.hid (HBx.out w3 hb13)
  clear hss HC2 HL hb3 hd3 hb13 hD3 hU hU2 HB2
  go_upto_region 4 with fail
  (try rw [hw3])
  clear hw3
  go_upto_region 5 with (first | (refine wpList_load_row rfl 24 _ rfl W.heap.size rfl 24 _ (0, 0) _ HB3.out Tryz.underlying24 rfl (Tryz.sizeBx b) ?_) | (go_at_call 10; refine HN4.out.mono ?_; rintro e w4 ⟨Q, rfl, hv⟩; have H4 := Lib.hid hv; clear hv))
  have HB5 := Lib.hid (HBy.out _ (HB4.out _ _ H4.out))
  clear HN4 HB3
  go_upto_region 6 with (first | (refine wpList_load_row rfl 24 _ rfl (W0.heap.size) rfl 24 _ (0, 0) _ HB5.out Tryz.underlying24 rfl (Tryz.sizeBx b2) ?_) | (go_at_call 10; refine (HN5.out _ _ H4.out).mono ?_; rintro e w5 ⟨Q2, rfl, hv⟩; have H5d := Lib.hid hv.drew; clear hv))
  have HM5 := Lib.hid (HM5'.out Q Q2)
  have HN6 := Lib.hid (HN6'.out Q Q2)
  have HM6 := Lib.hid (HM6'.out Q Q2)
  have HN7 := Lib.hid (HN7'.out Q Q2)
  clear HN5 HB4 H4 HB5 HM5' HN6' HM6' HN7'
  refine wp_region_N 6 (fun X => Below W1.heap.size W1 X) (by kernel_rfl) ?_
  refine wpAnyN_take (i := 1) (oi := { dst := some 34, op := Go.Op.move (Go.Operand.tmp 11), type := 28, pos := "law.go:337", after := #[], guard := none }) (oL := { dst := some 14, op := Go.Op.assign (Go.Operand.tmp 38), type := 37, pos := "law.go:337", after := #[{ on := 5, ground := Go.Ground.data }, { on := 5, ground := Go.Ground.chain }, { on := 0, ground := Go.Ground.phase }, { on := 1, ground := Go.Ground.phase }, { on := 2, ground := Go.Ground.phase }, { on := 3, ground := Go.Ground.phase }, { on := 4, ground := Go.Ground.phase }, { on := 5, ground := Go.Ground.phase }], guard := none }) (v := .pointer (some ⟨w2.heap.size, 0, none⟩)) rfl rfl (by kernel_rfl) (by kernel_rfl) (by kernel_rfl) (by kernel_rfl) (fun _ _ _ h => h) (Or.inl ⟨by kernel_rfl, ?_⟩) H5d.out.base ?_
  · (intro X hX; obtain ⟨z0, z1, z2, z3, z4, z5, z6, z7⟩ := bx_cells (HBx.out X hX) <;> (go_simp; try (with_reducible rfl)))
  (try simp only [Act.put, List.setIfInBounds_toArray, List.set_cons_zero, List.set_cons_succ])
  refine wpAnyN_take (i := 2) (oi := { dst := some 35, op := Go.Op.move (Go.Operand.tmp 2), type := 25, pos := "law.go:337", after := #[], guard := none }) (oL := { dst := some 14, op := Go.Op.assign (Go.Operand.tmp 38), type := 37, pos := "law.go:337", after := #[{ on := 5, ground := Go.Ground.data }, { on := 5, ground := Go.Ground.chain }, { on := 0, ground := Go.Ground.phase }, { on := 1, ground := Go.Ground.phase }, { on := 2, ground := Go.Ground.phase }, { on := 3, ground := Go.Ground.phase }, { on := 4, ground := Go.Ground.phase }, { on := 5, ground := Go.Ground.phase }], guard := none }) (v := .slice am ml.length cm) rfl rfl (by kernel_rfl) (by kernel_rfl) (by kernel_rfl) (by kernel_rfl) (fun _ _ _ h => h) (Or.inl ⟨by kernel_rfl, ?_⟩) H5d.out.base ?_
  · (intro X hX; obtain ⟨z0, z1, z2, z3, z4, z5, z6, z7⟩ := bx_cells (HBx.out X hX) <;> (go_simp; try (with_reducible rfl)))
  (try simp only [Act.put, List.setIfInBounds_toArray, List.set_cons_zero, List.set_cons_succ])
  refine wpAnyN_take (i := 4) (oi := { dst := some 37, op := Go.Op.move (Go.Operand.tmp 3), type := 3, pos := "law.go:337", after := #[], guard := none }) (oL := { dst := some 14, op := Go.Op.assign (Go.Operand.tmp 38), type := 37, pos := "law.go:337", after := #[{ on := 5, ground := Go.Ground.data }, { on := 5, ground := Go.Ground.chain }, { on := 0, ground := Go.Ground.phase }, { on := 1, ground := Go.Ground.phase }, { on := 2, ground := Go.Ground.phase }, { on := 3, ground := Go.Ground.phase }, { on := 4, ground := Go.Ground.phase }, { on := 5, ground := Go.Ground.phase }], guard := none }) (v := .int .i64 recent) rfl rfl (by kernel_rfl) (by kernel_rfl) (by kernel_rfl) (by kernel_rfl) (fun _ _ _ h => h) (Or.inl ⟨by kernel_rfl, ?_⟩) H5d.out.base ?_
  · (intro X hX; obtain ⟨z0, z1, z2, z3, z4, z5, z6, z7⟩ := bx_cells (HBx.out X hX) <;> (go_simp; try (with_reducible rfl)))
  (try simp only [Act.put, List.setIfInBounds_toArray, List.set_cons_zero, List.set_cons_succ])
  refine wpAnyN_take (i := 0) (oi := { dst := some 33, op := Go.Op.load 24 (Go.Operand.tmp 5), type := 24, pos := "law.go:337", after := #[], guard := none }) (oL := { dst := some 14, op := Go.Op.assign (Go.Operand.tmp 38), type := 37, pos := "law.go:337", after := #[{ on := 5, ground := Go.Ground.data }, { on := 5, ground := Go.Ground.chain }, { on := 0, ground := Go.Ground.phase }, { on := 1, ground := Go.Ground.phase }, { on := 2, ground := Go.Ground.phase }, { on := 3, ground := Go.Ground.phase }, { on := 4, ground := Go.Ground.phase }, { on := 5, ground := Go.Ground.phase }], guard := none }) (v := .agg #[.string b.nm, .int .i64 b.val, .int .i64 b.nx, .int .i64 b.hi, .int .i64 b.co, .int .i64 b.un, b.vk, .bool b.sb]) rfl rfl (by kernel_rfl) (by kernel_rfl) (by kernel_rfl) (by kernel_rfl) (fun _ _ _ h => h) (Or.inl ⟨by kernel_rfl, ?_⟩) H5d.out.base ?_
  · (intro X hX; obtain ⟨z0, z1, z2, z3, z4, z5, z6, z7⟩ := bx_cells (HBx.out X hX) <;> (go_simp; try (with_reducible rfl)))
  (try simp only [Act.put, List.setIfInBounds_toArray, List.set_cons_zero, List.set_cons_succ])
  refine wpAnyN_one (i := 3) (o := { dst := some 36, op := Go.Op.call { callee := Go.Callee.value (Go.Operand.func 12), args := #[Go.Operand.tmp 34, Go.Operand.tmp 35], argTypes := #[28, 25] }, type := 25, pos := "law.go:337", after := #[{ on := 1, ground := Go.Ground.data }, { on := 2, ground := Go.Ground.data }], guard := none }) (by kernel_rfl) rfl (fun K hK => ?_)
  go_simp
  refine (HM5.out _ H5d.out).mono ?_
  rintro r w6 ⟨ga, gn, gc, rfl, hv⟩
  have H6 := Lib.hid hv
  clear hv
  refine hK.out _ _ (fun _ => H6.out.2.base) ?_
  clear hK K
  (try simp only [Act.put, List.setIfInBounds_toArray, List.set_cons_zero, List.set_cons_succ])
  refine wpAnyN_one (i := 5) (o := { dst := some 38, op := Go.Op.call { callee := Go.Callee.value (Go.Operand.func 11), args := #[Go.Operand.tmp 33, Go.Operand.tmp 36, Go.Operand.tmp 37], argTypes := #[24, 25, 3] }, type := 37, pos := "law.go:337", after := #[{ on := 0, ground := Go.Ground.data }, { on := 3, ground := Go.Ground.data }, { on := 4, ground := Go.Ground.data }, { on := 3, ground := Go.Ground.chain }], guard := none }) (by kernel_rfl) rfl (fun K hK => ?_)
  go_simp
  refine (HN6.out _ _ H6.out).mono ?_
  rintro r w7 ⟨P, rfl, hv⟩
  have H7 := Lib.hid hv
  clear hv
  refine hK.out _ _ (fun _ => H7.out.base) ?_
  clear hK K
  (try simp only [Act.put, List.setIfInBounds_toArray, List.set_cons_zero, List.set_cons_succ])
  refine wpAnyN_one (i := 6) (o := { dst := some 14, op := Go.Op.assign (Go.Operand.tmp 38), type := 37, pos := "law.go:337", after := #[{ on := 5, ground := Go.Ground.data }, { on := 5, ground := Go.Ground.chain }, { on := 0, ground := Go.Ground.phase }, { on := 1, ground := Go.Ground.phase }, { on := 2, ground := Go.Ground.phase }, { on := 3, ground := Go.Ground.phase }, { on := 4, ground := Go.Ground.phase }, { on := 5, ground := Go.Ground.phase }], guard := none }) (by kernel_rfl) rfl (fun K hK => ?_)
  go_simp
  refine hK.out _ _ (fun e => absurd (e.symm.trans (by kernel_rfl) : false = true) Bool.false_ne_true) ?_
  clear hK K
  (try simp only [Act.put, List.setIfInBounds_toArray, List.set_cons_zero, List.set_cons_succ])
  refine wpAnyN_of_H (S' := fun _ => True) _ _ _ _ (by kernel_rfl) ?_
  refine wpAnyH_done (by kernel_rfl) ?_ _
  have H7d := Lib.hid H7.out.drew
  clear HM5 HN6 H6 H5d H7
  go_upto_region 7 with fail
  refine wp_region_N 7 (fun X => Below W1.heap.size W1 X) (by kernel_rfl) ?_
  refine wpAnyN_take (i := 1) (oi := { dst := some 40, op := Go.Op.move (Go.Operand.tmp 11), type := 28, pos := "law.go:338", after := #[], guard := none }) (oL := { dst := some 15, op := Go.Op.assign (Go.Operand.tmp 45), type := 37, pos := "law.go:338", after := #[{ on := 6, ground := Go.Ground.data }, { on := 6, ground := Go.Ground.chain }, { on := 0, ground := Go.Ground.phase }, { on := 1, ground := Go.Ground.phase }, { on := 2, ground := Go.Ground.phase }, { on := 3, ground := Go.Ground.phase }, { on := 4, ground := Go.Ground.phase }, { on := 5, ground := Go.Ground.phase }, { on := 6, ground := Go.Ground.phase }], guard := none }) (v := .pointer (some ⟨w2.heap.size, 0, none⟩)) rfl rfl (by kernel_rfl) (by kernel_rfl) (by kernel_rfl) (by kernel_rfl) (fun _ _ _ h => h) (Or.inl ⟨by kernel_rfl, ?_⟩) H7d.out.base ?_
  · (intro X hX; obtain ⟨z0, z1, z2, z3, z4, z5, z6, z7⟩ := bx_cells (HBy.out X hX) <;> (go_simp; try (with_reducible rfl)))
  (try simp only [Act.put, List.setIfInBounds_toArray, List.set_cons_zero, List.set_cons_succ])
  refine wpAnyN_take (i := 2) (oi := { dst := some 41, op := Go.Op.move (Go.Operand.tmp 2), type := 25, pos := "law.go:338", after := #[], guard := none }) (oL := { dst := some 15, op := Go.Op.assign (Go.Operand.tmp 45), type := 37, pos := "law.go:338", after := #[{ on := 6, ground := Go.Ground.data }, { on := 6, ground := Go.Ground.chain }, { on := 0, ground := Go.Ground.phase }, { on := 1, ground := Go.Ground.phase }, { on := 2, ground := Go.Ground.phase }, { on := 3, ground := Go.Ground.phase }, { on := 4, ground := Go.Ground.phase }, { on := 5, ground := Go.Ground.phase }, { on := 6, ground := Go.Ground.phase }], guard := none }) (v := .slice am ml.length cm) rfl rfl (by kernel_rfl) (by kernel_rfl) (by kernel_rfl) (by kernel_rfl) (fun _ _ _ h => h) (Or.inl ⟨by kernel_rfl, ?_⟩) H7d.out.base ?_
  · (intro X hX; obtain ⟨z0, z1, z2, z3, z4, z5, z6, z7⟩ := bx_cells (HBy.out X hX) <;> (go_simp; try (with_reducible rfl)))
  (try simp only [Act.put, List.setIfInBounds_toArray, List.set_cons_zero, List.set_cons_succ])
  refine wpAnyN_take (i := 4) (oi := { dst := some 43, op := Go.Op.move (Go.Operand.tmp 3), type := 3, pos := "law.go:338", after := #[], guard := none }) (oL := { dst := some 15, op := Go.Op.assign (Go.Operand.tmp 45), type := 37, pos := "law.go:338", after := #[{ on := 6, ground := Go.Ground.data }, { on := 6, ground := Go.Ground.chain }, { on := 0, ground := Go.Ground.phase }, { on := 1, ground := Go.Ground.phase }, { on := 2, ground := Go.Ground.phase }, { on := 3, ground := Go.Ground.phase }, { on := 4, ground := Go.Ground.phase }, { on := 5, ground := Go.Ground.phase }, { on := 6, ground := Go.Ground.phase }], guard := none }) (v := .int .i64 recent) rfl rfl (by kernel_rfl) (by kernel_rfl) (by kernel_rfl) (by kernel_rfl) (fun _ _ _ h => h) (Or.inl ⟨by kernel_rfl, ?_⟩) H7d.out.base ?_
  · (intro X hX; obtain ⟨z0, z1, z2, z3, z4, z5, z6, z7⟩ := bx_cells (HBy.out X hX) <;> (go_simp; try (with_reducible rfl)))
  (try simp only [Act.put, List.setIfInBounds_toArray, List.set_cons_zero, List.set_cons_succ])
  refine wpAnyN_take (i := 5) (oi := { dst := some 44, op := Go.Op.binOp Go.BinOp.quo 3 (Go.Operand.tmp 43) (Go.Operand.const (Go.Value.int Go.IntKind.i64 2)) 3, type := 3, pos := "law.go:338", after := #[{ on := 4, ground := Go.Ground.data }], guard := none }) (oL := { dst := some 15, op := Go.Op.assign (Go.Operand.tmp 45), type := 37, pos := "law.go:338", after := #[{ on := 6, ground := Go.Ground.data }, { on := 6, ground := Go.Ground.chain }, { on := 0, ground := Go.Ground.phase }, { on := 1, ground := Go.Ground.phase }, { on := 2, ground := Go.Ground.phase }, { on := 3, ground := Go.Ground.phase }, { on := 4, ground := Go.Ground.phase }, { on := 5, ground := Go.Ground.phase }, { on := 6, ground := Go.Ground.phase }], guard := none }) (v := .int .i64 (recent.tdiv 2)) rfl rfl (by kernel_rfl) (by kernel_rfl) (by kernel_rfl) (by kernel_rfl) (fun _ _ _ h => h) (Or.inl ⟨by kernel_rfl, ?_⟩) H7d.out.base ?_
  · (intro X hX; obtain ⟨z0, z1, z2, z3, z4, z5, z6, z7⟩ := bx_cells (HBy.out X hX) <;> (go_simp; try (with_reducible rfl)))
  (try simp only [Act.put, List.setIfInBounds_toArray, List.set_cons_zero, List.set_cons_succ])
  refine wpAnyN_take (i := 0) (oi := { dst := some 39, op := Go.Op.load 24 (Go.Operand.tmp 6), type := 24, pos := "law.go:338", after := #[], guard := none }) (oL := { dst := some 15, op := Go.Op.assign (Go.Operand.tmp 45), type := 37, pos := "law.go:338", after := #[{ on := 6, ground := Go.Ground.data }, { on := 6, ground := Go.Ground.chain }, { on := 0, ground := Go.Ground.phase }, { on := 1, ground := Go.Ground.phase }, { on := 2, ground := Go.Ground.phase }, { on := 3, ground := Go.Ground.phase }, { on := 4, ground := Go.Ground.phase }, { on := 5, ground := Go.Ground.phase }, { on := 6, ground := Go.Ground.phase }], guard := none }) (v := .agg #[.string b2.nm, .int .i64 b2.val, .int .i64 b2.nx, .int .i64 b2.hi, .int .i64 b2.co, .int .i64 b2.un, b2.vk, .bool b2.sb]) rfl rfl (by kernel_rfl) (by kernel_rfl) (by kernel_rfl) (by kernel_rfl) (fun _ _ _ h => h) (Or.inl ⟨by kernel_rfl, ?_⟩) H7d.out.base ?_
  · (intro X hX; obtain ⟨z0, z1, z2, z3, z4, z5, z6, z7⟩ := bx_cells (HBy.out X hX) <;> (go_simp; try (with_reducible rfl)))
  (try simp only [Act.put, List.setIfInBounds_toArray, List.set_cons_zero, List.set_cons_succ])
  refine wpAnyN_one (i := 3) (o := { dst := some 42, op := Go.Op.call { callee := Go.Callee.value (Go.Operand.func 12), args := #[Go.Operand.tmp 40, Go.Operand.tmp 41], argTypes := #[28, 25] }, type := 25, pos := "law.go:338", after := #[{ on := 1, ground := Go.Ground.data }, { on := 2, ground := Go.Ground.data }], guard := none }) (by kernel_rfl) rfl (fun K hK => ?_)
  go_simp
  refine (HM6.out _ _ H7d.out).mono ?_
  rintro r w8 ⟨ga8, gn8, gc8, rfl, hv⟩
  have H8 := Lib.hid hv
  clear hv
  refine hK.out _ _ (fun _ => H8.out.2.base) ?_
  clear hK K
  (try simp only [Act.put, List.setIfInBounds_toArray, List.set_cons_zero, List.set_cons_succ])
  refine wpAnyN_one (i := 6) (o := { dst := some 45, op := Go.Op.call { callee := Go.Callee.value (Go.Operand.func 11), args := #[Go.Operand.tmp 39, Go.Operand.tmp 42, Go.Operand.tmp 44], argTypes := #[24, 25, 3] }, type := 37, pos := "law.go:338", after := #[{ on := 0, ground := Go.Ground.data }, { on := 3, ground := Go.Ground.data }, { on := 5, ground := Go.Ground.data }, { on := 3, ground := Go.Ground.chain }], guard := none }) (by kernel_rfl) rfl (fun K hK => ?_)
  go_simp
  refine (HN7.out _ _ _ H8.out).mono ?_
  rintro r w9 ⟨P2, rfl, hv⟩
  have H9 := Lib.hid hv
  clear hv
  refine hK.out _ _ (fun _ => H9.out.base) ?_
  clear hK K
  (try simp only [Act.put, List.setIfInBounds_toArray, List.set_cons_zero, List.set_cons_succ])
  refine wpAnyN_one (i := 7) (o := { dst := some 15, op := Go.Op.assign (Go.Operand.tmp 45), type := 37, pos := "law.go:338", after := #[{ on := 6, ground := Go.Ground.data }, { on := 6, ground := Go.Ground.chain }, { on := 0, ground := Go.Ground.phase }, { on := 1, ground := Go.Ground.phase }, { on := 2, ground := Go.Ground.phase }, { on := 3, ground := Go.Ground.phase }, { on := 4, ground := Go.Ground.phase }, { on := 5, ground := Go.Ground.phase }, { on := 6, ground := Go.Ground.phase }], guard := none }) (by kernel_rfl) rfl (fun K hK => ?_)
  go_simp
  refine hK.out _ _ (fun e => absurd (e.symm.trans (by kernel_rfl) : false = true) Bool.false_ne_true) ?_
  clear hK K
  (try simp only [Act.put, List.setIfInBounds_toArray, List.set_cons_zero, List.set_cons_succ])
  refine wpAnyN_of_H (S' := fun _ => True) _ _ _ _ (by kernel_rfl) ?_
  refine wpAnyH_done (by kernel_rfl) ?_ _
  clear HM6 HN7 H8 H7d HBx HBy
  go_upto_region 11 with fail
  go_loopw [16] (fun i wr => ∃ (k : Nat) (V V2 : PV), k ≤ S.length ∧ i = .int .i64 k ∧ H2 W1 [] P Q P2 Q2 w2.heap.size V V2 wr ∧ PVok V (300 + 301 * k) ∧ PVok V2 (300 + 301 * k)) (fun i _ => S.length - (intOf i).toNat)
  case atStart => exact ⟨0, U, U2, Nat.zero_le _, rfl, H9.out, HPu.out, HPu2.out⟩
  case round =>
    obtain ⟨k, V, V2, hk, rfl, hh, hpk, hpk2⟩ := hrel
    by_cases hlt : k < S.length
    · have hlti : (k : Int) < (S.length : Int) := by omega
      obtain ⟨⟨a1, c1, e1, hx1⟩, hok⟩ := HS.out
      obtain ⟨rfl, rfl⟩ : a1 = ax ∧ c1 = cx := by injection e1 with p1 p2 p3; exact ⟨p1.symm, p3.symm⟩
      clear e1
      obtain ⟨g, off, rfl, hg, hc⟩ := hx1 (by omega)
      have hcr := hc k hlt
      have hse := getD_memS hlt
      have hso := hok _ hse
      have hsx := HX.out _ hse
      obtain ⟨hsh, hsf⟩ := HSS.out _ hse
      obtain ⟨sx, hes⟩ : ∃ sx, S.getD k ST0 = sx := ⟨_, rfl⟩
      rw [hes] at hcr hso hsh hsf hsx
      have HRn : Hid (wr.rangeAt g (off + k * 26) (stL sx)) := Lib.hid (fun j u hj => by
        rw [hh.base.cell (p := ⟨g, off + k * 26 + j, none⟩) hg]
        exact hcr j u hj)
      have HOne : Hid ((stL sx).toArray.all (·.oneCell') = true) := Lib.hid (all_oneCell_toArray hso.one)
      obtain ⟨Y, hY⟩ : ∃ Y, (wr.alloc (.cells #[.int .i64 0, .int .i64 0, .int .i64 0, .int .i64 0, .int .i64 0, .int .i64 0, .int .i64 0, .string ⟨#[]⟩, .slice none 0 0, .slice none 0 0, .slice none 0 0, .slice none 0 0, .int .i64 0, .int .i64 0, .int .i64 0, .int .i64 0, .int .i64 0, .int .i64 0, .int .i64 0, .string ⟨#[]⟩, .bool false, .int .i64 0, .int .i64 0, .slice none 0 0, .bool false, .int .i64 0] 45)).setRow wr.heap.size (stL sx).toArray = Y := ⟨_, rfl⟩
      obtain ⟨hbY, hYn⟩ := box_below hY
      have hW1s : W1.heap.size ≤ wr.heap.size := hh.base.size
      have HY2 : Hid (H2 W1 [(wr.heap.size, .cells (stL sx).toArray 45 (0, 0))] P Q P2 Q2 w2.heap.size V V2 Y) := Lib.hid (hh.add hbY (Nat.le_refl _) hYn)
      have HY := Lib.hid hY
      have HPk := Lib.hid hpk
      have HPk2 := Lib.hid hpk2
      have HSo := Lib.hid hso
      have HSh := Lib.hid hsh
      have HSf := Lib.hid hsf
      have HSx := Lib.hid hsx
      clear hok hse hso hsh hsf hsx hcr hc hx1 hes hpk hpk2 hh hbY hYn hY
      go_upto_region 14 with (first | (refine wpList_load_mid rfl 45 _ rfl g (off + k * 26) rfl _ _ HRn.out Tryz.underlying45 rfl (Tryz.sizeSt sx) ?_) | (refine wpList_store_row rfl 45 _ _ rfl wr.heap.size (stL sx).toArray rfl rfl 45 _ (heap_new _ _) (Tryz.sizeStA sx) rfl HOne.out ?_))
      (try rw [HY.out])
      clear HY HRn HOne
      generalize wr.heap.size = xb at *
      obtain ⟨y0, y20, _, _, _, _, _⟩ := stL_at HY2.out.box
      have y1 : Y.cell? ⟨xb, 1, none⟩ = some (.int .i64 sx.on) := cell_of HY2.out.box 1
      by_cases k1 : sx.kind = 1
      ·
        as_aux_lemma =>
          have HP1 : Hid (PVok (actV V sx) (300 + 301 * (k + 1))) := Lib.hid ((actV_ok HPk.out sx HSh.out).mono (by omega))
          obtain ⟨sy, hsy⟩ : ∃ sy, ({ sx with own := !sx.own } : ST) = sy := ⟨_, rfl⟩
          have HP2 : Hid (PVok (actV V2 sy) (300 + 301 * (k + 1))) := Lib.hid ((actV_ok HPk2.out sy (by rw [← hsy]; exact ⟨HSh.out.us, HSh.out.ms, HSh.out.st⟩)).mono (by omega))
          have HSt1 := Lib.hid (step_2 HY2.out HPk.out (by omega) sx HSo.out HSh.out HSx.out HSf.out 15 (by decide))
          have HSt2 : Hid (∀ X, H2 W1 [(xb, .cells (stL sy).toArray 45 (0, 0))] P Q P2 Q2 w2.heap.size (actV V sx) V2 X → Calls Tryz.prog 13 #[.pointer (some ⟨P2, 0, none⟩), .pointer (some ⟨Q2, 0, none⟩), .pointer (some ⟨w2.heap.size, 0, none⟩), .agg (stL sy).toArray, .int .i64 15] X fun e w' => e = .returned (.bool true) ∧ H2 W1 [(xb, .cells (stL sy).toArray 45 (0, 0))] P Q P2 Q2 w2.heap.size (actV V sx) (actV V2 sy) w') := Lib.hid (fun X q => (step_2 q.swap HPk2.out (by omega) sy (by rw [← hsy]; exact HSo.out.turn _) (by rw [← hsy]; exact ⟨HSh.out.us, HSh.out.ms, HSh.out.st⟩) (by rw [← hsy]; exact HSx.out) (by rw [← hsy]; exact HSf.out) 15 (by decide)).mono (fun _ _ ⟨q1, q2⟩ => ⟨q1, q2.swap⟩))
          have HPut : Hid (∀ X, H2 W1 [(xb, .cells (stL sx).toArray 45 (0, 0))] P Q P2 Q2 w2.heap.size (actV V sx) V2 X → H2 W1 [(xb, .cells (stL sy).toArray 45 (0, 0))] P Q P2 Q2 w2.heap.size (actV V sx) V2 (X.setCell ⟨xb, 20, none⟩ (.bool (!sx.own)))) := Lib.hid (fun X q => q.putK (Stays.setCell (p := ⟨xb, 20, none⟩) (Stays.refl _ _) (.inl (by simp)) _) hW1s (by rw [heap_setCell_at _ q.box, ← hsy]; rfl))
          have HRow := Lib.hid HY2.out.box
          rw [k1] at y0
          clear k1 hsy hW1s
          go_upto_region 17 with fail
          go_upto_region 18 with (first | (refine wpList_load_row rfl 45 _ rfl xb rfl 45 _ (0, 0) _ HRow.out Tryz.underlying45 rfl (Tryz.sizeStA sx) ?_) | (go_at_call 13; refine HSt1.out.mono ?_; rintro e v1 ⟨rfl, hv⟩; have HA1 := Lib.hid hv; clear hv))
          clear HSt1 HRow y0 y1 y20
          obtain ⟨_, u20, _⟩ := stL_at HA1.out.box
          have uf : v1.frozen? ⟨xb, 20, none⟩ = false := frozen_of HA1.out.box 20
          have HA2 := Lib.hid (HPut.out _ HA1.out)
          clear HPut HA1 HY2
          go_upto_region 19 with fail
          obtain ⟨Z, hZ⟩ : ∃ Z, v1.setCell ⟨xb, 20, none⟩ (.bool (!sx.own)) = Z := ⟨_, rfl⟩
          rw [hZ] at HA2 ⊢
          clear hZ u20 uf
          have HRow2 := Lib.hid HA2.out.box
          go_upto_region 22 with (first | (refine wpList_load_rowG 45 _ rfl xb rfl 45 _ (0, 0) _ HRow2.out Tryz.underlying45 rfl (Tryz.sizeStA sy) (by kernel_rfl) ?_) | (go_at_call 13; refine (HSt2.out _ HA2.out).mono ?_; rintro e v2 ⟨rfl, hv⟩; have HA3 := Lib.hid hv; clear hv))
          clear HSt2 HRow2 HA2
          have HPa := HP1
          have HPb := HP2
          clear HP1 HP2
          have HU1 := Lib.hid (uids_2 HA3.out HPa.out (by omega))
          have HV2 : Hid (∀ X, H2 W1 [(xb, .cells (stL sy).toArray 45 (0, 0))] P Q P2 Q2 w2.heap.size (actV V sx) (actV V2 sy) X → Calls Tryz.prog 15 #[.pointer (some ⟨P2, 0, none⟩)] X fun e w1 => ∃ a c n, e = .returned (.slice a n c) ∧ Calls Tryz.prog 16 #[.pointer (some ⟨Q2, 0, none⟩)] w1 fun e w2' => ∃ a2 c2 n2, e = .returned (.slice a2 n2 c2) ∧ Calls Tryz.prog 14 #[.slice a n c, .slice a2 n2 c2] w2' fun e w3 => e = .returned (.bool true) ∧ H2 W1 [(xb, .cells (stL sy).toArray 45 (0, 0))] P2 Q2 P Q w2.heap.size (actV V2 sy) (actV V sx) w3) := Lib.hid (fun X q => uids_2 q.swap HPb.out (by omega))
          clear HA3
          go_wp2_with (first | (go_at_call 15; first | (have hq := HU4; clear hq; refine HU4.out.mono ?_; rintro e y1 ⟨a1, c1, n1, rfl, hv⟩; have HU5 := Lib.hid hv; clear hv) | (refine HU1.out.mono ?_; rintro e x1 ⟨a1, c1, n1, rfl, hv⟩; have HU2 := Lib.hid hv; clear hv)) | (go_at_call 16; first | (have hq := HU5; clear hq; refine HU5.out.mono ?_; rintro e y2 ⟨a2, c2, n2, rfl, hv⟩; have HU6 := Lib.hid hv; clear hv) | (refine HU2.out.mono ?_; rintro e x2 ⟨a2, c2, n2, rfl, hv⟩; have HU3 := Lib.hid hv; clear hv)) | (go_at_call 14; first | (have hq := HU6; clear hq; refine HU6.out.mono ?_; rintro e y3 ⟨rfl, hv⟩; have HEnd := Lib.hid hv.swap; clear hv) | (refine HU3.out.mono ?_; rintro e x3 ⟨rfl, hv⟩; have HU4 := Lib.hid (HV2.out _ hv); clear hv)))
          go_roundw
          case rel => exact ⟨k + 1, _, _, by omega, by go_num, HEnd.out.drop, HPa.out, HPb.out⟩
          case measure => simp [intOf]; omega
      · have b1 : (sx.kind == 1) = false := by simpa using k1
        have HRow := Lib.hid HY2.out.box
        by_cases ev : sx.on.tmod 2 = 0
        ·
          as_aux_lemma =>
            have bo : (sx.on.tmod 2 == 0) = true := by simpa using ev
            have HPa : Hid (PVok (actV V sx) (300 + 301 * (k + 1))) := Lib.hid ((actV_ok HPk.out sx HSh.out).mono (by omega))
            have HPb : Hid (PVok V2 (300 + 301 * (k + 1))) := Lib.hid (HPk2.out.mono (by omega))
            have HSt1 := Lib.hid (step_2 HY2.out HPk.out (by omega) sx HSo.out HSh.out HSx.out HSf.out 15 (by decide))
            clear k1 ev hW1s
            generalize sx.kind = kk at y0 b1
            generalize sx.on = oo at y1 bo
            go_upto_region 22 with (first | (refine wpList_load_row rfl 45 _ rfl xb rfl 45 _ (0, 0) _ HRow.out Tryz.underlying45 rfl (Tryz.sizeStA sx) ?_) | (go_at_call 13; refine HSt1.out.mono ?_; rintro e v1 ⟨rfl, hv⟩; have HA1 := Lib.hid hv; clear hv))
            clear HSt1 HRow y0 y1 y20 HY2 b1 bo
            have HU1 := Lib.hid (uids_2 HA1.out HPa.out (by omega))
            have HV2 : Hid (∀ X, H2 W1 [(xb, .cells (stL sx).toArray 45 (0, 0))] P Q P2 Q2 w2.heap.size (actV V sx) V2 X → Calls Tryz.prog 15 #[.pointer (some ⟨P2, 0, none⟩)] X fun e w1 => ∃ a c n, e = .returned (.slice a n c) ∧ Calls Tryz.prog 16 #[.pointer (some ⟨Q2, 0, none⟩)] w1 fun e w2' => ∃ a2 c2 n2, e = .returned (.slice a2 n2 c2) ∧ Calls Tryz.prog 14 #[.slice a n c, .slice a2 n2 c2] w2' fun e w3 => e = .returned (.bool true) ∧ H2 W1 [(xb, .cells (stL sx).toArray 45 (0, 0))] P2 Q2 P Q w2.heap.size V2 (actV V sx) w3) := Lib.hid (fun X q => uids_2 q.swap HPb.out (by omega))
            clear HA1
            go_wp2_with (first | (go_at_call 15; first | (have hq := HU4; clear hq; refine HU4.out.mono ?_; rintro e y1 ⟨a1, c1, n1, rfl, hv⟩; have HU5 := Lib.hid hv; clear hv) | (refine HU1.out.mono ?_; rintro e x1 ⟨a1, c1, n1, rfl, hv⟩; have HU2 := Lib.hid hv; clear hv)) | (go_at_call 16; first | (have hq := HU5; clear hq; refine HU5.out.mono ?_; rintro e y2 ⟨a2, c2, n2, rfl, hv⟩; have HU6 := Lib.hid hv; clear hv) | (refine HU2.out.mono ?_; rintro e x2 ⟨a2, c2, n2, rfl, hv⟩; have HU3 := Lib.hid hv; clear hv)) | (go_at_call 14; first | (have hq := HU6; clear hq; refine HU6.out.mono ?_; rintro e y3 ⟨rfl, hv⟩; have HEnd := Lib.hid hv.swap; clear hv) | (refine HU3.out.mono ?_; rintro e x3 ⟨rfl, hv⟩; have HU4 := Lib.hid (HV2.out _ hv); clear hv)))
            go_roundw
            case rel => exact ⟨k + 1, _, _, by omega, by go_num, HEnd.out.drop, HPa.out, HPb.out⟩
            case measure => simp [intOf]; omega
        ·
          as_aux_lemma =>
            have bo : (sx.on.tmod 2 == 0) = false := by simpa using ev
            have HPb : Hid (PVok (actV V2 sx) (300 + 301 * (k + 1))) := Lib.hid ((actV_ok HPk2.out sx HSh.out).mono (by omega))
            have HPa : Hid (PVok V (300 + 301 * (k + 1))) := Lib.hid (HPk.out.mono (by omega))
            have HSt1 := Lib.hid (step_2 HY2.out.swap HPk2.out (by omega) sx HSo.out HSh.out HSx.out HSf.out 15 (by decide))
            clear k1 ev hW1s
            generalize sx.kind = kk at y0 b1
            generalize sx.on = oo at y1 bo
            go_upto_region 22 with (first | (refine wpList_load_row rfl 45 _ rfl xb rfl 45 _ (0, 0) _ HRow.out Tryz.underlying45 rfl (Tryz.sizeStA sx) ?_) | (go_at_call 13; refine HSt1.out.mono ?_; rintro e v1 ⟨rfl, hv⟩; have HA1 := Lib.hid hv.swap; clear hv))
            clear HSt1 HRow y0 y1 y20 HY2 b1 bo
            have HU1 := Lib.hid (uids_2 HA1.out HPa.out (by omega))
            have HV2 : Hid (∀ X, H2 W1 [(xb, .cells (stL sx).toArray 45 (0, 0))] P Q P2 Q2 w2.heap.size V (actV V2 sx) X → Calls Tryz.prog 15 #[.pointer (some ⟨P2, 0, none⟩)] X fun e w1 => ∃ a c n, e = .returned (.slice a n c) ∧ Calls Tryz.prog 16 #[.pointer (some ⟨Q2, 0, none⟩)] w1 fun e w2' => ∃ a2 c2 n2, e = .returned (.slice a2 n2 c2) ∧ Calls Tryz.prog 14 #[.slice a n c, .slice a2 n2 c2] w2' fun e w3 => e = .returned (.bool true) ∧ H2 W1 [(xb, .cells (stL sx).toArray 45 (0, 0))] P2 Q2 P Q w2.heap.size (actV V2 sx) V w3) := Lib.hid (fun X q => uids_2 q.swap HPb.out (by omega))
            clear HA1
            go_wp2_with (first | (go_at_call 15; first | (have hq := HU4; clear hq; refine HU4.out.mono ?_; rintro e y1 ⟨a1, c1, n1, rfl, hv⟩; have HU5 := Lib.hid hv; clear hv) | (refine HU1.out.mono ?_; rintro e x1 ⟨a1, c1, n1, rfl, hv⟩; have HU2 := Lib.hid hv; clear hv)) | (go_at_call 16; first | (have hq := HU5; clear hq; refine HU5.out.mono ?_; rintro e y2 ⟨a2, c2, n2, rfl, hv⟩; have HU6 := Lib.hid hv; clear hv) | (refine HU2.out.mono ?_; rintro e x2 ⟨a2, c2, n2, rfl, hv⟩; have HU3 := Lib.hid hv; clear hv)) | (go_at_call 14; first | (have hq := HU6; clear hq; refine HU6.out.mono ?_; rintro e y3 ⟨rfl, hv⟩; have HEnd := Lib.hid hv.swap; clear hv) | (refine HU3.out.mono ?_; rintro e x3 ⟨rfl, hv⟩; have HU4 := Lib.hid (HV2.out _ hv); clear hv)))
            go_roundw
            case rel => exact ⟨k + 1, _, _, by omega, by go_num, HEnd.out.drop, HPa.out, HPb.out⟩
            case measure => simp [intOf]; omega
    · obtain rfl : k = S.length := by omega
      as_aux_lemma =>
        have HH1 := Lib.hid hh
        have HPk := Lib.hid hpk
        have HPk2 := Lib.hid hpk2
        have HSl : Hid (300 + 301 * S.length ≤ 1000000) := Lib.hid (by omega)
        clear hh hpk hpk2
        go_wp2_with (first | (go_at_call 17; first | (have hq := HJ1; clear hq; refine (stands_2 HJ1.out.swap HPk2.out HSl.out).mono ?_; rintro e x2 ⟨rfl, hv⟩; have HJ2 := Lib.hid hv.base; clear hv) | (refine (stands_2 HH1.out HPk.out HSl.out).mono ?_; rintro e x1 ⟨rfl, hv⟩; have HJ1 := Lib.hid hv; clear hv)) | (go_at_call 18; refine (known_any _).mono ?_; rintro e x3 ⟨rfl, hv⟩; have HJ3 := Lib.hid (HJ2.out.trans (hv.mono HJ2.out.size)); clear hv))
        go_ret
        exact ⟨rfl, HFin.out _ HJ3.out⟩
end Go.Proofs.YtmedpcldfpfpnaaGreat
