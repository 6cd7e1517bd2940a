/- The house: a view, the document's view, the law's desk, apart from one another. -/
import Derived.Test.YtflkhnmggmfhfaaGreatD16g
import Derived.Test.YtflkhnmggmfhfaaGreatR16i
import Derived.Test.YtflkhnmggmfhfaaGreatR16l
import Derived.Test.YtflkhnmggmfhfaaGreatR16n
import Derived.Test.YtflkhnmggmfhfaaGreatR16r
namespace Go.Proofs.YtflkhnmggmfhfaaGreat
open Go.RowKit

def Apt (a b : List Nat) : Prop := ∀ x, x ∈ a → x ∉ b
theorem apt_new {f f' g : List Nat} {z : Nat} (h : Apt f g) (hf : ∀ b, b ∈ f' → b ∈ f ∨ z ≤ b) (hg : ∀ b ∈ g, b < z) : Apt f' g := fun x hx hy => by
  rcases hf x hx with e | e
  · exact h x e hy
  · have := hg x hy; omega
theorem apt_new2 {f g g' : List Nat} {z : Nat} (h : Apt f g) (hf : ∀ b, b ∈ g' → b ∈ g ∨ z ≤ b) (hg : ∀ b ∈ f, b < z) : Apt f g' := fun x hx hy => by
  rcases hf x hy with e | e
  · exact h x hx e
  · have := hg x hx; omega
structure HO (W : World) (K : List (Nat × Obj)) (P Q D : Nat) (V U : PV) (fv fr : List Nat) (vd : DV) (c : DC) (w : World) : Prop where
  view : VW P V fv w
  ref : RW Q U fr w
  desk : DK D vd c w
  ok : DB c
  vr : Apt fv fr
  vk : Apt fv (fpD D vd c.F)
  rk : Apt fr (fpD D vd c.F)
  lv : ∀ b ∈ fv, W.heap.size ≤ b
  lr : ∀ b ∈ fr, W.heap.size ≤ b
  lk : ∀ b ∈ fpD D vd c.F, W.heap.size ≤ b
  base : Below W.heap.size W w
  kp : ∀ p ∈ K, w.heap[p.1]? = some p.2 ∧ p.1 ∉ fv ∧ p.1 ∉ fr ∧ p.1 ∉ fpD D vd c.F
section
variable {W w w' : World} {K : List (Nat × Obj)} {P Q D : Nat} {V U V' U' : PV} {fv fr fv' fr' : List Nat} {vd vd' : DV} {c c' : DC}
theorem HO.on (h : HO W K P Q D V U fv fr vd c w) (hb : Below w.heap.size w w') : HO W K P Q D V U fv fr vd c w' :=
  ⟨h.view.on hb, h.ref.on hb, h.desk.on hb, h.ok, h.vr, h.vk, h.rk, h.lv, h.lr, h.lk, h.base.trans (hb.mono h.base.size), fun p hp => by
    obtain ⟨q1, q2⟩ := h.kp p hp
    exact ⟨by rw [hb.block _ (lt_of_heap q1)]; exact q1, q2⟩⟩
theorem HO.toV (h : HO W K P Q D V U fv fr vd c w) (hv : VW P V' fv' w') (hf : FO fv fv' w w') : HO W K P Q D V' U fv' fr vd c w' :=
  ⟨hv, h.ref.hold (fun b hb => hf.keep (h.ref.lt hb) (fun e => h.vr b e hb)), h.desk.hold (fun b hb => hf.keep (h.desk.lt hb) (fun e => h.vk b e hb)), h.ok, apt_new h.vr hf.2 (fun _ hb => h.ref.lt hb), apt_new h.vk hf.2 (fun _ hb => h.desk.lt hb), h.rk, (fo_below h.base h.lv hf).2, h.lr, h.lk, (fo_below h.base h.lv hf).1, fun p hp => by
    obtain ⟨q1, q2, q3, q4⟩ := h.kp p hp
    exact ⟨by rw [hf.keep (lt_of_heap q1) q2]; exact q1, hf.out (lt_of_heap q1) q2, q3, q4⟩⟩
theorem HO.toR (h : HO W K P Q D V U fv fr vd c w) (hv : RW Q U' fr' w') (hf : FO fr fr' w w') : HO W K P Q D V U' fv fr' vd c w' :=
  ⟨h.view.hold (fun b hb => hf.keep (h.view.lt hb) (fun e => h.vr b hb e)), hv, h.desk.hold (fun b hb => hf.keep (h.desk.lt hb) (fun e => h.rk b e hb)), h.ok, apt_new2 h.vr hf.2 (fun _ hb => h.view.lt hb), h.vk, apt_new h.rk hf.2 (fun _ hb => h.desk.lt hb), h.lv, (fo_below h.base h.lr hf).2, h.lk, (fo_below h.base h.lr hf).1, fun p hp => by
    obtain ⟨q1, q2, q3, q4⟩ := h.kp p hp
    exact ⟨by rw [hf.keep (lt_of_heap q1) q3]; exact q1, q2, hf.out (lt_of_heap q1) q3, q4⟩⟩
theorem HO.toD (h : HO W K P Q D V U fv fr vd c w) (hv : DK D vd' c' w') (ho : DB c') (hf : FO (fpD D vd c.F) (fpD D vd' c'.F) w w') : HO W K P Q D V U fv fr vd' c' w' :=
  ⟨h.view.hold (fun b hb => hf.keep (h.view.lt hb) (fun e => h.vk b hb e)), h.ref.hold (fun b hb => hf.keep (h.ref.lt hb) (fun e => h.rk b hb e)), hv, ho, h.vr, apt_new2 h.vk hf.2 (fun _ hb => h.view.lt hb), apt_new2 h.rk hf.2 (fun _ hb => h.ref.lt hb), h.lv, h.lr, (fo_below h.base h.lk hf).2, (fo_below h.base h.lk hf).1, fun p hp => by
    obtain ⟨q1, q2, q3, q4⟩ := h.kp p hp
    exact ⟨by rw [hf.keep (lt_of_heap q1) q4]; exact q1, q2, q3, hf.out (lt_of_heap q1) q4⟩⟩
/-- The house. -/
def HH (W : World) (K : List (Nat × Obj)) (P Q D : Nat) (V U : PV) (w : World) : Prop := ∃ fv fr vd c, HO W K P Q D V U fv fr vd c w
theorem HH.on (h : HH W K P Q D V U w) (hb : Below w.heap.size w w') : HH W K P Q D V U w' := by
  obtain ⟨fv, fr, vd, c, h⟩ := h
  exact ⟨fv, fr, vd, c, h.on hb⟩
theorem HH.base (h : HH W K P Q D V U w) : Below W.heap.size W w := by
  obtain ⟨fv, fr, vd, c, h⟩ := h
  exact h.base
theorem HH.drewN (h : HH W K P Q D V U w) (m : Nat) : HH W K P Q D V U (w.drewN m) := h.on (below_drewN (Below.refl _ _) m)
theorem HH.add {b : Nat} {o : Obj} (h : HH W K P Q D V U w) (hb : Below w.heap.size w w') (hz : w.heap.size ≤ b) (ho : w'.heap[b]? = some o) : HH W ((b, o) :: K) P Q D V U w' := by
  obtain ⟨fv, fr, vd, c, h⟩ := h
  refine ⟨fv, fr, vd, c, { h.on hb with kp := fun p hp => ?_ }⟩
  rcases List.mem_cons.1 hp with rfl | hp
  · exact ⟨ho, fun e => by have := h.view.lt e; omega, fun e => by have := h.ref.lt e; omega, fun e => by have := h.desk.lt e; omega⟩
  · exact (h.on hb).kp p hp
theorem HH.drop {p : Nat × Obj} (h : HH W (p :: K) P Q D V U w) : HH W K P Q D V U w := by
  obtain ⟨fv, fr, vd, c, h⟩ := h
  exact ⟨fv, fr, vd, c, { h with kp := fun q hq => h.kp q (List.mem_cons_of_mem _ hq) }⟩
theorem HH.box {p : Nat × Obj} (h : HH W (p :: K) P Q D V U w) : w.heap[p.1]? = some p.2 := by
  obtain ⟨fv, fr, vd, c, h⟩ := h
  exact (h.kp p List.mem_cons_self).1
/-- An event's lists lie on the desk. -/
def HL (W : World) (K : List (Nat × Obj)) (P Q D : Nat) (V U : PV) (us : List Int) (ms : List ME) (w : World) : Prop := ∃ fv fr vd c, HO W K P Q D V U fv fr vd c w ∧ EvL us ms c
theorem HL.hh {us : List Int} {ms : List ME} (h : HL W K P Q D V U us ms w) : HH W K P Q D V U w := by
  obtain ⟨fv, fr, vd, c, h, _⟩ := h
  exact ⟨fv, fr, vd, c, h⟩
theorem HL.on {us : List Int} {ms : List ME} (h : HL W K P Q D V U us ms w) (hb : Below w.heap.size w w') : HL W K P Q D V U us ms w' := by
  obtain ⟨fv, fr, vd, c, h, h2⟩ := h
  exact ⟨fv, fr, vd, c, h.on hb, h2⟩
/-- An event that lies on the desk. -/
def HE (W : World) (K : List (Nat × Obj)) (P Q D : Nat) (V U : PV) (us : List Int) (ms : List ME) (pe : PEv) (e' : EV) (ms' : List ME) (w : World) : Prop :=
  ∃ fv fr vd c, HO W K P Q D V U fv fr vd c w ∧ EvL us ms c ∧ EvAt w e' us ms' ∧ plE e' us ms' = pe ∧ (∀ b, e'.vu.ownBlock = some b → b ∈ fpD D vd c.F) ∧ (∀ b, e'.vm.ownBlock = some b → b ∈ fpD D vd c.F) ∧ (∀ m ∈ ms', ∀ b, m.fv.ownBlock = some b → b ∈ fpD D vd c.F)
theorem HE.hl {us : List Int} {ms ms' : List ME} {pe : PEv} {e' : EV} (h : HE W K P Q D V U us ms pe e' ms' w) : HL W K P Q D V U us ms w := by
  obtain ⟨fv, fr, vd, c, h, h2, _⟩ := h
  exact ⟨fv, fr, vd, c, h, h2⟩
end
variable {W w : World} {K : List (Nat × Obj)} {P Q D N : Nat} {V U : PV}
theorem stands_H (h : HH W K P Q D V V w) (hk : PVok V N) (hN : N ≤ 1000000) :
    Calls Tryz.prog 15 #[.pointer (some ⟨P, 0, none⟩), .pointer (some ⟨Q, 0, none⟩)] w fun e w' => e = .returned (.bool true) ∧ HH W K P Q D V V w' := by
  obtain ⟨fv, fr, vd, c, h⟩ := h
  exact (stands_any h.view h.ref hk hN).mono (fun _ _ ⟨q1, q2⟩ => ⟨q1, fv, fr, vd, c, h.on q2⟩)
theorem st_evAt {s : ST} (h : StOK W s) (hs : StShort s) : EvAt W s.ev s.us s.ms := ⟨h.ev, h.mks, h.low, by have := hs.us; omega, by have := hs.ms; omega⟩
theorem st_evOut {s : ST} {f : List Nat} (h : StOK W s) (hw : W.heap.size ≤ w.heap.size) (hf : ∀ b ∈ f, W.heap.size ≤ b) : EvOut w f s.ev s.us s.ms :=
  ⟨fun h0 b e => ⟨by have := h.ub h0 b e; omega, fun hm => by have := h.ub h0 b e; have := hf b hm; omega⟩, fun h0 b e hm => by have := h.mb.1 h0 b e; have := hf b hm; omega, fun m hm hne b e hb => by have := h.mb.2 m hm hne b e; have := hf b hb; omega⟩
theorem rHear_H (h : HH W K P Q D V U w) (hk : PVok U N) (hN : N + 301 ≤ 1000000) (s : ST) (ho : StOK W s) (hs : StShort s) (hfl : ∀ m ∈ s.ms, m.fl.length ≤ 6000) :
    Calls Tryz.prog 11 #[.pointer (some ⟨Q, 0, none⟩), .agg (evA s.ev).toList.toArray, .bool s.own] w fun r w' => r = .returned (.tuple #[]) ∧ HH W K P Q D V (hearP U (evP s) s.own) w' := by
  obtain ⟨fv, fr, vd, c, h⟩ := h
  have us300 := hs.us
  have hb := h.base
  refine (rHear_any h.ref hk s.ev s.own s.us s.ms (by omega) ((st_evAt ho hs).on hb) (st_evOut ho hb.size h.lr) ho.high (fun m hm => by have := hfl m hm; omega)).mono ?_
  rintro r w' ⟨rfl, fr', q1, q2⟩
  exact ⟨rfl, fv, fr', vd, c, h.toR q1 q2⟩
theorem vHear_H {us : List Int} {ms ms' : List ME} {pe : PEv} {e' : EV} (h : HE W K P Q D V U us ms pe e' ms' w) (hk : PVok V N) (hN : N + 301 ≤ 1000000) (hu : us.length ≤ 300) (own : Bool) :
    Calls Tryz.prog 12 #[.pointer (some ⟨P, 0, none⟩), .agg (evA e'), .bool own] w fun r w' => r = .returned (.tuple #[]) ∧ HL W K P Q D (hearP V pe own) U us ms w' := by
  obtain ⟨fv, fr, vd, c, h, h2, h3, rfl, h5, h6, h7⟩ := h
  refine (Hear_any h.view hk e' own us ms' (by omega) h3 ⟨fun _ b e => ⟨h.desk.lt (h5 b e), fun hm => h.vk b hm (h5 b e)⟩, fun _ b e hm => h.vk b hm (h6 b e), fun m hm _ b e hb => h.vk b hb (h7 m hm b e)⟩).mono ?_
  rintro r w' ⟨rfl, fv', q1, q2⟩
  exact ⟨rfl, fv', fr, vd, c, h.toV q1 q2, h2⟩
/-- What is told, kept beside the house: apart from f. -/
structure HT (W : World) (K : List (Nat × Obj)) (P Q D : Nat) (V U : PV) (tv : Value) (T : List TDE) (l : List Td) (f fv fr : List Nat) (vd : DV) (c : DC) (w : World) : Prop where
  ho : HO W K P Q D V U fv fr vd c w
  told : Told w tv T l
  row : ∀ b, tv.ownBlock = some b → b ∉ f
  fls : ∀ t ∈ T, ∀ b, t.fv.ownBlock = some b → b ∉ f
/-- What the document's view tells. -/
def HTr (W : World) (K : List (Nat × Obj)) (P Q D : Nat) (V U : PV) (tv : Value) (l : List Td) (w : World) : Prop := ∃ T fv fr vd c, HT W K P Q D V U tv T l fv fv fr vd c w
/-- What the view tells. -/
def HTv (W : World) (K : List (Nat × Obj)) (P Q D : Nat) (V U : PV) (tv : Value) (l : List Td) (w : World) : Prop := ∃ T fv fr vd c, HT W K P Q D V U tv T l fr fv fr vd c w
/-- What both tell. -/
def HTT (W : World) (K : List (Nat × Obj)) (P Q D : Nat) (V U : PV) (tv : Value) (l : List Td) (tv2 : Value) (l2 : List Td) (w : World) : Prop := HH W K P Q D V U w ∧ (∃ T, Told w tv T l) ∧ ∃ T, Told w tv2 T l2
theorem rTake_H (h : HH W K P Q D V U w) (hk : PVok U N) (hN : N ≤ 1000000) (wh recent : Int) :
    Calls Tryz.prog 16 #[.pointer (some ⟨Q, 0, none⟩), .int .i64 wh, .int .i64 recent] w fun r w' => ∃ tv, r = .returned tv ∧ HTr W K P Q D V (takeV U wh recent) tv (takeT U wh recent) w' := by
  obtain ⟨fv, fr, vd, c, h⟩ := h
  refine (Take_RW h.ref hk hN wh recent).mono ?_
  rintro r w' ⟨tv, T, rfl, q1, ⟨fr', q2, q3⟩, q4, q5⟩
  refine ⟨tv, rfl, T, fv, fr', vd, c, h.toR q2 q3, q1, fun b e hm => ?_, fun t ht b e hm => ?_⟩
  · have := q4 b e; have := h.view.lt hm; omega
  · rcases q5 t ht b e with q | q
    · exact h.vr b hm q
    · have := h.view.lt hm; omega
theorem vTake_H (h : HH W K P Q D V U w) (hk : PVok V N) (hN : N ≤ 1000000) (wh recent : Int) :
    Calls Tryz.prog 8 #[.pointer (some ⟨P, 0, none⟩), .int .i64 wh, .int .i64 recent] w fun r w' => ∃ tv, r = .returned tv ∧ HTv W K P Q D (takeV V wh recent) U tv (takeT V wh recent) w' := by
  obtain ⟨fv, fr, vd, c, h⟩ := h
  refine (Take_at h.view hk hN wh recent).mono ?_
  rintro r w' ⟨tv, T, rfl, q1, ⟨fv', q2, q3⟩, q4, q5⟩
  have hh : ∀ b, b ∈ fv ∨ w.heap.size ≤ b → b ∉ fr := fun b q hm => by
    rcases q with q | q
    · exact h.vr b q hm
    · have := h.ref.lt hm; omega
  exact ⟨tv, rfl, T, fv', fr, vd, c, h.toV q2 q3, q1, fun b e => hh b (q4 b e), fun t ht b e => hh b (q5 t ht b e)⟩
theorem Told.hold {w w' : World} {tv : Value} {T : List TDE} {l : List Td} (h : Told w tv T l) (h1 : ∀ b, tv.ownBlock = some b → w'.heap[b]? = w.heap[b]?) (h2 : ∀ t ∈ T, ∀ b, t.fv.ownBlock = some b → w'.heap[b]? = w.heap[b]?) : Told w' tv T l :=
  ⟨ownsRow_same h.row h1, fun t ht => ownsRow_same (h.fls t ht) (h2 t ht), h.pl⟩
theorem HT.past {w' : World} {tv : Value} {T : List TDE} {l : List Td} {f f' fv fr : List Nat} {vd : DV} {c : DC} (h : HT W K P Q D V U tv T l f fv fr vd c w) (hf : FO f f' w w') : Told w' tv T l :=
  h.told.hold (fun b e => hf.keep (h.told.row.lt b e).2 (h.row b e)) (fun t ht b e => hf.keep ((h.told.fls t ht).lt b e).2 (h.fls t ht b e))
theorem vTake_T {tv : Value} {l : List Td} (h : HTr W K P Q D V U tv l w) (hk : PVok V N) (hN : N ≤ 1000000) (wh recent : Int) :
    Calls Tryz.prog 8 #[.pointer (some ⟨P, 0, none⟩), .int .i64 wh, .int .i64 recent] w fun r w' => ∃ tv2, r = .returned tv2 ∧ HTT W K P Q D (takeV V wh recent) U tv l tv2 (takeT V wh recent) w' := by
  obtain ⟨T, fv, fr, vd, c, h⟩ := h
  refine (Take_any h.ho.view hk hN wh recent).mono ?_
  rintro r w' ⟨tv2, T2, rfl, q1, fv', q2, q3⟩
  exact ⟨tv2, rfl, ⟨fv', fr, vd, c, h.ho.toV q2 q3⟩, ⟨T, h.past q3⟩, T2, q1⟩
theorem rTake_T {tv : Value} {l : List Td} (h : HTv W K P Q D V U tv l w) (hk : PVok U N) (hN : N ≤ 1000000) (wh recent : Int) :
    Calls Tryz.prog 16 #[.pointer (some ⟨Q, 0, none⟩), .int .i64 wh, .int .i64 recent] w fun r w' => ∃ tv2, r = .returned tv2 ∧ HTT W K P Q D V (takeV U wh recent) tv l tv2 (takeT U wh recent) w' := by
  obtain ⟨T, fv, fr, vd, c, h⟩ := h
  refine (Take_RW h.ho.ref hk hN wh recent).mono ?_
  rintro r w' ⟨tv2, T2, rfl, q1, ⟨fr', q2, q3⟩, _, _⟩
  exact ⟨tv2, rfl, ⟨fv, fr', vd, c, h.ho.toR q2 q3⟩, ⟨T, h.past q3⟩, T2, q1⟩
theorem told_T {a b : Value} {l : List Td} (h : HTT W K P Q D V U a l b l w) : Calls Tryz.prog 17 #[b, a] w fun e w' => e = .returned (.bool true) ∧ HH W K P Q D V U w' := by
  obtain ⟨h1, ⟨T, h2⟩, T2, h3⟩ := h
  refine (told_any b a T2 T l w h3 h2).mono ?_
  rintro e w' ⟨rfl, m, rfl⟩
  exact ⟨rfl, h1.drewN m⟩
theorem told_T2 {a b : Value} {l : List Td} (h : HTT W K P Q D V U a l b l w) : Calls Tryz.prog 17 #[a, b] w fun e w' => e = .returned (.bool true) ∧ HH W K P Q D V U w' := by
  obtain ⟨h1, ⟨T, h2⟩, T2, h3⟩ := h
  refine (told_any a b T T2 l w h2 h3).mono ?_
  rintro e w' ⟨rfl, m, rfl⟩
  exact ⟨rfl, h1.drewN m⟩
/-- A list of numbers, kept beside the house. -/
def HN (W : World) (K : List (Nat × Obj)) (P Q D : Nat) (V U : PV) (bv : Value) (l : List Int) (w : World) : Prop := HH W K P Q D V U w ∧ Nms w bv l
/-- The same, with a set on the desk. -/
def HP (W : World) (K : List (Nat × Obj)) (P Q D : Nat) (V U : PV) (bv : Value) (l : List Int) (av : Value) (s : List Rg) (w : World) : Prop :=
  ∃ (fv fr : List Nat) (vd : DV) (c : DC) (n : Nat), HO W K P Q D V U fv fr vd { c with S := s ++ ((List.range n).map fillS).drop s.length } w ∧ s.length ≤ n ∧ n ≤ 1000000 ∧ Nms w bv l ∧ Rgs w av s
theorem rFind_H (h : HH W K P Q D V U w) (hk : PVok U N) (hN : N ≤ 1000000) (v : Value) (l : List Rg) (hr : Rgs W v l) (hl : l.length ≤ 300) (uid : Bool) :
    Calls Tryz.prog 18 #[.pointer (some ⟨Q, 0, none⟩), v, .bool uid] w fun e w' => ∃ v', e = .returned (.tuple #[v', .bool (findG U l uid), .int .i64 (findE U l uid)]) ∧ HN W K P Q D V U v' (findL U l uid) w' ∧ (∀ b, v'.ownBlock = some b → w.heap.size ≤ b) ∧ Below w.heap.size w w' := by
  obtain ⟨fv, fr, vd, c, h⟩ := h
  refine (Find_RW h.ref hk hN v l (hr.on h.base) (by omega) uid).mono ?_
  rintro r w' ⟨v', rfl, hO⟩
  exact ⟨v', rfl, ⟨⟨fv, fr, vd, c, h.on hO.below⟩, nms_of hO.row⟩, fun b e => (hO.row.lt b e).1, hO.below⟩
theorem pieces_H {w0 : World} {bv : Value} {lb : List Int} (h0 : HH W K P Q D V U w0) (hb : Below w0.heap.size w0 w) (hn : Nms w bv lb) (hnew : ∀ b, bv.ownBlock = some b → w0.heap.size ≤ b) (v : Value) (l : List Rg) (hr : Rgs W v l) (hlo : 0 < l.length → ∀ b, v.ownBlock = some b → b < W.heap.size) (hl : l.length ≤ 300) :
    Calls Tryz.prog 20 #[.pointer (some ⟨D, 0, none⟩), v] w fun e w' => ∃ av, e = .returned av ∧ HP W K P Q D V U bv lb av l w' := by
  obtain ⟨fv, fr, vd, c, h0⟩ := h0
  have h := h0.on hb
  refine (pieces_any h.desk v l (hr.on h.base) (fun q b e hm => by have := hlo q b e; have := h.lk b hm; omega) hl h.ok.s).mono ?_
  rintro r w' ⟨g, cp, n, v', rfl, q1, q2, q3, q4, q5, _⟩
  refine ⟨_, rfl, fv, fr, v', c, n, h.toD (c' := { c with S := l ++ ((List.range n).map fillS).drop l.length }) q1.1 ⟨h.ok.m, h.ok.u, h.ok.k, h.ok.f, by show (l ++ ((List.range n).map fillS).drop l.length).length ≤ _; rw [lay_len fillS l n q2]; exact q3, h.ok.l⟩ q1.2, q2, q3, hn.past q1.2 (fun _ b e hm => by have := hnew b e; have := h0.desk.lt hm; omega), q4⟩
theorem HP.on {w' : World} {bv av : Value} {lb : List Int} {l : List Rg} (h : HP W K P Q D V U bv lb av l w) (hb : Below w.heap.size w w') : HP W K P Q D V U bv lb av l w' := by
  obtain ⟨fv, fr, vd, c, n, h1, h2, h3, h4, h5⟩ := h
  exact ⟨fv, fr, vd, c, n, h1.on hb, h2, h3, h4.on hb, h5.on hb⟩
theorem HP.hh {bv av : Value} {lb : List Int} {l : List Rg} (h : HP W K P Q D V U bv lb av l w) : HH W K P Q D V U w := by
  obtain ⟨fv, fr, vd, c, n, h1, _⟩ := h
  exact ⟨fv, fr, vd, _, h1⟩
theorem HP.num {bv av : Value} {lb : List Int} {l : List Rg} (h : HP W K P Q D V U bv lb av l w) : Nms w bv lb := by
  obtain ⟨fv, fr, vd, c, n, h1, h2, h3, h4, h5⟩ := h
  exact h4
theorem vFind_H {bv av : Value} {lb : List Int} {l : List Rg} (h : HP W K P Q D V U bv lb av l w) (hk : PVok V N) (hN : N ≤ 1000000) (hl : l.length ≤ 300) (uid : Bool) :
    Calls Tryz.prog 19 #[.pointer (some ⟨P, 0, none⟩), av, .bool uid] w fun e w' => ∃ v', e = .returned (.tuple #[v', .bool (findG V l uid), .int .i64 (findE V l uid)]) ∧ HP W K P Q D V U bv lb av l w' ∧ Nms w' v' (findL V l uid) := by
  have h' := h
  obtain ⟨fv, fr, vd, c, n, h1, h2, h3, h4, h5⟩ := h
  refine (Find_any h1.view hk hN av l h5 (by omega) uid).mono ?_
  rintro r w' ⟨v', rfl, hO⟩
  exact ⟨v', rfl, h'.on hO.below, nms_of hO.row⟩
theorem pieced_H {bv av : Value} {lb : List Int} {l : List Rg} (h : HP W K P Q D V U bv lb av l w) (v : Value) (hr : Rgs W v l) :
    Calls Tryz.prog 21 #[.pointer (some ⟨D, 0, none⟩), v] w fun e w' => e = .returned (.bool true) ∧ ∃ m, w' = w.drewN m := by
  obtain ⟨fv, fr, vd, c, n, h1, h2, h3, h4, h5⟩ := h
  exact pieced_any v l h1.desk h2 h3 (hr.on h1.base)
theorem vUids_H (h : HH W K P Q D V U w) (hk : PVok V N) (hN : N ≤ 1000000) :
    Calls Tryz.prog 7 #[.pointer (some ⟨P, 0, none⟩)] w fun e w' => ∃ v', e = .returned v' ∧ HH W K P Q D V U w' ∧ Nms w' v' (uidsP V) ∧ Below w.heap.size w w' := by
  obtain ⟨fv, fr, vd, c, h⟩ := h
  refine (Uids_W h.view hk hN).mono ?_
  rintro r w' ⟨v', rfl, hO⟩
  exact ⟨v', rfl, ⟨fv, fr, vd, c, h.on hO.below⟩, nms_of hO.row, hO.below⟩
theorem rUids_H (h : HH W K P Q D V U w) (hk : PVok U N) (hN : N ≤ 1000000) :
    Calls Tryz.prog 30 #[.pointer (some ⟨Q, 0, none⟩)] w fun e w' => ∃ v', e = .returned v' ∧ HH W K P Q D V U w' ∧ Nms w' v' (uidsP U) ∧ Below w.heap.size w w' := by
  obtain ⟨fv, fr, vd, c, h⟩ := h
  refine (Uids_RW h.ref hk hN).mono ?_
  rintro r w' ⟨v', rfl, hO⟩
  exact ⟨v', rfl, ⟨fv, fr, vd, c, h.on hO.below⟩, nms_of hO.row, hO.below⟩
theorem vSeq_H (h : HH W K P Q D V U w) (hk : PVok V N) (hN : N ≤ 1000000) (u : Int) :
    Calls Tryz.prog 25 #[.pointer (some ⟨P, 0, none⟩), .int .i64 u] w fun e w' => e = .returned (.tuple #[.int .i64 (seqI (uidsP V) u), .int .i64 (seqE (uidsP V) u)]) ∧ HH W K P Q D V U w' := by
  obtain ⟨fv, fr, vd, c, h⟩ := h
  exact (Seq_W h.view hk hN u).mono (fun _ _ ⟨q1, q2⟩ => ⟨q1, fv, fr, vd, c, h.on q2⟩)
theorem vGone_H (h : HH W K P Q D V U w) (hk : PVok V N) (hN : N ≤ 1000000) (u : Int) :
    Calls Tryz.prog 26 #[.pointer (some ⟨P, 0, none⟩), .int .i64 u] w fun e w' => e = .returned (.bool (atP V u).gone) ∧ HH W K P Q D V U w' := by
  obtain ⟨fv, fr, vd, c, h⟩ := h
  exact (Gone_W h.view hk hN u).mono (fun _ _ ⟨q1, q2⟩ => ⟨q1, fv, fr, vd, c, h.on q2⟩)
theorem vRecent_H (h : HH W K P Q D V U w) (hk : PVok V N) (hN : N ≤ 1000000) (u : Int) :
    Calls Tryz.prog 28 #[.pointer (some ⟨P, 0, none⟩), .int .i64 u] w fun e w' => e = .returned (.bool (atP V u).rct) ∧ HH W K P Q D V U w' := by
  obtain ⟨fv, fr, vd, c, h⟩ := h
  exact (Recent_W h.view hk hN u).mono (fun _ _ ⟨q1, q2⟩ => ⟨q1, fv, fr, vd, c, h.on q2⟩)
theorem rSeq_H (h : HH W K P Q D V U w) (hk : PVok U N) (hN : N ≤ 1000000) (u : Int) :
    Calls Tryz.prog 24 #[.pointer (some ⟨Q, 0, none⟩), .int .i64 u] w fun e w' => e = .returned (.tuple #[.int .i64 (seqI (uidsP U) u), .int .i64 (seqE (uidsP U) u)]) ∧ w' = w := by
  obtain ⟨fv, fr, vd, c, h⟩ := h
  exact Seq_RW h.ref hk hN u
theorem rGone_H (h : HH W K P Q D V U w) (hk : PVok U N) (hN : N ≤ 1000000) (u : Int) :
    Calls Tryz.prog 27 #[.pointer (some ⟨Q, 0, none⟩), .int .i64 u] w fun e w' => e = .returned (.bool (atP U u).gone) ∧ w' = w := by
  obtain ⟨fv, fr, vd, c, h⟩ := h
  exact Gone_RW h.ref hk hN u
theorem rRecent_H (h : HH W K P Q D V U w) (hk : PVok U N) (hN : N ≤ 1000000) (u : Int) :
    Calls Tryz.prog 29 #[.pointer (some ⟨Q, 0, none⟩), .int .i64 u] w fun e w' => e = .returned (.bool (atP U u).rct) ∧ w' = w := by
  obtain ⟨fv, fr, vd, c, h⟩ := h
  exact Recent_RW h.ref hk hN u
end Go.Proofs.YtflkhnmggmfhfaaGreat
