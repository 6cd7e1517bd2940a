/- SpanOwn: the walk. -/
import Derived.Test.YtkclcjnfjielfabDoorZs
namespace Go.Proofs.YtkclcjnfjielfabDoor
open Go.RowKit

abbrev nilV : Value := .slice none 0 0
theorem getD_app_ltV (l : List Value) (x : Value) (i : Nat) (h : i < l.length) : (l ++ [x]).getD i nilV = l.getD i nilV := by
  rw [List.getD_eq_getElem?_getD, List.getD_eq_getElem?_getD, List.getElem?_append_left h]
theorem ofL_lenO (l : List Rg) (list : List Int) : (ofL l list).length ≤ list.length := List.length_filter_le _ _
theorem parseL_lenO (l : List UInt8) : (parseL l).length ≤ 64 := by
  unfold parseL
  split
  · simp
  · split
    · simp
    · split
      · simp
      · omega
/-- The place of the k-th question of two rounds. -/
def trn (n k : Nat) : Nat := if k < n then k else 2 * n - 1 - k
structure Row1 (G N F : List Value) (K : List Fact) (A : List AskP) (j : Nat) : Prop where
  g0 : (G.getD (3 * j) nilV, fun w => MarkR w (G.getD (3 * j) nilV) (3 * (j : Int) + 11)) ∈ K
  g1 : (G.getD (3 * j + 1) nilV, fun w => MarkR w (G.getD (3 * j + 1) nilV) (3 * (j : Int) + 12)) ∈ K
  g2 : (G.getD (3 * j + 2) nilV, fun w => MarkR w (G.getD (3 * j + 2) nilV) (3 * (j : Int) + 13)) ∈ K
  n0 : (N.getD j nilV, fun w => MarkI w (N.getD j nilV) ((j : Int) + 11)) ∈ K
  f0 : (F.getD (3 * j) nilV, ownF 0 (F.getD (3 * j) nilV) (parseL (L (A.getD (trn A.length j) ask0).text))) ∈ K
  f1 : (F.getD (3 * j + 1) nilV, ownF 0 (F.getD (3 * j + 1) nilV) (leastL (A.getD (trn A.length j) ask0).list)) ∈ K
  f2 : (F.getD (3 * j + 2) nilV, ownF 0 (F.getD (3 * j + 2) nilV) (joinL (A.getD (trn A.length j) ask0).sets)) ∈ K
structure KeptO (G N F : List Value) (K : List Fact) (A : List AskP) (k : Nat) : Prop where
  lG : G.length = 3 * k
  lN : N.length = k
  lF : F.length = 3 * k
  row : ∀ j, j < k → Row1 G N F K A j
theorem gd_lt {G : List Value} (x y z : Value) (i : Nat) (h : i < G.length) : (G ++ [x, y, z]).getD i nilV = G.getD i nilV := by
  rw [List.getD_eq_getElem?_getD, List.getD_eq_getElem?_getD, List.getElem?_append_left h]
theorem gd_at {G : List Value} (x y z : Value) (k : Nat) (h : G.length = 3 * k) : (G ++ [x, y, z]).getD (3 * k) nilV = x ∧ (G ++ [x, y, z]).getD (3 * k + 1) nilV = y ∧ (G ++ [x, y, z]).getD (3 * k + 2) nilV = z := by
  refine ⟨?_, ?_, ?_⟩
  · rw [List.getD_eq_getElem?_getD, List.getElem?_append_right (by omega), h, Nat.sub_self]; rfl
  · rw [List.getD_eq_getElem?_getD, List.getElem?_append_right (by omega), h, show 3 * k + 1 - 3 * k = 1 by omega]; rfl
  · rw [List.getD_eq_getElem?_getD, List.getElem?_append_right (by omega), h, show 3 * k + 2 - 3 * k = 2 by omega]; rfl
theorem KeptO.next {G N F : List Value} {K K' : List Fact} {A : List AskP} {k : Nat} (h : KeptO G N F K A k) {a c d b e l j : Value} (hK : ∀ p ∈ K, p ∈ K')
    (ha : (a, fun w => MarkR w a (3 * (k : Int) + 11)) ∈ K') (hc : (c, fun w => MarkR w c (3 * (k : Int) + 12)) ∈ K') (hd : (d, fun w => MarkR w d (3 * (k : Int) + 13)) ∈ K') (hb : (b, fun w => MarkI w b ((k : Int) + 11)) ∈ K')
    (he : (e, ownF 0 e (parseL (L (A.getD (trn A.length k) ask0).text))) ∈ K') (hl : (l, ownF 0 l (leastL (A.getD (trn A.length k) ask0).list)) ∈ K') (hj : (j, ownF 0 j (joinL (A.getD (trn A.length k) ask0).sets)) ∈ K') :
    KeptO (G ++ [a, c, d]) (N ++ [b]) (F ++ [e, l, j]) K' A (k + 1) := by
  refine ⟨by rw [List.length_append, h.lG]; simp; omega, by rw [List.length_append, h.lN]; rfl, by rw [List.length_append, h.lF]; simp; omega, fun i hi => ?_⟩
  by_cases hik : i < k
  · have r := h.row i hik
    have e1 := h.lG
    have e2 := h.lN
    have e3 := h.lF
    refine ⟨?_, ?_, ?_, ?_, ?_, ?_, ?_⟩
    · rw [gd_lt _ _ _ _ (by omega)]; exact hK _ r.g0
    · rw [gd_lt _ _ _ _ (by omega)]; exact hK _ r.g1
    · rw [gd_lt _ _ _ _ (by omega)]; exact hK _ r.g2
    · rw [getD_app_ltV _ _ _ (by omega)]; exact hK _ r.n0
    · rw [gd_lt _ _ _ _ (by omega)]; exact hK _ r.f0
    · rw [gd_lt _ _ _ _ (by omega)]; exact hK _ r.f1
    · rw [gd_lt _ _ _ _ (by omega)]; exact hK _ r.f2
  · have : i = k := by omega
    subst this
    obtain ⟨q1, q2, q3⟩ := gd_at a c d i h.lG
    obtain ⟨p1, p2, p3⟩ := gd_at e l j i h.lF
    refine ⟨by rw [q1]; exact ha, by rw [q2]; exact hc, by rw [q3]; exact hd, ?_, by rw [p1]; exact he, by rw [p2]; exact hl, by rw [p3]; exact hj⟩
    have q4 : (N ++ [b]).getD i nilV = b := by
      rw [List.getD_eq_getElem?_getD, List.getElem?_append_right (by rw [h.lN]; exact Nat.le_refl _), h.lN, Nat.sub_self]; rfl
    rw [q4]
    exact hb
theorem below_grownK {w1 w w' : World} {v : Value} {G : List Value} {e : TypeId} (hb : Below w1.heap.size w1 w) (hg : w.grownBy w' v.ownBlock) (hr : w.ownsRow w1.heap.size e 1 v G.length G) : Below w1.heap.size w1 w' := hb.grown hg hb.size (fun k hk => (hr.lt k hk).1)
theorem OwnI.shpI {B : Nat} {v : Value} {l : List Int} {W0 w : World} (h : OwnI B v l W0 w) : ∃ ao cap, v = .slice ao l.length cap := by
  rcases h.row.2 with ⟨rfl, h0⟩ | ⟨g, cap, cur, rfl, _⟩
  · exact ⟨none, 0, by rw [h0]⟩
  · exact ⟨_, _, rfl⟩
abbrev xS (P : Nat) (u4 u5 : Value) : World → Prop := fun X => X.cell? ⟨P, 4, none⟩ = some u4 ∧ X.cell? ⟨P, 5, none⟩ = some u5
theorem calls_genO {P : Program} {f : Nat} {args : Array Value} {W : World} {Q : Ending → World → Prop} (h : ∀ Y, Y = W → Calls P f args Y Q) : Calls P f args W Q := h W rfl
theorem ownF.row {v : Value} {l : List Rg} {w : World} (h : ownF 0 v l w) : w.ownsRow 0 63 2 v l.length (rc l) := h
theorem ownIF.row {v : Value} {l : List Int} {w : World} (h : ownIF 0 v l w) : w.ownsRow 0 3 1 v l.length (ic l) := h
theorem Keep.turn3 {B : Nat} {v3 v4 v5 v : Value} {G N F : List Value} {p1 p2 p3 : Fact} {K2 : List Fact} {R R' : World → Prop} {w w' : World} (h : Keep B v3 v4 v5 G N F (p1 :: p2 :: p3 :: (v, R) :: K2) w) (hg : w.grownBy w' v.ownBlock) (hR : R' w') (hst : Stab (v, R')) : Keep B v3 v4 v5 G N F (p1 :: p2 :: p3 :: (v, R') :: K2) w' := Keep.turn (K1 := [p1, p2, p3]) h hg hR hst
theorem Keep.turn4 {B : Nat} {v3 v4 v5 v : Value} {G N F : List Value} {p1 p2 p3 p4 : Fact} {K2 : List Fact} {R R' : World → Prop} {w w' : World} (h : Keep B v3 v4 v5 G N F (p1 :: p2 :: p3 :: p4 :: (v, R) :: K2) w) (hg : w.grownBy w' v.ownBlock) (hR : R' w') (hst : Stab (v, R')) : Keep B v3 v4 v5 G N F (p1 :: p2 :: p3 :: p4 :: (v, R') :: K2) w' := Keep.turn (K1 := [p1, p2, p3, p4]) h hg hR hst
theorem Keep.turn5 {B : Nat} {v3 v4 v5 v : Value} {G N F : List Value} {p1 p2 p3 p4 p5 : Fact} {K2 : List Fact} {R R' : World → Prop} {w w' : World} (h : Keep B v3 v4 v5 G N F (p1 :: p2 :: p3 :: p4 :: p5 :: (v, R) :: K2) w) (hg : w.grownBy w' v.ownBlock) (hR : R' w') (hst : Stab (v, R')) : Keep B v3 v4 v5 G N F (p1 :: p2 :: p3 :: p4 :: p5 :: (v, R') :: K2) w' := Keep.turn (K1 := [p1, p2, p3, p4, p5]) h hg hR hst
theorem Keep.turn7 {B : Nat} {v3 v4 v5 v : Value} {G N F : List Value} {p1 p2 p3 p4 p5 p6 p7 : Fact} {K2 : List Fact} {R R' : World → Prop} {w w' : World} (h : Keep B v3 v4 v5 G N F (p1 :: p2 :: p3 :: p4 :: p5 :: p6 :: p7 :: (v, R) :: K2) w) (hg : w.grownBy w' v.ownBlock) (hR : R' w') (hst : Stab (v, R')) : Keep B v3 v4 v5 G N F (p1 :: p2 :: p3 :: p4 :: p5 :: p6 :: p7 :: (v, R') :: K2) w' := Keep.turn (K1 := [p1, p2, p3, p4, p5, p6, p7]) h hg hR hst
theorem mem3 {p1 p2 p3 p : Fact} {K : List Fact} : p ∈ p1 :: p2 :: p3 :: p :: K := .tail _ (.tail _ (.tail _ (.head _)))
theorem mem4 {p1 p2 p3 p4 p : Fact} {K : List Fact} : p ∈ p1 :: p2 :: p3 :: p4 :: p :: K := .tail _ mem3
theorem mem5 {p1 p2 p3 p4 p5 p : Fact} {K : List Fact} : p ∈ p1 :: p2 :: p3 :: p4 :: p5 :: p :: K := .tail _ mem4
theorem mem7 {p1 p2 p3 p4 p5 p6 p7 p : Fact} {K : List Fact} : p ∈ p1 :: p2 :: p3 :: p4 :: p5 :: p6 :: p7 :: p :: K := .tail _ (.tail _ mem5)
theorem below_grownF {w1 w w' : World} {v3 v4 v5 : Value} {G N F : List Value} {K : List Fact} {p : Fact} (hb : Below w1.heap.size w1 w) (h : Keep w1.heap.size v3 v4 v5 G N F K w) (hp : p ∈ K) (hg : w.grownBy w' p.1.ownBlock) : Below w1.heap.size w1 w' := hb.grown hg hb.size (fun k hk => ((h.k p hp).2.1 k hk).1)
theorem KeptO.nextK {G N F : List Value} {K : List Fact} {A : List AskP} {k : Nat} (h : KeptO G N F K A k) {q : AskP} (hq : A.getD (trn A.length k) ask0 = q) {pl le jl : List Rg} (hEQ : parseL (L q.text) = pl ∧ leastL q.list = le ∧ joinL q.sets = jl) {a c d b e l j : Value} {pw : Fact} {B : Nat} {v3 v4 v5 : Value} {w : World}
    (_ : Keep B v3 v4 v5 (G ++ [a, c, d]) (N ++ [b]) (F ++ [e, l, j]) ((j, ownF 0 j jl) :: (l, ownF 0 l le) :: (e, ownF 0 e pl) :: (d, fun w => MarkR w d (3 * (k : Int) + 13)) :: (c, fun w => MarkR w c (3 * (k : Int) + 12)) :: (b, fun w => MarkI w b ((k : Int) + 11)) :: pw :: (a, fun w => MarkR w a (3 * (k : Int) + 11)) :: K) w) :
    KeptO (G ++ [a, c, d]) (N ++ [b]) (F ++ [e, l, j]) ((j, ownF 0 j jl) :: (l, ownF 0 l le) :: (e, ownF 0 e pl) :: (d, fun w => MarkR w d (3 * (k : Int) + 13)) :: (c, fun w => MarkR w c (3 * (k : Int) + 12)) :: (b, fun w => MarkI w b ((k : Int) + 11)) :: pw :: (a, fun w => MarkR w a (3 * (k : Int) + 11)) :: K) A (k + 1) := by
  obtain ⟨rfl, rfl, rfl⟩ := hEQ
  subst hq
  exact h.next (fun p hp => .tail _ (.tail _ (.tail _ (.tail _ (.tail _ (.tail _ (.tail _ (.tail _ hp)))))))) mem7 mem4 mem3 mem5 (.tail _ (.tail _ (.head _))) (.tail _ (.head _)) (.head _)
theorem row_formO {B : Nat} {e : TypeId} {v : Value} {G : List Value} {w : World} (h : w.ownsRow B e 1 v G.length G) : ∃ ao cap, v = .slice ao G.length cap ∧ (0 < G.length → ∃ g, ao = some ⟨g, 0, none⟩ ∧ ∀ i, i < G.length → w.cell? ⟨g, i, none⟩ = some (G.getD i nilV)) := by
  rcases h.2 with ⟨rfl, h0⟩ | ⟨g, cap, cur, rfl, hB, hg, rest⟩
  · exact ⟨none, 0, by rw [h0], fun h => by omega⟩
  · refine ⟨_, cap, rfl, fun _ => ⟨g, rfl, fun i hi => ?_⟩⟩
    have c1 := h.cells (g := g) rfl i _ (List.getElem?_eq_getElem hi)
    rw [Addr.add_lit, Nat.zero_add] at c1
    rw [c1, List.getD_eq_getElem?_getD, List.getElem?_eq_getElem hi]
    rfl
abbrev yS (X : World) (P g m m1 m2 : Nat) (u4 u5 e0 e1 e2 : Value) : World → Prop := fun Z => Z.cell? ⟨P, 4, none⟩ = some u4 ∧ Z.cell? ⟨P, 5, none⟩ = some u5 ∧ Z.cell? ⟨g, m, none⟩ = some e0 ∧ Z.cell? ⟨g, m1, none⟩ = some e1 ∧ Z.cell? ⟨g, m2, none⟩ = some e2 ∧ Below X.heap.size X Z
theorem yS.on {X : World} {P g m m1 m2 : Nat} {u4 u5 e0 e1 e2 : Value} {Z Z' : World} (h : yS X P g m m1 m2 u4 u5 e0 e1 e2 Z) (hb : Below Z.heap.size Z Z') : yS X P g m m1 m2 u4 u5 e0 e1 e2 Z' := ⟨cellOn h.1 hb, cellOn h.2.1 hb, cellOn h.2.2.1 hb, cellOn h.2.2.2.1 hb, cellOn h.2.2.2.2.1 hb, belThen h.2.2.2.2.2 hb⟩
set_option maxRecDepth 100000 in
set_option maxHeartbeats 8000000 in
theorem SpanOwn_walk (v : Value) (A : List AskP) (w : World) (he : Env w) (hA : Asks w v A) :
    Calls Tryd.prog 8 #[v] w fun e w' => e = .returned (.bool true) ∧ Below w.heap.size w w' := by
  have HK := Lib.hid (fun X (hX : Below w.heap.size w X) => (known_any X (he.on hX)).mono fun e w' ⟨p, q⟩ => (⟨p, hX.trans (q.mono hX.size)⟩ : e = Ending.returned (.bool true) ∧ Below w.heap.size w w'))
  have HV := Lib.hid he
  have H0 := Lib.hid hA
  obtain ⟨ao, cap, hv, hAl, hc⟩ := hA
  subst hv
  have HC := Lib.hid hc
  clear hc he
  go_enter Tryd.func8, Tryd.ntmps8
  go_wp2_with fail
  refine (long_any _ A w H0.out).mono ?_
  rintro e w1 ⟨⟨bb, rfl, hsh⟩, hb1⟩
  have HB1 := Lib.hid hb1
  clear hb1 H0
  cases bb with
  | true =>
    clear hsh
    go_wp2_with fail
    go_ret
    exact ⟨rfl, HB1.out⟩
  | false =>
    obtain ⟨h30, hq⟩ := hsh rfl
    have HQ := Lib.hid hq
    clear hsh hq
    go_wp2_with fail
    go_loopg [3, 4, 5, 6, 7, 8, 9, 10, 11, 12, 13, 14, 15, 16] (2 * A.length) (fun gg s3 s4 s5 s6 s7 s8 s9 s10 s11 s12 s13 s14 s15 s16 wr => ∃ (k : Nat) (v3 v4 v5 : Value) (G N F : List Value) (K : List Fact) (X : World), X = wr ∧ k ≤ 2 * A.length ∧ 2 * A.length - k ≤ gg ∧ s6 = .int .i64 k ∧ v3 = s3 ∧ v4 = s4 ∧ v5 = s5 ∧ Below w1.heap.size w1 X ∧ Keep w1.heap.size v3 v4 v5 G N F K X ∧ Hid (KeptO G N F K A k))
    case atStart => exact ⟨0, _, _, _, [], [], [], [], _, rfl, Nat.zero_le _, by omega, rfl, rfl, rfl, rfl, Below.refl _ _, Keep.start (Nat.le_refl _), Lib.hid ⟨rfl, rfl, rfl, fun j hj => by omega⟩⟩
    case round =>
      obtain ⟨k, v3, v4, v5, G, N, F, K, X, hX, hk, hgg, rfl, hv3, hv4, hv5, hbx, hkp, HKO⟩ := hrel
      subst hX
      subst hv3
      subst hv4
      subst hv5
      have HKP := Lib.hid hkp
      have HBX := Lib.hid (belThen HB1.out hbx)
      have HW1 := Lib.hid hbx
      clear hkp hbx
      by_cases hlt : k < 2 * A.length
      · have hltz : (k : Int) < 2 * (A.length : Int) := by omega
        have hme : 2 * A.length - (k + 1) < 2 * A.length - k := by omega
        have hG6 : G.length + 3 ≤ 1000 := by (have := HKO.out.lG; omega)
        have hN6 : N.length + 1 ≤ 1000 := by (have := HKO.out.lN; omega)
        have hF6 : F.length + 3 ≤ 1000 := by (have := HKO.out.lF; omega)
        have hkb : (k : Int) ≤ 60 := by omega
        have hk0 : (0 : Int) ≤ (k : Int) := by omega
        obtain ⟨j, hj, hjt, HTN⟩ : ∃ j, j < A.length ∧ Hid (j = trn A.length k) ∧ Hid (Calls Tryd.prog 10 #[.int .i64 k, .int .i64 A.length] X fun e w' => e = .returned (.int .i64 (j : Nat)) ∧ w' = X) := by
          by_cases hkn : k < A.length
          · exact ⟨k, hkn, Lib.hid (by unfold trn; rw [if_pos hkn]), Lib.hid (turn_up k A.length X hkn)⟩
          · exact ⟨2 * A.length - 1 - k, by omega, Lib.hid (by unfold trn; rw [if_neg hkn]), Lib.hid (turn_down k A.length _ X (by omega) (by omega) (by omega))⟩
        have hjz : (j : Int) < (A.length : Int) := by omega
        obtain ⟨b, off, hao, hat⟩ := HC.out (by omega)
        subst hao
        have hqq := hat j hj
        have hsq := HQ.out j hj
        obtain ⟨u1, e1, f1⟩ := hqq.c1
        obtain ⟨u4, e4, f4⟩ := hqq.c4
        obtain ⟨u5, e5, f5⟩ := hqq.c5
        have c0 := cellOn hqq.c0 HBX.out
        have c1 := cellOn e1 HBX.out
        have c2 := cellOn hqq.c2 HBX.out
        have c3 := cellOn hqq.c3 HBX.out
        have c4 := cellOn e4 HBX.out
        have c5 := cellOn e5 HBX.out
        obtain ⟨a1, k1, hu1, _⟩ := f1.shape
        obtain ⟨a4, k4, hu4⟩ := f4.form
        obtain ⟨a5, k5, hu5, _⟩ := f5.form
        have HF1 := Lib.hid f1
        have HF4 := Lib.hid f4
        have HF5 := Lib.hid f5
        have HM4 := Lib.hid hqq.m4
        have hz0 := hqq.z0
        have hs1 : (A.getD j ask0).set.length ≤ 3000 := hsq.1
        have hs4 : (A.getD j ask0).list.length ≤ 3000 := hsq.2.1
        have hs5 : (A.getD j ask0).sets.length ≤ 3000 := hsq.2.2.1
        have hs6 : (A.getD j ask0).sets.flatten.length ≤ 3000 := hsq.2.2.2
        clear hqq hat hsq e1 e4 e5 f1 f4 f5
        generalize hqd : A.getD j ask0 = q at *
        have HQD := Lib.hid hqd
        clear hqd
        subst hu1
        subst hu4
        subst hu5
        go_wp2_with (go_at_call 10; refine HTN.out.mono ?_; rintro e w2 ⟨rfl, hw2⟩; subst hw2)
        refine calls_genO (fun Y hY => ?_)
        obtain ⟨P, hP⟩ : ∃ P, P = w2.heap.size := ⟨_, rfl⟩
        rw [← hP]
        have hbY : Below w2.heap.size w2 Y := by rw [hY]; exact (Below.refl _ _).alloc (Nat.le_refl _) _
        have y0 : Y.cell? ⟨P, 0, none⟩ = some (.string q.text) := by rw [hY, hP]; simp
        have y1 : Y.cell? ⟨P, 1, none⟩ = some (.slice a1 q.set.length k1) := by rw [hY, hP]; simp
        have y4 : Y.cell? ⟨P, 4, none⟩ = some (.slice a4 q.list.length k4) := by rw [hY, hP]; simp
        have y5 : Y.cell? ⟨P, 5, none⟩ = some (.slice a5 q.sets.length k5) := by rw [hY, hP]; simp
        have HR5P := Lib.hid (fun k (hk : v5.ownBlock = some k) => (show k < P by rw [hP]; exact (HKP.out.r5.lt k hk).2))
        have HKY := Lib.hid (HKP.out.on hbY)
        have HBY := Lib.hid (belThen HBX.out hbY)
        have HWY := Lib.hid (belThen HW1.out hbY)
        clear hY hP hbY c0 c1 c2 c3 c4 c5 HKP HBX HW1 HTN
        have HPL := Lib.hid (parseL_lenO (L q.text))
        have HLL := Lib.hid (leastL_len q.list)
        have HJL := Lib.hid (joinL_len q.sets)
        have HOL := Lib.hid (ofL_lenO q.set q.list)
        have HPA := Lib.hid (fun Z (h : Below w.heap.size w Z) => parse_any q.text Z (HV.out.on h) hz0)
        have HPR := Lib.hid (fun Z => refParse_any q.text Z)
        have HOF := Lib.hid (fun Z (h : Below w.heap.size w Z) => of_any _ _ q.set q.list Z (HF1.out.on h) (HF4.out.on h) (by omega) (by omega) HM4.out)
        have HOR := Lib.hid (fun Z (h : Below w.heap.size w Z) => refOf_any _ _ q.set q.list Z (HF1.out.on h) (HF4.out.on h) (by omega))
        have HLE := Lib.hid (fun Z (h : Below w.heap.size w Z) => least_any _ q.list Z (HF4.out.on h) (by omega))
        have HLR := Lib.hid (fun Z (h : Below w.heap.size w Z) => refLeast_any _ q.list Z (HF4.out.on h) (by omega))
        have HJO := Lib.hid (fun Z (h : Below w.heap.size w Z) => join_any _ q.sets Z (HF5.out.on h) (by omega))
        have HJR := Lib.hid (fun Z (h : Below w.heap.size w Z) => refJoin_any _ q.sets Z (HF5.out.on h) (by omega))
        generalize hpe : parseE (L q.text) = pe at *
        clear hpe
        generalize hpl : parseL (L q.text) = pl at *
        generalize hlo : ofL q.set q.list = ol at *
        generalize hll : leastL q.list = le at *
        generalize hjl : joinL q.sets = jl at *
        have HEQ : Hid (parseL (L q.text) = pl ∧ leastL q.list = le ∧ joinL q.sets = jl) := Lib.hid ⟨hpl, hll, hjl⟩
        clear hpl hlo hll hjl
        refine (HPA.out Y HBY.out).mono ?_
        rintro e w3 ⟨va, rfl, oa⟩
        obtain ⟨aa, ca, hsa⟩ := oa.shp
        subst hsa
        have K3 := Lib.hid (HKY.out.addR oa.below oa)
        have B3 := Lib.hid (belThen HBY.out oa.below)
        have W3 := Lib.hid (belThen HWY.out oa.below)
        have y0 := cellOn y0 oa.below
        have y1 := cellOn y1 oa.below
        have y4 := cellOn y4 oa.below
        have y5 := cellOn y5 oa.below
        clear oa HKY HBY HWY
        go_wp2_with fail
        refine (HPR.out _).mono ?_
        rintro e w4 ⟨vw, rfl, ow⟩
        obtain ⟨aw, cw, hsw⟩ := ow.shp
        subst hsw
        have K4 := Lib.hid (K3.out.addR ow.below ow)
        have B4 := Lib.hid (belThen B3.out ow.below)
        have W4 := Lib.hid (belThen W3.out ow.below)
        replace y0 := cellOn y0 ow.below
        replace y1 := cellOn y1 ow.below
        replace y4 := cellOn y4 ow.below
        replace y5 := cellOn y5 ow.below
        clear ow K3 B3 W3
        go_wp2_with fail
        refine (HOF.out _ B4.out).mono ?_
        rintro e w5 ⟨vb, rfl, ob⟩
        obtain ⟨ab, cb, hsb⟩ := ob.shpI
        subst hsb
        have K5 := Lib.hid (K4.out.addI ob.below ob)
        have B5 := Lib.hid (belThen B4.out ob.below)
        have W5 := Lib.hid (belThen W4.out ob.below)
        replace y0 := cellOn y0 ob.below
        replace y1 := cellOn y1 ob.below
        replace y4 := cellOn y4 ob.below
        replace y5 := cellOn y5 ob.below
        clear ob K4 B4 W4
        go_wp2_with fail
        refine (HLE.out _ B5.out).mono ?_
        rintro e w6 ⟨vc, rfl, oc⟩
        obtain ⟨ac, cc, hsc⟩ := oc.shp
        subst hsc
        have K6 := Lib.hid (K5.out.addR oc.below oc)
        have B6 := Lib.hid (belThen B5.out oc.below)
        have W6 := Lib.hid (belThen W5.out oc.below)
        replace y0 := cellOn y0 oc.below
        replace y1 := cellOn y1 oc.below
        replace y4 := cellOn y4 oc.below
        replace y5 := cellOn y5 oc.below
        clear oc K5 B5 W5
        go_wp2_with fail
        refine (HJO.out _ B6.out).mono ?_
        rintro e w7 ⟨vd, rfl, od⟩
        obtain ⟨ad, cd, hsd⟩ := od.shp
        subst hsd
        have K7 := Lib.hid (K6.out.addR od.below od)
        have B7 := Lib.hid (belThen B6.out od.below)
        have W7 := Lib.hid (belThen W6.out od.below)
        replace y0 := cellOn y0 od.below
        replace y1 := cellOn y1 od.below
        replace y4 := cellOn y4 od.below
        replace y5 := cellOn y5 od.below
        clear od K6 B6 W6
        go_wp2_with fail
        refine (same_yes (ownF.rgs (K7.out.k _ (List.mem_cons_of_mem _ (List.mem_cons_of_mem _ (List.mem_cons_of_mem _ (List.mem_cons_of_mem _ List.mem_cons_self))))).1 (by have := HPL.out; omega)) (ownF.rgs (K7.out.k _ (List.mem_cons_of_mem _ (List.mem_cons_of_mem _ (List.mem_cons_of_mem _ List.mem_cons_self)))).1 (by have := HPL.out; omega)) (by have := HPL.out; omega)).mono ?_
        rintro e w8 ⟨rfl, hb8⟩
        have K8 := Lib.hid (K7.out.on hb8)
        have B8 := Lib.hid (belThen B7.out hb8)
        have W8 := Lib.hid (belThen W7.out hb8)
        replace y0 := cellOn y0 hb8
        replace y1 := cellOn y1 hb8
        replace y4 := cellOn y4 hb8
        replace y5 := cellOn y5 hb8
        clear hb8 K7 B7 W7
        go_wp2_with fail
        refine (HOR.out _ B8.out).mono ?_
        rintro e w9 ⟨vr, rfl, or⟩
        have Tr := Lib.hid (or.ints (by have := HOL.out; omega))
        have K9 := Lib.hid (K8.out.on or.below)
        have B9 := Lib.hid (belThen B8.out or.below)
        have W9 := Lib.hid (belThen W8.out or.below)
        replace y0 := cellOn y0 or.below
        replace y1 := cellOn y1 or.below
        replace y4 := cellOn y4 or.below
        replace y5 := cellOn y5 or.below
        clear or K8 B8 W8
        go_wp2_with fail
        refine (alike_yes (ownIF.ints (K9.out.k _ (List.mem_cons_of_mem _ (List.mem_cons_of_mem _ List.mem_cons_self))).1 (by have := HOL.out; omega)) Tr.out (by have := HOL.out; omega)).mono ?_
        rintro e w10 ⟨rfl, hb10⟩
        have K10 := Lib.hid (K9.out.on hb10)
        have B10 := Lib.hid (belThen B9.out hb10)
        have W10 := Lib.hid (belThen W9.out hb10)
        replace y0 := cellOn y0 hb10
        replace y1 := cellOn y1 hb10
        replace y4 := cellOn y4 hb10
        replace y5 := cellOn y5 hb10
        clear hb10 K9 B9 W9
        go_wp2_with fail
        refine (HLR.out _ B10.out).mono ?_
        rintro e w11 ⟨vs, rfl, os⟩
        have Ts := Lib.hid (os.rgs (by have := HLL.out; have := HJL.out; omega))
        have K11 := Lib.hid (K10.out.on os.below)
        have B11 := Lib.hid (belThen B10.out os.below)
        have W11 := Lib.hid (belThen W10.out os.below)
        replace y0 := cellOn y0 os.below
        replace y1 := cellOn y1 os.below
        replace y4 := cellOn y4 os.below
        replace y5 := cellOn y5 os.below
        clear os K10 B10 W10
        go_wp2_with fail
        refine (same_yes (ownF.rgs (K11.out.k _ (List.mem_cons_of_mem _ List.mem_cons_self)).1 (by have := HLL.out; omega)) Ts.out (by have := HLL.out; omega)).mono ?_
        rintro e w12 ⟨rfl, hb12⟩
        have K12 := Lib.hid (K11.out.on hb12)
        have B12 := Lib.hid (belThen B11.out hb12)
        have W12 := Lib.hid (belThen W11.out hb12)
        replace y0 := cellOn y0 hb12
        replace y1 := cellOn y1 hb12
        replace y4 := cellOn y4 hb12
        replace y5 := cellOn y5 hb12
        clear hb12 K11 B11 W11
        go_wp2_with fail
        refine (HJR.out _ B12.out).mono ?_
        rintro e w13 ⟨vt, rfl, ot⟩
        have Tt := Lib.hid (ot.rgs (by have := HLL.out; have := HJL.out; omega))
        have K13 := Lib.hid (K12.out.on ot.below)
        have B13 := Lib.hid (belThen B12.out ot.below)
        have W13 := Lib.hid (belThen W12.out ot.below)
        replace y0 := cellOn y0 ot.below
        replace y1 := cellOn y1 ot.below
        replace y4 := cellOn y4 ot.below
        replace y5 := cellOn y5 ot.below
        clear ot K12 B12 W12
        go_wp2_with fail
        refine (same_yes (ownF.rgs (K13.out.k _ List.mem_cons_self).1 (by have := HJL.out; omega)) Tt.out (by have := HJL.out; omega)).mono ?_
        rintro e w14 ⟨rfl, hb14⟩
        have K14 := Lib.hid (K13.out.on hb14)
        have B14 := Lib.hid (belThen B13.out hb14)
        have W14 := Lib.hid (belThen W13.out hb14)
        replace y0 := cellOn y0 hb14
        replace y1 := cellOn y1 hb14
        replace y4 := cellOn y4 hb14
        replace y5 := cellOn y5 hb14
        clear hb14 K13 B13 W13
        go_wp2_with fail
        refine (HPA.out _ B14.out).mono ?_
        rintro e w15 ⟨ve, rfl, oe⟩
        obtain ⟨ae, ce, hse⟩ := oe.shp
        subst hse
        have K15 := Lib.hid (K14.out.addR oe.below oe)
        have B15 := Lib.hid (belThen B14.out oe.below)
        have W15 := Lib.hid (belThen W14.out oe.below)
        replace y0 := cellOn y0 oe.below
        replace y1 := cellOn y1 oe.below
        replace y4 := cellOn y4 oe.below
        replace y5 := cellOn y5 oe.below
        clear oe K14 B14 W14
        have st : xS P (.slice a4 q.list.length k4) (.slice a5 q.sets.length k5) w15.drew := ⟨y4, y5⟩
        have K16 := Lib.hid (K15.out.on (Below.refl _ _).drew)
        have B16 := Lib.hid B15.out.drew
        have W16 := Lib.hid W15.out.drew
        have hP5 : v5.ownBlock ≠ some P := fun e => by (have := (HR5P.out P e); omega)
        clear y0 y1 y4 y5 K15 B15 W15 Tr Ts Tt
        go_wp2_with fail
        go_region_held3 (xS P (.slice a4 q.list.length k4) (.slice a5 q.sets.length k5)) (first | with_reducible exact st | with_reducible assumption | exact ⟨cellOn st18.1 ((Below.refl _ _).alloc (Nat.le_refl _) _), cellOn st18.2 ((Below.refl _ _).alloc (Nat.le_refl _) _)⟩) (first | (go_at_call 12; refine (HLE.out _ B16.out).mono ?_; rintro e w17 ⟨vl, rfl, ol'⟩; obtain ⟨al, cl, hsl⟩ := ol'.shp; subst hsl; have K17 := Lib.hid (K16.out.addR ol'.below ol'); have B17 := Lib.hid (belThen B16.out ol'.below); have W17 := Lib.hid (belThen W16.out ol'.below); have st17 : xS P (.slice a4 q.list.length k4) (.slice a5 q.sets.length k5) w17 := ⟨cellOn st.1 ol'.below, cellOn st.2 ol'.below⟩; clear ol') | (go_at_call 25; refine (HJO.out _ B17.out).mono ?_; rintro e w18 ⟨vj, rfl, oj⟩; obtain ⟨aj, cj, hsj⟩ := oj.shp; subst hsj; have K18 := Lib.hid (K17.out.addR oj.below oj); have B18 := Lib.hid (belThen B17.out oj.below); have W18 := Lib.hid (belThen W17.out oj.below); have st18 : xS P (.slice a4 q.list.length k4) (.slice a5 q.sets.length k5) w18 := ⟨cellOn st17.1 oj.below, cellOn st17.2 oj.below⟩; clear oj) | (refine stepK3 rfl _ _ rfl ae al aj pl.length ce le.length cl jl.length cj K18.out.swap rfl rfl (by omega) ?_; intro g5 c5 w19 hk19 hg19; have K19 := Lib.hid hk19.swap; have W19 := Lib.hid (below_grownK W18.out hg19 K18.out.swap.r3); have st19 : xS P (.slice a4 q.list.length k4) (.slice a5 q.sets.length k5) w19 := ⟨hg19.cell st18.1 (fun e => hP5 e.symm), hg19.cell st18.2 (fun e => hP5 e.symm)⟩; clear hk19 hg19))
        have hm1 : (0 : Int) ≤ 3 * (k : Int) + 11 ∧ 3 * (k : Int) + 11 ≤ 1000000 := by omega
        have hm2 : (0 : Int) ≤ 3 * (k : Int) + 12 ∧ 3 * (k : Int) + 12 ≤ 1000000 := by omega
        have hm3 : (0 : Int) ≤ 3 * (k : Int) + 13 ∧ 3 * (k : Int) + 13 ≤ 1000000 := by omega
        have HM1 := Lib.hid hm1
        have HM2 := Lib.hid hm2
        have HM3 := Lib.hid hm3
        clear hm1 hm2 hm3 K16 K17 K18 B16 B17 B18 W16 W17 W18 st st17 st18 st19
        go_wp2_with (first | (refine appK3 rfl _ _ rfl aa ac ad pl.length ca le.length cc jl.length cd K19.out rfl rfl (by omega) ?_; intro g3 c3 w20 hk20 hg20; have K20 := Lib.hid hk20; have W20 := Lib.hid (below_grownK W19.out hg20 K19.out.r3); clear hk20 hg20) | (refine appK4 rfl _ _ rfl ab ol.length cb K20.out rfl rfl (by omega) ?_; intro g4 c4 w21 hk21 hg21; have K21 := Lib.hid hk21; have W21 := Lib.hid (below_grownK W20.out hg21 K20.out.r4); clear hk21 hg21))
        refine (marked_any _ (ownF.row (K21.out.k _ mem7).1) HM1.out.1 HM1.out.2).mono ?_
        rintro e w22 ⟨⟨ua, rfl⟩, hm22, hg22⟩
        have W22 := Lib.hid (below_grownF W21.out K21.out mem7 hg22)
        have K22 := Lib.hid (K21.out.turn7 hg22 hm22 (stab_mark _ _))
        clear hg22 hm22 K19 K20 K21 W19 W20 W21
        go_wp2_with fail
        refine (marked_any _ (ownF.row (K22.out.k _ mem4).1) HM2.out.1 HM2.out.2).mono ?_
        rintro e w23 ⟨⟨uc, rfl⟩, hm23, hg23⟩
        have W23 := Lib.hid (below_grownF W22.out K22.out mem4 hg23)
        have K23 := Lib.hid (K22.out.turn4 hg23 hm23 (stab_mark _ _))
        clear hg23 hm23 K22 W22
        go_wp2_with fail
        refine (marked_any _ (ownF.row (K23.out.k _ mem3).1) HM3.out.1 HM3.out.2).mono ?_
        rintro e w24 ⟨⟨ud, rfl⟩, hm24, hg24⟩
        have W24 := Lib.hid (below_grownF W23.out K23.out mem3 hg24)
        have K24 := Lib.hid (K23.out.turn3 hg24 hm24 (stab_mark _ _))
        clear hg24 hm24 K23 W23
        go_wp2_with fail
        refine (pencilled_any _ (ownIF.row (K24.out.k _ mem5).1)).mono ?_
        rintro e w25 ⟨⟨ub, rfl⟩, hm25, hg25⟩
        have W25 := Lib.hid (below_grownF W24.out K24.out mem5 hg25)
        have K25 := Lib.hid (K24.out.turn5 hg25 hm25 (stab_markI _ _))
        clear hg25 hm25 K24 W24
        have hq' : A.getD (trn A.length k) ask0 = q := by rw [← hjt.out]; exact HQD.out
        have HN := Lib.hid (HKO.out.nextK hq' HEQ.out K25.out)
        clear hq'
        go_wp2_with fail
        go_roundg (2 * A.length - (k + 1))
        case measure => omega
        case rel => exact ⟨k + 1, _, _, _, _, _, _, _, _, rfl, by omega, by omega, by go_num, rfl, rfl, rfl, W25.out, K25.out, HN⟩
      · have hltz : ¬ (k : Int) < 2 * (A.length : Int) := by omega
        have hk2 : k = 2 * A.length := by omega
        subst hk2
        obtain ⟨ao3, cap3, hs3, hc3⟩ := row_formO HKP.out.r3
        obtain ⟨ao4, cap4, hs4, hc4⟩ := row_formO HKP.out.r4
        obtain ⟨ao5, cap5, hs5, hc5⟩ := row_formO HKP.out.r5
        subst hs3
        subst hs4
        subst hs5
        have HC3 := Lib.hid hc3
        have HC4 := Lib.hid hc4
        have HC5 := Lib.hid hc5
        clear hc3 hc4 hc5
        go_wp2_with fail
        go_loopg [17, 18, 19, 20] (2 * A.length) (fun gg s17 s18 s19 s20 wy => ∃ (i : Nat) (Y : World), Y = wy ∧ i ≤ 2 * A.length ∧ 2 * A.length - i ≤ gg ∧ s17 = .int .i64 i ∧ Below X.heap.size X Y)
        case atStart => exact ⟨0, _, rfl, Nat.zero_le _, by omega, rfl, Below.refl _ _⟩
        case round =>
          obtain ⟨i, Y, hY, hi, hgg2, rfl, hby⟩ := hrel
          subst hY
          have HBW := Lib.hid hby
          clear hby
          by_cases hig : i < 2 * A.length
          · have higz : (i : Int) < 2 * (A.length : Int) := by omega
            have hi0 : (0 : Int) ≤ (i : Int) := by omega
            have hib : (i : Int) ≤ 60 := by omega
            have hme : 2 * A.length - (i + 1) < 2 * A.length - i := by omega
            obtain ⟨m, hm⟩ : ∃ m : Nat, m = 3 * i := ⟨_, rfl⟩
            have hmz : 3 * (i : Int) = (m : Int) := by omega
            have hmb : (m : Int) ≤ 180 := by omega
            have hm0 : (0 : Int) ≤ (m : Int) := by omega
            have hl3 : (m : Int) < (G.length : Int) := by (have := HKO.out.lG; omega)
            have hl31 : (m : Int) + 1 < (G.length : Int) := by (have := HKO.out.lG; omega)
            have hl32 : (m : Int) + 2 < (G.length : Int) := by (have := HKO.out.lG; omega)
            have hl5 : (m : Int) < (F.length : Int) := by (have := HKO.out.lF; omega)
            have hl51 : (m : Int) + 1 < (F.length : Int) := by (have := HKO.out.lF; omega)
            have hl52 : (m : Int) + 2 < (F.length : Int) := by (have := HKO.out.lF; omega)
            have hl4 : (i : Int) < (N.length : Int) := by (have := HKO.out.lN; omega)
            have hs6 : G.length ≤ 1000 ∧ F.length ≤ 1000 ∧ N.length ≤ 1000 := by (have := HKO.out.lG; have := HKO.out.lF; have := HKO.out.lN; omega)
            obtain ⟨hsG, hsF, hsN⟩ := hs6
            have r := HKO.out.row i hig
            obtain ⟨g3, hg3, hcc3⟩ := HC3.out (by omega)
            obtain ⟨g4, hg4, hcc4⟩ := HC4.out (by omega)
            obtain ⟨g5, hg5, hcc5⟩ := HC5.out (by omega)
            subst hg3
            subst hg4
            subst hg5
            have d0 := cellOn (hcc3 m (by omega)) HBW.out
            have d1 := cellOn (hcc3 (m + 1) (by omega)) HBW.out
            have d2 := cellOn (hcc3 (m + 2) (by omega)) HBW.out
            have dn := cellOn (hcc4 i (by omega)) HBW.out
            have e0 := cellOn (hcc5 m (by omega)) HBW.out
            have e1 := cellOn (hcc5 (m + 1) (by omega)) HBW.out
            have e2 := cellOn (hcc5 (m + 2) (by omega)) HBW.out
            have HG0 := Lib.hid (fun Z (hb : Below X.heap.size X Z) => (show MarkR Z (G.getD m nilV) ((m : Int) + 11) by have t := ((HKP.out.on hb).k _ r.g0).1; rw [← hm, hmz] at t; exact t))
            have HG1 := Lib.hid (fun Z (hb : Below X.heap.size X Z) => (show MarkR Z (G.getD (m + 1) nilV) ((m : Int) + 12) by have t := ((HKP.out.on hb).k _ r.g1).1; rw [← hm, hmz] at t; exact t))
            have HG2 := Lib.hid (fun Z (hb : Below X.heap.size X Z) => (show MarkR Z (G.getD (m + 2) nilV) ((m : Int) + 13) by have t := ((HKP.out.on hb).k _ r.g2).1; rw [← hm, hmz] at t; exact t))
            have HGN := Lib.hid (fun Z (hb : Below X.heap.size X Z) => (show MarkI Z (N.getD i nilV) ((i : Int) + 11) from ((HKP.out.on hb).k _ r.n0).1))
            obtain ⟨j, hj, hjt, HTN⟩ : ∃ j, j < A.length ∧ Hid (j = trn A.length i) ∧ Hid (Calls Tryd.prog 10 #[.int .i64 i, .int .i64 A.length] Y fun e w' => e = .returned (.int .i64 (j : Nat)) ∧ w' = Y) := by
              by_cases hkn : i < A.length
              · exact ⟨i, hkn, Lib.hid (by unfold trn; rw [if_pos hkn]), Lib.hid (turn_up i A.length Y hkn)⟩
              · exact ⟨2 * A.length - 1 - i, by omega, Lib.hid (by unfold trn; rw [if_neg hkn]), Lib.hid (turn_down i A.length _ Y (by omega) (by omega) (by omega))⟩
            have HE0 := Lib.hid (fun Z (hb : Below X.heap.size X Z) => (show ownF 0 (F.getD m nilV) (parseL (L (A.getD j ask0).text)) Z by have t := ((HKP.out.on hb).k _ r.f0).1; rw [← hm, ← hjt.out] at t; exact t))
            have HE1 := Lib.hid (fun Z (hb : Below X.heap.size X Z) => (show ownF 0 (F.getD (m + 1) nilV) (leastL (A.getD j ask0).list) Z by have t := ((HKP.out.on hb).k _ r.f1).1; rw [← hm, ← hjt.out] at t; exact t))
            have HE2 := Lib.hid (fun Z (hb : Below X.heap.size X Z) => (show ownF 0 (F.getD (m + 2) nilV) (joinL (A.getD j ask0).sets) Z by have t := ((HKP.out.on hb).k _ r.f2).1; rw [← hm, ← hjt.out] at t; exact t))
            clear r hcc3 hcc4 hcc5 hjt hm
            have HBZ := Lib.hid (belThen HBX.out HBW.out)
            have hjz : (j : Int) < (A.length : Int) := by omega
            obtain ⟨b, off, hao, hat⟩ := HC.out (by omega)
            subst hao
            have hqq := hat j hj
            have hsq := HQ.out j hj
            obtain ⟨u1, ee1, f1⟩ := hqq.c1
            obtain ⟨u4, ee4, f4⟩ := hqq.c4
            obtain ⟨u5, ee5, f5⟩ := hqq.c5
            have c0 := cellOn hqq.c0 HBZ.out
            have c1 := cellOn ee1 HBZ.out
            have c2 := cellOn hqq.c2 HBZ.out
            have c3 := cellOn hqq.c3 HBZ.out
            have c4 := cellOn ee4 HBZ.out
            have c5 := cellOn ee5 HBZ.out
            obtain ⟨a1, k1, hu1, _⟩ := f1.shape
            obtain ⟨a4, k4, hu4⟩ := f4.form
            obtain ⟨a5, k5, hu5, _⟩ := f5.form
            have HF4 := Lib.hid f4
            have HF5 := Lib.hid f5
            have hz0 := hqq.z0
            have hs4 : (A.getD j ask0).list.length ≤ 3000 := hsq.2.1
            have hs5 : (A.getD j ask0).sets.length ≤ 3000 := hsq.2.2.1
            have hs6 : (A.getD j ask0).sets.flatten.length ≤ 3000 := hsq.2.2.2
            clear hqq hat hsq ee1 ee4 ee5 f1 f4 f5
            generalize hqd : A.getD j ask0 = q at *
            clear hqd
            subst hu1
            subst hu4
            subst hu5
            generalize G.getD m nilV = x0 at *
            generalize G.getD (m + 1) nilV = x1 at *
            generalize G.getD (m + 2) nilV = x2 at *
            generalize N.getD i nilV = xn at *
            generalize F.getD m nilV = z0 at *
            generalize F.getD (m + 1) nilV = z1 at *
            generalize F.getD (m + 2) nilV = z2 at *
            have HPL := Lib.hid (parseL_lenO (L q.text))
            have HLL := Lib.hid (leastL_len q.list)
            have HJL := Lib.hid (joinL_len q.sets)
            have HPR := Lib.hid (fun Z => refParse_any q.text Z)
            have HLR := Lib.hid (fun Z (h : Below w.heap.size w Z) => refLeast_any _ q.list Z (HF4.out.on h) (by omega))
            have HJR := Lib.hid (fun Z (h : Below w.heap.size w Z) => refJoin_any _ q.sets Z (HF5.out.on h) (by omega))
            generalize parseE (L q.text) = pe at *
            generalize parseL (L q.text) = pl at *
            generalize leastL q.list = le at *
            generalize joinL q.sets = jl at *
            have hle : le.length ≤ 100000 := by (have := HLL.out; omega)
            have hjl : jl.length ≤ 100000 := by (have := HJL.out; omega)
            have hpl : pl.length ≤ 100000 := by (have := HPL.out; omega)
            clear HKP HKO HC3 HC4 HC5 HF4 HF5 HC HQ HPL HLL HJL
            go_wp2_with (go_at_call 10; refine HTN.out.mono ?_; rintro e w2 ⟨rfl, hw2⟩; subst hw2)
            refine calls_genO (fun Y2 hY => ?_)
            obtain ⟨P, hP⟩ : ∃ P, P = w2.heap.size := ⟨_, rfl⟩
            rw [← hP]
            have hbY : Below w2.heap.size w2 Y2 := by rw [hY]; exact (Below.refl _ _).alloc (Nat.le_refl _) _
            have y4 : Y2.cell? ⟨P, 4, none⟩ = some (.slice a4 q.list.length k4) := by rw [hY, hP]; simp
            have y5 : Y2.cell? ⟨P, 5, none⟩ = some (.slice a5 q.sets.length k5) := by rw [hY, hP]; simp
            replace d0 := cellOn d0 hbY
            replace d1 := cellOn d1 hbY
            replace d2 := cellOn d2 hbY
            replace dn := cellOn dn hbY
            have tt : yS X P g5 m (m + 1) (m + 2) (.slice a4 q.list.length k4) (.slice a5 q.sets.length k5) z0 z1 z2 Y2 := ⟨y4, y5, cellOn e0 hbY, cellOn e1 hbY, cellOn e2 hbY, belThen HBW.out hbY⟩
            have HT2 := Lib.hid tt
            clear hY hP hbY c0 c1 c2 c3 c4 c5 e0 e1 e2 y4 y5 tt HTN HBZ HBW
            refine (HPR.out Y2).mono ?_
            rintro e w3 ⟨vw, rfl, ow⟩
            replace d0 := cellOn d0 ow.below
            replace d1 := cellOn d1 ow.below
            replace d2 := cellOn d2 ow.below
            replace dn := cellOn dn ow.below
            have HT3 := Lib.hid (HT2.out.on ow.below)
            have HRW := Lib.hid (ow.rgs (by omega))
            clear ow HT2
            go_wp2_with fail
            refine (bears_yes _ (HG0.out _ HT3.out.2.2.2.2.2) (by omega) (by omega)).mono ?_
            rintro e w4 ⟨rfl, hb4⟩
            replace d1 := cellOn d1 hb4
            replace d2 := cellOn d2 hb4
            replace dn := cellOn dn hb4
            have HT4 := Lib.hid (HT3.out.on hb4)
            replace HRW := Lib.hid (HRW.out.on hb4)
            clear hb4 HT3
            go_wp2_with fail
            refine (bears_yes _ (HG1.out _ HT4.out.2.2.2.2.2) (by omega) (by omega)).mono ?_
            rintro e w5 ⟨rfl, hb5⟩
            replace d2 := cellOn d2 hb5
            replace dn := cellOn dn hb5
            have HT5 := Lib.hid (HT4.out.on hb5)
            replace HRW := Lib.hid (HRW.out.on hb5)
            clear hb5 HT4
            go_wp2_with fail
            refine (bears_yes _ (HG2.out _ HT5.out.2.2.2.2.2) (by omega) (by omega)).mono ?_
            rintro e w6 ⟨rfl, hb6⟩
            replace dn := cellOn dn hb6
            have HT6 := Lib.hid (HT5.out.on hb6)
            replace HRW := Lib.hid (HRW.out.on hb6)
            clear hb6 HT5
            go_wp2_with fail
            refine (shows_yes _ (HGN.out _ HT6.out.2.2.2.2.2)).mono ?_
            rintro e w7 ⟨rfl, hb7⟩
            have st : yS X P g5 m (m + 1) (m + 2) (.slice a4 q.list.length k4) (.slice a5 q.sets.length k5) z0 z1 z2 w7.drew := (HT6.out.on hb7).on (Below.refl _ _).drew
            have RW := Lib.hid ((HRW.out.on hb7).on (Below.refl _ _).drew)
            clear hb7 HT6 HRW dn
            go_wp2_with fail
            obtain ⟨m1, hm1⟩ : ∃ m1 : Nat, m1 = m + 1 := ⟨_, rfl⟩
            obtain ⟨m2, hm2⟩ : ∃ m2 : Nat, m2 = m + 2 := ⟨_, rfl⟩
            have hw0 : IntKind.i64.wrap (3 * (i : Int)) = (m : Int) := by rw [hmz, IntKind.wrap_i64]; omega
            have hw1 : IntKind.i64.wrap ((m : Int) + 1) = (m1 : Int) := by rw [IntKind.wrap_i64]; omega
            have hw2 : IntKind.i64.wrap ((m : Int) + 2) = (m2 : Int) := by rw [IntKind.wrap_i64]; omega
            have hl1 : (m1 : Int) < (F.length : Int) := by omega
            have hl2 : (m2 : Int) < (F.length : Int) := by omega
            have hn1 : (0 : Int) ≤ (m1 : Int) := by omega
            have hn2 : (0 : Int) ≤ (m2 : Int) := by omega
            rw [← hm1, ← hm2] at st
            clear hm1 hm2 hmz hl51 hl52 hl3 hl31 hl32 d0 d1 d2
            go_region_held3 (yS X P g5 m m1 m2 (.slice a4 q.list.length k4) (.slice a5 q.sets.length k5) z0 z1 z2) (first | with_reducible exact st | with_reducible assumption) (first | (go_at_call 14; refine (same_yes (ownF.rgs (HE2.out _ st11.2.2.2.2.2) (by omega)) RJ.out (by omega)).mono ?_; rintro e w12 ⟨rfl, hb12⟩; have st12 : yS X P g5 m m1 m2 (.slice a4 q.list.length k4) (.slice a5 q.sets.length k5) z0 z1 z2 w12 := st11.on hb12; clear hb12) | (go_at_call 24; refine (HJR.out _ (belThen HBX.out st10.2.2.2.2.2)).mono ?_; rintro e w11 ⟨vj, rfl, oj⟩; have RJ := Lib.hid (oj.rgs (by omega)); have st11 : yS X P g5 m m1 m2 (.slice a4 q.list.length k4) (.slice a5 q.sets.length k5) z0 z1 z2 w11 := st10.on oj.below; clear oj) | (go_at_call 14; refine (same_yes (ownF.rgs (HE1.out _ st9.2.2.2.2.2) (by omega)) RL.out (by omega)).mono ?_; rintro e w10 ⟨rfl, hb10⟩; have st10 : yS X P g5 m m1 m2 (.slice a4 q.list.length k4) (.slice a5 q.sets.length k5) z0 z1 z2 w10 := st9.on hb10; clear hb10) | (go_at_call 11; refine (HLR.out _ (belThen HBX.out st8.2.2.2.2.2)).mono ?_; rintro e w9 ⟨vl, rfl, ol'⟩; have RL := Lib.hid (ol'.rgs (by omega)); have st9 : yS X P g5 m m1 m2 (.slice a4 q.list.length k4) (.slice a5 q.sets.length k5) z0 z1 z2 w9 := st8.on ol'.below; clear ol') | (go_at_call 14; refine (same_yes (ownF.rgs (HE0.out _ st.2.2.2.2.2) (by omega)) RW.out (by omega)).mono ?_; rintro e w8 ⟨rfl, hb8⟩; have st8 : yS X P g5 m m1 m2 (.slice a4 q.list.length k4) (.slice a5 q.sets.length k5) z0 z1 z2 w8 := st.on hb8; clear hb8))
            go_wp2_with fail
            go_roundg (2 * A.length - (i + 1))
            case measure => omega
            case rel => exact ⟨i + 1, _, rfl, by omega, by omega, by go_num, st12.2.2.2.2.2⟩
          · have higz : ¬ (i : Int) < 2 * (A.length : Int) := by omega
            go_wp2_with (go_at_call 16; refine (HK.out _ (belThen HBX.out HBW.out)).mono ?_; rintro e w9 ⟨rfl, hb9⟩)
            go_ret
            exact ⟨rfl, hb9⟩
end Go.Proofs.YtkclcjnfjielfabDoor
