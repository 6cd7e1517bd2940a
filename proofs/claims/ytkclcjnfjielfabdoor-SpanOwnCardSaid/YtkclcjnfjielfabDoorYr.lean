/- A desk's counted; rows of sets that grow beside a desk. -/
import Derived.Test.YtkclcjnfjielfabDoorYq
import Derived.Test.YtkclcjnfjielfabDoorWz
import Derived.Test.YtkclcjnfjielfabDoorWy
namespace Go.Proofs.YtkclcjnfjielfabDoor
open Go.RowKit

set_option maxRecDepth 100000 in
set_option maxHeartbeats 2000000 in
theorem counted_yes {D g n cap : Nat} {vl : Value} {l : List Int} {w : World} (hc : w.cell? ⟨D, 1, none⟩ = some (.slice (some ⟨g, 0, none⟩) n cap)) (h1 : Ints w (.slice (some ⟨g, 0, none⟩) n cap) (laidG markI l n)) (h2 : Ints w vl l) (hln : l.length + 4 ≤ n) (hll : l.length ≤ 1000000) (hn : n ≤ 3000000) (hcap : n ≤ cap) :
    Calls Tryd.prog 15 #[.pointer (some ⟨D, 0, none⟩), vl] w fun e w' => e = .returned (.bool true) ∧ Below w.heap.size w w' := by
  obtain ⟨ao, c2, hv⟩ := h2.form
  have H2 := Lib.hid h2
  have hlen : (laidG markI l n).length = n := laidG_length markI (by omega)
  have H3 : Hid (Ints w (.slice (some ⟨g, 0, none⟩) l.length cap) l) := Lib.hid (by
    have := h1.upto (k := l.length) (by omega) cap (fun h => by cases h)
    rw [laidG_take] at this
    exact this)
  have HC : Hid (∀ k, l.length ≤ k → k < n → w.cell? ⟨g, k, none⟩ = some (.int .i64 (-7 - (k : Int)))) := Lib.hid (fun k hk hkn => by
    rcases h1 with ⟨h0, _⟩ | ⟨b, off, cap', he, _, _, hc⟩
    · rw [h0] at hlen; simp at hlen; omega
    · simp only [Value.slice.injEq, Option.some.injEq, Addr.mk.injEq, and_true] at he
      obtain ⟨⟨rfl, rfl⟩, _, _⟩ := he
      have := hc k (by omega)
      rw [laidG_at markI l n k _ hk hkn, Nat.zero_add] at this
      exact this)
  subst hv
  clear h1 h2 hlen
  have HCD := Lib.hid hc
  clear hc
  have hlz : (l.length : Int) ≤ (n : Int) := by omega
  have hlc : (l.length : Int) ≤ (cap : Int) := by omega
  go_enter Tryd.func15, Tryd.ntmps15
  go_wp2_with fail
  go_loopg [5] n (fun gg s5 wr => ∃ (k : Nat) (X : World), X = wr ∧ l.length ≤ k ∧ k ≤ n ∧ n - k ≤ gg ∧ s5 = .int .i64 k ∧ Below w.heap.size w X)
  case atStart => exact ⟨l.length, _, rfl, Nat.le_refl _, by omega, by omega, rfl, Below.refl _ _⟩
  case round =>
    obtain ⟨k, X, hX, hlk, hk, hgg, rfl, hbw⟩ := hrel
    subst hX
    have HBW := Lib.hid hbw
    clear hbw
    have hcd := cellOn HCD.out HBW.out
    by_cases hlt : k < n
    · have hltz : (k : Int) < (n : Int) := by omega
      have c1 := HC.out k hlk hlt
      replace c1 := cellOn c1 HBW.out
      have hk7 : IntKind.i64.wrap (-7 - (k : Int)) = -7 - (k : Int) := wr7 k (by omega)
      go_wp2_with fail
      go_roundg (n - (k + 1))
      case measure => omega
      case rel => exact ⟨k + 1, _, rfl, by omega, by omega, by omega, by go_num, HBW.out⟩
    · have hltz : ¬ (k : Int) < (n : Int) := by omega
      go_wp2_with (go_at_call 30; refine (alike_yes (H3.out.on HBW.out) (H2.out.on HBW.out) (by omega)).mono ?_; rintro e w1 ⟨rfl, hb1⟩)
      go_ret
      exact ⟨rfl, belThen HBW.out hb1⟩

/-- The place for numbers on a desk. -/
structure DeskI (D : Nat) (v : Value) (m : List Int) (W0 w : World) : Prop where
  c1 : w.cell? ⟨D, 1, none⟩ = some v
  f1 : w.frozen? ⟨D, 1, none⟩ = false
  row : w.ownsRow (D + 1) 3 1 v m.length (ic m)
  below : Below D W0 w
  base : D < w.heap.size
  lm : m.length ≤ 3000000
theorem row_on3 {B : Nat} {e : TypeId} {sz : Nat} {v : Value} {n : Nat} {xs : List Value} {w w' : World} (h : w.ownsRow B e sz v n xs) (hb : ∀ k, v.ownBlock = some k → w'.heap[k]? = w.heap[k]?) : w'.ownsRow B e sz v n xs := by
  refine ⟨h.1, ?_⟩
  rcases h.2 with hn | ⟨g, cap, cur, rfl, hB, hg, rest⟩
  · exact .inl hn
  · exact .inr ⟨g, cap, cur, rfl, hB, by rw [hb g rfl]; exact hg, rest⟩
theorem DeskI.on {D : Nat} {v : Value} {m : List Int} {W0 w w' : World} (h : DeskI D v m W0 w) (hb : Below w.heap.size w w') : DeskI D v m W0 w' :=
  ⟨cellOn h.c1 hb, by rw [hb.frozen (p := ⟨D, 1, none⟩) h.base]; exact h.f1, row_on3 h.row (fun k hk => hb.block k (h.row.lt k hk).2), h.below.trans (hb.mono (Nat.le_of_lt h.base)), Nat.lt_of_lt_of_le h.base hb.size, h.lm⟩
theorem DeskI.start (w : World) (D : Nat) (hD : D = w.heap.size) (v1 v3 v4 : Value) (t : TypeId) : DeskI D (.slice none 0 0) [] w (w.alloc (.cells #[v1, .slice none 0 0, v3, v4] t)) := by
  subst hD
  exact ⟨by simp, by simp [World.frozen?_alloc_mark], World.ownsRow_nil _ _ _ _, (Below.refl _ _).alloc (Nat.le_refl _) _, by simp, by simp⟩
theorem DeskI.numbered {D : Nat} {v : Value} {m l : List Int} {g n cap : Nat} {W0 w w' : World} (h : DeskI D v m W0 w) (hr : Numbered D v.ownBlock l g n cap w w') (hn : n ≤ 3000000) : DeskI D (.slice (some ⟨g, 0, none⟩) n cap) (laidG markI l n) W0 w' := by
  have hb := h.base
  have e : (laidG markI l n).length = n := laidG_length markI (by have := hr.len; omega)
  refine ⟨hr.cell, hr.fr, by rw [e]; exact hr.row, ⟨hr.far.os.trans h.below.os, hr.far.tape.trans h.below.tape, hr.far.output.trans h.below.output, ?_, fun k hk => ?_⟩, Nat.lt_of_lt_of_le hb hr.far.size, by rw [e]; exact hn⟩
  · exact Nat.le_trans h.below.size hr.far.size
  · rw [hr.far.far k (by omega) (by omega) (fun e => by have := (h.row.lt k e).1; omega)]
    exact h.below.block k hk
theorem numbered_ints {D : Nat} {v0 : Option Nat} {l : List Int} {g n cap : Nat} {w w' : World} (h : Numbered D v0 l g n cap w w') (hn : n ≤ 3000000) : Ints w' (.slice (some ⟨g, 0, none⟩) n cap) (laidG markI l n) ∧ Ints w' (.slice (some ⟨g, 0, none⟩) l.length cap) l := by
  have hlg : (laidG markI l n).length = n := laidG_length markI (by have := h.len; omega)
  have h1 := row_ints h.row hlg.symm (by omega)
  have h2 := h1.upto (k := l.length) (by have := h.len; omega) cap (fun h => by cases h)
  rw [laidG_take] at h2
  exact ⟨h1, h2⟩

/-- Two rows of sets, sets kept beside them, and a desk's place (its block) that none of them is. -/
structure TwoD (D : Nat) (vd : Option Nat) (v4 : Value) (G : List Value) (v5 : Value) (T : List Value) (K : List (Value × List Rg)) (w : World) : Prop where
  two : TwoS (D + 1) v4 G v5 T K w w
  lo : ∀ p ∈ K, ∀ k, p.1.ownBlock = some k → D + 1 ≤ k
  pl : ∀ k, vd = some k → (∃ p ∈ K, p.1.ownBlock = some k) ∧ ∀ p ∈ K, p.2 ≠ [] → p.1.ownBlock ≠ some k
theorem TwoS.self {B : Nat} {v3 v4 : Value} {G T : List Value} {K : List (Value × List Rg)} {W0 w : World} (h : TwoS B v3 G v4 T K W0 w) : TwoS B v3 G v4 T K w w := ⟨h.a, h.b, h.d, Below.refl _ _, h.base, h.k⟩
theorem TwoD.on {D : Nat} {vd : Option Nat} {v4 v5 : Value} {G T : List Value} {K : List (Value × List Rg)} {w w' : World} (h : TwoD D vd v4 G v5 T K w) (hb : Below w.heap.size w w') : TwoD D vd v4 G v5 T K w' := ⟨(h.two.on hb).self, h.lo, h.pl⟩
theorem TwoD.start {D : Nat} {w : World} (hD : D < w.heap.size) : TwoD D none (.slice none 0 0) [] (.slice none 0 0) [] [] w := ⟨TwoS.nil (Below.refl _ _) hD, fun p hp => (by cases hp), fun k h => by cases h⟩
theorem TwoD.keep {D : Nat} {vd : Option Nat} {v4 v5 u : Value} {l : List Rg} {G T : List Value} {K : List (Value × List Rg)} {w w' W1 : World} (h : TwoD D vd v4 G v5 T K w) (ho : OwnR w.heap.size u l W1 w') (hb : Below w.heap.size w w') (hl : l.length ≤ 8796093022208) : TwoD D vd v4 G v5 T ((u, l) :: K) w' := by
  refine ⟨(h.two.keep ho hb hl).self, fun p hp k hk => ?_, fun k hk => ?_⟩
  · rcases List.mem_cons.1 hp with rfl | hp
    · have := (ho.row.lt k hk).1
      have := h.two.base
      omega
    · exact h.lo p hp k hk
  · obtain ⟨⟨p, hp, hpk⟩, h2⟩ := h.pl k hk
    refine ⟨⟨p, List.mem_cons_of_mem _ hp, hpk⟩, fun q hq hne hqk => ?_⟩
    rcases List.mem_cons.1 hq with rfl | hq
    · have := (ho.row.lt k hqk).1
      have := (h.two.k p hp).2.2.2 k hpk
      omega
    · exact h2 q hq hne hqk
theorem Rgs.empty {w w' : World} {u : Value} (h : Rgs w u []) (hs : w.heap.size ≤ w'.heap.size) : Rgs w' u [] := by
  rcases h with h | ⟨b, off, cap, rfl, h0, h1, _⟩
  · exact .inl h
  · exact .inr ⟨b, off, cap, rfl, h0, Nat.lt_of_lt_of_le h1 hs, fun i hi => by simp at hi⟩
theorem heap_cell {w w' : World} {k i : Nat} (h : w'.heap[k]? = w.heap[k]?) : w'.cell? ⟨k, i, none⟩ = w.cell? ⟨k, i, none⟩ := by
  unfold World.cell?
  simp [h]
theorem Rgs.same {w w' : World} {u : Value} {l : List Rg} (h : Rgs w u l) (hs : w.heap.size ≤ w'.heap.size) (hb : ∀ k, u.ownBlock = some k → w'.heap[k]? = w.heap[k]?) : Rgs w' u l := by
  rcases h with h | ⟨b, off, cap, rfl, h0, h1, h2⟩
  · exact .inl h
  · refine .inr ⟨b, off, cap, rfl, h0, Nat.lt_of_lt_of_le h1 hs, fun i hi => ?_⟩
    rw [heap_cell (hb b rfl), heap_cell (hb b rfl)]
    exact h2 i hi
/-- The desk's place has been written to, or another one was made. -/
theorem TwoD.far {D g : Nat} {vd : Option Nat} {v4 v5 : Value} {G T : List Value} {K : List (Value × List Rg)} {w w' : World} (h : TwoD D vd v4 G v5 T K w) (hf : FarD D vd w w') (hat : vd = some g ∨ w.heap.size ≤ g) (hg : g < w'.heap.size) (hgD : D + 1 ≤ g) :
    TwoD D (some g) v4 G v5 T ((.slice (some ⟨g, 0, none⟩) 0 1, []) :: K) w' := by
  have row : ∀ v : Value, (∀ k, v.ownBlock = some k → D + 1 ≤ k ∧ k < w.heap.size) → (∀ k, vd = some k → v.ownBlock ≠ some k) → ∀ k, v.ownBlock = some k → w'.heap[k]? = w.heap[k]? := fun v h1 h2 k hk => by
    have := h1 k hk
    exact hf.far k this.2 (by omega) (fun e => h2 k e hk)
  have ap4 : ∀ k, vd = some k → v4.ownBlock ≠ some k := fun k hk => by
    obtain ⟨⟨p, hp, hpk⟩, _⟩ := h.pl k hk
    exact (h.two.k p hp).2.1 k hpk
  have ap5 : ∀ k, vd = some k → v5.ownBlock ≠ some k := fun k hk => by
    obtain ⟨⟨p, hp, hpk⟩, _⟩ := h.pl k hk
    exact (h.two.k p hp).2.2.1 k hpk
  have g4 : v4.ownBlock ≠ some g := fun e => by
    rcases hat with h1 | h1
    · exact ap4 g h1 e
    · have := (h.two.a.lt g e).2; omega
  have g5 : v5.ownBlock ≠ some g := fun e => by
    rcases hat with h1 | h1
    · exact ap5 g h1 e
    · have := (h.two.b.lt g e).2; omega
  refine ⟨⟨row_on3 h.two.a (row v4 (fun k hk => h.two.a.lt k hk) ap4), row_on3 h.two.b (row v5 (fun k hk => h.two.b.lt k hk) ap5), h.two.d, Below.refl _ _, Nat.le_trans h.two.base hf.size, fun p hp => ?_⟩, fun p hp k hk => ?_, fun k hk => ?_⟩
  · rcases List.mem_cons.1 hp with rfl | hp
    · have e : ∀ k, (Value.slice (some ⟨g, 0, none⟩) 0 1).ownBlock = some k → k = g := fun k hk => by simp [Value.ownBlock] at hk; exact hk.symm
      refine ⟨.inl ⟨rfl, _, _, rfl, fun h => by cases h⟩, fun k h1 h2 => ?_, fun k h1 h2 => ?_, fun k h1 => ?_⟩
      · exact g4 (by rw [← e k h1]; exact h2)
      · exact g5 (by rw [← e k h1]; exact h2)
      · rw [e k h1]; exact hg
    · obtain ⟨r1, r2, r3, r4⟩ := h.two.k p hp
      refine ⟨?_, r2, r3, fun k hk => Nat.lt_of_lt_of_le (r4 k hk) hf.size⟩
      by_cases he : p.2 = []
      · rw [he] at r1 ⊢; exact r1.empty hf.size
      · exact r1.same hf.size (row p.1 (fun k hk => ⟨h.lo p hp k hk, r4 k hk⟩) (fun k hk => (h.pl k hk).2 p hp he))
  · rcases List.mem_cons.1 hp with rfl | hp
    · simp [Value.ownBlock] at hk; omega
    · exact h.lo p hp k hk
  · have e : g = k := Option.some.inj hk
    subst e
    refine ⟨⟨_, List.mem_cons_self, rfl⟩, fun q hq hne hqk => ?_⟩
    rcases List.mem_cons.1 hq with rfl | hq
    · exact hne rfl
    · rcases hat with h1 | h1
      · exact (h.pl g h1).2 q hq hne hqk
      · have := (h.two.k q hq).2.2.2 g hqk; omega
/-- The second one grows by a set that is kept. -/
theorem appS2 {ops : Array Oper} {rest : List Oper} {o : Oper} {a : Act} {Q : Exit → Act → World → Prop} (hgd : o.guard = none) (s x : Operand)
    (ho : o.op = .call { callee := .builtin .append, args := #[s, x], argTypes := #[27, 27] })
    {B : Nat} {v3 v4 : Value} {G T : List Value} {K : List (Value × List Rg)} {W0 w : World} (ao : Option Addr) (n c : Nat) (h2 : TwoS B v3 G v4 T K W0 w) (hs : a.eval s = v4) (hx : a.eval x = .slice (some ⟨w.heap.size, 0, none⟩) 1 1)
    (hlen : T.length + 1 ≤ 5864062014805)
    (h : ∀ v' w', TwoS B v3 G v' (T ++ [.slice ao n c]) K W0 w' → w.grownBy w' v4.ownBlock → wpList Tryd.prog ops Q rest (a.put o.dst v') w') : wpList Tryd.prog ops Q (o :: rest) a (w.alloc (.cells #[.slice ao n c] 25)) := by
  obtain ⟨i0, hi, hz0, hz1, hz2⟩ := info_parts Tryd.infoRgs
  have hbA : Below w.heap.size w (w.alloc (.cells #[.slice ao n c] 25)) := (Below.refl _ _).alloc (Nat.le_refl _) _
  have hA := h2.on hbA
  refine wpList_append_lies _ hgd s x 27 ho B 25 i0 (.slice none 0 0) 1 24 Tryd.underlying27 hi hz0 hz1 hz2 rfl (by decide) v4 T.length T hs hA.b ⟨w.heap.size, 0, none⟩ 1 1 [.slice ao n c] hx rfl ?_ ?_ (by decide) (by unfold maxLen; omega) (by omega) hA.base _ rfl ?_
  · intro j u hj
    match j, hj with
    | 0, hj => simp at hj; subst hj; simp [Addr.add]
    | (j + 1), hj => simp at hj
  · intro u hu; simp at hu; subst hu; rfl
  · intro g cap w' ho' hg hat _
    refine h _ w' ⟨hA.a.kept hg ?_, ?_, fun k h4 h5 => ?_, hA.below.grown hg hA.base (fun k hk => (hA.b.lt k hk).1), Nat.le_trans hA.base hg.size, fun p hp => ?_⟩ (gthen (World.grownBy_alloc w _ _) hg (fun j hj => .inr hj))
    · cases h4 : v3.ownBlock with
      | none => exact .inl rfl
      | some k => exact .inr (fun e => hA.d k h4 e.symm)
    · rw [List.length_append]
      exact ho'
    · have e : g = k := by simpa [Value.ownBlock] using h5
      subst e
      rcases hat with h6 | h6
      · exact hA.d g h4 h6
      · have := (hA.a.lt g h4).2
        omega
    · obtain ⟨r1, r2, r3, r4⟩ := hA.k p hp
      refine ⟨r1.far hg r3, r2, fun k h4 h5 => ?_, fun k h4 => Nat.lt_of_lt_of_le (r4 k h4) hg.size⟩
      have e : g = k := by simpa [Value.ownBlock] using h5
      subst e
      rcases hat with h6 | h6
      · exact r3 g h4 h6
      · have := r4 g h4
        omega
theorem DeskI.grown {D : Nat} {v : Value} {m : List Int} {W0 w w' : World} {r : Option Nat} (h : DeskI D v m W0 w) (hg : w.grownBy w' r) (hr : ∀ k, r = some k → D + 1 ≤ k ∧ v.ownBlock ≠ some k) : DeskI D v m W0 w' := by
  have hb := h.base
  have hfar : ∀ k, k < w.heap.size → r ≠ some k → w'.heap[k]? = w.heap[k]? := fun k hk hn => hg.block k hk (fun e => hn e.symm)
  have hD : r ≠ some D := fun e => by have := (hr D e).1; omega
  refine ⟨(heap_cell (hfar D hb hD)).trans h.c1, by rw [hg.frozen_far ⟨D, 1, none⟩ hb (fun e => hD e.symm)]; exact h.f1, row_on3 h.row (fun k hk => hfar k (h.row.lt k hk).2 (fun e => (hr k e).2 hk)), ?_, Nat.lt_of_lt_of_le hb hg.size, h.lm⟩
  exact ⟨hg.os.trans h.below.os, hg.tape.trans h.below.tape, hg.output.trans h.below.output, Nat.le_trans h.below.size hg.size, fun k hk => by
    rw [hfar k (by omega) (fun e => by have := (hr k e).1; omega)]
    exact h.below.block k hk⟩
theorem TwoD.apart {D : Nat} {vd : Option Nat} {v4 v5 : Value} {G T : List Value} {K : List (Value × List Rg)} {w : World} (h : TwoD D vd v4 G v5 T K w) : (∀ k, v4.ownBlock = some k → D + 1 ≤ k ∧ vd ≠ some k) ∧ (∀ k, v5.ownBlock = some k → D + 1 ≤ k ∧ vd ≠ some k) := by
  refine ⟨fun k hk => ⟨(h.two.a.lt k hk).1, fun e => ?_⟩, fun k hk => ⟨(h.two.b.lt k hk).1, fun e => ?_⟩⟩
  · obtain ⟨⟨p, hp, hpk⟩, _⟩ := h.pl k e
    exact (h.two.k p hp).2.1 k hpk hk
  · obtain ⟨⟨p, hp, hpk⟩, _⟩ := h.pl k e
    exact (h.two.k p hp).2.2.1 k hpk hk
/-- What stands in the rows is kept. -/
def KeptD (k : Nat) (G T : List Value) (K : List (Value × List Rg)) : Prop := G.length = k ∧ T.length = k ∧ ∀ j, j < k → ∃ l, (G.getD j (.slice none 0 0), l) ∈ K ∧ (T.getD j (.slice none 0 0), l) ∈ K ∧ l.length ≤ 100000
theorem getD_snocW (G : List Value) (x : Value) (j : Nat) (hj : j < G.length) : (G ++ [x]).getD j (.slice none 0 0) = G.getD j (.slice none 0 0) := by
  rw [List.getD_eq_getElem?_getD, List.getD_eq_getElem?_getD, List.getElem?_append_left hj]
theorem getD_lastW (G : List Value) (x : Value) : (G ++ [x]).getD G.length (.slice none 0 0) = x := by
  rw [List.getD_eq_getElem?_getD, List.getElem?_append_right (Nat.le_refl _)]; simp
theorem KeptD.next {k : Nat} {G T : List Value} {K K' : List (Value × List Rg)} {x y : Value} {l : List Rg} (h : KeptD k G T K) (hl : l.length ≤ 100000) (hx : (x, l) ∈ K') (hy : (y, l) ∈ K') (hK : ∀ p ∈ K, p ∈ K') : KeptD (k + 1) (G ++ [x]) (T ++ [y]) K' := by
  obtain ⟨h1, h2, h3⟩ := h
  refine ⟨by simp [h1], by simp [h2], fun j hj => ?_⟩
  by_cases hjk : j < k
  · obtain ⟨l', m1, m2, m3⟩ := h3 j hjk
    refine ⟨l', ?_, ?_, m3⟩
    · rw [getD_snocW G x j (by omega)]; exact hK _ m1
    · rw [getD_snocW T y j (by omega)]; exact hK _ m2
  · have : j = k := by omega
    subst this
    refine ⟨l, ?_, ?_, hl⟩
    · have := getD_lastW G x
      rw [h1] at this
      rw [this]; exact hx
    · have := getD_lastW T y
      rw [h2] at this
      rw [this]; exact hy
theorem KeptD.more {k : Nat} {G T : List Value} {K : List (Value × List Rg)} (h : KeptD k G T K) (p : Value × List Rg) : KeptD k G T (p :: K) :=
  ⟨h.1, h.2.1, fun j hj => by obtain ⟨l, m1, m2, m3⟩ := h.2.2 j hj; exact ⟨l, List.mem_cons_of_mem _ m1, List.mem_cons_of_mem _ m2, m3⟩⟩
theorem type_apart {B B' : Nat} {e e' : TypeId} {sz sz' n n' : Nat} {v v' : Value} {xs xs' : List Value} {w : World} (h : w.ownsRow B e sz v n xs) (h' : w.ownsRow B' e' sz' v' n' xs') (hne : e ≠ e') : ∀ k, v.ownBlock = some k → v'.ownBlock ≠ some k := by
  intro k hk hk'
  rcases h.2 with ⟨rfl, _⟩ | ⟨g, cap, cur, rfl, _, hg, _⟩
  · simp [Value.ownBlock] at hk
  · rcases h'.2 with ⟨rfl, _⟩ | ⟨g', cap', cur', rfl, _, hg', _⟩
    · simp [Value.ownBlock] at hk'
    · simp [Value.ownBlock] at hk hk'
      subst hk
      subst hk'
      rw [hg] at hg'
      have h3 := Option.some.inj hg'
      injection h3 with _ h4
      exact hne h4
end Go.Proofs.YtkclcjnfjielfabDoor
