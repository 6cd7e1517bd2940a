/- The document's disk: Names. -/
import Derived.Test.YtgafomknpdnfcaaGreatDoorR9m
import Derived.Test.YtgafomknpdnfcaaGreatDoorD9ya
import Derived.Test.YtgafomknpdnfcaaGreatDoorD9xi
import Derived.Test.YtgafomknpdnfcaaGreatDoorD9fd
namespace Go.Proofs.YtgafomknpdnfcaaGreatDoor
open Go.RowKit

/-- A row of texts that the call made. -/
structure OwnN (B : Nat) (v : Value) (l : List ByteArray) (W0 w : World) : Prop where
  row : w.ownsRow B 9 1 v l.length (l.map .string)
  below : Below B W0 w
  base : B ≤ w.heap.size
theorem OwnN.nil {B : Nat} {W0 w : World} (h : Below B W0 w) (hB : B ≤ w.heap.size) : OwnN B (.slice none 0 0) [] W0 w := ⟨World.ownsRow_nil _ _ _ _, h, hB⟩
theorem OwnN.alloc {B : Nat} {v : Value} {l : List ByteArray} {W0 w : World} (h : OwnN B v l W0 w) (o : Obj) : OwnN B v l W0 (w.alloc o) :=
  ⟨h.row.alloc o, h.below.alloc h.base o, by have := h.base; simp; omega⟩
theorem appN {ops : Array Oper} {rest : List Oper} {o : Oper} {a : Act} {Q : Exit → Act → World → Prop} (hgd : o.guard = none) (s x : Operand)
    (ho : o.op = .call { callee := .builtin .append, args := #[s, x], argTypes := #[65, 65] })
    {B : Nat} {v : Value} {l : List ByteArray} {W0 w : World} (n : ByteArray) (hown : OwnN B v l W0 w) (hs : a.eval s = v) (Nb : Nat) (hx : a.eval x = .slice (some ⟨Nb, 0, none⟩) 1 1) (hNb : Nb = w.heap.size)
    (hlen : l.length + 1 ≤ 1099511627776)
    (h : ∀ v' w', OwnN B v' (l ++ [n]) W0 w' → wpList Tryz.prog ops Q rest (a.put o.dst v') w') : wpList Tryz.prog ops Q (o :: rest) a (w.alloc (.cells #[.string n] 9)) := by
  subst hNb
  obtain ⟨i0, hi, hz0, hz1, hz2⟩ := info_parts' Tryz.infoStr
  have ha := hown.alloc (.cells #[.string n] 9)
  refine wpList_append_own _ hgd s x 65 ho B 9 i0 (.string ⟨#[]⟩) 1 16 Tryz.underlying65 hi hz0 hz1 hz2 rfl (by decide) v l.length (l.map .string) hs ha.row ⟨w.heap.size, 0, none⟩ 1 1 [.string n] hx rfl ?_ ?_ (by unfold maxLen; omega) (by omega) ha.base ?_
  · intro j u hj
    match j, hj with
    | 0, hj => simp at hj; subst hj; simp [Addr.add]
    | (j + 1), hj => simp at hj
  · intro u hu; simp at hu; subst hu; rfl
  · intro v' w' ho' hg _
    refine h v' w' ⟨?_, ha.below.grown hg ha.base (fun k hk => (ha.row.lt k hk).1), Nat.le_trans ha.base hg.size⟩
    rw [List.length_append, List.map_append]
    exact ho'
theorem OwnN.shape {B : Nat} {v : Value} {l : List ByteArray} {W0 w : World} (h : OwnN B v l W0 w) : (l = [] ∧ v = .slice none 0 0) ∨ ∃ g c, v = .slice (some ⟨g, 0, none⟩) l.length c ∧ B ≤ g ∧ ∀ i t, l[i]? = some t → w.cell? ⟨g, i, none⟩ = some (.string t) := by
  rcases h.row.2 with ⟨rfl, h0⟩ | ⟨g, cap, cur, rfl, hB, hg, rest⟩
  · exact .inl ⟨List.eq_nil_of_length_eq_zero h0, rfl⟩
  · refine .inr ⟨g, cap, rfl, hB, fun i t ht => ?_⟩
    have c1 := h.row.cells (g := g) rfl i (.string t) (by rw [List.getElem?_map, ht]; rfl)
    rw [show ((⟨g, 0, none⟩ : Addr).add i) = ⟨g, i, none⟩ from by rw [Addr.add_lit, Nat.zero_add]] at c1
    exact c1
set_option maxRecDepth 20000 in
set_option maxHeartbeats 2000000 in
theorem rNames_any (fv : Value) (l : List PF) (q st : Int) (sv : Value) (si : Int) (dn : Bool) (w : World) (h : FsAt w fv l) (hl : l.length ≤ 1000000000) :
    Calls Tryz.prog 26 #[rdV fv q st sv si dn] w fun e w' => ∃ v, e = .returned v ∧ ∃ B, w.heap.size ≤ B ∧ OwnN B v (l.map PF.name) w' w' ∧ Below w.heap.size w w' := by
  obtain ⟨a, cap, hv, _⟩ := h.form
  have q0 : Below w.heap.size w (w.alloc (.cells #[fv, .int .i64 q, .int .i64 st, sv, .int .i64 si, .bool dn] 32)) := (Below.refl _ _).alloc (Nat.le_refl _) _
  have HA := Lib.hid (h.on q0)
  have HB := Lib.hid (BoxD.new fv q st sv si dn w)
  have Q0 := Lib.hid q0
  have Z0 : Hid ((w.alloc (.cells #[fv, .int .i64 q, .int .i64 st, sv, .int .i64 si, .bool dn] 32)).heap.size = w.heap.size + 1) := Lib.hid (by simp)
  clear h q0
  subst hv
  have hlI : (l.length : Int) ≤ 1000000000 := by omega
  unfold rdV
  go_enter Tryz.func26, Tryz.ntmps26
  go_wp2_with fail
  generalize w.alloc (.cells #[.slice a l.length cap, .int .i64 q, .int .i64 st, sv, .int .i64 si, .bool dn] 32) = W1 at HA HB Q0 Z0 ⊢
  go_loopw [3, 4] (fun m i wr => ∃ (k : Nat) (X : World), X = wr ∧ k ≤ l.length ∧ i = .int .i64 k ∧ OwnN (w.heap.size + 1) m ((l.take k).map PF.name) W1 X) (fun _ i _ => l.length - (intOf i).toNat)
  case atStart => exact ⟨0, W1, rfl, Nat.zero_le _, rfl, OwnN.nil (Below.refl _ _) (by rw [Z0.out]; omega)⟩
  case round =>
    obtain ⟨k, X, hX, hk, rfl, hO⟩ := hrel
    subst hX
    have HO := Lib.hid hO
    clear hO
    have hBx := HB.out.on HO.out.below (by omega)
    obtain ⟨x0, x1, x2, x3, x4, x5⟩ := hBx
    clear x1 x2 x3 x4 x5
    by_cases hlt : k < l.length
    · have hli : (k : Int) < (l.length : Int) := by omega
      obtain ⟨p, hp⟩ : ∃ p, l[k]? = some p := ⟨_, List.getElem?_eq_getElem hlt⟩
      have HAx := Lib.hid (HA.out.on (HO.out.below.mono (by rw [Z0.out]; omega)))
      obtain ⟨g, ha, c1, c2, c3⟩ := HAx.out.get hp
      subst ha
      have HF : Hid ((l.take (k + 1)).map PF.name = (l.take k).map PF.name ++ [p.name]) := Lib.hid (by rw [List.take_add_one, hp]; simp)
      have HL : Hid (((l.take k).map PF.name).length + 1 ≤ 1099511627776) := Lib.hid (by rw [List.length_map, List.length_take]; omega)
      clear hp HAx c2 c3
      generalize (l.take k).map PF.name = u at *
      go_wp2_with (at_builtin; refine appN rfl _ _ rfl _ HO.out rfl _ rfl (by simp) HL.out ?_; intro v2 w2 hown2)
      go_roundw
      case rel => exact ⟨k + 1, _, rfl, by omega, by go_num, by rw [HF.out]; exact hown2⟩
      case measure => simp [intOf]; omega
    · have hli : ¬ (k : Int) < (l.length : Int) := by omega
      have HF : Hid ((l.take k).map PF.name = l.map PF.name) := Lib.hid (by rw [List.take_of_length_le (by omega)])
      go_wp2_with fail
      go_ret
      have ho := HO.out
      rw [HF.out] at ho
      exact ⟨_, rfl, _, Nat.le_succ _, ⟨ho.row, Below.refl _ _, ho.base⟩, Q0.out.trans (ho.below.mono (Nat.le_succ _))⟩
end Go.Proofs.YtgafomknpdnfcaaGreatDoor

/- DiskBounds: rows of names that are kept; what a call leaves. -/
namespace Go.Proofs.YtgafomknpdnfcaaGreatDoor
open Go.RowKit Go.Lib

theorem drewB {B : Nat} {a w : World} (h : Below B a w) (n : Nat) : Below B a (w.drewN n) := ⟨h.os, h.tape, h.output, h.size, h.block⟩
/-- A row of texts whose block is kept. -/
def RowK (Ts : List (List UInt8)) (v : Value) (K : List (Nat × Obj)) : Prop :=
  ∃ a cap, v = .slice a Ts.length cap ∧ (Ts.length = 0 ∨ ∃ g o, a = some ⟨g, 0, none⟩ ∧ (g, o) ∈ K ∧ ∀ W : World, W.heap[g]? = some o → ∀ i, i < Ts.length → W.cell? ⟨g, i, none⟩ = some (.string (S (Ts.getD i []))))
/-- A row of texts in a world. -/
def RowIn (W : World) (Ts : List (List UInt8)) (v : Value) : Prop :=
  ∃ a cap, v = .slice a Ts.length cap ∧ (Ts.length = 0 ∨ ∃ g, a = some ⟨g, 0, none⟩ ∧ ∀ i, i < Ts.length → W.cell? ⟨g, i, none⟩ = some (.string (S (Ts.getD i []))))
theorem RowK.mem {Ts : List (List UInt8)} {v : Value} {K K' : List (Nat × Obj)} (h : RowK Ts v K) (hm : ∀ x, x ∈ K → x ∈ K') : RowK Ts v K' := by
  obtain ⟨a, cap, hv, h⟩ := h
  refine ⟨a, cap, hv, ?_⟩
  rcases h with h | ⟨g, o, ha, hg, hc⟩
  · exact .inl h
  · exact .inr ⟨g, o, ha, hm _ hg, hc⟩
theorem RowK.here {A : Whys} {w0 W : World} {d : Nat} {T : DS} {P : List PF} {Ts : List (List UInt8)} {v : Value} {K : List (Nat × Obj)} (h : RowK Ts v K) (hD : Dk A w0 d T P K W) : RowIn W Ts v := by
  obtain ⟨a, cap, hv, h⟩ := h
  refine ⟨a, cap, hv, ?_⟩
  rcases h with h | ⟨g, o, ha, hg, hc⟩
  · exact .inl h
  · exact .inr ⟨g, ha, hc W (hD.kept hg)⟩
theorem RowIn.on {W W' : World} {Ts : List (List UInt8)} {v : Value} (h : RowIn W Ts v) (hb : Below W.heap.size W W') : RowIn W' Ts v := by
  obtain ⟨a, cap, hv, h⟩ := h
  refine ⟨a, cap, hv, ?_⟩
  rcases h with h | ⟨g, ha, hc⟩
  · exact .inl h
  · refine .inr ⟨g, ha, fun i hi => ?_⟩
    have h1 := hc i hi
    rw [hb.cell (World.block_lt_of_cell? _ _ h1)]
    exact h1
theorem getD_some {Ts : List (List UInt8)} {i : Nat} (hi : i < Ts.length) : Ts[i]? = some (Ts.getD i []) := by
  rw [List.getD_eq_getElem?_getD, List.getElem?_eq_getElem hi]
  rfl
theorem NamesK {A : Whys} {w0 w : World} {d : Nat} {T : DS} {P : List PF} {K : List (Nat × Obj)} (h : Dk A w0 d T P K w) (hP : P.length ≤ 1000000) :
    Calls Tryz.prog 25 #[.pointer (some ⟨d, 0, none⟩)] w fun e w' => ∃ (v : Value) (Ts : List (List UInt8)) (K' : List (Nat × Obj)), e = .returned v ∧ Ts.Perm (P.map fun p => L p.name) ∧ Ts.Pairwise (fun x y => x ≤ y) ∧ Dk A w0 d T P K' w' ∧ RowK Ts v K' ∧ Below w.heap.size w w' ∧ ∀ x, x ∈ K → x ∈ K' := by
  refine (NamesD h hP).mono ?_
  rintro e w' ⟨v, Ts, rfl, hp, hs, hrow, hb⟩
  rcases hrow.2 with ⟨hnil, h0⟩ | ⟨g, cap, cur, hv, hbase, hblk, _⟩
  · exact ⟨v, Ts, K, rfl, hp, hs, h.up hb, ⟨none, 0, by rw [h0]; exact hnil, .inl h0⟩, hb, fun x hx => hx⟩
  · subst hv
    refine ⟨_, Ts, (g, _) :: K, rfl, hp, hs, h.keep hb hbase hblk, ⟨some ⟨g, 0, none⟩, cap, rfl, .inr ⟨g, _, rfl, List.mem_cons_self, fun W hW i hi => ?_⟩⟩, hb, fun x hx => List.mem_cons_of_mem _ hx⟩
    have hc := hrow.cells (g := g) rfl i (encStr (Ts.getD i [])) (by rw [List.getElem?_map, getD_some hi]; rfl)
    rw [Addr.add_lit, Nat.zero_add] at hc
    rw [World.cell?_of_block (hW.trans hblk.symm)]
    exact hc
theorem texts_rows {W : World} {Ts : List (List UInt8)} {va vb : Value} (ha : RowIn W Ts va) (hb : RowIn W Ts vb) (hn : Ts.length ≤ 1000000) :
    Calls Tryz.prog 27 #[va, vb] W fun e w' => e = .returned (.bool true) ∧ Below W.heap.size W w' := by
  obtain ⟨a, ca, rfl, h1⟩ := ha
  obtain ⟨b, cb, rfl, h2⟩ := hb
  by_cases h0 : Ts.length = 0
  · rw [h0]
    refine (texts_none a b ca cb W).mono ?_
    rintro e w' ⟨rfl, rfl⟩
    exact ⟨rfl, Below.refl _ _⟩
  · rcases h1 with h1 | ⟨g, rfl, h1⟩
    · exact absurd h1 h0
    rcases h2 with h2 | ⟨g', rfl, h2⟩
    · exact absurd h2 h0
    exact texts_same g g' Ts.length ca cb (fun i => S (Ts.getD i [])) W hn h1 h2
/-- What one call of the script leaves. -/
structure Left (A : Whys) (w : World) (d q k : Nat) (P : List PF) (K : List (Nat × Obj)) (a : Value) (T : DS) (P2 : List PF) (K2 : List (Nat × Obj)) (X : World) : Prop where
  dk : Dk A w d T P2 K2 X
  quota : T.quota = q
  ok : T.ok
  steps : T.steps ≤ k + 1
  len : P2.length ≤ k + 1
  keep : ∀ x, x ∈ K → x ∈ K2
  err : a = .nilIface ∨ (∃ p, a = failV p) ∧ (T.runs = true → P2 = P)
theorem left_does {A : Whys} {w X : World} {d q k : Nat} {T : DS} {P : List PF} {K : List (Nat × Obj)} {r : Value} (h : DoneP A w d T P K r X) (hq : T.quota = q) (hok : T.ok) (hs : T.steps ≤ k) (hl : P.length ≤ k) : ∃ T2 P2 K2, Left A w d q k P K r T2 P2 K2 X := by
  obtain ⟨G, Gp, K', op, nm, code, hD, hE, _, h1, h2⟩ := h
  have hs2 := (DS.next_quota T).2
  have hl2 : (nextF T code P G Gp).length ≤ P.length + 1 := nextF_len h1 h2
  refine ⟨_, _, K', hD, (DS.next_quota T).1.trans hq, DS.next_ok hok, by omega, by omega, fun x hx => hE.mem hx, ?_⟩
  rcases hE with ⟨_, hr, _⟩ | ⟨hc, p, hr, _⟩
  · exact .inl hr
  · exact .inr ⟨⟨p, hr⟩, fun hrun => nextF_same hrun hc⟩
theorem left_none {A : Whys} {w X : World} {d q k : Nat} {T : DS} {P : List PF} {K : List (Nat × Obj)} (h : Dk A w d T P K X) (hq : T.quota = q) (hok : T.ok) (hs : T.steps ≤ k) (hl : P.length ≤ k) : Left A w d q k P K .nilIface T P K X :=
  ⟨h, hq, hok, by omega, by omega, fun _ hx => hx, .inl rfl⟩
theorem sumI_nonneg {l : List Int} (h : ∀ x, x ∈ l → 0 ≤ x) : 0 ≤ sumI l := by
  induction l with
  | nil => exact Int.le_refl _
  | cons x l ih =>
    have h1 := h x List.mem_cons_self
    have h2 := ih (fun y hy => h y (List.mem_cons_of_mem _ hy))
    simp only [sumI, List.foldr_cons] at *
    omega
/-- The sizes, one more. -/
theorem sizes_at {P : List PF} (hn : (P.map PF.name).Nodup) {Ts : List (List UInt8)} (hp : Ts.Perm (P.map fun p => L p.name)) (m : Nat) (hm : m < Ts.length) :
    ∃ z N : Nat, sizeP (S (Ts.getD m [])) P = (z : Int) ∧ sumI ((Ts.take m).map fun t => sizeP (S t) P) = (N : Int) ∧ sumI ((Ts.take (m + 1)).map fun t => sizeP (S t) P) = ((N + z : Nat) : Int) ∧ N + z ≤ usedP P := by
  have h0 : ∀ t, t ∈ Ts → 0 ≤ sizeP (S t) P := by
    intro t ht
    obtain ⟨p, hpm, rfl⟩ := List.mem_map.1 (hp.mem_iff.1 ht)
    rw [S_L, sizeP_mem hn hpm]
    omega
  have hall := sum_sizes hn hp
  have hnn : ∀ l : List (List UInt8), (∀ t, t ∈ l → t ∈ Ts) → 0 ≤ sumI (l.map fun t => sizeP (S t) P) := by
    intro l hl
    refine sumI_nonneg (fun x hx => ?_)
    obtain ⟨t, ht, rfl⟩ := List.mem_map.1 hx
    exact h0 t (hl t ht)
  have h1 := hnn (Ts.take m) (fun t ht => List.mem_of_mem_take ht)
  have h3 := hnn (Ts.drop (m + 1)) (fun t ht => List.mem_of_mem_drop ht)
  have hz := h0 (Ts.getD m []) (List.mem_of_getElem? (getD_some hm))
  have e1 : Ts.take (m + 1) = Ts.take m ++ [Ts.getD m []] := by rw [List.take_add_one, getD_some hm]; rfl
  have e2 : sumI ((Ts.take (m + 1)).map fun t => sizeP (S t) P) = sumI ((Ts.take m).map fun t => sizeP (S t) P) + sizeP (S (Ts.getD m [])) P := by
    rw [e1, List.map_append, sumI_app]
    simp [sumI]
  have e3 : sumI (Ts.map fun t => sizeP (S t) P) = sumI ((Ts.take (m + 1)).map fun t => sizeP (S t) P) + sumI ((Ts.drop (m + 1)).map fun t => sizeP (S t) P) := by
    rw [← sumI_app, ← List.map_append, List.take_append_drop]
  refine ⟨(sizeP (S (Ts.getD m [])) P).toNat, (sumI ((Ts.take m).map fun t => sizeP (S t) P)).toNat, by omega, by omega, by omega, by omega⟩
theorem rise_at {Ts : List (List UInt8)} (h : Ts.Pairwise (fun x y => x < y)) (m : Nat) (hm : m + 1 < Ts.length) : Op.bytesLess (S (Ts.getD m [])).toList (S (Ts.getD (m + 1) [])).toList = true := by
  rw [bytesLess_eq, toList_L, toList_L]
  have h1 := (List.pairwise_iff_getElem.1 h) m (m + 1) (by omega) hm (by omega)
  have g1 := getD_some (Ts := Ts) (i := m) (by omega)
  have g2 := getD_some (Ts := Ts) (i := m + 1) hm
  rw [List.getElem?_eq_getElem (by omega)] at g1 g2
  injection g1 with g1
  injection g2 with g2
  rw [g1, g2] at h1
  exact decide_eq_true h1
end Go.Proofs.YtgafomknpdnfcaaGreatDoor
