/- event: rows of texts; parted; joined. -/
import Derived.Test.YtbncaiocmklgnaaGreatDoorV11a
import Derived.Laws.BitsAllLaws
namespace Go.Proofs.YtbncaiocmklgnaaGreatDoor
open Go.RowKit

/-- v is a list of texts, ss, in memory that was there. -/
def Strs (w : World) (v : Value) (ss : List ByteArray) : Prop :=
  (ss = [] ∧ ∃ ao cap, v = .slice ao 0 cap) ∨ ∃ b off cap, v = .slice (some ⟨b, off, none⟩) ss.length cap ∧ ss.length ≤ 140737488355328 ∧ b < w.heap.size ∧ ∀ i, i < ss.length → w.cell? ⟨b, off + i, none⟩ = some (.string (ss.getD i ByteArray.empty))
theorem Strs.on {w w' : World} {v : Value} {ss : List ByteArray} (h : Strs w v ss) (hb : Below w.heap.size w w') : Strs w' v ss := by
  rcases h with h | ⟨b, off, cap, rfl, h0, h1, h2⟩
  · exact .inl h
  · refine .inr ⟨b, off, cap, rfl, h0, Nat.lt_of_lt_of_le h1 hb.size, fun i hi => ?_⟩
    rw [hb.cell (p := ⟨b, off + i, none⟩) h1]
    exact h2 i hi
theorem Strs.shape {w : World} {v : Value} {ss : List ByteArray} (h : Strs w v ss) : ∃ ao cap, v = .slice ao ss.length cap := by
  rcases h with ⟨rfl, ao, cap, rfl⟩ | ⟨b, off, cap, rfl, _⟩
  · exact ⟨ao, cap, rfl⟩
  · exact ⟨_, cap, rfl⟩
def tcs (l : List ByteArray) : List Value := l.map Value.string
theorem tcs_length (l : List ByteArray) : (tcs l).length = l.length := by simp [tcs]
theorem tcs_append (a b : List ByteArray) : tcs (a ++ b) = tcs a ++ tcs b := by simp [tcs]
theorem tcs_one (l : List ByteArray) : ∀ u ∈ tcs l, u.oneCell' = true := by
  intro u hu
  simp [tcs] at hu
  obtain ⟨b, _, rfl⟩ := hu
  rfl
theorem tcs_at (l : List ByteArray) (i : Nat) (hi : i < l.length) : (tcs l)[i]? = some (.string (l.getD i ByteArray.empty)) := by simp [tcs, hi]
theorem addN (g j : Nat) : (⟨g, 0, none⟩ : Addr).add j = ⟨g, j, none⟩ := by
  unfold Addr.add; split
  · rename_i h; rw [h]
  · simp
theorem addO (g o j : Nat) : (⟨g, o, none⟩ : Addr).add j = ⟨g, o + j, none⟩ := by
  unfold Addr.add; split
  · rename_i h; rw [h]; rfl
  · rfl
/-- A row of texts that the call made, from B on; all below B is as in W0. -/
structure OwnT (B : Nat) (v : Value) (l : List ByteArray) (W0 w : World) : Prop where
  row : w.ownsRow B 9 1 v l.length (tcs l)
  below : Below B W0 w
  base : B ≤ w.heap.size
theorem OwnT.nil {B : Nat} {W0 w : World} (h : Below B W0 w) (hB : B ≤ w.heap.size) : OwnT B (.slice none 0 0) [] W0 w := ⟨World.ownsRow_nil _ _ _ _, h, hB⟩
theorem OwnT.alloc {B : Nat} {v : Value} {l : List ByteArray} {W0 w : World} (h : OwnT B v l W0 w) (o : Obj) : OwnT B v l W0 (w.alloc o) :=
  ⟨h.row.alloc o, h.below.alloc h.base o, by have := h.base; simp; omega⟩
theorem row_keeps {B : Nat} {v : Value} {G : List Value} {n z : Nat} {e : TypeId} {w w' : World} (h : w.ownsRow B e z v n G) (hb : Below w.heap.size w w') : w'.ownsRow B e z v n G := by
  refine ⟨h.1, ?_⟩
  rcases h.2 with hn | ⟨g, cap, cur, rfl, hB, hg, rest⟩
  · exact .inl hn
  · exact .inr ⟨g, cap, cur, rfl, hB, by rw [hb.block g (Array.getElem?_eq_some_iff.1 hg).1]; exact hg, rest⟩
theorem OwnT.on {B : Nat} {v : Value} {l : List ByteArray} {W0 w w' : World} (h : OwnT B v l W0 w) (hb : Below w.heap.size w w') : OwnT B v l W0 w' :=
  ⟨row_keeps h.row hb, h.below.trans (hb.mono h.base), Nat.le_trans h.base hb.size⟩
theorem OwnT.shape {B : Nat} {v : Value} {l : List ByteArray} {W0 w : World} (h : OwnT B v l W0 w) : ∃ ao cap, v = .slice ao l.length cap := by
  rcases h.row.2 with ⟨rfl, h0⟩ | ⟨g, cap, cur, rfl, _⟩
  · exact ⟨none, 0, by rw [h0]⟩
  · exact ⟨_, cap, rfl⟩
theorem OwnT.cells {B : Nat} {v : Value} {l : List ByteArray} {W0 w : World} (h : OwnT B v l W0 w) (hl : l ≠ []) : ∃ g cap, v = .slice (some ⟨g, 0, none⟩) l.length cap ∧ B ≤ g ∧ g < w.heap.size ∧ ∀ i, i < l.length → w.cell? ⟨g, i, none⟩ = some (.string (l.getD i ByteArray.empty)) ∧ w.frozen? ⟨g, i, none⟩ = false := by
  rcases h.row.2 with ⟨rfl, h0⟩ | ⟨g, cap, cur, rfl, hB, hg, rest⟩
  · exact absurd (List.eq_nil_of_length_eq_zero h0) hl
  · refine ⟨g, cap, rfl, hB, (Array.getElem?_eq_some_iff.1 hg).1, fun i hi => ⟨?_, frozen_of_row _ _ _ _ _ hg⟩⟩
    have := h.row.cells (g := g) rfl i _ (tcs_at l i hi)
    rw [addN] at this
    exact this
theorem OwnT.strs {B : Nat} {v : Value} {l : List ByteArray} {W0 w : World} (h : OwnT B v l W0 w) (hz : l.length ≤ 140737488355328) : Strs w v l := by
  by_cases hl : l = []
  · subst hl
    obtain ⟨ao, cap, e⟩ := h.shape
    exact .inl ⟨rfl, ao, cap, e⟩
  · obtain ⟨g, cap, e, _, hg, hc⟩ := h.cells hl
    exact .inr ⟨g, 0, cap, e, hz, hg, fun i hi => by rw [Nat.zero_add]; exact (hc i hi).1⟩
theorem Tryz.infoText : (Tryz.prog.info? 9).map (fun i => (i.zero, i.size, i.bytes)) = some (some (.string ⟨#[]⟩), 1, 16) := by kernel_rfl
/-- A text more. -/
theorem appT {ops : Array Oper} {rest : List Oper} {o : Oper} {a : Act} {Q : Exit → Act → World → Prop} (hgd : o.guard = none) (s x : Operand)
    (ho : o.op = .call { callee := .builtin .append, args := #[s, x], argTypes := #[22, 22] })
    {B : Nat} {v : Value} {l : List ByteArray} {W0 w : World} (t : ByteArray) (hown : OwnT B v l W0 w) (hs : a.eval s = v) (n : Nat) (hn : n = w.heap.size) (hx : a.eval x = .slice (some ⟨n, 0, none⟩) 1 1)
    (hlen : l.length + 1 ≤ 1099511627776)
    (h : ∀ v' w', OwnT B v' (l ++ [t]) W0 w' → wpList Tryz.prog ops Q rest (a.put o.dst v') w') : wpList Tryz.prog ops Q (o :: rest) a (w.alloc (.cells #[.string t] 9)) := by
  subst hn
  obtain ⟨i0, hi, hz0, hz1, hz2⟩ := info_parts Tryz.infoText
  have ha := hown.alloc (.cells #[.string t] 9)
  refine wpList_append_own _ hgd s x 22 ho B 9 i0 (.string ⟨#[]⟩) 1 16 Tryz.underlying22 hi hz0 hz1 hz2 rfl (by decide) v l.length (tcs l) hs ha.row ⟨w.heap.size, 0, none⟩ 1 1 [.string t] hx rfl ?_ ?_ (by unfold maxLen; omega) (by omega) ha.base ?_
  · intro j u hj
    match j, hj with
    | 0, hj => simp at hj; subst hj; simp [Addr.add]
    | (j + 1), hj => simp at hj
  · intro u hu; simp at hu; subst hu; rfl
  · intro v' w' ho' hg _
    refine h v' w' ⟨?_, ha.below.grown hg ha.base (fun k hk => (ha.row.lt k hk).1), Nat.le_trans ha.base hg.size⟩
    rw [List.length_append, tcs_append]
    exact ho'
/-- All of another row. -/
theorem appTs {ops : Array Oper} {rest : List Oper} {o : Oper} {a : Act} {Q : Exit → Act → World → Prop} (hgd : o.guard = none) (s x : Operand)
    (ho : o.op = .call { callee := .builtin .append, args := #[s, x], argTypes := #[22, 22] })
    {B : Nat} {v v2 : Value} {l l2 : List ByteArray} {W0 w : World} (hown : OwnT B v l W0 w) (h2 : Strs w v2 l2) (hn : l2 = [] → v2 = .slice none 0 0) (hs : a.eval s = v) (hx : a.eval x = v2)
    (hlen : l.length + l2.length ≤ 1099511627776)
    (h : ∀ v' w', OwnT B v' (l ++ l2) W0 w' → wpList Tryz.prog ops Q rest (a.put o.dst v') w') : wpList Tryz.prog ops Q (o :: rest) a w := by
  obtain ⟨i0, hi, hz0, hz1, hz2⟩ := info_parts Tryz.infoText
  by_cases h0 : l2 = []
  · obtain rfl := hn h0
    subst h0
    exact wpList_append_own_none hgd s x 22 ho B 9 i0 1 Tryz.underlying22 hi v l.length (tcs l) hs hown.row hx (h v w (by rw [List.append_nil]; exact hown))
  · rcases h2 with ⟨e, _⟩ | ⟨b, off, cap, rfl, hz, hbl, hc⟩
    · exact absurd e h0
    · refine wpList_append_own _ hgd s x 22 ho B 9 i0 (.string ⟨#[]⟩) 1 16 Tryz.underlying22 hi hz0 hz1 hz2 rfl (by decide) v l.length (tcs l) hs hown.row ⟨b, off, none⟩ l2.length cap (tcs l2) hx (by rw [tcs_length]; omega) (fun j u hj => ?_) (tcs_one l2) (by unfold maxLen; omega) (by omega) hown.base ?_
      · have hj2 : j < l2.length := by have := (List.getElem?_eq_some_iff.1 hj).1; rw [tcs_length] at this; exact this
        rw [tcs_at l2 j hj2] at hj
        rw [addO, hc j hj2]; exact hj
      · intro v' w' ho' hg _
        refine h v' w' ⟨?_, hown.below.grown hg hown.base (fun k hk => (hown.row.lt k hk).1), Nat.le_trans hown.base hg.size⟩
        rw [List.length_append, tcs_append]
        exact ho'
theorem i64_or (a b : Nat) (ha : a < 4294967296) (hb : b < 4294967296) : bits .or .i64 (a : Int) (b : Int) = ((a ||| b : Nat) : Int) := by
  have hx : a ||| b < 2 ^ 32 := Nat.or_lt_two_pow (by omega) (by omega)
  have h1 : (BitVec.ofInt 64 (a : Int)).toNat = a := by
    rw [BitVec.ofInt_natCast, BitVec.toNat_ofNat]; exact Nat.mod_eq_of_lt (by omega)
  have h2 : (BitVec.ofInt 64 (b : Int)).toNat = b := by
    rw [BitVec.ofInt_natCast, BitVec.toNat_ofNat]; exact Nat.mod_eq_of_lt (by omega)
  show IntKind.i64.wrap ((BitVec.ofInt 64 (a : Int) ||| BitVec.ofInt 64 (b : Int)).toNat : Int) = _
  rw [BitVec.toNat_or, h1, h2, IntKind.wrap_i64]
  omega
theorem bitN_lt (l : List UInt8) : bitN l < 32 := by
  unfold bitN
  split
  · decide
  split
  · decide
  split
  · decide
  split
  · decide
  split <;> decide
/-- The bits of all. -/
def partS : List ByteArray → Nat
  | [] => 0
  | f :: l => bitN (L f) ||| partS l
def partO (l : List ByteArray) : List ByteArray := l.filter (fun f => bitN (L f) == 0)
theorem partS_append (a b : List ByteArray) : partS (a ++ b) = partS a ||| partS b := by
  induction a with
  | nil => simp [partS]
  | cons f a ih => simp only [List.cons_append, partS, ih, Nat.or_assoc]
theorem partS_lt (l : List ByteArray) : partS l < 32 := by
  induction l with
  | nil => decide
  | cons f l ih => exact Nat.or_lt_two_pow (n := 5) (bitN_lt _) ih
theorem or32 {a b : Nat} (ha : a < 32) (hb : b < 32) : a ||| b < 32 := Nat.or_lt_two_pow (n := 5) ha hb
theorem partO_snoc (l : List ByteArray) (f : ByteArray) : partO (l ++ [f]) = partO l ++ (if bitN (L f) = 0 then [f] else []) := by
  unfold partO
  rw [List.filter_append]
  congr 1
  by_cases h : bitN (L f) = 0
  · rw [if_pos h]; simp [h]
  · rw [if_neg h]; simp [h]
set_option maxHeartbeats 2000000 in
theorem parted_any (v : Value) (ss : List ByteArray) (w : World) (he : EnvF w) (h : Strs w v ss) (hl : ss.length ≤ 1000000) (hz : ∀ i, i < ss.length → (ss.getD i ByteArray.empty).size ≤ maxLen) :
    Calls Tryz.prog 18 #[v] w fun e w' => ∃ vo, e = .returned (.tuple #[.int .i64 (partS ss : Nat), vo]) ∧ OwnT w.heap.size vo (partO ss) w w' ∧ (partO ss = [] → vo = .slice none 0 0) := by
  obtain ⟨ao, cap, rfl⟩ := h.shape
  have HE := Lib.hid he
  have HS := Lib.hid h
  have HZ := Lib.hid hz
  clear he h hz
  go_enter Tryz.func18, Tryz.ntmps18
  go_wp2
  go_loopw [2, 3, 9] (fun s vo i wr => ∃ k : Nat, k ≤ ss.length ∧ i = .int .i64 k ∧ s = .int .i64 (partS (ss.take k) : Nat) ∧ OwnT w.heap.size vo (partO (ss.take k)) w wr ∧ Hid (partO (ss.take k) = [] → vo = .slice none 0 0)) (fun _ _ i _ => ss.length - (intOf i).toNat)
  case atStart => exact ⟨0, Nat.zero_le _, rfl, rfl, OwnT.nil (Below.refl _ _) (Nat.le_refl _), Lib.hid (fun _ => rfl)⟩
  case round =>
    obtain ⟨k, hk, rfl, rfl, hO, HNl⟩ := hrel
    obtain ⟨bo, cb, hsh⟩ := hO.shape
    subst hsh
    by_cases hlt : k < ss.length
    · have hlti : (k : Int) < (ss.length : Int) := by omega
      have hk0 : (0 : Int) ≤ (k : Int) := by omega
      rcases (HS.out.on (by exact ⟨hO.below.os, hO.below.tape, hO.below.output, hO.below.size, hO.below.block⟩ : Below w.heap.size w _)) with ⟨e, _⟩ | ⟨b, off, cap', e, _, hbl, hc⟩
      · rw [e] at hlt; simp at hlt
      · cases e
        have hck := hc k hlt
        have hzk := HZ.out k hlt
        have htk : ss.take (k + 1) = ss.take k ++ [ss.getD k ByteArray.empty] := by rw [List.take_succ_eq_append_getElem hlt]; simp [hlt]
        have hS1 : partS (ss.take (k + 1)) = partS (ss.take k) ||| bitN (L (ss.getD k ByteArray.empty)) := by rw [htk, partS_append]; simp [partS]
        have hO1 : partO (ss.take (k + 1)) = partO (ss.take k) ++ (if bitN (L (ss.getD k ByteArray.empty)) = 0 then [ss.getD k ByteArray.empty] else []) := by
          rw [htk, partO_snoc]
        have hlo : (partO (ss.take k)).length ≤ k := Nat.le_trans (List.length_filter_le _ _) (by rw [List.length_take]; omega)
        have HBt := Lib.hid (fun W hW => bitOf_any (ss.getD k ByteArray.empty) W hW hzk)
        have hb32 := bitN_lt (L (ss.getD k ByteArray.empty))
        have hp32 := partS_lt (ss.take k)
        have HS1 := Lib.hid hS1
        have HO1 := Lib.hid hO1
        have HO := Lib.hid hO
        have HEr := Lib.hid (HE.out.on (⟨hO.below.os, hO.below.tape, hO.below.output, hO.below.size, hO.below.block⟩ : Below w.heap.size w _))
        clear hS1 hO1 hO htk hc hzk
        generalize ss.getD k ByteArray.empty = f at *
        generalize bitN (L f) = bn at *
        generalize partS (ss.take k) = ps at *
        generalize partO (ss.take k) = po at *
        go_wp2_with fail
        refine (HBt.out _ HEr.out).mono ?_
        rintro e w1 ⟨rfl, hb1⟩
        have HO2 := Lib.hid (HO.out.on hb1)
        clear hb1 HBt HEr HO
        by_cases hb0 : bn = 0
        · subst hb0
          go_wp2_with (at_builtin; refine appT rfl (.tmp 20) (.tmp 22) rfl f HO2.out rfl w1.heap.size rfl rfl (by omega) ?_; intro v3 w3 ho3; obtain ⟨a3, k3, hv3⟩ := ho3.shape; rw [List.length_append] at hv3; subst hv3; have HO3 := Lib.hid ho3; clear ho3)
          go_roundw
          case rel => exact ⟨k + 1, by omega, by go_num, by rw [HS1.out]; simp, by rw [HO1.out, if_pos (by trivial)]; exact HO3.out, Lib.hid (fun e => by rw [HO1.out, if_pos (by trivial)] at e; simp at e)⟩
          case measure => simp [intOf]; omega
        · have hbne : ((bn : Int) != 0) = true := by simp; omega
          have HOr : Hid (bits .or .i64 (ps : Int) (bn : Int) = ((ps ||| bn : Nat) : Int)) := Lib.hid (i64_or ps bn (by omega) (by omega))
          go_wp2_with fail
          go_roundw
          case rel => exact ⟨k + 1, by omega, by go_num, by rw [HS1.out, ← HOr.out], by rw [HO1.out, if_neg hb0, List.append_nil]; exact HO2.out, Lib.hid (fun e => HNl.out (by rw [HO1.out, if_neg hb0, List.append_nil] at e; exact e))⟩
          case measure => simp [intOf]; omega
    · obtain rfl : k = ss.length := by omega
      rw [List.take_of_length_le (Nat.le_refl _)] at hO HNl ⊢
      have HO := Lib.hid hO
      clear hO
      go_wp2
      go_ret2
      exact ⟨_, rfl, HO.out, HNl.out⟩
/-- The flags of the system that bits say, from the k-th on. -/
def sysB : List ByteArray := [⟨#[92, 65, 110, 115, 119, 101, 114, 101, 100]⟩, ⟨#[92, 68, 101, 108, 101, 116, 101, 100]⟩, ⟨#[92, 68, 114, 97, 102, 116]⟩, ⟨#[92, 70, 108, 97, 103, 103, 101, 100]⟩, ⟨#[92, 83, 101, 101, 110]⟩]
def sysAt (s : Nat) : Nat → List ByteArray
  | 0 => if s &&& 1 = 0 then [] else [⟨#[92, 65, 110, 115, 119, 101, 114, 101, 100]⟩]
  | 1 => if s &&& 2 = 0 then [] else [⟨#[92, 68, 101, 108, 101, 116, 101, 100]⟩]
  | 2 => if s &&& 4 = 0 then [] else [⟨#[92, 68, 114, 97, 102, 116]⟩]
  | 3 => if s &&& 8 = 0 then [] else [⟨#[92, 70, 108, 97, 103, 103, 101, 100]⟩]
  | 4 => if s &&& 16 = 0 then [] else [⟨#[92, 83, 101, 101, 110]⟩]
  | _ => []
def sysTo (s : Nat) : Nat → List ByteArray
  | 0 => []
  | k + 1 => sysTo s k ++ sysAt s k
theorem sysAt_len (s k : Nat) : (sysAt s k).length ≤ 1 := by
  unfold sysAt
  split <;> (try split) <;> simp
theorem sysTo_len (s k : Nat) : (sysTo s k).length ≤ k := by
  induction k with
  | zero => simp [sysTo]
  | succ k ih => simp only [sysTo, List.length_append]; have := sysAt_len s k; omega
theorem i64_and (a b : Nat) (ha : a < 4294967296) (hb : b < 4294967296) : bits .and .i64 (a : Int) (b : Int) = ((a &&& b : Nat) : Int) := by
  have hx : a &&& b < 2 ^ 32 := Nat.and_lt_two_pow a (by omega)
  have h1 : (BitVec.ofInt 64 (a : Int)).toNat = a := by
    rw [BitVec.ofInt_natCast, BitVec.toNat_ofNat]; exact Nat.mod_eq_of_lt (by omega)
  have h2 : (BitVec.ofInt 64 (b : Int)).toNat = b := by
    rw [BitVec.ofInt_natCast, BitVec.toNat_ofNat]; exact Nat.mod_eq_of_lt (by omega)
  show IntKind.i64.wrap ((BitVec.ofInt 64 (a : Int) &&& BitVec.ofInt 64 (b : Int)).toNat : Int) = _
  rw [BitVec.toNat_and, h1, h2, IntKind.wrap_i64]
  omega
set_option maxRecDepth 100000 in
set_option maxHeartbeats 4000000 in
theorem joined_any (s : Nat) (v : Value) (ks : List ByteArray) (w : World) (he : EnvF w) (h : Strs w v ks) (hn : ks = [] → v = .slice none 0 0) (hl : ks.length ≤ 1000000) (hs : s < 4294967296) :
    Calls Tryz.prog 24 #[.int .i64 (s : Int), v] w fun e w' => ∃ vo, e = .returned vo ∧ OwnT w.heap.size vo (sysTo s 5 ++ ks) w w' := by
  obtain ⟨ao, cap, rfl⟩ := h.shape
  have HS := Lib.hid h
  have HN := Lib.hid hn
  obtain ⟨c0, c1, c2, c3, c4, c5, c6, c7, c8, c9⟩ := he.cells
  have x0 := Tryz.sysIx0
  have x1 := Tryz.sysIx1
  have x2 := Tryz.sysIx2
  have x3 := Tryz.sysIx3
  have x4 := Tryz.sysIx4
  clear he h hn
  go_enter Tryz.func24, Tryz.ntmps24
  go_wp2
  go_loopw [5, 9] (fun vo i wr => ∃ k : Nat, k ≤ 5 ∧ i = .int .i64 k ∧ OwnT w.heap.size vo (sysTo s k) w wr) (fun _ i _ => 5 - (intOf i).toNat)
  case atStart => exact ⟨0, by omega, rfl, OwnT.nil (Below.refl _ _) (Nat.le_refl _)⟩
  case round =>
    obtain ⟨k, hk, rfl, hO⟩ := hrel
    obtain ⟨bo, cb, hsh⟩ := hO.shape
    subst hsh
    have hl5 : (sysTo s k).length ≤ 5 := Nat.le_trans (sysTo_len s k) hk
    have HO := Lib.hid hO
    clear hO c0 c1 c2 c3 c4 c5 c6 c7 c8 c9
    have hk6 : k = 0 ∨ k = 1 ∨ k = 2 ∨ k = 3 ∨ k = 4 ∨ k = 5 := by omega
    rcases hk6 with rfl | rfl | rfl | rfl | rfl | rfl
    · have HA : Hid (bits .and .i64 (s : Int) 1 = ((s &&& 1 : Nat) : Int)) := Lib.hid (i64_and s 1 hs (by omega))
      by_cases h0 : s &&& 1 = 0
      · have HT : Hid (sysTo s 1 = sysTo s 0) := Lib.hid (by show sysTo s 0 ++ (if s &&& 1 = 0 then [] else [⟨#[92, 65, 110, 115, 119, 101, 114, 101, 100]⟩]) = _; rw [if_pos h0, List.append_nil])
        have hb : (bits .and .i64 (s : Int) 1 != 0) = false := by rw [HA.out, h0]; rfl
        have HO1 := Lib.hid (HO.out.alloc (.cells #[.string ⟨#[92, 65, 110, 115, 119, 101, 114, 101, 100]⟩, .int .i64 1] 82))
        clear h0 hk HO
        go_wp2_with fail
        go_roundw
        case rel => exact ⟨1, by omega, rfl, by rw [HT.out]; exact HO1.out⟩
        case measure => simp [intOf]
      · have HT : Hid (sysTo s 1 = sysTo s 0 ++ [⟨#[92, 65, 110, 115, 119, 101, 114, 101, 100]⟩]) := Lib.hid (by show sysTo s 0 ++ (if s &&& 1 = 0 then [] else [⟨#[92, 65, 110, 115, 119, 101, 114, 101, 100]⟩]) = _; rw [if_neg h0])
        have hb : (bits .and .i64 (s : Int) 1 != 0) = true := by rw [HA.out, bne_iff_ne]; exact fun e => h0 (by omega)
        have HO1 := Lib.hid (HO.out.alloc (.cells #[.string ⟨#[92, 65, 110, 115, 119, 101, 114, 101, 100]⟩, .int .i64 1] 82))
        clear h0 hk HO
        generalize sysTo s 0 = l0 at *
        go_wp2_with (at_builtin; refine appT rfl (.tmp 17) (.tmp 20) rfl ⟨#[92, 65, 110, 115, 119, 101, 114, 101, 100]⟩ HO1.out rfl (wr.heap.size + 1) (by simp) rfl (by omega) ?_; intro v3 w3 ho3; obtain ⟨a3, k3, hv3⟩ := ho3.shape; rw [List.length_append] at hv3; subst hv3; have HO3 := Lib.hid ho3; clear ho3)
        go_roundw
        case rel => exact ⟨1, by omega, rfl, by rw [HT.out]; exact HO3.out⟩
        case measure => simp [intOf]
    · have HA : Hid (bits .and .i64 (s : Int) 2 = ((s &&& 2 : Nat) : Int)) := Lib.hid (i64_and s 2 hs (by omega))
      by_cases h0 : s &&& 2 = 0
      · have HT : Hid (sysTo s 2 = sysTo s 1) := Lib.hid (by show sysTo s 1 ++ (if s &&& 2 = 0 then [] else [⟨#[92, 68, 101, 108, 101, 116, 101, 100]⟩]) = _; rw [if_pos h0, List.append_nil])
        have hb : (bits .and .i64 (s : Int) 2 != 0) = false := by rw [HA.out, h0]; rfl
        have HO1 := Lib.hid (HO.out.alloc (.cells #[.string ⟨#[92, 68, 101, 108, 101, 116, 101, 100]⟩, .int .i64 2] 82))
        clear h0 hk HO
        go_wp2_with fail
        go_roundw
        case rel => exact ⟨2, by omega, rfl, by rw [HT.out]; exact HO1.out⟩
        case measure => simp [intOf]
      · have HT : Hid (sysTo s 2 = sysTo s 1 ++ [⟨#[92, 68, 101, 108, 101, 116, 101, 100]⟩]) := Lib.hid (by show sysTo s 1 ++ (if s &&& 2 = 0 then [] else [⟨#[92, 68, 101, 108, 101, 116, 101, 100]⟩]) = _; rw [if_neg h0])
        have hb : (bits .and .i64 (s : Int) 2 != 0) = true := by rw [HA.out, bne_iff_ne]; exact fun e => h0 (by omega)
        have HO1 := Lib.hid (HO.out.alloc (.cells #[.string ⟨#[92, 68, 101, 108, 101, 116, 101, 100]⟩, .int .i64 2] 82))
        clear h0 hk HO
        generalize sysTo s 1 = l0 at *
        go_wp2_with (at_builtin; refine appT rfl (.tmp 17) (.tmp 20) rfl ⟨#[92, 68, 101, 108, 101, 116, 101, 100]⟩ HO1.out rfl (wr.heap.size + 1) (by simp) rfl (by omega) ?_; intro v3 w3 ho3; obtain ⟨a3, k3, hv3⟩ := ho3.shape; rw [List.length_append] at hv3; subst hv3; have HO3 := Lib.hid ho3; clear ho3)
        go_roundw
        case rel => exact ⟨2, by omega, rfl, by rw [HT.out]; exact HO3.out⟩
        case measure => simp [intOf]
    · have HA : Hid (bits .and .i64 (s : Int) 4 = ((s &&& 4 : Nat) : Int)) := Lib.hid (i64_and s 4 hs (by omega))
      by_cases h0 : s &&& 4 = 0
      · have HT : Hid (sysTo s 3 = sysTo s 2) := Lib.hid (by show sysTo s 2 ++ (if s &&& 4 = 0 then [] else [⟨#[92, 68, 114, 97, 102, 116]⟩]) = _; rw [if_pos h0, List.append_nil])
        have hb : (bits .and .i64 (s : Int) 4 != 0) = false := by rw [HA.out, h0]; rfl
        have HO1 := Lib.hid (HO.out.alloc (.cells #[.string ⟨#[92, 68, 114, 97, 102, 116]⟩, .int .i64 4] 82))
        clear h0 hk HO
        go_wp2_with fail
        go_roundw
        case rel => exact ⟨3, by omega, rfl, by rw [HT.out]; exact HO1.out⟩
        case measure => simp [intOf]
      · have HT : Hid (sysTo s 3 = sysTo s 2 ++ [⟨#[92, 68, 114, 97, 102, 116]⟩]) := Lib.hid (by show sysTo s 2 ++ (if s &&& 4 = 0 then [] else [⟨#[92, 68, 114, 97, 102, 116]⟩]) = _; rw [if_neg h0])
        have hb : (bits .and .i64 (s : Int) 4 != 0) = true := by rw [HA.out, bne_iff_ne]; exact fun e => h0 (by omega)
        have HO1 := Lib.hid (HO.out.alloc (.cells #[.string ⟨#[92, 68, 114, 97, 102, 116]⟩, .int .i64 4] 82))
        clear h0 hk HO
        generalize sysTo s 2 = l0 at *
        go_wp2_with (at_builtin; refine appT rfl (.tmp 17) (.tmp 20) rfl ⟨#[92, 68, 114, 97, 102, 116]⟩ HO1.out rfl (wr.heap.size + 1) (by simp) rfl (by omega) ?_; intro v3 w3 ho3; obtain ⟨a3, k3, hv3⟩ := ho3.shape; rw [List.length_append] at hv3; subst hv3; have HO3 := Lib.hid ho3; clear ho3)
        go_roundw
        case rel => exact ⟨3, by omega, rfl, by rw [HT.out]; exact HO3.out⟩
        case measure => simp [intOf]
    · have HA : Hid (bits .and .i64 (s : Int) 8 = ((s &&& 8 : Nat) : Int)) := Lib.hid (i64_and s 8 hs (by omega))
      by_cases h0 : s &&& 8 = 0
      · have HT : Hid (sysTo s 4 = sysTo s 3) := Lib.hid (by show sysTo s 3 ++ (if s &&& 8 = 0 then [] else [⟨#[92, 70, 108, 97, 103, 103, 101, 100]⟩]) = _; rw [if_pos h0, List.append_nil])
        have hb : (bits .and .i64 (s : Int) 8 != 0) = false := by rw [HA.out, h0]; rfl
        have HO1 := Lib.hid (HO.out.alloc (.cells #[.string ⟨#[92, 70, 108, 97, 103, 103, 101, 100]⟩, .int .i64 8] 82))
        clear h0 hk HO
        go_wp2_with fail
        go_roundw
        case rel => exact ⟨4, by omega, rfl, by rw [HT.out]; exact HO1.out⟩
        case measure => simp [intOf]
      · have HT : Hid (sysTo s 4 = sysTo s 3 ++ [⟨#[92, 70, 108, 97, 103, 103, 101, 100]⟩]) := Lib.hid (by show sysTo s 3 ++ (if s &&& 8 = 0 then [] else [⟨#[92, 70, 108, 97, 103, 103, 101, 100]⟩]) = _; rw [if_neg h0])
        have hb : (bits .and .i64 (s : Int) 8 != 0) = true := by rw [HA.out, bne_iff_ne]; exact fun e => h0 (by omega)
        have HO1 := Lib.hid (HO.out.alloc (.cells #[.string ⟨#[92, 70, 108, 97, 103, 103, 101, 100]⟩, .int .i64 8] 82))
        clear h0 hk HO
        generalize sysTo s 3 = l0 at *
        go_wp2_with (at_builtin; refine appT rfl (.tmp 17) (.tmp 20) rfl ⟨#[92, 70, 108, 97, 103, 103, 101, 100]⟩ HO1.out rfl (wr.heap.size + 1) (by simp) rfl (by omega) ?_; intro v3 w3 ho3; obtain ⟨a3, k3, hv3⟩ := ho3.shape; rw [List.length_append] at hv3; subst hv3; have HO3 := Lib.hid ho3; clear ho3)
        go_roundw
        case rel => exact ⟨4, by omega, rfl, by rw [HT.out]; exact HO3.out⟩
        case measure => simp [intOf]
    · have HA : Hid (bits .and .i64 (s : Int) 16 = ((s &&& 16 : Nat) : Int)) := Lib.hid (i64_and s 16 hs (by omega))
      by_cases h0 : s &&& 16 = 0
      · have HT : Hid (sysTo s 5 = sysTo s 4) := Lib.hid (by show sysTo s 4 ++ (if s &&& 16 = 0 then [] else [⟨#[92, 83, 101, 101, 110]⟩]) = _; rw [if_pos h0, List.append_nil])
        have hb : (bits .and .i64 (s : Int) 16 != 0) = false := by rw [HA.out, h0]; rfl
        have HO1 := Lib.hid (HO.out.alloc (.cells #[.string ⟨#[92, 83, 101, 101, 110]⟩, .int .i64 16] 82))
        clear h0 hk HO
        go_wp2_with fail
        go_roundw
        case rel => exact ⟨5, by omega, rfl, by rw [HT.out]; exact HO1.out⟩
        case measure => simp [intOf]
      · have HT : Hid (sysTo s 5 = sysTo s 4 ++ [⟨#[92, 83, 101, 101, 110]⟩]) := Lib.hid (by show sysTo s 4 ++ (if s &&& 16 = 0 then [] else [⟨#[92, 83, 101, 101, 110]⟩]) = _; rw [if_neg h0])
        have hb : (bits .and .i64 (s : Int) 16 != 0) = true := by rw [HA.out, bne_iff_ne]; exact fun e => h0 (by omega)
        have HO1 := Lib.hid (HO.out.alloc (.cells #[.string ⟨#[92, 83, 101, 101, 110]⟩, .int .i64 16] 82))
        clear h0 hk HO
        generalize sysTo s 4 = l0 at *
        go_wp2_with (at_builtin; refine appT rfl (.tmp 17) (.tmp 20) rfl ⟨#[92, 83, 101, 101, 110]⟩ HO1.out rfl (wr.heap.size + 1) (by simp) rfl (by omega) ?_; intro v3 w3 ho3; obtain ⟨a3, k3, hv3⟩ := ho3.shape; rw [List.length_append] at hv3; subst hv3; have HO3 := Lib.hid ho3; clear ho3)
        go_roundw
        case rel => exact ⟨5, by omega, rfl, by rw [HT.out]; exact HO3.out⟩
        case measure => simp [intOf]
    · have HK := Lib.hid (HS.out.on (by exact ⟨HO.out.below.os, HO.out.below.tape, HO.out.below.output, HO.out.below.size, HO.out.below.block⟩ : Below w.heap.size w wr))
      clear hk
      obtain ⟨l0, hl0⟩ : ∃ l0, l0 = sysTo s 5 := ⟨_, rfl⟩
      rw [← hl0] at HO hl5 ⊢
      have HL0 := Lib.hid hl0
      clear hl0
      go_wp2_with (at_builtin; refine appTs rfl (.tmp 23) (.tmp 24) rfl HO.out HK.out HN.out rfl rfl (by omega) ?_; intro v3 w3 ho3; obtain ⟨a3, k3, hv3⟩ := ho3.shape; rw [List.length_append] at hv3; subst hv3; have HO3 := Lib.hid ho3; clear ho3)
      go_ret
      rw [← HL0.out]
      exact ⟨_, rfl, HO3.out⟩
end Go.Proofs.YtbncaiocmklgnaaGreatDoor
