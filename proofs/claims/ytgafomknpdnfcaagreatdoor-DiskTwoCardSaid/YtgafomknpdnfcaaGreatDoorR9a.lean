/- The document's disk: rows of files in memory. -/
import Derived.Test.YtgafomknpdnfcaaGreatDoorD9c
import Derived.Laws.AppendOwnNone
import Derived.Laws.CopyOwn
import Derived.Deep.CutBlock
import Derived.BigQuiet
namespace Go.Proofs.YtgafomknpdnfcaaGreatDoor
open Go.RowKit

def encF (p : PF) : List Value := [.string p.name, .string (S p.data), .int .i64 (p.dur : Int)]
def fce (l : List PF) : List Value := l.flatMap encF
theorem fce_length (l : List PF) : (fce l).length = l.length * 3 := by
  induction l with
  | nil => rfl
  | cons p r ih => simp only [fce, List.flatMap_cons, List.length_append, List.length_cons] at *; rw [ih]; simp [encF]; omega
theorem fce_append (a b : List PF) : fce (a ++ b) = fce a ++ fce b := by simp [fce]
theorem fce_at (l : List PF) (i : Nat) (p : PF) (hp : l[i]? = some p) : (fce l)[i * 3]? = some (.string p.name) ∧ (fce l)[i * 3 + 1]? = some (.string (S p.data)) ∧ (fce l)[i * 3 + 2]? = some (.int .i64 (p.dur : Int)) := by
  induction l generalizing i with
  | nil => simp at hp
  | cons q r ih =>
    have e : fce (q :: r) = .string q.name :: .string (S q.data) :: .int .i64 (q.dur : Int) :: fce r := by simp [fce, encF]
    rw [e]
    cases i with
    | zero => simp at hp; subst hp; exact ⟨rfl, rfl, rfl⟩
    | succ i =>
      have := ih i (by simpa using hp)
      rw [show (i + 1) * 3 = i * 3 + 1 + 1 + 1 by omega]
      simp only [List.getElem?_cons_succ]
      exact this
/-- A row of files that the call made. -/
structure OwnF (B : Nat) (v : Value) (l : List PF) (W0 w : World) : Prop where
  row : w.ownsRow B 95 3 v l.length (fce l)
  below : Below B W0 w
  base : B ≤ w.heap.size
theorem OwnF.nil {B : Nat} {W0 w : World} (h : Below B W0 w) (hB : B ≤ w.heap.size) : OwnF B (.slice none 0 0) [] W0 w := ⟨World.ownsRow_nil _ _ _ _, h, hB⟩
theorem OwnF.drew {B : Nat} {v : Value} {l : List PF} {W0 w : World} (h : OwnF B v l W0 w) : OwnF B v l W0 w.drew := ⟨h.row.drew, h.below.drew, h.base⟩
theorem OwnF.alloc {B : Nat} {v : Value} {l : List PF} {W0 w : World} (h : OwnF B v l W0 w) (o : Obj) : OwnF B v l W0 (w.alloc o) :=
  ⟨h.row.alloc o, h.below.alloc h.base o, by have := h.base; simp; omega⟩
theorem OwnF.on {B : Nat} {v : Value} {l : List PF} {W0 w w' : World} (h : OwnF B v l W0 w) (hb : Below w.heap.size w w') : OwnF B v l W0 w' := by
  refine ⟨⟨h.row.1, ?_⟩, h.below.trans (hb.mono h.base), Nat.le_trans h.base hb.size⟩
  rcases h.row.2 with hn | ⟨g, cap, cur, rfl, hB, hg, rest⟩
  · exact .inl hn
  · exact .inr ⟨g, cap, cur, rfl, hB, by rw [hb.block g (Array.getElem?_eq_some_iff.1 hg).1]; exact hg, rest⟩
/-- A slice of files, to be read. -/
def FsAt (w : World) (v : Value) (l : List PF) : Prop := (l = [] ∧ v = .slice none 0 0) ∨ ∃ g cap, v = .slice (some ⟨g, 0, none⟩) l.length cap ∧ g < w.heap.size ∧ ∀ i p, l[i]? = some p → w.cell? ⟨g, i * 3, none⟩ = some (.string p.name) ∧ w.cell? ⟨g, i * 3 + 1, none⟩ = some (.string (S p.data)) ∧ w.cell? ⟨g, i * 3 + 2, none⟩ = some (.int .i64 (p.dur : Int))
theorem OwnF.at {B : Nat} {v : Value} {l : List PF} {W0 w : World} (h : OwnF B v l W0 w) : FsAt w v l := by
  rcases h.row.2 with ⟨rfl, h0⟩ | ⟨g, cap, cur, rfl, hB, hg, rest⟩
  · exact .inl ⟨List.eq_nil_of_length_eq_zero h0, rfl⟩
  · refine .inr ⟨g, cap, rfl, (Array.getElem?_eq_some_iff.1 hg).1, fun i p hp => ?_⟩
    obtain ⟨t1, t2, t3⟩ := fce_at l i p hp
    have c1 := h.row.cells (g := g) rfl (i * 3) _ t1
    have c2 := h.row.cells (g := g) rfl (i * 3 + 1) _ t2
    have c3 := h.row.cells (g := g) rfl (i * 3 + 2) _ t3
    rw [show ((⟨g, 0, none⟩ : Addr).add (i * 3)) = ⟨g, i * 3, none⟩ from by rw [Addr.add_lit, Nat.zero_add]] at c1
    rw [show ((⟨g, 0, none⟩ : Addr).add (i * 3 + 1)) = ⟨g, i * 3 + 1, none⟩ from by rw [Addr.add_lit, Nat.zero_add]] at c2
    rw [show ((⟨g, 0, none⟩ : Addr).add (i * 3 + 2)) = ⟨g, i * 3 + 2, none⟩ from by rw [Addr.add_lit, Nat.zero_add]] at c3
    exact ⟨c1, c2, c3⟩
theorem FsAt.on {w w' : World} {v : Value} {l : List PF} (h : FsAt w v l) (hb : Below w.heap.size w w') : FsAt w' v l := by
  rcases h with h | ⟨g, cap, h1, h2, h3⟩
  · exact .inl h
  · exact .inr ⟨g, cap, h1, Nat.lt_of_lt_of_le h2 hb.size, fun i p hp => ⟨by rw [hb.cell (p := ⟨g, i * 3, none⟩) h2]; exact (h3 i p hp).1, by rw [hb.cell (p := ⟨g, i * 3 + 1, none⟩) h2]; exact (h3 i p hp).2.1, by rw [hb.cell (p := ⟨g, i * 3 + 2, none⟩) h2]; exact (h3 i p hp).2.2⟩⟩
/-- Its form: what a region wants. -/
theorem FsAt.form {w : World} {v : Value} {l : List PF} (h : FsAt w v l) : ∃ a cap, v = .slice a l.length cap ∧ ∀ i p, l[i]? = some p → ∃ g, a = some ⟨g, 0, none⟩ ∧ w.cell? ⟨g, i * 3, none⟩ = some (.string p.name) ∧ w.cell? ⟨g, i * 3 + 1, none⟩ = some (.string (S p.data)) ∧ w.cell? ⟨g, i * 3 + 2, none⟩ = some (.int .i64 (p.dur : Int)) := by
  rcases h with ⟨rfl, rfl⟩ | ⟨g, cap, h1, h2, h3⟩
  · exact ⟨none, 0, rfl, fun i p hp => by simp at hp⟩
  · exact ⟨_, cap, h1, fun i p hp => ⟨g, rfl, h3 i p hp⟩⟩
theorem Tryz.infoRFile : (Tryz.prog.info? 95).map (fun i => (i.zero, i.size, i.bytes)) = some (some (.agg #[.string ⟨#[]⟩, .string ⟨#[]⟩, .int .i64 0]), 3, 40) := by kernel_rfl
/-- l = append(l, f): the file lies in a new block. -/
theorem appF {ops : Array Oper} {rest : List Oper} {o : Oper} {a : Act} {Q : Exit → Act → World → Prop} (hgd : o.guard = none) (s x : Operand)
    (ho : o.op = .call { callee := .builtin .append, args := #[s, x], argTypes := #[29, 29] })
    {B : Nat} {v : Value} {l : List PF} {W0 w : World} (p : PF) (n t : ByteArray) (c : Int) (hn : n = p.name) (ht : t = S p.data) (hc : c = (p.dur : Int)) (hown : OwnF B v l W0 w) (hs : a.eval s = v) (Nb : Nat) (hx : a.eval x = .slice (some ⟨Nb, 0, none⟩) 1 1) (hNb : Nb = w.heap.size)
    (hlen : l.length + 1 ≤ 1099511627776)
    (h : ∀ v' w', OwnF B v' (l ++ [p]) W0 w' → wpList Tryz.prog ops Q rest (a.put o.dst v') w') : wpList Tryz.prog ops Q (o :: rest) a (w.alloc (.cells #[.string n, .string t, .int .i64 c] 95)) := by
  subst hn ht hc hNb
  obtain ⟨i0, hi, hz0, hz1, hz2⟩ := info_parts Tryz.infoRFile
  have ha := hown.alloc (.cells #[.string p.name, .string (S p.data), .int .i64 (p.dur : Int)] 95)
  refine wpList_append_own _ hgd s x 29 ho B 95 i0 (.agg #[.string ⟨#[]⟩, .string ⟨#[]⟩, .int .i64 0]) 3 40 Tryz.underlying29 hi hz0 hz1 hz2 rfl (by decide) v l.length (fce l) hs ha.row ⟨w.heap.size, 0, none⟩ 1 1 [.string p.name, .string (S p.data), .int .i64 (p.dur : Int)] hx rfl ?_ ?_ (by unfold maxLen; omega) (by omega) ha.base ?_
  · intro j u hj
    match j, hj with
    | 0, hj => simp at hj; subst hj; simp [Addr.add]
    | 1, hj => simp at hj; subst hj; simp [Addr.add]
    | 2, hj => simp at hj; subst hj; simp [Addr.add]
    | (j + 3), hj => simp at hj
  · intro u hu; simp at hu; rcases hu with rfl | rfl | rfl <;> rfl
  · intro v' w' ho' hg _
    refine h v' w' ⟨?_, ha.below.grown hg ha.base (fun k hk => (ha.row.lt k hk).1), Nat.le_trans ha.base hg.size⟩
    rw [List.length_append, fce_append]
    exact ho'

end Go.Proofs.YtgafomknpdnfcaaGreatDoor

/- The document's disk: IsName, find, without, Used. -/
namespace Go.Proofs.YtgafomknpdnfcaaGreatDoor
open Go.RowKit

/-- A disk as the document has it: a plain value. -/
def rdV (fv : Value) (quota steps : Int) (sv : Value) (since : Int) (down : Bool) : Value := .agg #[fv, .int .i64 quota, .int .i64 steps, sv, .int .i64 since, .bool down]
/-- The place of a file, or -1. -/
def findG (n : ByteArray) : List PF → Nat → Int
  | [], _ => -1
  | p :: r, k => if p.name = n then (k : Int) else findG n r (k + 1)
def findP (n : ByteArray) (l : List PF) : Int := findG n l 0
theorem findG_drop (n : ByteArray) (l : List PF) (k : Nat) (p : PF) (hp : l[k]? = some p) : findG n (l.drop k) k = if p.name = n then (k : Int) else findG n (l.drop (k + 1)) (k + 1) := by
  obtain ⟨hk, e⟩ := List.getElem?_eq_some_iff.1 hp
  rw [List.drop_eq_getElem_cons hk, e]; rfl
def withoutP (n : ByteArray) (l : List PF) : List PF := l.filter fun p => !decide (p.name = n)
theorem withoutP_take (n : ByteArray) (l : List PF) (k : Nat) (p : PF) (hp : l[k]? = some p) : withoutP n (l.take (k + 1)) = withoutP n (l.take k) ++ if p.name = n then [] else [p] := by
  obtain ⟨hk, e⟩ := List.getElem?_eq_some_iff.1 hp
  rw [List.take_add_one, hp]
  unfold withoutP
  rw [List.filter_append]
  by_cases h : p.name = n
  · simp [h]
  · simp [h]
theorem usedP_take (l : List PF) (k : Nat) (p : PF) (hp : l[k]? = some p) : usedP (l.take (k + 1)) = usedP (l.take k) + p.data.length := by
  rw [List.take_add_one, hp]
  simp [usedP]
theorem tsR_no {a b : ByteArray} (h : a ≠ b) : (a.toList == b.toList) = false := by
  rw [beq_eq_false_iff_ne]
  intro e
  apply h
  rw [toList_L, toList_L] at e
  rw [← S_L a, ← S_L b, e]
theorem tsR_yes (a : ByteArray) : (a.toList == a.toList) = true := by simp

set_option maxHeartbeats 2000000 in
theorem rIsName_any (s : ByteArray) (w : World) (hs : s.size ≤ 140737488355328) :
    Calls Tryz.prog 67 #[.string s] w fun e w' => e = .returned (.bool (isNm s)) ∧ w' = w := by
  by_cases h1 : s.size < 1
  · rw [isNm_out s (.inl h1)]
    go_enter Tryz.func67, Tryz.ntmps67
    go_wp2
    go_ret
    exact ⟨rfl, rfl⟩
  · by_cases h2 : 32 < s.size
    · rw [isNm_out s (.inr h2)]
      go_enter Tryz.func67, Tryz.ntmps67
      go_wp2
      go_ret
      exact ⟨rfl, rfl⟩
    · rw [isNm_in s (by omega) (by omega)]
      go_enter Tryz.func67, Tryz.ntmps67
      go_wp2
      go_loop [3] (fun i => ∃ k : Nat, k ≤ s.size ∧ i = .int .i64 k ∧ ((L s).take k).all nmB = true) (fun i => s.size - (intOf i).toNat)
      case atStart => exact ⟨0, Nat.zero_le _, rfl, by simp⟩
      case round =>
        obtain ⟨k, hk, rfl, hall⟩ := hrel
        by_cases hlt : k < s.size
        · obtain ⟨n, hn⟩ : ∃ n, n = (bt (L s) k).toNat := ⟨_, rfl⟩
          have ea : ((s[k]'hlt).toNat : Int) = (n : Int) := by rw [get_btx s k hlt, hn]
          have HS := Lib.hid (all_snocP nmB (L s) k hlt hall)
          have HN := Lib.hid (all_noP nmB (L s) k hlt)
          have c0 : n < 256 := by rw [hn]; exact bt_lt _ _
          have hcl := nm_class (bt (L s) k)
          clear hall
          obtain ⟨q, hq⟩ : ∃ q, nmB (bt (L s) k) = q := ⟨_, rfl⟩
          rw [hq, ← hn] at hcl
          rw [hq] at HS HN
          clear hq hn
          rcases hcl with ⟨h, e⟩ | ⟨h, e⟩ | ⟨h, e⟩ | ⟨h, e⟩ | ⟨⟨h, h1⟩, e⟩ | ⟨⟨h, h1⟩, e⟩ | ⟨h, e⟩ | ⟨h, e⟩ | ⟨⟨h, h1⟩, e⟩ | ⟨h, e⟩
          all_goals subst e
          all_goals try subst h
          all_goals try have a0 := beqI_no (n := (n : Int)) (k := 46) (by omega)
          all_goals try have a1 := beqI_no (n := (n : Int)) (k := 45) (by omega)
          all_goals try have a2 := beqI_no (n := (n : Int)) (k := 95) (by omega)
          all_goals try have b0 : ((n : Int) != 46) = true := by rw [bne, beqI_no (by omega)]; rfl
          all_goals try have b1 : ((n : Int) != 45) = true := by rw [bne, beqI_no (by omega)]; rfl
          all_goals try have b2 : ((n : Int) != 95) = true := by rw [bne, beqI_no (by omega)]; rfl
          all_goals first
            | (have HF : Hid ((L s).all nmB = false) := Lib.hid (HN.out rfl)
               clear HN HS
               go_wp2
               go_ret
               exact ⟨ret_bool HF.out.symm, rfl⟩)
            | (have HS2 := Lib.hid (HS.out rfl)
               clear HN HS
               go_wp2
               go_round
               case rel => exact ⟨k + 1, by omega, by go_num, HS2.out⟩
               case measure => simp [intOf]; omega)
        · have HF : Hid ((L s).all nmB = true) := Lib.hid (by rw [List.take_of_length_le (by rw [L_length]; omega)] at hall; exact hall)
          clear hall
          go_wp2
          go_ret
          exact ⟨ret_bool HF.out.symm, rfl⟩
end Go.Proofs.YtgafomknpdnfcaaGreatDoor

/- The document's disk: find, without, Used. -/
namespace Go.Proofs.YtgafomknpdnfcaaGreatDoor
open Go.RowKit

set_option maxHeartbeats 2000000 in
theorem rfind_any (fv : Value) (l : List PF) (q st : Int) (sv : Value) (si : Int) (dn : Bool) (n : ByteArray) (w : World) (h : FsAt w fv l) (hl : l.length ≤ 1000000000) :
    Calls Tryz.prog 48 #[rdV fv q st sv si dn, .string n] w fun e w' => e = .returned (.int .i64 (findP n l)) ∧ Below w.heap.size w w' := by
  have Q0 : Hid (Below w.heap.size w (w.alloc (.cells #[fv, .int .i64 q, .int .i64 st, sv, .int .i64 si, .bool dn] 32))) := Lib.hid ((Below.refl _ _).alloc (Nat.le_refl _) _)
  have c0 := cell_of_row _ w.heap.size 0 _ _ _ (heap_alloc_new w (.cells #[fv, .int .i64 q, .int .i64 st, sv, .int .i64 si, .bool dn] 32))
  obtain ⟨a, cap, hv, hc⟩ := (h.on Q0.out).form
  have HC := Lib.hid hc
  clear hc h
  subst hv
  simp only [List.getElem?_toArray, List.getElem?_cons_zero] at c0
  unfold rdV
  have hlI : (l.length : Int) ≤ 1000000000 := by omega
  go_enter Tryz.func48, Tryz.ntmps48
  go_wp2_with fail
  generalize w.alloc (.cells #[.slice a l.length cap, .int .i64 q, .int .i64 st, sv, .int .i64 si, .bool dn] 32) = W1 at Q0 HC c0 ⊢
  go_loop [5] (fun i => ∃ k : Nat, k ≤ l.length ∧ i = .int .i64 k ∧ findP n l = findG n (l.drop k) k) (fun i => l.length - (intOf i).toNat)
  case atStart => exact ⟨0, Nat.zero_le _, rfl, by simp [findP]⟩
  case round =>
    obtain ⟨k, hk, rfl, hf⟩ := hrel
    by_cases hlt : k < l.length
    · have hli : (k : Int) < (l.length : Int) := by omega
      obtain ⟨p, hp⟩ : ∃ p, l[k]? = some p := ⟨_, List.getElem?_eq_getElem hlt⟩
      obtain ⟨g, ha, c1, c2, c3⟩ := HC.out k p hp
      subst ha
      have HF := Lib.hid (hf.trans (findG_drop n l k p hp))
      clear hf hp c2 c3
      obtain ⟨nm, hnm⟩ : ∃ x, x = p.name := ⟨_, rfl⟩
      rw [← hnm] at c1 HF
      clear hnm
      by_cases he : nm = n
      · have eb : (nm.toList == n.toList) = true := by rw [he]; exact tsR_yes n
        rw [if_pos he] at HF
        clear he
        go_wp2
        go_ret
        exact ⟨by rw [HF.out]; rfl, Q0.out⟩
      · have eb : (nm.toList == n.toList) = false := tsR_no he
        rw [if_neg he] at HF
        clear he
        go_wp2
        go_round
        case rel => exact ⟨k + 1, by omega, by go_num, HF.out⟩
        case measure => simp [intOf]; omega
    · have hli : ¬ (k : Int) < (l.length : Int) := by omega
      have HF : Hid (findP n l = -1) := Lib.hid (by rw [hf, List.drop_eq_nil_of_le (by omega)]; rfl)
      clear hf
      go_wp2
      go_ret
      exact ⟨by rw [HF.out]; rfl, Q0.out⟩

set_option maxHeartbeats 2000000 in
theorem rUsed_any (fv : Value) (l : List PF) (q st : Int) (sv : Value) (si : Int) (dn : Bool) (w : World) (h : FsAt w fv l) (hl : l.length ≤ 1000000000) (hu : usedP l ≤ 1000000000) :
    Calls Tryz.prog 28 #[rdV fv q st sv si dn] w fun e w' => e = .returned (.int .i64 (usedP l : Int)) ∧ Below w.heap.size w w' := by
  have Q0 : Hid (Below w.heap.size w (w.alloc (.cells #[fv, .int .i64 q, .int .i64 st, sv, .int .i64 si, .bool dn] 32))) := Lib.hid ((Below.refl _ _).alloc (Nat.le_refl _) _)
  have c0 := cell_of_row _ w.heap.size 0 _ _ _ (heap_alloc_new w (.cells #[fv, .int .i64 q, .int .i64 st, sv, .int .i64 si, .bool dn] 32))
  obtain ⟨a, cap, hv, hc⟩ := (h.on Q0.out).form
  have HC := Lib.hid hc
  clear hc h
  subst hv
  simp only [List.getElem?_toArray, List.getElem?_cons_zero] at c0
  unfold rdV
  have hlI : (l.length : Int) ≤ 1000000000 := by omega
  have HU : Hid (∀ k, usedP (l.take k) ≤ 1000000000) := Lib.hid (fun k => by
    refine Nat.le_trans ?_ hu
    have : usedP (l.take k ++ l.drop k) = usedP (l.take k) + usedP (l.drop k) := by
      simp only [usedP, List.map_append, List.sum_append]
    rw [List.take_append_drop] at this
    omega)
  clear hu
  go_enter Tryz.func28, Tryz.ntmps28
  go_wp2_with fail
  generalize w.alloc (.cells #[.slice a l.length cap, .int .i64 q, .int .i64 st, sv, .int .i64 si, .bool dn] 32) = W1 at Q0 HC c0 ⊢
  go_loop [3, 4] (fun m i => ∃ k : Nat, k ≤ l.length ∧ i = .int .i64 k ∧ m = .int .i64 (usedP (l.take k) : Int)) (fun _ i => l.length - (intOf i).toNat)
  case atStart => exact ⟨0, Nat.zero_le _, rfl, by simp [usedP]⟩
  case round =>
    obtain ⟨k, hk, rfl, rfl⟩ := hrel
    by_cases hlt : k < l.length
    · have hli : (k : Int) < (l.length : Int) := by omega
      obtain ⟨p, hp⟩ : ∃ p, l[k]? = some p := ⟨_, List.getElem?_eq_getElem hlt⟩
      obtain ⟨g, ha, c1, c2, c3⟩ := HC.out k p hp
      subst ha
      have HF := Lib.hid (usedP_take l k p hp)
      have hb := HU.out (k + 1)
      rw [HF.out] at hb
      have hsz : (S p.data).size = p.data.length := S_size _
      clear hp c1 c3
      generalize S p.data = t at *
      generalize usedP (l.take k) = u at *
      go_wp2
      go_round
      case rel => exact ⟨k + 1, by omega, by go_num, by rw [HF.out, ← hsz]; go_num⟩
      case measure => simp [intOf]; omega
    · have hli : ¬ (k : Int) < (l.length : Int) := by omega
      have HF : Hid (usedP l = usedP (l.take k)) := Lib.hid (by rw [List.take_of_length_le (by omega)])
      generalize usedP (l.take k) = u at *
      go_wp2
      go_ret
      exact ⟨by rw [HF.out]; rfl, Q0.out⟩

set_option maxRecDepth 100000 in
set_option maxHeartbeats 4000000 in
theorem rwithout_any (fv : Value) (l : List PF) (n : ByteArray) (w : World) (h : FsAt w fv l) (hl : l.length ≤ 1000000000) :
    Calls Tryz.prog 68 #[fv, .string n] w fun e w' => ∃ v, e = .returned v ∧ OwnF w.heap.size v (withoutP n l) w w' := by
  obtain ⟨a, cap, hv, _⟩ := h.form
  have HA := Lib.hid h
  clear h
  subst hv
  have hlI : (l.length : Int) ≤ 1000000000 := by omega
  go_enter Tryz.func68, Tryz.ntmps68
  go_wp2
  go_loopw [5, 6] (fun m i wr => ∃ (k : Nat) (X : World), X = wr ∧ k ≤ l.length ∧ i = .int .i64 k ∧ OwnF w.heap.size m (withoutP n (l.take k)) w X) (fun _ i _ => l.length - (intOf i).toNat)
  case atStart => exact ⟨0, w, rfl, Nat.zero_le _, rfl, OwnF.nil (Below.refl _ _) (Nat.le_refl _)⟩
  case round =>
    obtain ⟨k, X, hX, hk, rfl, hO⟩ := hrel
    subst hX
    have HO := Lib.hid hO
    clear hO
    by_cases hlt : k < l.length
    · have hli : (k : Int) < (l.length : Int) := by omega
      obtain ⟨p, hp⟩ : ∃ p, l[k]? = some p := ⟨_, List.getElem?_eq_getElem hlt⟩
      obtain ⟨a', cap', hv', hc⟩ := (HA.out.on HO.out.below).form
      obtain ⟨rfl, rfl⟩ : a = a' ∧ cap = cap' := by cases hv'; exact ⟨rfl, rfl⟩
      obtain ⟨g, ha, c1, c2, c3⟩ := hc k p hp
      subst ha
      have HF := Lib.hid (withoutP_take n l k p hp)
      have HL : Hid ((withoutP n (l.take k)).length + 1 ≤ 1099511627776) := Lib.hid (by
        have h1 : (withoutP n (l.take k)).length ≤ (l.take k).length := List.length_filter_le _ _
        rw [List.length_take] at h1; omega)
      clear hp hc hv'
      generalize withoutP n (l.take k) = u at *
      by_cases he : p.name = n
      · have eb : (p.name.toList == n.toList) = true := by rw [he]; exact tsR_yes n
        rw [if_pos he, List.append_nil] at HF
        clear he
        go_wp2_with fail
        go_roundw
        case rel => exact ⟨k + 1, _, rfl, by omega, by go_num, by rw [HF.out]; exact HO.out⟩
        case measure => simp [intOf]; omega
      · have eb : (p.name.toList == n.toList) = false := tsR_no he
        rw [if_neg he] at HF
        clear he
        go_wp2_with (at_builtin; refine appF rfl _ _ rfl p _ _ _ rfl rfl rfl HO.out rfl _ rfl (by simp) HL.out ?_; intro v2 w2 hown2)
        go_roundw
        case rel => exact ⟨k + 1, _, rfl, by omega, by go_num, by rw [HF.out]; exact hown2⟩
        case measure => simp [intOf]; omega
    · have hli : ¬ (k : Int) < (l.length : Int) := by omega
      have HF : Hid (withoutP n (l.take k) = withoutP n l) := Lib.hid (by rw [List.take_of_length_le (by omega)])
      go_wp2_with fail
      go_ret
      exact ⟨_, rfl, by rw [← HF.out]; exact HO.out⟩
end Go.Proofs.YtgafomknpdnfcaaGreatDoor

/- The document's disk: with. -/
namespace Go.Proofs.YtgafomknpdnfcaaGreatDoor
open Go.RowKit

def fileV (f : PF) : Value := .agg #[.string f.name, .string (S f.data), .int .i64 (f.dur : Int)]
/-- The files with one, in its place. -/
def withG (f : PF) : List PF → Bool → List PF
  | [], put => if put then [] else [f]
  | x :: r, put => if x.name = f.name then withG f r put else if !put && !Op.bytesLess x.name.toList f.name.toList then f :: x :: withG f r true else x :: withG f r put
def withP (f : PF) (l : List PF) : List PF := withG f l false
theorem withG_drop (f : PF) (l : List PF) (k : Nat) (p : PF) (b : Bool) (hp : l[k]? = some p) : withG f (l.drop k) b = if p.name = f.name then withG f (l.drop (k + 1)) b else if !b && !Op.bytesLess p.name.toList f.name.toList then f :: p :: withG f (l.drop (k + 1)) true else p :: withG f (l.drop (k + 1)) b := by
  obtain ⟨hk, e⟩ := List.getElem?_eq_some_iff.1 hp
  rw [List.drop_eq_getElem_cons hk, e]; rfl
/-- A file in a block of its own. -/
def BoxF (b : Nat) (f : PF) (w : World) : Prop := w.cell? ⟨b, 0, none⟩ = some (.string f.name) ∧ w.cell? ⟨b, 1, none⟩ = some (.string (S f.data)) ∧ w.cell? ⟨b, 2, none⟩ = some (.int .i64 (f.dur : Int))
theorem BoxF.on {b : Nat} {f : PF} {w w' : World} {B : Nat} (h : BoxF b f w) (hb : Below B w w') (hB : b < B) : BoxF b f w' :=
  ⟨by rw [hb.cell (p := ⟨b, 0, none⟩) hB]; exact h.1, by rw [hb.cell (p := ⟨b, 1, none⟩) hB]; exact h.2.1, by rw [hb.cell (p := ⟨b, 2, none⟩) hB]; exact h.2.2⟩
theorem BoxF.new (f : PF) (w : World) : BoxF w.heap.size f (w.alloc (.cells #[.string f.name, .string (S f.data), .int .i64 (f.dur : Int)] 95)) :=
  ⟨cell_of_row _ _ 0 _ _ _ (heap_alloc_new w _), cell_of_row _ _ 1 _ _ _ (heap_alloc_new w _), cell_of_row _ _ 2 _ _ _ (heap_alloc_new w _)⟩
theorem OwnF.under {B B' : Nat} {v : Value} {l : List PF} {W0 W1 w : World} (h : OwnF B v l W1 w) (hB : B' ≤ B) (h0 : Below B' W0 W1) : OwnF B' v l W0 w := by
  refine ⟨⟨h.row.1, ?_⟩, h0.trans (h.below.mono hB), Nat.le_trans hB h.base⟩
  rcases h.row.2 with hn | ⟨g, cap, cur, rfl, hg0, hg, rest⟩
  · exact .inl hn
  · exact .inr ⟨g, cap, cur, rfl, Nat.le_trans hB hg0, hg, rest⟩
/-- What is read of a slice of files at one place. -/
theorem FsAt.get {w : World} {a : Option Addr} {cap : Nat} {l : List PF} (h : FsAt w (.slice a l.length cap) l) {k : Nat} {p : PF} (hp : l[k]? = some p) : ∃ g, a = some ⟨g, 0, none⟩ ∧ w.cell? ⟨g, k * 3, none⟩ = some (.string p.name) ∧ w.cell? ⟨g, k * 3 + 1, none⟩ = some (.string (S p.data)) ∧ w.cell? ⟨g, k * 3 + 2, none⟩ = some (.int .i64 (p.dur : Int)) := by
  obtain ⟨a', cap', hv, hc⟩ := h.form
  obtain ⟨rfl, rfl⟩ : a = a' ∧ cap = cap' := by cases hv; exact ⟨rfl, rfl⟩
  exact hc k p hp

set_option maxRecDepth 100000 in
set_option maxHeartbeats 1000000 in
theorem rwith_any (fv : Value) (l : List PF) (f : PF) (w : World) (h : FsAt w fv l) (hl : l.length ≤ 1000000000) :
    Calls Tryz.prog 69 #[fv, fileV f] w fun e w' => ∃ v, e = .returned v ∧ OwnF w.heap.size v (withP f l) w w' := by
  obtain ⟨a, cap, hv, _⟩ := h.form
  have q0 : Below w.heap.size w (w.alloc (.cells #[.string f.name, .string (S f.data), .int .i64 (f.dur : Int)] 95)) := (Below.refl _ _).alloc (Nat.le_refl _) _
  subst hv
  have HA := Lib.hid (h.on q0)
  have HB := Lib.hid (BoxF.new f w)
  have Q0 := Lib.hid q0
  have z0 : (w.alloc (.cells #[.string f.name, .string (S f.data), .int .i64 (f.dur : Int)] 95)).heap.size = w.heap.size + 1 := by simp
  clear h q0
  have hlI : (l.length : Int) ≤ 1000000000 := by omega
  unfold fileV
  go_enter Tryz.func69, Tryz.ntmps69
  go_wp2_with fail
  generalize w.alloc (.cells #[.string f.name, .string (S f.data), .int .i64 (f.dur : Int)] 95) = W1 at HA HB Q0 z0 ⊢
  have Z0 := Lib.hid z0
  clear z0
  go_loopw [5, 6, 7] (fun m pv i wr => ∃ (k : Nat) (X : World) (b : Bool) (u : List PF), X = wr ∧ k ≤ l.length ∧ i = .int .i64 k ∧ pv = .bool b ∧ OwnF (w.heap.size + 1) m u W1 X ∧ withP f l = u ++ withG f (l.drop k) b ∧ u.length ≤ k + b.toNat) (fun _ _ i _ => l.length - (intOf i).toNat)
  case atStart => exact ⟨0, W1, false, [], rfl, Nat.zero_le _, rfl, rfl, OwnF.nil (Below.refl _ _) (by rw [Z0.out]; omega), by simp [withP], by simp⟩
  case round =>
    obtain ⟨k, X, b, u, hX, hk, rfl, rfl, hO, hW, hL⟩ := hrel
    subst hX
    have HO := Lib.hid hO
    have HL : Hid (u.length + 1 + 1 ≤ 1099511627776) := Lib.hid (by cases b <;> simp at hL <;> omega)
    have HU : Hid (u.length ≤ k + 1 + b.toNat) := Lib.hid (by omega)
    have HU1 : Hid (∀ p, (u ++ [p]).length ≤ k + 1 + b.toNat) := Lib.hid (fun p => by rw [List.length_append, List.length_singleton]; omega)
    have HU2 : Hid (∀ f p, b = false → (u ++ [f] ++ [p]).length ≤ k + 1 + true.toNat) := Lib.hid (fun f p e => by subst e; rw [List.length_append, List.length_append, List.length_singleton, List.length_singleton]; simp at hL ⊢; omega)
    clear hO hL
    by_cases hlt : k < l.length
    · have hli : (k : Int) < (l.length : Int) := by omega
      obtain ⟨p, hp⟩ : ∃ p, l[k]? = some p := ⟨_, List.getElem?_eq_getElem hlt⟩
      have HF := Lib.hid (hW.trans (congrArg (u ++ ·) (withG_drop f l k p b hp)))
      have HP := Lib.hid hp
      clear hW hp
      have HAx := Lib.hid (HA.out.on (HO.out.below.mono (by rw [Z0.out]; omega)))
      obtain ⟨g, ha, c1, c2, c3⟩ := HAx.out.get HP.out
      subst ha
      obtain ⟨f0, f1, f2⟩ := HB.out.on HO.out.below (by omega)
      clear HAx
      by_cases he : p.name = f.name
      · have eb : (p.name.toList == f.name.toList) = true := by rw [he]; exact tsR_yes _
        rw [if_pos he] at HF
        clear he
        go_wp2_with fail
        go_region
        go_wp2_with fail
        go_roundw
        case rel => exact ⟨k + 1, _, b, u, rfl, by omega, by go_num, rfl, HO.out.drew, HF.out, HU.out⟩
        case measure => simp [intOf]; omega
      · have eb : (p.name.toList == f.name.toList) = false := tsR_no he
        rw [if_neg he] at HF
        clear he
        have HO2 := Lib.hid HO.out.drew
        go_wp2_with fail
        go_region
        generalize X.drew = X2 at HO2 ⊢
        clear c1 c2 c3 f0 f1 f2 HO
        have HAx := Lib.hid (HA.out.on (HO2.out.below.mono (by rw [Z0.out]; omega)))
        obtain ⟨g', ha, c1, c2, c3⟩ := HAx.out.get HP.out
        obtain rfl : g = g' := by cases ha; rfl
        obtain ⟨f0, f1, f2⟩ := HB.out.on HO2.out.below (by omega)
        clear HAx
        have HO3' := Lib.hid (fun m => HO2.out.on (⟨rfl, rfl, rfl, Nat.le_refl _, fun _ _ => rfl⟩ : Below X2.heap.size X2 (X2.drewN m)))
        obtain ⟨ls, hls⟩ : ∃ x, Op.bytesLess p.name.toList f.name.toList = x := ⟨_, rfl⟩
        rw [hls] at HF
        cases b with
        | true =>
          go_wp2_with fail
          go_quiet (fail)
          have HO3 := Lib.hid (HO3'.out nq)
          clear HO3'
          generalize X2.drewN nq = X3 at HO3 ⊢
          clear c1 c2 c3 f0 f1 f2 HO2
          have HAx := Lib.hid (HA.out.on (HO3.out.below.mono (by rw [Z0.out]; omega)))
          obtain ⟨g', ha, c1, c2, c3⟩ := HAx.out.get HP.out
          obtain rfl : g = g' := by cases ha; rfl
          obtain ⟨f0, f1, f2⟩ := HB.out.on HO3.out.below (by omega)
          clear HAx
          go_wp2_with (at_builtin; refine appF rfl _ _ rfl p _ _ _ rfl rfl rfl HO3.out rfl _ rfl (by simp) (by have := HL.out; omega) ?_; intro v2 w2 hown2)
          go_roundw
          case rel => exact ⟨k + 1, _, true, u ++ [p], rfl, by omega, by go_num, rfl, hown2, HF.out.trans (by simp), HU1.out p⟩
          case measure => simp [intOf]; omega
        | false =>
          cases ls with
          | true =>
            go_wp2_with fail
            go_quiet (fail)
            have HO3 := Lib.hid (HO3'.out nq)
            clear HO3'
            generalize X2.drewN nq = X3 at HO3 ⊢
            clear c1 c2 c3 f0 f1 f2 HO2
            have HAx := Lib.hid (HA.out.on (HO3.out.below.mono (by rw [Z0.out]; omega)))
            obtain ⟨g', ha, c1, c2, c3⟩ := HAx.out.get HP.out
            obtain rfl : g = g' := by cases ha; rfl
            obtain ⟨f0, f1, f2⟩ := HB.out.on HO3.out.below (by omega)
            clear HAx
            go_wp2_with (at_builtin; refine appF rfl _ _ rfl p _ _ _ rfl rfl rfl HO3.out rfl _ rfl (by simp) (by have := HL.out; omega) ?_; intro v2 w2 hown2)
            go_roundw
            case rel => exact ⟨k + 1, _, false, u ++ [p], rfl, by omega, by go_num, rfl, hown2, HF.out.trans (by simp), HU1.out p⟩
            case measure => simp [intOf]; omega
          | false =>
            go_wp2_with fail
            go_quiet (fail)
            have HO3 := Lib.hid (HO3'.out nq)
            clear HO3'
            generalize X2.drewN nq = X3 at HO3 ⊢
            clear c1 c2 c3 f0 f1 f2 HO2
            have HAx := Lib.hid (HA.out.on (HO3.out.below.mono (by rw [Z0.out]; omega)))
            obtain ⟨g', ha, c1, c2, c3⟩ := HAx.out.get HP.out
            obtain rfl : g = g' := by cases ha; rfl
            obtain ⟨f0, f1, f2⟩ := HB.out.on HO3.out.below (by omega)
            clear HAx
            go_upto_region 10 with (at_builtin; refine appF rfl _ _ rfl f _ _ _ rfl rfl rfl HO3.out rfl _ rfl (by simp) (by have := HL.out; omega) ?_; intro v2 w2 hown2)
            have HO4 := Lib.hid hown2
            clear hown2 c1 c2 c3 f0 f1 f2 HO3
            have HAx := Lib.hid (HA.out.on (HO4.out.below.mono (by rw [Z0.out]; omega)))
            obtain ⟨g', ha, c1, c2, c3⟩ := HAx.out.get HP.out
            obtain rfl : g = g' := by cases ha; rfl
            obtain ⟨f0, f1, f2⟩ := HB.out.on HO4.out.below (by omega)
            clear HAx
            go_wp2_with (at_builtin; refine appF rfl _ _ rfl p _ _ _ rfl rfl rfl HO4.out rfl _ rfl (by simp) (by have := HL.out; simp; omega) ?_; intro v3 w3 hown3)
            go_roundw
            case rel => exact ⟨k + 1, _, true, u ++ [f] ++ [p], rfl, by omega, by go_num, rfl, hown3, HF.out.trans (by simp), HU2.out f p (by first | rfl | trivial)⟩
            case measure => simp [intOf]; omega
    · have hli : ¬ (k : Int) < (l.length : Int) := by omega
      have hd : l.drop k = [] := List.drop_eq_nil_of_le (by omega)
      rw [hd] at hW
      have HF := Lib.hid hW
      clear hW hd
      obtain ⟨f0, f1, f2⟩ := HB.out.on HO.out.below (by omega)
      cases b with
      | true =>
        go_wp2_with fail
        go_ret
        exact ⟨_, rfl, by rw [HF.out]; simp only [withG, if_true, List.append_nil]; exact HO.out.under (by omega) Q0.out⟩
      | false =>
        go_wp2_with (at_builtin; refine appF rfl _ _ rfl f _ _ _ rfl rfl rfl HO.out rfl _ rfl (by simp) (by have := HL.out; omega) ?_; intro v2 w2 hown2)
        go_ret
        exact ⟨_, rfl, by rw [HF.out]; exact hown2.under (by omega) Q0.out⟩
end Go.Proofs.YtgafomknpdnfcaaGreatDoor

/- The document's disk: IsDown, Size, Peek. -/
namespace Go.Proofs.YtgafomknpdnfcaaGreatDoor
open Go.RowKit

/-- A disk of the document's in a block of its own. -/
structure BoxD (b : Nat) (fv : Value) (q st : Int) (sv : Value) (si : Int) (dn : Bool) (w : World) : Prop where
  c0 : w.cell? ⟨b, 0, none⟩ = some fv
  c1 : w.cell? ⟨b, 1, none⟩ = some (.int .i64 q)
  c2 : w.cell? ⟨b, 2, none⟩ = some (.int .i64 st)
  c3 : w.cell? ⟨b, 3, none⟩ = some sv
  c4 : w.cell? ⟨b, 4, none⟩ = some (.int .i64 si)
  c5 : w.cell? ⟨b, 5, none⟩ = some (.bool dn)
theorem BoxD.new (fv : Value) (q st : Int) (sv : Value) (si : Int) (dn : Bool) (w : World) : BoxD w.heap.size fv q st sv si dn (w.alloc (.cells #[fv, .int .i64 q, .int .i64 st, sv, .int .i64 si, .bool dn] 32)) :=
  ⟨cell_of_row _ _ 0 _ _ _ (heap_alloc_new w _), cell_of_row _ _ 1 _ _ _ (heap_alloc_new w _), cell_of_row _ _ 2 _ _ _ (heap_alloc_new w _), cell_of_row _ _ 3 _ _ _ (heap_alloc_new w _), cell_of_row _ _ 4 _ _ _ (heap_alloc_new w _), cell_of_row _ _ 5 _ _ _ (heap_alloc_new w _)⟩
theorem BoxD.on {b : Nat} {fv : Value} {q st : Int} {sv : Value} {si : Int} {dn : Bool} {w w' : World} {B : Nat} (h : BoxD b fv q st sv si dn w) (hb : Below B w w') (hB : b < B) : BoxD b fv q st sv si dn w' :=
  ⟨by rw [hb.cell (p := ⟨b, 0, none⟩) hB]; exact h.c0, by rw [hb.cell (p := ⟨b, 1, none⟩) hB]; exact h.c1, by rw [hb.cell (p := ⟨b, 2, none⟩) hB]; exact h.c2, by rw [hb.cell (p := ⟨b, 3, none⟩) hB]; exact h.c3, by rw [hb.cell (p := ⟨b, 4, none⟩) hB]; exact h.c4, by rw [hb.cell (p := ⟨b, 5, none⟩) hB]; exact h.c5⟩
/-- The file of a name. -/
def getP (n : ByteArray) (l : List PF) : Option PF := l.find? fun p => decide (p.name = n)
theorem findG_cases (n : ByteArray) (l : List PF) (k : Nat) : (getP n l = none ∧ findG n l k = -1) ∨ ∃ i p, getP n l = some p ∧ findG n l k = ((k + i : Nat) : Int) ∧ l[i]? = some p ∧ p.name = n := by
  induction l generalizing k with
  | nil => exact .inl ⟨rfl, rfl⟩
  | cons p r ih =>
    by_cases h : p.name = n
    · exact .inr ⟨0, p, by simp [getP, h], by unfold findG; rw [if_pos h]; rfl, rfl, h⟩
    · have e1 : getP n (p :: r) = getP n r := by simp [getP, h]
      have e2 : findG n (p :: r) k = findG n r (k + 1) := by conv => lhs; unfold findG
                                                             rw [if_neg h]
      rw [e1, e2]
      rcases ih (k + 1) with ih | ⟨i, q, h1, h2, h3, h4⟩
      · exact .inl ih
      · exact .inr ⟨i + 1, q, h1, by rw [h2]; congr 1; omega, by simpa using h3, h4⟩
theorem findP_cases (n : ByteArray) (l : List PF) : (getP n l = none ∧ findP n l = -1) ∨ ∃ i : Nat, ∃ p, getP n l = some p ∧ findP n l = (i : Int) ∧ l[i]? = some p ∧ p.name = n := by
  rcases findG_cases n l 0 with h | ⟨i, p, h1, h2, h3, h4⟩
  · exact .inl h
  · exact .inr ⟨i, p, h1, by unfold findP; rw [h2, Nat.zero_add], h3, h4⟩
def sizeR (n : ByteArray) (l : List PF) : Int := match getP n l with | none => -1 | some p => (p.data.length : Int)
def peekS (n : ByteArray) (l : List PF) : ByteArray := match getP n l with | none => ⟨#[]⟩ | some p => S p.data
def peekB (n : ByteArray) (l : List PF) : Bool := (getP n l).isSome

set_option maxHeartbeats 1000000 in
theorem rIsDown_any (fv : Value) (q st : Int) (sv : Value) (si : Int) (dn : Bool) (w : World) :
    Calls Tryz.prog 31 #[rdV fv q st sv si dn] w fun e w' => e = .returned (.bool (dn || q == 0)) ∧ Below w.heap.size w w' := by
  have Q0 : Hid (Below w.heap.size w (w.alloc (.cells #[fv, .int .i64 q, .int .i64 st, sv, .int .i64 si, .bool dn] 32))) := Lib.hid ((Below.refl _ _).alloc (Nat.le_refl _) _)
  obtain ⟨c0, c1, c2, c3, c4, c5⟩ := BoxD.new fv q st sv si dn w
  unfold rdV
  cases dn with
  | true =>
    go_enter Tryz.func31, Tryz.ntmps31
    go_wp2
    go_ret
    exact ⟨rfl, Q0.out⟩
  | false =>
    go_enter Tryz.func31, Tryz.ntmps31
    go_wp2
    go_ret
    exact ⟨rfl, Q0.out⟩

set_option maxHeartbeats 2000000 in
theorem rSize_any (fv : Value) (l : List PF) (q st : Int) (sv : Value) (si : Int) (dn : Bool) (n : ByteArray) (w : World) (h : FsAt w fv l) (hl : l.length ≤ 1000000000) (hd : ∀ p, p ∈ l → p.data.length ≤ 1000000000) :
    Calls Tryz.prog 61 #[rdV fv q st sv si dn, .string n] w fun e w' => e = .returned (.int .i64 (sizeR n l)) ∧ Below w.heap.size w w' := by
  have q0 : Below w.heap.size w (w.alloc (.cells #[fv, .int .i64 q, .int .i64 st, sv, .int .i64 si, .bool dn] 32)) := (Below.refl _ _).alloc (Nat.le_refl _) _
  have HA := Lib.hid (h.on q0)
  have HB := Lib.hid (BoxD.new fv q st sv si dn w)
  have Q0 := Lib.hid q0
  have z0 : (w.alloc (.cells #[fv, .int .i64 q, .int .i64 st, sv, .int .i64 si, .bool dn] 32)).heap.size = w.heap.size + 1 := by simp
  have HFd := Lib.hid (fun W hW => rfind_any fv l q st sv si dn n W hW hl)
  obtain ⟨a, cap, hv, _⟩ := h.form
  have HC := Lib.hid (findP_cases n l)
  clear h q0
  subst hv
  have hlI : (l.length : Int) ≤ 1000000000 := by omega
  unfold rdV at HFd ⊢
  generalize findP n l = fi at HFd HC
  go_enter Tryz.func61, Tryz.ntmps61
  go_upto_region 1 with fail
  generalize w.alloc (.cells #[.slice a l.length cap, .int .i64 q, .int .i64 st, sv, .int .i64 si, .bool dn] 32) = W1 at HA HB Q0 z0 ⊢
  obtain ⟨c0, c1, c2, c3, c4, c5⟩ := HB.out
  go_wp2_with fail
  refine (HFd.out _ HA.out).mono ?_
  rintro e w2 ⟨rfl, hb2⟩
  have HB2 := Lib.hid (HB.out.on hb2 (by omega))
  have HA2 := Lib.hid (HA.out.on hb2)
  have Q2 := Lib.hid (Q0.out.trans (hb2.mono (by omega)))
  clear c0 c1 c2 c3 c4 c5 hb2 z0 HA HB Q0 HFd
  obtain ⟨c0, c1, c2, c3, c4, c5⟩ := HB2.out
  rcases HC.out with ⟨h1, rfl⟩ | ⟨i, p, h1, rfl, h3, _⟩
  · have HR : Hid (sizeR n l = -1) := Lib.hid (by unfold sizeR; rw [h1])
    clear h1 HC
    go_wp2
    go_ret
    exact ⟨by rw [HR.out]; rfl, Q2.out⟩
  · have HR : Hid (sizeR n l = (p.data.length : Int)) := Lib.hid (by unfold sizeR; rw [h1])
    have hi : i < l.length := (List.getElem?_eq_some_iff.1 h3).1
    have hiI : (i : Int) < (l.length : Int) := by omega
    have hpd := hd p (List.mem_of_getElem? h3)
    obtain ⟨g, ha, e1, e2, e3⟩ := HA2.out.get h3
    subst ha
    have hsz : (S p.data).size = p.data.length := S_size _
    clear h1 h3 HC HA2 hd
    generalize S p.data = t at *
    go_wp2
    go_ret
    exact ⟨by rw [HR.out, ← hsz]; rfl, Q2.out⟩

set_option maxHeartbeats 2000000 in
theorem rPeek_any (fv : Value) (l : List PF) (q st : Int) (sv : Value) (si : Int) (dn : Bool) (n : ByteArray) (w : World) (h : FsAt w fv l) (hl : l.length ≤ 1000000000) :
    Calls Tryz.prog 59 #[rdV fv q st sv si dn, .string n] w fun e w' => e = .returned (.tuple #[.string (peekS n l), .bool (peekB n l)]) ∧ Below w.heap.size w w' := by
  have q0 : Below w.heap.size w (w.alloc (.cells #[fv, .int .i64 q, .int .i64 st, sv, .int .i64 si, .bool dn] 32)) := (Below.refl _ _).alloc (Nat.le_refl _) _
  have HA := Lib.hid (h.on q0)
  have HB := Lib.hid (BoxD.new fv q st sv si dn w)
  have Q0 := Lib.hid q0
  have z0 : (w.alloc (.cells #[fv, .int .i64 q, .int .i64 st, sv, .int .i64 si, .bool dn] 32)).heap.size = w.heap.size + 1 := by simp
  have HFd := Lib.hid (fun W hW => rfind_any fv l q st sv si dn n W hW hl)
  obtain ⟨a, cap, hv, _⟩ := h.form
  have HC := Lib.hid (findP_cases n l)
  clear h q0
  subst hv
  have hlI : (l.length : Int) ≤ 1000000000 := by omega
  unfold rdV at HFd ⊢
  generalize findP n l = fi at HFd HC
  go_enter Tryz.func59, Tryz.ntmps59
  go_upto_region 1 with fail
  generalize w.alloc (.cells #[.slice a l.length cap, .int .i64 q, .int .i64 st, sv, .int .i64 si, .bool dn] 32) = W1 at HA HB Q0 z0 ⊢
  obtain ⟨c0, c1, c2, c3, c4, c5⟩ := HB.out
  go_wp2_with fail
  refine (HFd.out _ HA.out).mono ?_
  rintro e w2 ⟨rfl, hb2⟩
  have HB2 := Lib.hid (HB.out.on hb2 (by omega))
  have HA2 := Lib.hid (HA.out.on hb2)
  have Q2 := Lib.hid (Q0.out.trans (hb2.mono (by omega)))
  clear c0 c1 c2 c3 c4 c5 hb2 z0 HA HB Q0 HFd
  obtain ⟨c0, c1, c2, c3, c4, c5⟩ := HB2.out
  rcases HC.out with ⟨h1, rfl⟩ | ⟨i, p, h1, rfl, h3, _⟩
  · have HR : Hid (peekS n l = ⟨#[]⟩ ∧ peekB n l = false) := Lib.hid (by unfold peekS peekB; rw [h1]; exact ⟨rfl, rfl⟩)
    clear h1 HC
    go_wp2
    go_ret2
    exact ⟨by rw [HR.out.1, HR.out.2]; rfl, Q2.out⟩
  · have HR : Hid (peekS n l = S p.data ∧ peekB n l = true) := Lib.hid (by unfold peekS peekB; rw [h1]; exact ⟨rfl, rfl⟩)
    have hi : i < l.length := (List.getElem?_eq_some_iff.1 h3).1
    have hiI : (i : Int) < (l.length : Int) := by omega
    obtain ⟨g, ha, e1, e2, e3⟩ := HA2.out.get h3
    subst ha
    clear h1 h3 HC HA2
    generalize S p.data = t at *
    go_wp2
    go_ret2
    exact ⟨by rw [HR.out.1, HR.out.2]; rfl, Q2.out⟩
end Go.Proofs.YtgafomknpdnfcaaGreatDoor

/- The document's disk: survive. -/
namespace Go.Proofs.YtgafomknpdnfcaaGreatDoor
open Go.RowKit

def lfP (rest : Int) (p : PF) : Nat := p.dur + (min (max rest 0) ((p.data.length : Int) - (p.dur : Int))).toNat
def survF (rest : Int) (p : PF) : PF := ⟨p.name, p.data.take (lfP rest p), lfP rest p⟩
def FOk (p : PF) : Prop := p.dur ≤ p.data.length ∧ p.data.length ≤ 1000000000
theorem lfP_le (rest : Int) (p : PF) (h : FOk p) : lfP rest p ≤ p.data.length ∧ ((lfP rest p : Nat) : Int) = (p.dur : Int) + min (max rest 0) ((p.data.length : Int) - (p.dur : Int)) := by
  unfold lfP
  have := h.1
  omega
theorem S_take (d : List UInt8) (n : Nat) : (S d).extract 0 n = S (d.take n) := by
  rw [← S_L ((S d).extract 0 n)]
  congr 1
  simp [L, S]

set_option maxRecDepth 100000 in
set_option maxHeartbeats 1000000 in
theorem rsurvive_any (fv : Value) (l : List PF) (rest : Int) (w : World) (h : FsAt w fv l) (hl : l.length ≤ 1000000000) (hok : ∀ p, p ∈ l → FOk p) (hr1 : -9223372036854775808 ≤ rest) (hr2 : rest ≤ 9223372036854775807) :
    Calls Tryz.prog 45 #[fv, .int .i64 rest] w fun e w' => ∃ v, e = .returned v ∧ OwnF w.heap.size v (l.map (survF rest)) w w' := by
  obtain ⟨a, cap, hv, _⟩ := h.form
  have HA := Lib.hid h
  clear h
  subst hv
  have hlI : (l.length : Int) ≤ 1000000000 := by omega
  have HK := Lib.hid hok
  clear hok
  go_enter Tryz.func45, Tryz.ntmps45
  go_wp2
  go_loopw [5, 6] (fun m i wr => ∃ (k : Nat) (X : World), X = wr ∧ k ≤ l.length ∧ i = .int .i64 k ∧ OwnF w.heap.size m ((l.take k).map (survF rest)) w X) (fun _ i _ => l.length - (intOf i).toNat)
  case atStart => exact ⟨0, w, rfl, Nat.zero_le _, rfl, OwnF.nil (Below.refl _ _) (Nat.le_refl _)⟩
  case round =>
    obtain ⟨k, X, hX, hk, rfl, hO⟩ := hrel
    subst hX
    have HO := Lib.hid hO
    clear hO
    by_cases hlt : k < l.length
    · have hli : (k : Int) < (l.length : Int) := by omega
      obtain ⟨p, hp⟩ : ∃ p, l[k]? = some p := ⟨_, List.getElem?_eq_getElem hlt⟩
      have HAx := Lib.hid (HA.out.on HO.out.below)
      obtain ⟨g, ha, c1, c2, c3⟩ := HAx.out.get hp
      subst ha
      have HF : Hid ((l.take (k + 1)).map (survF rest) = (l.take k).map (survF rest) ++ [survF rest p]) := Lib.hid (by rw [List.take_add_one, hp]; simp)
      have HL : Hid (((l.take k).map (survF rest)).length + 1 ≤ 1099511627776) := Lib.hid (by rw [List.length_map, List.length_take]; omega)
      have hpk := HK.out p (List.mem_of_getElem? hp)
      obtain ⟨hf1, hf2⟩ := lfP_le rest p hpk
      obtain ⟨hp1, hp2⟩ := hpk
      have HT := Lib.hid (S_take p.data (lfP rest p))
      have HP : Hid ((survF rest p).name = p.name ∧ (survF rest p).data = p.data.take (lfP rest p) ∧ (survF rest p).dur = lfP rest p) := Lib.hid ⟨rfl, rfl, rfl⟩
      have hsz : (S p.data).size = p.data.length := S_size _
      clear hp HAx
      generalize (l.take k).map (survF rest) = u at *
      generalize survF rest p = sp at *
      generalize lfP rest p = n at *
      have HV : Hid ((p.dur : Int) + (if (p.data.length : Int) - (p.dur : Int) < (if rest < 0 then 0 else rest) then (p.data.length : Int) - (p.dur : Int) else if rest < 0 then 0 else rest) = (n : Int)) := Lib.hid (by
        rw [hf2]
        by_cases z1 : rest < 0
        · rw [if_pos z1]
          split <;> omega
        · rw [if_neg z1]
          split <;> omega)
      have r0 := heap_alloc_new X (.cells #[.string p.name, .string (S p.data), .int .i64 (p.dur : Int)] 95)
      have BY : Below X.heap.size X (X.alloc (.cells #[.string p.name, .string (S p.data), .int .i64 (p.dur : Int)] 95)) := (Below.refl _ _).alloc (Nat.le_refl _) _
      have R0 := Lib.hid r0
      have B0 := Lib.hid BY
      clear r0 BY hf2
      go_upto_region 7 with fail
      rw [HV.out]
      clear c1 c2 c3 HV
      generalize (if rest < 0 then (0 : Int) else rest) = mx
      generalize (if (p.data.length : Int) - (p.dur : Int) < mx then (p.data.length : Int) - (p.dur : Int) else mx) = mn
      generalize X.alloc (.cells #[.string p.name, .string (S p.data), .int .i64 (p.dur : Int)] 95) = Y0 at R0 B0 ⊢
      obtain ⟨b, hb⟩ : ∃ x, x = X.heap.size := ⟨_, rfl⟩
      rw [← hb] at R0 ⊢
      have c1 := cell_of_row Y0 b 1 _ _ _ R0.out
      have f1 := frozen_of_row Y0 b 1 _ _ R0.out
      have R1 := Lib.hid (heap_setCell_same Y0 b 1 _ 95 (.string (S (p.data.take n))) R0.out)
      have c2 := cell_of_row Y0 b 2 _ _ _ R0.out
      have f2 := frozen_of_row Y0 b 2 _ _ R0.out
      have R2 := Lib.hid (heap_setCell_same (Y0.setCell ⟨b, 1, none⟩ (.string (S (p.data.take n)))) b 2 _ 95 (.int .i64 (n : Int)) R1.out)
      have B2 := Lib.hid ((B0.out.setCell (p := ⟨b, 1, none⟩) (by show X.heap.size ≤ b; omega) (.string (S (p.data.take n)))).setCell (p := ⟨b, 2, none⟩) (by show X.heap.size ≤ b; omega) (.int .i64 (n : Int)))
      have hnI : (n : Int) ≤ (p.data.length : Int) := by omega
      have hT := HT.out
      simp only [List.getElem?_toArray, List.getElem?_cons_zero, List.getElem?_cons_succ] at c1 c2
      have HBX := Lib.hid hb
      clear hb
      go_upto_region 9 with fail
      generalize (Y0.setCell ⟨b, 1, none⟩ (.string (S (p.data.take n)))).setCell ⟨b, 2, none⟩ (.int .i64 (n : Int)) = Y2 at R2 B2 ⊢
      clear c1 c2 f1 f2 R1 R0 B0 hT
      have c0 := cell_of_row Y2 b 0 _ _ _ R2.out
      have c1 := cell_of_row Y2 b 1 _ _ _ R2.out
      have c2 := cell_of_row Y2 b 2 _ _ _ R2.out
      simp at c0 c1 c2
      have HO2 := Lib.hid (HO.out.on B2.out)
      go_wp2_with (at_builtin; refine appF rfl _ _ rfl sp _ _ _ HP.out.1.symm (by rw [HP.out.2.1]) (by rw [HP.out.2.2]) HO2.out rfl _ rfl (by simp) HL.out ?_; intro v2 w2 hown2)
      go_roundw
      case rel => exact ⟨k + 1, _, rfl, by omega, by go_num, by rw [HF.out]; exact hown2⟩
      case measure => simp [intOf]; omega
    · have hli : ¬ (k : Int) < (l.length : Int) := by omega
      have HF : Hid ((l.take k).map (survF rest) = l.map (survF rest)) := Lib.hid (by rw [List.take_of_length_le (by omega)])
      go_wp2_with fail
      go_ret
      exact ⟨_, rfl, by rw [← HF.out]; exact HO.out⟩
end Go.Proofs.YtgafomknpdnfcaaGreatDoor
