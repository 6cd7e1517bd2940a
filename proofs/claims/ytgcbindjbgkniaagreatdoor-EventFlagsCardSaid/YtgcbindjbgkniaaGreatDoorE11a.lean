/- The statement EventFlags: what its walk wants. -/
import Derived.Test.YtgcbindjbgkniaaGreatDoorR11g
import Derived.Test.YtgcbindjbgkniaaGreatDoorV11s
namespace Go.Proofs.YtgcbindjbgkniaaGreatDoor
open Go.RowKit Go.Lib

/-- All of a row that came in: it may be empty and lie somewhere. -/
theorem appTsE {ops : Array Oper} {rest : List Oper} {o : Oper} {a : Act} {Q : Exit → Act → World → Prop} (hgd : o.guard = none) (s x : Operand)
    (ho : o.op = .call { callee := .builtin .append, args := #[s, x], argTypes := #[22, 22] })
    {B : Nat} {v v2 : Value} {l l2 : List ByteArray} {W0 w : World} (hown : OwnT B v l W0 w) (h2 : Strs w v2 l2) (hn : ∀ c, v2 = .slice none 0 c → c = 0) (hs : a.eval s = v) (hx : a.eval x = v2)
    (hlen : l.length + l2.length ≤ 1099511627776)
    (h : ∀ v' w', OwnT B v' (l ++ l2) W0 w' → wpList Tryz.prog ops Q rest (a.put o.dst v') w') : wpList Tryz.prog ops Q (o :: rest) a w := by
  obtain ⟨i0, hi, hz0, hz1, hz2⟩ := info_parts Tryz.infoText
  by_cases h0 : l2 = []
  · subst h0
    obtain ⟨ao, cap, rfl⟩ := h2.shape
    cases ao with
    | none =>
      obtain rfl := hn cap rfl
      exact wpList_append_own_none hgd s x 22 ho B 9 i0 1 Tryz.underlying22 hi v l.length (tcs l) hs hown.row hx (h v w (by rw [List.append_nil]; exact hown))
    | some ad =>
      refine wpList_append_own _ hgd s x 22 ho B 9 i0 (.string ⟨#[]⟩) 1 16 Tryz.underlying22 hi hz0 hz1 hz2 rfl (by decide) v l.length (tcs l) hs hown.row ad 0 cap [] hx rfl (fun j u hj => by simp at hj) (fun u hu => by cases hu) (by unfold maxLen; simp at hlen; omega) (by simp at hlen; omega) hown.base ?_
      intro v' w' ho' hg _
      refine h v' w' ⟨?_, hown.below.grown hg hown.base (fun k hk => (hown.row.lt k hk).1), Nat.le_trans hown.base hg.size⟩
      rw [List.append_nil] at ho' ⊢
      exact ho'
  · exact appTs hgd s x ho hown h2 (fun e => absurd e h0) hs hx hlen h
theorem OwnT.cap {B : Nat} {v : Value} {l : List ByteArray} {W0 w : World} (h : OwnT B v l W0 w) (hl : l ≠ []) : ∃ g cap, v = .slice (some ⟨g, 0, none⟩) l.length cap ∧ l.length ≤ cap ∧ B ≤ g ∧ g < w.heap.size ∧ ∀ i, i < l.length → w.cell? ⟨g, i, none⟩ = some (.string (l.getD i ByteArray.empty)) ∧ w.frozen? ⟨g, i, none⟩ = false := by
  obtain ⟨g, cap, rfl, h1, h2, h3⟩ := h.cells hl
  refine ⟨g, cap, rfl, ?_, h1, h2, h3⟩
  rcases h.row.2 with ⟨e, _⟩ | ⟨g', cap', cur, e, _, _, hc, _⟩
  · cases e
  · cases e
    exact hc
theorem num_any (k : Int) (w : World) : Calls Tryz.prog 10 #[.int .i64 k] w fun e w' => e = .returned (.int .i64 k) ∧ w' = w := by
  go_enter Tryz.func10, Tryz.ntmps10
  go_wp2
  go_ret
  exact ⟨rfl, rfl⟩
/-- Texts in a row of their own that may be written. -/
structure Row (w : World) (g : Nat) (cur : List ByteArray) (X : World) : Prop where
  lo : w.heap.size ≤ g
  lt : g < X.heap.size
  below : Below w.heap.size w X
  cells : ∀ i, i < cur.length → X.cell? ⟨g, i, none⟩ = some (.string (cur.getD i ByteArray.empty)) ∧ X.frozen? ⟨g, i, none⟩ = false
theorem Row.on {w : World} {g : Nat} {cur : List ByteArray} {X Y : World} (h : Row w g cur X) (hb : Below X.heap.size X Y) : Row w g cur Y :=
  ⟨h.lo, Nat.lt_of_lt_of_le h.lt hb.size, h.below.trans (hb.mono (by have := h.lo; have := h.lt; omega)), fun i hi => ⟨by rw [hb.cell (p := ⟨g, i, none⟩) h.lt]; exact (h.cells i hi).1, by rw [hb.frozen (p := ⟨g, i, none⟩) h.lt]; exact (h.cells i hi).2⟩⟩
theorem Row.set {w : World} {g : Nat} {cur : List ByteArray} {X : World} (h : Row w g cur X) (k : Nat) (x : ByteArray) : Row w g (cur.set k x) (X.setCell ⟨g, k, none⟩ (.string x)) := by
  refine ⟨h.lo, by simpa using h.lt, h.below.setCell (p := ⟨g, k, none⟩) h.lo _, fun i hi => ?_⟩
  have hi' : i < cur.length := by simpa using hi
  obtain ⟨h1, h2⟩ := h.cells i hi'
  refine ⟨?_, by simpa using h2⟩
  by_cases e : k = i
  · subst e
    rw [World.cell?_setCell_same _ _ _ h1]
    simp [hi']
  · rw [World.cell?_setCell_other _ _ _ _ (by intro e'; simp only [Addr.mk.injEq] at e'; exact e e'.2.1), h1]
    simp [hi', e]
theorem Row.take {w : World} {g : Nat} {cur : List ByteArray} {X : World} (h : Row w g cur X) (n : Nat) : Row w g (cur.take n) X :=
  ⟨h.lo, h.lt, h.below, fun i hi => by
    rw [List.length_take] at hi
    have := h.cells i (by omega)
    rw [List.getD_eq_getElem?_getD, List.getElem?_take, if_pos (by omega), ← List.getD_eq_getElem?_getD]
    exact this⟩
theorem Row.strs {w : World} {g : Nat} {cur : List ByteArray} {X : World} (h : Row w g cur X) (hl : cur.length ≤ 1000) (cap : Nat) : Strs X (.slice (some ⟨g, 0, none⟩) cur.length cap) cur :=
  .inr ⟨g, 0, cap, rfl, by omega, h.lt, fun i hi => by rw [Nat.zero_add]; exact (h.cells i hi).1⟩
/-- The first k of a list written over the first k of another. -/
def over (s1 s2 : List ByteArray) : Nat → List ByteArray
  | 0 => s1
  | k + 1 => (over s1 s2 k).set k (s2.getD k ByteArray.empty)
theorem over_length (s1 s2 : List ByteArray) (k : Nat) : (over s1 s2 k).length = s1.length := by
  induction k with
  | zero => rfl
  | succ k ih => rw [over, List.length_set, ih]
theorem over_mem (s1 s2 : List ByteArray) (k : Nat) (hk : k ≤ s2.length) : ∀ f, f ∈ over s1 s2 k → f ∈ s1 ∨ f ∈ s2 := by
  induction k with
  | zero => intro f hf; exact .inl hf
  | succ k ih =>
    intro f hf
    rw [over] at hf
    rcases List.mem_or_eq_of_mem_set hf with h | h
    · exact ih (by omega) f h
    · refine .inr ?_
      rw [h, List.getD_eq_getElem?_getD, List.getElem?_eq_getElem (by omega)]
      exact List.getElem_mem _
end Go.Proofs.YtgcbindjbgkniaaGreatDoor

/- The statement EventFlags: its walk. -/
namespace Go.Proofs.YtgcbindjbgkniaaGreatDoor
open Go.RowKit Go.Lib

def behB : ByteArray := ⟨#[98, 101, 104, 105, 110, 100]⟩
theorem mem_sz {ss : List ByteArray} (h : ∀ i, i < ss.length → (ss.getD i ByteArray.empty).size ≤ 140737488355328) : ∀ f, f ∈ ss → f.size ≤ 140737488355328 := by
  intro f hf
  obtain ⟨i, hi, rfl⟩ := List.getElem_of_mem hf
  have := h i hi
  rw [List.getD_eq_getElem?_getD, List.getElem?_eq_getElem hi] at this
  exact this
theorem sz_mem {ss : List ByteArray} (h : ∀ f, f ∈ ss → f.size ≤ 140737488355328) : ∀ i, i < ss.length → (ss.getD i ByteArray.empty).size ≤ 140737488355328 := by
  intro i hi
  rw [List.getD_eq_getElem?_getD, List.getElem?_eq_getElem hi]
  exact h _ (List.getElem_mem hi)
theorem flagsL_len (ss : List ByteArray) : (flagsL ss).length ≤ 1000000 := by
  unfold flagsL
  split
  · rename_i h
    have hk : kwOK ss = true ∧ ss.length ≤ 16 := by
      unfold flagsE at h
      split at h
      · cases h
      · split at h
        · rename_i h1 h2
          exact ⟨h2, by omega⟩
        · cases h
    rw [form_words ss hk.1, List.length_append]
    have h1 := seenTo_len ss 5
    have h2 := wordsL_len ss
    omega
  · simp
set_option maxHeartbeats 8000000 in
theorem EventFlags_walk (v1 v2 : Value) (s1 s2 : List ByteArray) (w : World) (he : Env2 w) (h1 : Strs w v1 s1) (h2 : Strs w v2 s2) (hn : ∀ c, v1 = .slice none 0 c → c = 0) (z1 : ∀ i, i < s1.length → (s1.getD i ByteArray.empty).size ≤ 140737488355328) (z2 : ∀ i, i < s2.length → (s2.getD i ByteArray.empty).size ≤ 140737488355328) :
    Calls Tryz.prog 4 #[v1, v2] w fun e w' => e = .returned (.bool true) ∧ Below w.heap.size w w' := by
  obtain ⟨a1, c1, rfl⟩ := h1.shape
  obtain ⟨a2, c2, rfl, k2⟩ := h2.cells
  by_cases hl1 : 300 < s1.length
  · have hli : (300 : Int) < (s1.length : Int) := by omega
    clear he h1 h2 hn z1 z2 k2
    go_enter Tryz.func4, Tryz.ntmps4
    go_wp2
    go_ret
    exact ⟨rfl, Below.refl _ _⟩
  by_cases hl2 : 300 < s2.length
  · have hli : ¬ (300 : Int) < (s1.length : Int) := by omega
    have hli2 : (300 : Int) < (s2.length : Int) := by omega
    clear he h1 h2 hn z1 z2 k2
    go_enter Tryz.func4, Tryz.ntmps4
    go_wp2
    go_ret
    exact ⟨rfl, Below.refl _ _⟩
  have hi1 : ¬ (300 : Int) < (s1.length : Int) := by omega
  have hi2 : ¬ (300 : Int) < (s2.length : Int) := by omega
  have HE := Lib.hid he
  have HS1 := Lib.hid h1
  have HK2 := Lib.hid k2
  have HNn := Lib.hid hn
  have HZ1 := Lib.hid (mem_sz z1)
  have HZ2 := Lib.hid (mem_sz z2)
  have HFl := Lib.hid (flagsL_len)
  clear he h1 h2 hn z1 z2 k2
  obtain ⟨n1, hn1⟩ : ∃ n1, s1.length = n1 := ⟨_, rfl⟩
  obtain ⟨n2, hn2⟩ : ∃ n2, s2.length = n2 := ⟨_, rfl⟩
  have HN1 := Lib.hid hn1
  have HN2 := Lib.hid hn2
  rw [hn1] at hi1 hl1 HS1 HNn ⊢
  rw [hn2] at hi2 hl2 HK2 ⊢
  clear hn1 hn2
  have hm1 : (n1 : Int) ≤ 300 := by omega
  have hm2 : (n2 : Int) ≤ 300 := by omega
  go_enter Tryz.func4, Tryz.ntmps4
  go_upto_region 5 with (at_builtin; refine appTsE rfl _ _ rfl (OwnT.nil (B := w.heap.size) (W0 := w) (Below.refl _ _) (Nat.le_refl _)) HS1.out HNn.out rfl rfl (by rw [HN1.out]; simp; omega) ?_; intro v3 w3 ho3; rw [List.nil_append] at ho3; obtain ⟨a3, k3, hv3⟩ := ho3.shape; rw [HN1.out] at hv3; subst hv3; have HO3 := Lib.hid ho3; clear ho3)
  go_upto_region 6 with (at_builtin; refine appT rfl _ _ rfl behB HO3.out rfl _ rfl rfl (by rw [HN1.out]; omega) ?_; intro v4 w4 ho4; obtain ⟨g, cap, hv4, hcap, hB, hg, hcs⟩ := ho4.cap (by simp); obtain ⟨N, hN⟩ : ∃ N, (s1 ++ [behB]).length = N := ⟨_, rfl⟩; rw [hN] at hv4 hcap; subst hv4; have HRw := Lib.hid (Row.mk (w := w) hB hg ho4.below hcs); clear ho4 hB hg hcs)
  rw [List.length_append, HN1.out, List.length_singleton] at hN
  have hNi : (N : Int) = n1 + 1 := by omega
  have hNc : (n1 : Int) ≤ (cap : Int) := by omega
  have hcN : n1 ≤ cap := by omega
  have hN2 : (n1 : Int) < (N : Int) := by omega
  have hN0 : (0 : Int) ≤ (n1 : Int) := by omega
  have HR1 : Hid (∀ X, Row w g (s1 ++ [behB]) X → Strs X (.slice (some ⟨g, 0, none⟩) n1 cap) s1) := Lib.hid (fun X hX => by
    have h := (hX.take n1).strs (by rw [List.length_take]; omega) cap
    have e : (s1 ++ [behB]).take n1 = s1 := by rw [← HN1.out, List.take_left']; rfl
    rw [e, HN1.out] at h
    exact h)
  have HBh : Hid (∀ X, Row w g (s1 ++ [behB]) X → X.cell? ⟨g, n1, none⟩ = some (.string ⟨#[98, 101, 104, 105, 110, 100]⟩)) := Lib.hid (fun X hX => by
    have h := (hX.cells n1 (by rw [List.length_append, HN1.out]; simp)).1
    rw [h]
    have e : (⟨#[98, 101, 104, 105, 110, 100]⟩ : ByteArray) = behB := rfl
    rw [e]
    congr 2
    rw [List.getD_eq_getElem?_getD, ← HN1.out, List.getElem?_concat_length]
    rfl)
  go_upto_region 7 with fail
  go_upto_region 8 with (go_at_call 6; refine (Flags_any _ s1 _ (HE.out.go HRw.out.below).f (HR1.out _ HRw.out) (sz_mem HZ1.out)).mono ?_; rintro e w5 ⟨vo, rfl, ho5⟩; have HRw5 := Lib.hid (HRw.out.on ho5.below); have HA5 := Lib.hid (ho5.strs (by have := HFl.out s1; omega)); obtain ⟨a5, k5, hv5⟩ := ho5.shape; subst hv5; clear ho5)
  go_upto_region 9 with (go_at_call 9; refine (refFlags_any _ s1 _ (HS1.out.on HRw5.out.below) HZ1.out).mono ?_; rintro e w6 ⟨vo, rfl, hs6, hb6⟩; have HRw6 := Lib.hid (HRw5.out.on hb6); have HA6 := Lib.hid (HA5.out.on hb6); have HB6 := Lib.hid hs6; obtain ⟨a6, k6, hv6⟩ := hs6.shape; subst hv6; clear hb6 hs6)
  have HRk : Hid (∀ k X, Row w g (over s1 s2 k) X → Strs X (.slice (some ⟨g, 0, none⟩) n1 cap) (over s1 s2 k)) := Lib.hid (fun k X hX => by
    have h := hX.strs (by rw [over_length, HN1.out]; omega) cap
    rw [over_length, HN1.out] at h
    exact h)
  go_upto_region 11 with (first | (go_at_call 5; refine (known_any _ (HE.out.go HRw6.out.below)).mono ?_; rintro e w7 ⟨rfl, hb⟩; have HRw7 := Lib.hid (HRw6.out.on hb); have HA7 := Lib.hid (HA6.out.on hb); have HB7 := Lib.hid (HB6.out.on hb); clear hb) | (go_at_call 7; first | (have hX := HRw8; clear hX; refine (texts_eq (HR1.out _ HRw8.out) (HS1.out.on HRw8.out.below) (by rw [HN1.out]; omega)).mono ?_; rintro e w9 ⟨rfl, hb⟩; have HRw9 := Lib.hid (HRw8.out.on hb); have yb := HBh.out _ HRw9.out; clear hb) | (have hX := HRw7; clear hX; refine (texts_eq HA7.out HB7.out (HFl.out s1)).mono ?_; rintro e w8 ⟨rfl, hb⟩; have HRw8 := Lib.hid (HRw7.out.on hb); clear hb)) | (go_at_call 10; refine (num_any _ _).mono ?_; rintro e w14 ⟨rfl, hw⟩; subst w14))
  have HRs : Hid (Row w g (over s1 s2 0) w9) := Lib.hid (by
    have h := HRw9.out.take n1
    have e : (s1 ++ [behB]).take n1 = s1 := by rw [← HN1.out, List.take_left']; rfl
    rw [e] at h
    exact h)
  clear yb HRw9 HRw8 HRw7 HRw6 HRw5 HRw HA5 HA6 HA7 HB6 HB7 HR1 HBh HS1 HO3 HNn hN2 hN hcap
  go_wp2_with fail
  go_loopw [11] (fun vi wr => ∃ (k : Nat) (X : World), X = wr ∧ k ≤ n1 ∧ k ≤ n2 ∧ vi = .int .i64 k ∧ Row w g (over s1 s2 k) X) (fun i _ => n1 - (intOf i).toNat)
  case atStart => exact ⟨0, _, rfl, Nat.zero_le _, Nat.zero_le _, rfl, HRs.out⟩
  case round =>
    clear HRs
    obtain ⟨k, X, hX, hkn1, hkn2, rfl, hrow⟩ := hrel
    subst hX
    have HRX := Lib.hid hrow
    have hk0 : (0 : Int) ≤ (k : Int) := by omega
    have hk3 : (k : Int) ≤ 300 := by omega
    by_cases hk1 : k < n1
    · have hc1 : (k : Int) < (n1 : Int) := by omega
      by_cases hk2 : k < n2
      · have hc2 : (k : Int) < (n2 : Int) := by omega
        obtain ⟨b, off, hao, hbl, hcl⟩ := HK2.out k hk2
        subst hao
        have y2 : X.cell? ⟨b, off + k, none⟩ = some (.string (s2.getD k ByteArray.empty)) := by rw [hrow.below.cell (p := ⟨b, off + k, none⟩) hbl]; exact hcl
        obtain ⟨y1, yf⟩ := hrow.cells k (by rw [over_length, HN1.out]; exact hk1)
        have HNx : Hid (∀ Y, Row w g (over s1 s2 k) Y → Row w g (over s1 s2 (k + 1)) (Y.setCell ⟨g, k, none⟩ (.string (s2.getD k ByteArray.empty)))) := Lib.hid (fun Y hY => hY.set k _)
        clear hrow hcl hbl
        generalize s2.getD k ByteArray.empty = t2 at *
        generalize (over s1 s2 k).getD k ByteArray.empty = t1 at *
        go_wp2_with fail
        go_roundw
        case rel => exact ⟨k + 1, _, rfl, hk1, hk2, by go_num, HNx.out _ HRX.out⟩
        case measure => simp [intOf]; omega
      · have hc2 : ¬ (k : Int) < (n2 : Int) := by omega
        clear hrow
        go_upto_region 15 with fail
        clear hc1 hc2
        obtain ⟨cur, hcur⟩ : ∃ cur, over s1 s2 k = cur := ⟨_, rfl⟩
        have HSX := Lib.hid (HRk.out k X HRX.out)
        have HLc := Lib.hid (over_length s1 s2 k)
        have HZc : Hid (∀ f, f ∈ cur → f.size ≤ 140737488355328) := Lib.hid (fun f hf => by
          rw [← hcur] at hf
          rcases over_mem s1 s2 k (by rw [HN2.out]; exact hkn2) f hf with h | h
          · exact HZ1.out f h
          · exact HZ2.out f h)
        rw [hcur] at HSX HLc HRX
        clear hcur
        go_upto_region 17 with (at_builtin; refine appTsE rfl _ _ rfl (OwnT.nil (B := X.heap.size) (W0 := X) (Below.refl _ _) (Nat.le_refl _)) HSX.out (fun c e => by cases e) rfl rfl (by rw [HLc.out, HN1.out]; simp; omega) ?_; intro v10 w10 ho10; rw [List.nil_append] at ho10; obtain ⟨a10, k10, hv10⟩ := ho10.shape; rw [HLc.out, HN1.out] at hv10; subst hv10; have HR10 := Lib.hid (HRX.out.on ho10.below); have HN10 := Lib.hid (ho10.strs (by rw [HLc.out, HN1.out]; omega)); have HS10 := Lib.hid (HSX.out.on ho10.below); clear ho10)
        go_upto_region 18 with (go_at_call 6; refine (Flags_any _ cur _ (HE.out.go HR10.out.below).f HS10.out (sz_mem HZc.out)).mono ?_; rintro e w11 ⟨vo, rfl, ho11⟩; have HR11 := Lib.hid (HR10.out.on ho11.below); have HN11 := Lib.hid (HN10.out.on ho11.below); have HA11 := Lib.hid (ho11.strs (by have := HFl.out cur; omega)); obtain ⟨a11, k11, hv11⟩ := ho11.shape; subst hv11; clear ho11)
        go_upto_region 19 with (go_at_call 9; refine (refFlags_any _ cur _ HN11.out HZc.out).mono ?_; rintro e w12 ⟨vo, rfl, hs12, hb12⟩; have HR12 := Lib.hid (HR11.out.on hb12); have HA12 := Lib.hid (HA11.out.on hb12); have HB12 := Lib.hid hs12; obtain ⟨a12, k12, hv12⟩ := hs12.shape; subst hv12; clear hb12 hs12)
        go_wp2_with (first | (go_at_call 7; refine (texts_eq HA12.out HB12.out (HFl.out cur)).mono ?_; rintro e w13 ⟨rfl, hb⟩; have HR13 := Lib.hid (HR12.out.on hb); clear hb) | (go_at_call 10; refine (num_any _ _).mono ?_; rintro e w14 ⟨rfl, hw⟩; subst w14))
        go_ret
        exact ⟨by first | rfl | simp, HR13.out.below⟩
    · have hc1 : ¬ (k : Int) < (n1 : Int) := by omega
      have hc2 := hc1
      clear hrow
      go_upto_region 15 with fail
      clear hc1 hc2
      obtain ⟨cur, hcur⟩ : ∃ cur, over s1 s2 k = cur := ⟨_, rfl⟩
      have HSX := Lib.hid (HRk.out k X HRX.out)
      have HLc := Lib.hid (over_length s1 s2 k)
      have HZc : Hid (∀ f, f ∈ cur → f.size ≤ 140737488355328) := Lib.hid (fun f hf => by
        rw [← hcur] at hf
        rcases over_mem s1 s2 k (by rw [HN2.out]; exact hkn2) f hf with h | h
        · exact HZ1.out f h
        · exact HZ2.out f h)
      rw [hcur] at HSX HLc HRX
      clear hcur
      go_upto_region 17 with (at_builtin; refine appTsE rfl _ _ rfl (OwnT.nil (B := X.heap.size) (W0 := X) (Below.refl _ _) (Nat.le_refl _)) HSX.out (fun c e => by cases e) rfl rfl (by rw [HLc.out, HN1.out]; simp; omega) ?_; intro v10 w10 ho10; rw [List.nil_append] at ho10; obtain ⟨a10, k10, hv10⟩ := ho10.shape; rw [HLc.out, HN1.out] at hv10; subst hv10; have HR10 := Lib.hid (HRX.out.on ho10.below); have HN10 := Lib.hid (ho10.strs (by rw [HLc.out, HN1.out]; omega)); have HS10 := Lib.hid (HSX.out.on ho10.below); clear ho10)
      go_upto_region 18 with (go_at_call 6; refine (Flags_any _ cur _ (HE.out.go HR10.out.below).f HS10.out (sz_mem HZc.out)).mono ?_; rintro e w11 ⟨vo, rfl, ho11⟩; have HR11 := Lib.hid (HR10.out.on ho11.below); have HN11 := Lib.hid (HN10.out.on ho11.below); have HA11 := Lib.hid (ho11.strs (by have := HFl.out cur; omega)); obtain ⟨a11, k11, hv11⟩ := ho11.shape; subst hv11; clear ho11)
      go_upto_region 19 with (go_at_call 9; refine (refFlags_any _ cur _ HN11.out HZc.out).mono ?_; rintro e w12 ⟨vo, rfl, hs12, hb12⟩; have HR12 := Lib.hid (HR11.out.on hb12); have HA12 := Lib.hid (HA11.out.on hb12); have HB12 := Lib.hid hs12; obtain ⟨a12, k12, hv12⟩ := hs12.shape; subst hv12; clear hb12 hs12)
      go_wp2_with (first | (go_at_call 7; refine (texts_eq HA12.out HB12.out (HFl.out cur)).mono ?_; rintro e w13 ⟨rfl, hb⟩; have HR13 := Lib.hid (HR12.out.on hb); clear hb) | (go_at_call 10; refine (num_any _ _).mono ?_; rintro e w14 ⟨rfl, hw⟩; subst w14))
      go_ret
      exact ⟨by first | rfl | simp, HR13.out.below⟩
end Go.Proofs.YtgcbindjbgkniaaGreatDoor
