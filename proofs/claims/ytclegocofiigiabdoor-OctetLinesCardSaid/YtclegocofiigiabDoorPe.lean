/- octet: unpack. -/
import Derived.Test.YtclegocofiigiabDoorPd
namespace Go.Proofs.YtclegocofiigiabDoor
open Go.RowKit

def upStep (st : List UInt8 × Nat × Nat) (x : Int) : List UInt8 × Nat × Nat :=
  if x < 0 then st
  else if 2 ≤ st.2.1 then (st.1 ++ [UInt8.ofNat ((st.2.2 * 64 + x.toNat) / 2 ^ (st.2.1 - 2))], st.2.1 - 2, (st.2.2 * 64 + x.toNat) % 2 ^ (st.2.1 - 2))
  else (st.1, st.2.1 + 6, st.2.2 * 64 + x.toNat)
def upTo (l letters : List UInt8) (k : Nat) : List UInt8 × Nat × Nat := (l.take k).foldl (fun st c => upStep st (worthOf letters c.toNat)) ([], 0, 0)
def unpack (l letters : List UInt8) : List UInt8 := (upTo l letters l.length).1

theorem worthTo_lo (l : List UInt8) (c : Nat) : ∀ k, -1 ≤ worthTo l k c
  | 0 => by simp [worthTo]
  | k + 1 => by unfold worthTo; split; omega; exact worthTo_lo l c k
theorem worthTo_hi (l : List UInt8) (c : Nat) : ∀ k, worthTo l k c < k
  | 0 => by simp [worthTo]
  | k + 1 => by unfold worthTo; split; omega; have := worthTo_hi l c k; omega
def okU (st : List UInt8 × Nat × Nat) : Prop := st.2.1 ≤ 6 ∧ st.2.1 % 2 = 0 ∧ st.2.2 < 2 ^ st.2.1
theorem okU_step (st : List UInt8 × Nat × Nat) (x : Int) (h : okU st) (hx : x < 64) : okU (upStep st x) := by
  obtain ⟨o, h', b⟩ := st
  unfold okU upStep at *
  simp only at h
  by_cases hn : x < 0
  · rw [if_pos hn]; exact h
  · rw [if_neg hn]
    have hh : h' = 0 ∨ h' = 2 ∨ h' = 4 ∨ h' = 6 := by omega
    rcases hh with rfl | rfl | rfl | rfl <;> simp at h ⊢ <;> omega
theorem upTo_succ (l t : List UInt8) (k : Nat) (hk : k < l.length) : upTo l t (k + 1) = upStep (upTo l t k) (worthOf t (bt l k).toNat) := by
  unfold upTo; rw [take_snoc l k hk, List.foldl_append]; rfl
theorem okU_to (l t : List UInt8) (ht : t.length = 64) (k : Nat) : okU (upTo l t k) := by
  unfold upTo
  have : ∀ (m : List UInt8) st, okU st → okU (m.foldl (fun st c => upStep st (worthOf t c.toNat)) st) := by
    intro m
    induction m with
    | nil => intro st h; exact h
    | cons c r ih => intro st h; exact ih _ (okU_step st _ h (by have := worthTo_hi t c.toNat t.length; unfold worthOf; omega))
  exact this _ _ ⟨by simp, by simp, by simp⟩
theorem up_len (l t : List UInt8) (k : Nat) : (upTo l t k).1.length ≤ k := by
  unfold upTo
  have : ∀ (m : List UInt8) st, (m.foldl (fun st c => upStep st (worthOf t c.toNat)) st).1.length ≤ st.1.length + m.length := by
    intro m
    induction m with
    | nil => intro st; simp
    | cons c r ih =>
      intro st
      have h1 := ih (upStep st (worthOf t c.toNat))
      have h2 : (upStep st (worthOf t c.toNat)).1.length ≤ st.1.length + 1 := by unfold upStep; split <;> (try split) <;> simp
      simp only [List.foldl_cons, List.length_cons]
      omega
  have h := this (l.take k) ([], 0, 0)
  have := List.length_take_le k l
  simp at h ⊢
  omega
def shl6 (V x : Nat) : Nat := V * 64 % 18446744073709551616 + x
theorem shl6_or (V x : Nat) (hx : x < 64) : bits .or .u64 (IntKind.u64.wrap ((V : Int) * 64)) (x : Int) = ((shl6 V x : Nat) : Int) := by
  rw [IntKind.wrap_u64]
  have e : ((V : Int) * 64) % 18446744073709551616 = ((V * 64 % 18446744073709551616 : Nat) : Int) := by omega
  rw [e, bits_or_u64_nat _ _ (by omega) (by omega)]
  have e2 : V * 64 % 18446744073709551616 = (V % 288230376151711744) <<< 6 := by rw [Nat.shiftLeft_eq]; omega
  unfold shl6
  rw [e2, Nat.shiftLeft_add_eq_or_of_lt (by simpa using hx)]
theorem shl6_lt (V x : Nat) (hx : x < 64) : shl6 V x < big64 := by unfold shl6 big64; omega
theorem shl6_mod (V x h : Nat) (hx : x < 64) (hh : h ≤ 6) : shl6 V x % 2 ^ (h + 6) = V % 2 ^ h * 64 + x := by
  unfold shl6
  match h, hh with
  | 0, _ => omega
  | 1, _ => omega
  | 2, _ => omega
  | 3, _ => omega
  | 4, _ => omega
  | 5, _ => omega
  | 6, _ => omega
  | h + 7, hh => omega

/-- One letter read. -/
theorem upStep_two (st : List UInt8 × Nat × Nat) (x : Int) (h0 : 0 ≤ x) (h : 2 ≤ st.2.1) (hok : okU st) (V' : Nat) (hv : V' % 2 ^ (st.2.1 + 6) = st.2.2 * 64 + x.toNat) :
    upStep st x = (st.1 ++ [UInt8.ofNat (V' / 2 ^ (st.2.1 - 2))], st.2.1 - 2, V' % 2 ^ (st.2.1 - 2)) := by
  obtain ⟨o, h', b⟩ := st
  unfold okU at hok
  unfold upStep
  simp only at h hv hok ⊢
  rw [if_neg (by omega), if_pos h]
  have hh : h' = 2 ∨ h' = 4 ∨ h' = 6 := by omega
  have key : UInt8.ofNat ((b * 64 + x.toNat) / 2 ^ (h' - 2)) = UInt8.ofNat (V' / 2 ^ (h' - 2)) ∧ (b * 64 + x.toNat) % 2 ^ (h' - 2) = V' % 2 ^ (h' - 2) := by
    rcases hh with rfl | rfl | rfl
    · simp at hv ⊢
      refine ⟨UInt8.toNat_inj.1 ?_, by omega⟩
      simp; omega
    · simp at hv ⊢
      refine ⟨UInt8.toNat_inj.1 ?_, by omega⟩
      simp; omega
    · simp at hv ⊢
      refine ⟨UInt8.toNat_inj.1 ?_, by omega⟩
      simp; omega
  rw [key.1, key.2]
theorem upStep_none (st : List UInt8 × Nat × Nat) (x : Int) (h0 : 0 ≤ x) (h : st.2.1 = 0) (V' : Nat) (hv : V' % 2 ^ (st.2.1 + 6) = st.2.2 * 64 + x.toNat) :
    upStep st x = (st.1, 6, V' % 2 ^ 6) := by
  obtain ⟨o, h', b⟩ := st
  simp only at h hv
  subst h
  unfold upStep
  simp only
  rw [if_neg (by omega), if_neg (by omega), ← hv]
theorem ofNat_wrap (V h : Nat) : IntKind.u8.wrap ((V : Int) / 2 ^ h) = ((UInt8.ofNat (V / 2 ^ h)).toNat : Int) := by
  have e : ((V : Int) / 2 ^ h) = ((V / 2 ^ h : Nat) : Int) := by simp
  rw [IntKind.wrap_u8, e]
  simp

set_option maxHeartbeats 400000 in
set_option maxRecDepth 100000 in
theorem unpack_any (s t : ByteArray) (w : World) (hs : s.size ≤ 1000000) (ht : t.size = 64) :
    Calls Tryd.prog 47 #[.string s, .string t] w fun e w' => e = .returned (.string (S (unpack (L s) (L t)))) ∧ Below w.heap.size w w' := by
  have HT : Hid (t.size = 64) := Lib.hid ht
  have ht1 : t.size ≤ 128 := by omega
  clear ht
  go_enter Tryd.func47, Tryd.ntmps47
  go_wp2_with (go_at_call 66; refine (worths_any _ _ ht1).mono ?_; rintro e w1 ⟨cs, htab, rfl, hb1⟩; refine Hid.out ?_)
  refine Lib.hid ?_
  have hi : Hid ((Tryd.prog.info? 66).map (·.size) = some cs.size) := Lib.hid (by rw [htab.1]; exact Tryd.sizeTab)
  have ho : Hid (Tryd.zeroCells66.size = cs.size) := Lib.hid (by rw [htab.1]; exact tabHas_zeros.1)
  have h1 : Hid (cs.all (·.oneCell') = true) := Lib.hid (tabHas_one htab)
  have HTAB := Lib.hid htab
  clear htab
  have hnew := Lib.hid (heap_alloc_new w1 (.cells Tryd.zeroCells66 66))
  go_wp2_with (first | (refine wpList_store_row rfl 66 _ _ rfl w1.heap.size cs rfl rfl 66 _ hnew.out hi.out ho.out h1.out ?_; refine Hid.out ?_))
  refine Lib.hid ?_
  have hcs := Lib.hid (setRow_heap _ _ _ cs _ _ hnew.out)
  have hbW : Below w.heap.size w ((w1.alloc (.cells Tryd.zeroCells66 66)).setRow w1.heap.size cs) := below_setRow (hb1.alloc hb1.size _) hb1.size _
  have hsz0 : ((w1.alloc (.cells Tryd.zeroCells66 66)).setRow w1.heap.size cs).heap.size = w1.heap.size + 1 := by simp
  generalize (w1.alloc (.cells Tryd.zeroCells66 66)).setRow w1.heap.size cs = w2 at *
  have hsz := Lib.hid hsz0
  have hsz1 : w1.heap.size < w2.heap.size := by omega
  clear hsz0
  go_wp2_with (at_make; refine mk0 rfl _ _ rfl _ (s.size / 4 * 3 + 2) (by omega) (by omega) rfl rfl ?_; intro w3 hown)
  go_loopw [6, 7, 8, 21] (fun v b h i wr => ∃ (k V : Nat), k ≤ s.size ∧ i = .int .i64 k ∧ V < big64 ∧ b = .int .u64 V ∧ h = .int .i64 ((upTo (L s) (L t) k).2.1 : Nat) ∧ V % 2 ^ (upTo (L s) (L t) k).2.1 = (upTo (L s) (L t) k).2.2 ∧ Own w2.heap.size v (upTo (L s) (L t) k).1 w2 wr) (fun _ _ _ i _ => s.size - (intOf i).toNat)
  case atStart => exact ⟨0, 0, Nat.zero_le _, rfl, by simp [big64], rfl, rfl, rfl, hown⟩
  case round =>
    clear hown
    obtain ⟨k, V, hk, rfl, hV, rfl, rfl, hm, hown⟩ := hrel
    by_cases hlt : k < s.size
    · have ea := get_bt s k hlt
      have c0 : (bt (L s) k).toNat < 256 := bt_lt _ _
      have hok := okU_to (L s) (L t) HT.out k
      have hsucc := upTo_succ (L s) (L t) k hlt
      have hsl := up_len (L s) (L t) k
      have hcell : wr.cell? ⟨w1.heap.size, (bt (L s) k).toNat, none⟩ = some (.int .i8 (worthOf (L t) (bt (L s) k).toNat)) := by
        rw [hown.below.cell (by simp only; omega), cell_of_row w2 _ _ cs _ _ hcs.out]
        exact HTAB.out.2 _ c0
      have hx0 := worthTo_lo (L t) (bt (L s) k).toNat (L t).length
      have hx1 := worthTo_hi (L t) (bt (L s) k).toNat (L t).length
      have e64 : ((L t).length : Int) = 64 := by have := HT.out; rw [L_length]; omega
      rw [e64] at hx1
      change -1 ≤ worthOf (L t) (bt (L s) k).toNat at hx0
      change worthOf (L t) (bt (L s) k).toNat < 64 at hx1
      generalize worthOf (L t) (bt (L s) k).toNat = x at hsucc hcell hx0 hx1
      generalize upTo (L s) (L t) k = st at *
      clear e64
      have HSU := Lib.hid hsucc
      clear hsucc
      by_cases hneg : x = -1
      · subst hneg
        have e : upStep st (-1) = st := by unfold upStep; rw [if_pos (by decide)]
        have HSU2 := Lib.hid (HSU.out.trans e)
        clear HSU e
        have HM := Lib.hid hm
        clear hm hok
        go_wp2
        go_roundw
        case rel => exact ⟨k + 1, V, by omega, by go_num, hV, rfl, by rw [HSU2.out], by rw [HSU2.out]; exact HM.out, by rw [HSU2.out]; exact hown⟩
        case measure => simp [intOf]; omega
      · have hxn : (x == -1) = false := by simpa using hneg
        obtain ⟨n, rfl⟩ := Int.eq_ofNat_of_zero_le (show 0 ≤ x by omega)
        have hbits := shl6_or V n (by omega)
        have hV2 := shl6_lt V n (by omega)
        have hmod := shl6_mod V n st.2.1 (by omega) hok.1
        rw [hm] at hmod
        generalize shl6 V n = V2 at *
        clear hV hm
        by_cases h2 : 2 ≤ st.2.1
        · have hst := upStep_two st (n : Int) (by omega) h2 hok V2 (by simpa using hmod)
          have HSU2 := Lib.hid (HSU.out.trans hst)
          have hwr := ofNat_wrap V2 (st.2.1 - 2)
          have h6 := hok.1
          clear HSU hst hmod hok hneg
          obtain ⟨o, h, b⟩ := st
          simp only at h2 h6 HSU2 hown hwr hsl
          have hol : o.length + 1 ≤ 140737488355328 := by omega
          generalize UInt8.ofNat (V2 / 2 ^ (h - 2)) = y at hwr HSU2
          go_wp2_with (at_builtin; refine app1 rfl _ _ rfl _ y hown rfl rfl rfl hol ?_; intro v' w4 hown2)
          go_roundw
          case rel => exact ⟨k + 1, V2, by omega, by go_num, hV2, rfl, by rw [HSU2.out]; congr 1; simp only; omega, by rw [HSU2.out], by rw [HSU2.out]; exact hown2⟩
          case measure => simp [intOf]; omega
        · have h0 : st.2.1 = 0 := by have := hok.2.1; omega
          have hst := upStep_none st (n : Int) (by omega) h0 V2 (by simpa using hmod)
          have HSU2 := Lib.hid (HSU.out.trans hst)
          clear HSU hst hmod hok hneg h2
          obtain ⟨o, h, b⟩ := st
          simp only at h0 HSU2 hown hsl
          subst h0
          go_wp2
          go_roundw
          case rel => exact ⟨k + 1, V2, by omega, by go_num, hV2, rfl, by rw [HSU2.out]; rfl, by rw [HSU2.out], by rw [HSU2.out]; exact hown⟩
          case measure => simp [intOf]; omega
    · have hall : k = (L s).length := by rw [L_length]; omega
      have hfin : unpack (L s) (L t) = (upTo (L s) (L t) k).1 := by rw [hall]; rfl
      rw [← hfin] at hown
      have hcv := hown.back
      clear hfin hall hm
      go_wp2
      go_ret
      exact ⟨rfl, hbW.trans (hown.below.mono hbW.size)⟩
end Go.Proofs.YtclegocofiigiabDoor
