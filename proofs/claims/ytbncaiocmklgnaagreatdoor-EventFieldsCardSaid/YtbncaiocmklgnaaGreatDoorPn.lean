/- octet: appendUnit, writePairs. -/
import Derived.Test.YtbncaiocmklgnaaGreatDoorPm
namespace Go.Proofs.YtbncaiocmklgnaaGreatDoor
open Go.RowKit Go.Shelf

/-- out = append(out, a, b). -/
theorem app2 {ops : Array Oper} {rest : List Oper} {o : Oper} {a : Act} {Q : Exit → Act → World → Prop} (hgd : o.guard = none) (s x : Operand)
    (ho : o.op = .call { callee := .builtin .append, args := #[s, x], argTypes := #[58, 58] })
    {B : Nat} {v : Value} {l : List UInt8} {W0 w : World} (c d : UInt8) (hown : Own B v l W0 w) (hs : a.eval s = v) (hx : a.eval x = .slice (some ⟨w.heap.size, 0, none⟩) 2 2)
    (hlen : l.length + 2 ≤ 140737488355328)
    (h : ∀ v' w', Own B v' (l ++ [c, d]) W0 w' → wpList Tryz.prog ops Q rest (a.put o.dst v') w') : wpList Tryz.prog ops Q (o :: rest) a (w.alloc (.cells #[.int .u8 (c.toNat : Int), .int .u8 (d.toNat : Int)] 5)) := by
  obtain ⟨i0, hi, hz0, hz1, hz2⟩ := info_parts Tryz.infoByte
  have ha := hown.alloc (.cells #[.int .u8 (c.toNat : Int), .int .u8 (d.toNat : Int)] 5)
  refine wpList_append_own _ hgd s x 58 ho B 5 i0 (.int .u8 0) 1 1 Tryz.underlying58 hi hz0 hz1 hz2 rfl (by decide) v l.length (bc l) hs ha.row ⟨w.heap.size, 0, none⟩ 2 2 [.int .u8 (c.toNat : Int), .int .u8 (d.toNat : Int)] hx rfl ?_ ?_ (by unfold maxLen; omega) (by omega) ha.base ?_
  · intro j u hj
    match j, hj with
    | 0, hj => simp at hj; subst hj; simp [Addr.add]
    | 1, hj => simp at hj; subst hj; simp [Addr.add]
    | (j + 2), hj => simp at hj
  · intro u hu; simp at hu; rcases hu with rfl | rfl <;> rfl
  · intro v' w' ho' hg _
    refine h v' w' ⟨?_, ha.below.grown hg ha.base (fun k hk => (ha.row.lt k hk).1), Nat.le_trans ha.base hg.size⟩
    rw [List.length_append, bc_append]
    exact ho'
theorem Own.self {B : Nat} {v : Value} {l : List UInt8} {W0 w : World} (h : Own B v l W0 w) : Own B v l w w := ⟨h.row, Below.refl _ _, h.base⟩

set_option maxHeartbeats 400000 in
theorem appendUnit_any (r : Nat) (w : World) {B : Nat} {v : Value} {o : List UInt8} {W0 : World} (hown : Own B v o W0 w) (hol : o.length ≤ 1000000000) :
    Calls Tryz.prog 153 #[v, .int .i32 r] w fun e w' => ∃ v', e = .returned v' ∧ Own B v' (o ++ unit8 r) W0 w' := by
  have h1 := wrap_hi r
  have h2 := wrap_lo r
  have HU : Hid (unit8 r = [UInt8.ofNat (r / 256), UInt8.ofNat r]) := Lib.hid rfl
  have hl : o.length + 2 ≤ 140737488355328 := by omega
  generalize UInt8.ofNat (r / 256) = c at *
  generalize UInt8.ofNat r = d at *
  go_enter Tryz.func153, Tryz.ntmps153
  go_wp2_with (at_builtin; refine app2 rfl _ _ rfl c d hown rfl rfl hl ?_; intro v' w2 hown2)
  go_ret
  exact ⟨_, rfl, by rw [HU.out]; exact hown2⟩

set_option maxHeartbeats 1000000 in
set_option maxRecDepth 1000000 in
theorem writePairs_any (s : ByteArray) (w : World) (hs : s.size ≤ 1000000) :
    Calls Tryz.prog 150 #[.string s] w fun e w' => e = .returned (.string (S (pairs s))) ∧ Below w.heap.size w w' := by
  have hpl := pairs_len s
  go_enter Tryz.func150, Tryz.ntmps150
  go_wp2
  go_loopw [3] (fun v wr => ∃ (pos f : Nat) (o : List UInt8), wr.heap[w.heap.size]? = some (.stringIter s pos) ∧ Below w.heap.size w wr ∧ s.size ≤ pos + f ∧ o ++ ((rn s f pos).flatMap fun x => pairOf x.2) = pairs s ∧ pos ≤ s.size ∧ Own (w.heap.size + 1) v o wr wr) (fun _ wr => s.size - wr.iterPos w.heap.size)
  case atStart =>
    refine ⟨0, s.size, [], heap_alloc_new _ _, (Below.refl _ _).alloc (Nat.le_refl _) _, by omega, rfl, by omega, Own.nil (Below.refl _ _) ?_⟩
    show w.heap.size + 1 ≤ (w.alloc (.stringIter s 0)).heap.size
    simp
  case round =>
    obtain ⟨pos, f, o, hit, hb, hf, hn, hpos, hown⟩ := hrel
    have hol : o.length ≤ 4 * s.size := by
      have := congrArg List.length hn
      rw [List.length_append] at this
      omega
    by_cases hp : pos < s.size
    · have hnx : ∀ ty, (Instr.next (.pointer (some ⟨w.heap.size, 0, none⟩)) true ty).run Tryz.prog wr = _ := fun ty => Lib.run_next_any_at wr w.heap.size s pos ty hit hp
      obtain ⟨f', hrn, hf'⟩ := rn_step s f pos hp hf
      rw [hrn, List.flatMap_cons] at hn
      have hwd := dec_wd s pos hp
      have hle := dec_le s pos
      have hit2 := Lib.iterAt_heap wr w.heap.size s pos (pos + (Utf8.decode s pos).2) hit
      have hb2 := Lib.below_iterAt hb (Nat.le_refl _) s (pos + (Utf8.decode s pos).2)
      have hown2 : Own (w.heap.size + 1) _ o (wr.iterAt w.heap.size s (pos + (Utf8.decode s pos).2)) (wr.iterAt w.heap.size s (pos + (Utf8.decode s pos).2)) := ⟨ownsRow_iterAt hown.row (by omega) s _, Below.refl _ _, by rw [Lib.iterAt_size]; exact hown.base⟩
      have HM : Hid (wr.iterPos w.heap.size = pos) := Lib.hid (by simp [World.iterPos, hit])
      have HIT2 := Lib.hid hit2
      clear hrn hf hit hit2 hb hown
      generalize (Utf8.decode s pos).1 = r at *
      generalize (Utf8.decode s pos).2 = wd at *
      have hn2 : (o ++ pairOf r) ++ ((rn s f' (pos + wd)).flatMap fun x => pairOf x.2) = pairs s := by rw [← hn]; simp
      have H := Lib.hid hn2
      clear hn hn2
      by_cases h64 : (65536 : Int) ≤ (r : Int)
      · have hA : pairOf r = unit8 (55296 + (r - 65536) / 1024) ++ unit8 (56320 + (r - 65536) % 1024) := by unfold pairOf; rw [if_pos (by omega)]
        obtain ⟨q, hq⟩ : ∃ q, q = r - 65536 := ⟨_, rfl⟩
        rw [← hq] at hA
        have hq1 : q < 1048576 := by omega
        have hhalf : (r : Int) - 65536 = (q : Int) := by omega
        have hor : bits .or .i32 55296 ((q : Int) / 1024) = ((55296 + q / 1024 : Nat) : Int) := by
          rw [i32_or10 (by omega) (by omega) (by omega) (by omega) (by omega)]; omega
        have hand : bits .and .i32 (q : Int) 1023 = ((q % 1024 : Nat) : Int) := by
          rw [i32_and1023 (by omega) (by omega)]; omega
        have hor2 : bits .or .i32 56320 ((q % 1024 : Nat) : Int) = ((56320 + q % 1024 : Nat) : Int) := by
          rw [i32_or10 (by omega) (by omega) (by omega) (by omega) (by omega)]; omega
        have hu1 : 55296 + q / 1024 ≤ 2000000 := by omega
        have hu2 : 56320 + q % 1024 ≤ 2000000 := by omega
        generalize 55296 + q / 1024 = u1 at *
        generalize 56320 + q % 1024 = u2 at *
        generalize q % 1024 = qm at *
        have HA : Hid (o ++ pairOf r = (o ++ unit8 u1) ++ unit8 u2) := Lib.hid (by rw [hA]; simp)
        have hol1 : o.length ≤ 1000000000 := by omega
        have hol2 : (o ++ unit8 u1).length ≤ 1000000000 := by rw [List.length_append]; unfold unit8; simp; omega
        have HOL2 := Lib.hid hol2
        clear hA hq hol2 hu1 hu2 hpl hol
        go_wp2_with fail
        refine (appendUnit_any u1 _ hown2 hol1).mono ?_
        rintro e w3 ⟨v3, rfl, hown3⟩
        go_wp2_with fail
        refine (appendUnit_any u2 _ hown3 HOL2.out).mono ?_
        rintro e w4 ⟨v4, rfl, hown4⟩
        go_wp2
        have HIT4 : w4.heap[w.heap.size]? = some (.stringIter s (pos + wd)) := by rw [hown4.below.block _ (by omega)]; exact HIT2.out
        go_roundw
        case rel => exact ⟨pos + wd, f', o ++ pairOf r, HIT4, hb2.trans (hown4.below.mono (by omega)), hf', H.out, by omega, by rw [HA.out]; exact hown4.self⟩
        case measure => simp only [World.iterPos, HIT4]; have := HM.out; simp only [World.iterPos] at this; omega
      · have HA : Hid (pairOf r = unit8 r) := Lib.hid (by unfold pairOf; rw [if_neg (by omega)])
        have hol1 : o.length ≤ 1000000000 := by omega
        go_wp2_with (go_at_call 153; refine (appendUnit_any r _ hown2 hol1).mono ?_; rintro e w3 ⟨v3, rfl, hown3⟩)
        have HIT4 : w3.heap[w.heap.size]? = some (.stringIter s (pos + wd)) := by rw [hown3.below.block _ (by omega)]; exact HIT2.out
        go_roundw
        case rel => exact ⟨pos + wd, f', o ++ pairOf r, HIT4, hb2.trans (hown3.below.mono (by omega)), hf', H.out, by omega, by rw [HA.out]; exact hown3.self⟩
        case measure => simp only [World.iterPos, HIT4]; have := HM.out; simp only [World.iterPos] at this; omega
    · have hnx : ∀ ty, (Instr.next (.pointer (some ⟨w.heap.size, 0, none⟩)) true ty).run Tryz.prog wr = _ := fun ty => Lib.run_next_end_at wr w.heap.size s pos ty hit hp
      rw [rn_end s f pos hp, List.flatMap_nil, List.append_nil] at hn
      subst hn
      have hcv := hown.back
      clear hit
      go_wp2
      go_ret
      exact ⟨rfl, hb⟩
end Go.Proofs.YtbncaiocmklgnaaGreatDoor
