/- The reference's base64: bits, value, plain, Base64, worth, Loose64, FromBase64. -/
import Derived.Test.YtclegocofiigiabDoorBb
namespace Go.Proofs.YtclegocofiigiabDoor
open Go.RowKit Go.Shelf

def ic (l : List Nat) : List Value := l.map fun x : Nat => Value.int .i64 (x : Int)
theorem ic_length (l : List Nat) : (ic l).length = l.length := by simp [ic]
theorem ic_append (a b : List Nat) : ic (a ++ b) = ic a ++ ic b := by simp [ic]
/-- v is a row of ints that the call made itself. -/
structure OwnI (B : Nat) (v : Value) (l : List Nat) (W0 w : World) : Prop where
  row : w.ownsRow B 3 1 v l.length (ic l)
  below : Below B W0 w
  base : B ≤ w.heap.size
theorem OwnI.nil {B : Nat} {W0 w : World} (h : Below B W0 w) (hB : B ≤ w.heap.size) : OwnI B (.slice none 0 0) [] W0 w := ⟨World.ownsRow_nil _ _ _ _, h, hB⟩
theorem OwnI.alloc {B : Nat} {v : Value} {l : List Nat} {W0 w : World} (h : OwnI B v l W0 w) (o : Obj) : OwnI B v l W0 (w.alloc o) :=
  ⟨h.row.alloc o, h.below.alloc h.base o, by have := h.base; simp; omega⟩
theorem OwnI.on {B : Nat} {v : Value} {l : List Nat} {W0 w w' : World} (h : OwnI B v l W0 w) (hb : Below w.heap.size w w') : OwnI B v l W0 w' := by
  refine ⟨⟨h.row.1, ?_⟩, h.below.trans (hb.mono h.base), Nat.le_trans h.base hb.size⟩
  rcases h.row.2 with hn | ⟨g, cap, cur, rfl, hB, hg, rest⟩
  · exact .inl hn
  · exact .inr ⟨g, cap, cur, rfl, hB, by rw [hb.block g (Array.getElem?_eq_some_iff.1 hg).1]; exact hg, rest⟩
theorem OwnI.shape {B : Nat} {v : Value} {l : List Nat} {W0 w : World} (h : OwnI B v l W0 w) : ∃ ad cap, v = .slice ad l.length cap := by
  rcases h.row.2 with ⟨rfl, h0⟩ | ⟨g, cap, cur, rfl, _⟩
  · exact ⟨none, 0, by rw [h0]⟩
  · exact ⟨_, _, rfl⟩
theorem OwnI.cells {B : Nat} {v : Value} {l : List Nat} {W0 w : World} (h : OwnI B v l W0 w) (hl : 0 < l.length) : ∃ g cap, v = .slice (some ⟨g, 0, none⟩) l.length cap ∧ g < w.heap.size ∧ ∀ j, j < l.length → w.cell? ⟨g, j, none⟩ = some (.int .i64 ((l[j]?.getD 0 : Nat) : Int)) := by
  rcases h.row.2 with ⟨rfl, h0⟩ | ⟨g, cap, cur, rfl, hB, hg, rest⟩
  · omega
  · refine ⟨g, cap, rfl, (Array.getElem?_eq_some_iff.1 hg).1, fun j hj => ?_⟩
    have := h.row.cells (g := g) rfl j (.int .i64 ((l[j]?.getD 0 : Nat) : Int)) (by simp [ic, hj])
    have e : (⟨g, 0, none⟩ : Addr).add j = ⟨g, j, none⟩ := by
      unfold Addr.add; split
      · rename_i h; rw [h]
      · simp
    rw [e] at this; exact this
theorem Tryd.infoInt : (Tryd.prog.info? 3).map (fun i => (i.zero, i.size, i.bytes)) = some (some (.int .i64 0), 1, 8) := by kernel_rfl
theorem appI {ops : Array Oper} {rest : List Oper} {o : Oper} {a : Act} {Q : Exit → Act → World → Prop} (hgd : o.guard = none) (s x : Operand)
    (ho : o.op = .call { callee := .builtin .append, args := #[s, x], argTypes := #[56, 56] })
    {B : Nat} {v : Value} {l : List Nat} {W0 w : World} (c : Int) (b : Nat) (hown : OwnI B v l W0 w) (hcb : c = (b : Int)) (hs : a.eval s = v) (hx : a.eval x = .slice (some ⟨w.heap.size, 0, none⟩) 1 1)
    (hlen : l.length + 1 ≤ 17592186044416)
    (h : ∀ v' w', OwnI B v' (l ++ [b]) W0 w' → wpList Tryd.prog ops Q rest (a.put o.dst v') w') : wpList Tryd.prog ops Q (o :: rest) a (w.alloc (.cells #[.int .i64 c] 3)) := by
  subst hcb
  obtain ⟨i0, hi, hz0, hz1, hz2⟩ := info_parts Tryd.infoInt
  have ha := hown.alloc (.cells #[.int .i64 (b : Int)] 3)
  refine wpList_append_own _ hgd s x 56 ho B 3 i0 (.int .i64 0) 1 8 Tryd.underlying56 hi hz0 hz1 hz2 rfl (by decide) v l.length (ic l) hs ha.row ⟨w.heap.size, 0, none⟩ 1 1 [.int .i64 (b : Int)] hx rfl ?_ ?_ (by unfold maxLen; omega) (by omega) ha.base ?_
  · intro j u hj
    match j, hj with
    | 0, hj => simp at hj; subst hj; simp [Addr.add]
    | (j + 1), hj => simp at hj
  · intro u hu; simp at hu; subst hu; rfl
  · intro v' w' ho' hg _
    refine h v' w' ⟨?_, ha.below.grown hg ha.base (fun k hk => (ha.row.lt k hk).1), Nat.le_trans ha.base hg.size⟩
    rw [List.length_append, ic_append]
    exact ho'
theorem bN_take (n x m : Nat) (hm : m < n) : (bN n x).take (n - m) = (bN n x).take (n - (m + 1)) ++ [x / 2 ^ m % 2] := by
  induction n with
  | zero => omega
  | succ n ih =>
    rw [bN]
    rcases Nat.lt_or_ge m n with h | h
    · have e1 : n + 1 - m = (n - m) + 1 := by omega
      have e2 : n + 1 - (m + 1) = (n - (m + 1)) + 1 := by omega
      rw [e1, e2, List.take_succ_cons, List.take_succ_cons, ih h, List.cons_append]
    · have e1 : m = n := by omega
      subst e1
      have e2 : m + 1 - m = 1 := by omega
      rw [e2, Nat.sub_self]; rfl
theorem bitsF_succ (l : List UInt8) (k : Nat) (hk : k < l.length) : bitsF (l.take (k + 1)) = bitsF (l.take k) ++ bN 8 (bt l k).toNat := by
  rw [take_snoc l k hk]; simp [bitsF]
theorem wr_nat (q : Nat) (h : q < 9223372036854775808) : wrap64 (q : Int) = (q : Int) := by unfold wrap64; omega
theorem divbit (c K : Nat) (hc : c < 9223372036854775808) : (wrap64 ((c : Int) / (K : Int))).tmod 2 = ((c / K % 2 : Nat) : Int) := by
  have h1 : c / K ≤ c := Nat.div_le_self _ _
  have h2 : ((c : Int) / (K : Int)) = ((c / K : Nat) : Int) := by simp
  rw [h2, wr_nat _ (by omega)]
  rfl
theorem divb (c K : Nat) : (c : Int) / (K : Int) % 2 = ((c / K % 2 : Nat) : Int) := by simp
theorem half (m : Nat) : (2 ^ (m + 1) : Nat) / 2 = 2 ^ m := by rw [Nat.pow_succ]; omega

set_option maxHeartbeats 400000 in
theorem bits_any (s : ByteArray) (w : World) (hs : s.size ≤ 1000000) :
    Calls Tryd.prog 65 #[.string s] w fun e w' => ∃ v, e = .returned v ∧ OwnI w.heap.size v (bitsF (L s)) w w' := by
  go_enter Tryd.func65, Tryd.ntmps65
  go_wp2
  go_loopw [3, 4] (fun v i wr => ∃ k : Nat, k ≤ s.size ∧ i = .int .i64 k ∧ OwnI w.heap.size v (bitsF ((L s).take k)) w wr) (fun _ i _ => s.size - (intOf i).toNat)
  case atStart => exact ⟨0, Nat.zero_le _, rfl, OwnI.nil (Below.refl _ _) (Nat.le_refl _)⟩
  case round =>
    obtain ⟨k, hk, rfl, hown⟩ := hrel
    by_cases hlt : k < s.size
    · have ea := get_bt s k hlt
      have c0 : (bt (L s) k).toNat < 256 := bt_lt _ _
      have HS := Lib.hid (bitsF_succ (L s) k hlt)
      have hbl := bitsF_length ((L s).take k)
      rw [List.length_take] at hbl
      have hbl2 : (bitsF ((L s).take k)).length ≤ 8000000 := by omega
      clear hbl
      generalize bitsF ((L s).take k) = p at *
      go_wp2
      go_loopw [3, 5] (fun v q wr => ∃ m : Nat, m ≤ 8 ∧ q = .int .i64 ((2 ^ m / 2 : Nat) : Int) ∧ OwnI w.heap.size v (p ++ (bN 8 (bt (L s) k).toNat).take (8 - m)) w wr) (fun _ q _ => (intOf q).toNat)
      case atStart => exact ⟨8, Nat.le_refl _, rfl, by simpa using hown⟩
      case round =>
        clear hown
        obtain ⟨m, hm, rfl, hown⟩ := hrel
        cases m with
        | zero =>
          have e1 : (bN 8 (bt (L s) k).toNat).take (8 - 0) = bN 8 (bt (L s) k).toNat := List.take_of_length_le (by rw [bN_length]; omega)
          rw [e1] at hown
          clear e1
          go_wp2
          go_roundw
          case rel => exact ⟨k + 1, by omega, by go_num, by rw [HS.out]; exact hown⟩
          case measure => simp [intOf]; omega
        | succ m =>
          rw [half m]
          have hp1 : 0 < 2 ^ m := Nat.two_pow_pos m
          have hp2 : 2 ^ m ≤ 128 := by
            have : 2 ^ m ≤ 2 ^ 7 := Nat.pow_le_pow_right (by omega) (by omega)
            omega
          have HT := Lib.hid (bN_take 8 (bt (L s) k).toNat m (by omega))
          have hlen : (p ++ (bN 8 (bt (L s) k).toNat).take (8 - (m + 1))).length + 1 ≤ 17592186044416 := by
            rw [List.length_append, List.length_take]; omega
          have HM : Hid ((2 ^ m / 2 : Nat) < 2 ^ m) := Lib.hid (by omega)
          generalize hKm : (2 ^ m : Nat) = K at hp1 hp2 HT HM ⊢
          have HKm := Lib.hid hKm
          clear hKm
          generalize (bN 8 (bt (L s) k).toNat).take (8 - (m + 1)) = pre at *
          have hK0 : (0 : Int) < (K : Int) := by omega
          have hK1 : (K : Int) ≠ 0 := by omega
          have hdiv := divbit (bt (L s) k).toNat K (by omega)
          go_wp2_with (at_builtin; go_loud (refine appI rfl _ _ rfl _ ((bt (L s) k).toNat / K % 2) hown (divb _ _) rfl rfl hlen ?_; intro v3 w3 hown3))
          go_roundw
          case rel => exact ⟨m, by omega, by rw [HKm.out]; go_num, by rw [HT.out, ← List.append_assoc]; exact hown3⟩
          case measure => simp [intOf]; omega
    · rw [List.take_of_length_le (by rw [L_length]; omega)] at hown
      go_wp2
      go_ret
      exact ⟨_, rfl, hown⟩
end Go.Proofs.YtclegocofiigiabDoor
