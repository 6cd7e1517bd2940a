/- octet: pack. -/
import Derived.Test.YtbncaiocmklgnaaGreatDoorPh
namespace Go.Proofs.YtbncaiocmklgnaaGreatDoor
open Go.RowKit

def pkStep (st : List Nat × Nat × Nat) (c : UInt8) : List Nat × Nat × Nat :=
  if st.2.1 = 0 then (st.1 ++ [(st.2.2 * 256 + c.toNat) / 4], 2, (st.2.2 * 256 + c.toNat) % 4)
  else if st.2.1 = 2 then (st.1 ++ [(st.2.2 * 256 + c.toNat) / 16], 4, (st.2.2 * 256 + c.toNat) % 16)
  else (st.1 ++ [(st.2.2 * 256 + c.toNat) / 64, (st.2.2 * 256 + c.toNat) % 64], 0, 0)
def pkTo (l : List UInt8) (k : Nat) : List Nat × Nat × Nat := (l.take k).foldl pkStep ([], 0, 0)
def pkEnd (st : List Nat × Nat × Nat) : List Nat := if st.2.1 = 0 then st.1 else st.1 ++ [st.2.2 * 2 ^ (6 - st.2.1)]
def pkSix (l : List UInt8) : List Nat := pkEnd (pkTo l l.length)
def pack (l letters : List UInt8) : List UInt8 := (pkSix l).map (bt letters)



def big64 : Nat := 18446744073709551616
def shl8 (V c : Nat) : Nat := V * 256 % 18446744073709551616 + c
theorem shl8_or (V c : Nat) (hc : c < 256) : bits .or .u64 (IntKind.u64.wrap ((V : Int) * 256)) (c : Int) = ((shl8 V c : Nat) : Int) := by
  rw [IntKind.wrap_u64]
  have e : ((V : Int) * 256) % 18446744073709551616 = ((V * 256 % 18446744073709551616 : Nat) : Int) := by omega
  rw [e, bits_or_u64_nat _ _ (by omega) (by omega)]
  have e2 : V * 256 % 18446744073709551616 = (V % 72057594037927936) <<< 8 := by rw [Nat.shiftLeft_eq]; omega
  unfold shl8
  rw [e2, Nat.shiftLeft_add_eq_or_of_lt (by simpa using hc)]
theorem shl8_lt (V c : Nat) (hc : c < 256) : shl8 V c < big64 := by unfold shl8 big64; omega
theorem shl8_mod (V c h : Nat) (hc : c < 256) (hh : h ≤ 4) : shl8 V c % 2 ^ (h + 8) = V % 2 ^ h * 256 + c := by
  unfold shl8
  match h, hh with
  | 0, _ => omega
  | 1, _ => omega
  | 2, _ => omega
  | 3, _ => omega
  | 4, _ => omega
  | h + 5, hh => omega
theorem and63 (V h : Nat) (hV : V < big64) : bits .and .u64 ((V : Int) / 2 ^ h) 63 = ((V / 2 ^ h % 64 : Nat) : Int) := by
  have e : ((V : Int) / 2 ^ h) = ((V / 2 ^ h : Nat) : Int) := by simp
  have hV' : V < 18446744073709551616 := hV
  have hle : V / 2 ^ h ≤ V := Nat.div_le_self _ _
  rw [e, show (63 : Int) = ((63 : Nat) : Int) from rfl, bits_and_u64_nat _ _ (by omega) (by omega)]
  have : (63 : Nat) = 2 ^ 6 - 1 := rfl
  rw [this, Nat.and_two_pow_sub_one_eq_mod]
theorem and63_shl (V h b : Nat) (hb : V % 2 ^ h = b) (hh : h = 2 ∨ h = 4) : bits .and .u64 (IntKind.u64.wrap ((V : Int) * 2 ^ (6 - h))) 63 = ((b * 2 ^ (6 - h) : Nat) : Int) := by
  rw [IntKind.wrap_u64]
  have e : ((V : Int) * 2 ^ (6 - h)) % 18446744073709551616 = ((V * 2 ^ (6 - h) % 18446744073709551616 : Nat) : Int) := by
    rcases hh with rfl | rfl <;> simp
  rw [e, show (63 : Int) = ((63 : Nat) : Int) from rfl, bits_and_u64_nat _ _ (by omega) (by omega)]
  have : (63 : Nat) = 2 ^ 6 - 1 := rfl
  rw [this, Nat.and_two_pow_sub_one_eq_mod]
  rcases hh with rfl | rfl <;> simp at hb ⊢ <;> omega
/-- What the inner loop does. -/
def drain (V h : Nat) (o : List Nat) : List Nat × Nat :=
  if 12 ≤ h then (o ++ [V / 2 ^ (h - 6) % 64, V / 2 ^ (h - 12) % 64], h - 12)
  else if 6 ≤ h then (o ++ [V / 2 ^ (h - 6) % 64], h - 6) else (o, h)
theorem drain_step (V h : Nat) (o : List Nat) (h6 : 6 ≤ h) (h17 : h ≤ 17) : drain V (h - 6) (o ++ [V / 2 ^ (h - 6) % 64]) = drain V h o := by
  unfold drain
  by_cases h12 : 12 ≤ h
  · rw [if_neg (by omega), if_pos (by omega), if_pos h12, List.append_assoc]
    have : h - 6 - 6 = h - 12 := by omega
    rw [this]; rfl
  · rw [if_neg (by omega), if_neg (by omega), if_neg h12, if_pos h6]
theorem drain_end (V h : Nat) (o : List Nat) (h6 : h < 6) : drain V h o = (o, h) := by
  unfold drain; rw [if_neg (by omega), if_neg (by omega)]
def okSt (st : List Nat × Nat × Nat) : Prop := (st.2.1 = 0 ∨ st.2.1 = 2 ∨ st.2.1 = 4) ∧ st.2.2 < 2 ^ st.2.1
theorem okSt_step (st : List Nat × Nat × Nat) (c : UInt8) (h : okSt st) : okSt (pkStep st c) := by
  obtain ⟨o, h', b⟩ := st
  unfold okSt pkStep at *
  have := c.toNat_lt
  simp only at h
  rcases h with ⟨rfl | rfl | rfl, hb⟩ <;> simp <;> omega
theorem okSt_fold (l : List UInt8) : ∀ st, okSt st → okSt (l.foldl pkStep st) := by
  induction l with
  | nil => intro st h; exact h
  | cons c r ih => intro st h; exact ih _ (okSt_step st c h)
theorem okSt_to (l : List UInt8) (k : Nat) : okSt (pkTo l k) := okSt_fold _ _ ⟨.inl rfl, by simp⟩
theorem pkTo_succ (l : List UInt8) (k : Nat) (hk : k < l.length) : pkTo l (k + 1) = pkStep (pkTo l k) (bt l k) := by
  unfold pkTo; rw [take_snoc l k hk, List.foldl_append]; rfl
/-- The inner loop over the new value is the step. -/
theorem pkStep_drain (st : List Nat × Nat × Nat) (c : UInt8) (h : okSt st) (V' : Nat) (hv : V' % 2 ^ (st.2.1 + 8) = st.2.2 * 256 + c.toNat) :
    drain V' (st.2.1 + 8) st.1 = ((pkStep st c).1, (pkStep st c).2.1) ∧ V' % 2 ^ (pkStep st c).2.1 = (pkStep st c).2.2 := by
  obtain ⟨o, h', b⟩ := st
  unfold okSt at h
  have := c.toNat_lt
  simp only at h hv
  rcases h with ⟨rfl | rfl | rfl, hb⟩
  · simp only [drain, pkStep] at *
    simp at *
    exact ⟨by omega, by omega⟩
  · simp only [drain, pkStep] at *
    simp at *
    exact ⟨by omega, by omega⟩
  · simp only [drain, pkStep] at *
    simp at *
    exact ⟨⟨by omega, by omega⟩, by omega⟩
theorem six_len (l : List UInt8) (k : Nat) : (pkTo l k).1.length ≤ 2 * k := by
  unfold pkTo
  have : ∀ (m : List UInt8) st, (m.foldl pkStep st).1.length ≤ st.1.length + 2 * m.length := by
    intro m
    induction m with
    | nil => intro st; simp
    | cons c r ih =>
      intro st
      have h1 := ih (pkStep st c)
      have h2 : (pkStep st c).1.length ≤ st.1.length + 2 := by unfold pkStep; split <;> (try split) <;> simp
      simp only [List.foldl_cons, List.length_cons]
      omega
  have h := this (l.take k) ([], 0, 0)
  have := List.length_take_le k l
  simp at h ⊢
  omega

set_option maxHeartbeats 400000 in
theorem pack_any (s t : ByteArray) (w : World) (hs : s.size ≤ 1000000) (ht : t.size = 64) :
    Calls Tryz.prog 149 #[.string s, .string t] w fun e w' => ∃ v, e = .returned v ∧ Own w.heap.size v (pack (L s) (L t)) w w' := by
  have HT : Hid (t.size = 64) := Lib.hid ht
  have ht1 : 64 ≤ t.size := by omega
  clear ht
  go_enter Tryz.func149, Tryz.ntmps149
  go_wp2_with (at_make; refine mk0 rfl _ _ rfl _ ((s.size + 2) / 3 * 4) (by omega) (by omega) rfl rfl ?_; intro w1 hown)
  go_loopw [5, 6, 7, 17] (fun v b h i wr => ∃ (k V : Nat), k ≤ s.size ∧ i = .int .i64 k ∧ V < big64 ∧ b = .int .u64 V ∧ h = .int .i64 ((pkTo (L s) k).2.1 : Nat) ∧ V % 2 ^ (pkTo (L s) k).2.1 = (pkTo (L s) k).2.2 ∧ Own w.heap.size v ((pkTo (L s) k).1.map (bt (L t))) w wr) (fun _ _ _ i _ => s.size - (intOf i).toNat)
  case atStart => exact ⟨0, 0, Nat.zero_le _, rfl, by simp [big64], rfl, rfl, rfl, hown⟩
  case round =>
    obtain ⟨k, V, hk, rfl, hV, rfl, rfl, hm, hown⟩ := hrel
    by_cases hlt : k < s.size
    · have ea := get_bt s k hlt
      have c0 : (bt (L s) k).toNat < 256 := bt_lt _ _
      have hok := okSt_to (L s) k
      have hsucc := pkTo_succ (L s) k hlt
      have hsl := six_len (L s) k
      generalize hst : pkTo (L s) k = st at *
      have hbits := shl8_or V (bt (L s) k).toNat c0
      have hV2 := shl8_lt V (bt (L s) k).toNat c0
      have hmod := shl8_mod V (bt (L s) k).toNat st.2.1 c0 (by rcases hok.1 with h | h | h <;> omega)
      rw [hm] at hmod
      have hD := pkStep_drain st (bt (L s) k) hok _ hmod
      rw [← hsucc] at hD
      generalize shl8 V (bt (L s) k).toNat = V2 at *
      obtain ⟨o, h, b⟩ := st
      have h4 : h ≤ 4 := by have := hok.1; simp only at this; omega
      have HD := Lib.hid hD
      have HSL := Lib.hid hsl
      clear hD hsl hst hsucc hmod hm hok hV
      simp only at hown HSL HD
      go_wp2
      go_loopw [5, 7] (fun v h' wr => ∃ (o' : List Nat) (h2 : Nat), h2 ≤ 14 ∧ h' = .int .i64 h2 ∧ drain V2 h2 o' = drain V2 (h + 8) o ∧ o'.length + h2 ≤ 2000020 ∧ Own w.heap.size v (o'.map (bt (L t))) w wr) (fun _ h' _ => (intOf h').toNat)
      case atStart => exact ⟨o, h + 8, by omega, by go_num, rfl, by have := HSL.out; omega, hown⟩
      case round =>
        clear hown
        obtain ⟨o', h2, hh2, rfl, hdr, hol, hown⟩ := hrel
        by_cases h6 : 6 ≤ h2
        · have hds := drain_step V2 h2 o' h6 (by omega)
          have hand := and63 V2 (h2 - 6) hV2
          have hx : V2 / 2 ^ (h2 - 6) % 64 < 64 := Nat.mod_lt _ (by decide)
          generalize V2 / 2 ^ (h2 - 6) % 64 = x at hds hand hx
          have hxt : x < t.size := by omega
          have ex := get_bt t x hxt
          have hol2 : (List.map (bt (L t)) o').length + 1 ≤ 140737488355328 := by rw [List.length_map]; omega
          have HDR := Lib.hid (hds.trans hdr)
          clear hdr hds
          go_wp2_with (at_builtin; refine app1 rfl _ _ rfl _ (bt (L t) x) hown rfl rfl rfl hol2 ?_; intro v' w2 hown2)
          go_roundw
          case rel => exact ⟨o' ++ [x], h2 - 6, by omega, by congr 1; omega, HDR.out, by rw [List.length_append, List.length_singleton]; omega, by rw [List.map_append]; exact hown2⟩
          case measure => simp [intOf]; omega
        · rw [drain_end V2 h2 o' (by omega)] at hdr
          have hd1 := HD.out.1
          rw [← hdr] at hd1
          have e1 : o' = (pkTo (L s) (k + 1)).1 := congrArg Prod.fst hd1
          have e2 : h2 = (pkTo (L s) (k + 1)).2.1 := congrArg Prod.snd hd1
          rw [e1] at hown
          have E2 := Lib.hid e2
          have HDR := Lib.hid HD.out.2
          clear hdr hd1 e1 e2
          go_wp2
          go_roundw
          case rel => exact ⟨k + 1, V2, by omega, by go_num, hV2, rfl, by rw [← E2.out], HDR.out, hown⟩
          case measure => simp [intOf]; omega
    · have hall : k = (L s).length := by rw [L_length]; omega
      have hsl := six_len (L s) k
      have hok := okSt_to (L s) k
      have hfin : pkSix (L s) = pkEnd (pkTo (L s) k) := by rw [hall]; rfl
      generalize pkTo (L s) k = st at *
      obtain ⟨o, h, b⟩ := st
      simp only at hm hown hsl
      have hh : h = 0 ∨ 0 < h ∧ h ≤ 4 := by have := hok.1; simp only at this; omega
      have HF : Hid ((pack (L s) (L t)) = (pkEnd (o, h, b)).map (bt (L t))) := Lib.hid (by unfold pack; rw [hfin])
      have hb4 : h = 2 ∧ b < 4 ∨ h = 4 ∧ b < 16 ∨ h = 0 := by
        have := hok.1; have h2 := hok.2
        simp only at this h2
        rcases this with rfl | rfl | rfl
        · omega
        · simp at h2; omega
        · simp at h2; omega
      clear hfin hok hall
      rcases hh with rfl | ⟨hp, hq⟩
      · clear hm hb4
        go_wp2
        go_ret
        exact ⟨_, rfl, by rw [HF.out]; exact hown⟩
      · have hand := and63_shl V h b hm (by omega)
        have hx : b * 2 ^ (6 - h) < 64 := by
          rcases hb4 with ⟨rfl, hb⟩ | ⟨rfl, hb⟩ | h0
          · simp; omega
          · simp; omega
          · omega
        have he : pkEnd (o, h, b) = o ++ [b * 2 ^ (6 - h)] := by
          unfold pkEnd; rw [if_neg (by simp only; omega)]
        have HF2 := Lib.hid (HF.out.trans (congrArg (List.map (bt (L t))) he))
        clear HF he hm hb4
        generalize b * 2 ^ (6 - h) = x at hand hx HF2
        have hxt : x < t.size := by omega
        have ex := get_bt t x hxt
        have hol2 : (List.map (bt (L t)) o).length + 1 ≤ 140737488355328 := by rw [List.length_map]; omega
        go_wp2_with (at_builtin; refine app1 rfl _ _ rfl _ (bt (L t) x) hown rfl rfl rfl hol2 ?_; intro v' w2 hown2)
        go_ret
        exact ⟨_, rfl, by rw [HF2.out, List.map_append]; exact hown2⟩
end Go.Proofs.YtbncaiocmklgnaaGreatDoor
