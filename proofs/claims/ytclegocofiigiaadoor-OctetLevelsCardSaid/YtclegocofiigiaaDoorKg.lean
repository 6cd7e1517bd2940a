/- The statement OctetLevels: the walk. -/
import Derived.Test.YtclegocofiigiaaDoorNv
import Derived.Test.YtclegocofiigiaaDoorLi
import Derived.ArgAppend
import Derived.Lib.SlBytesConst
namespace Go.Proofs.YtclegocofiigiaaDoor
open Go.RowKit Go.Shelf

/-- The block that a constant text's bytes are laid in. -/
def marked (w : World) (b : UInt8) : World := w.alloc (.cells #[.int .u8 (b.toNat : Int)] 5 (1, 2))
theorem marked_cell (w : World) (b : UInt8) : (marked w b).cell? ⟨w.heap.size, 0, none⟩ = some (.int .u8 (b.toNat : Int)) := World.cell?_alloc_mark w _ _ _ 0
theorem appL {ops : Array Oper} {rest : List Oper} {o : Oper} {a : Act} {Q : Exit → Act → World → Prop} (hgd : o.guard = none) (s x : Operand)
    (ho : o.op = .call { callee := .builtin .append, args := #[s, x], argTypes := #[29, 29] })
    (w : World) (b0 : UInt8) (c : Int) (b : UInt8) (hcb : c = (b.toNat : Int)) (hs : a.eval s = .slice (some ⟨w.heap.size, 0, none⟩) 1 1) (hx : a.eval x = .slice (some ⟨(marked w b0).heap.size, 0, none⟩) 1 1)
    (h : ∀ v' w', Own w.heap.size v' [b0, b] w w' → wpList Tryd.prog ops Q rest (a.put o.dst v') w') : wpList Tryd.prog ops Q (o :: rest) a ((marked w b0).alloc (.cells #[.int .u8 c] 5)) := by
  subst hcb
  obtain ⟨i0, hi, hz0, hz1, hz2⟩ := info_parts Tryd.infoByte
  have hB1 : Below w.heap.size w (marked w b0) := (Below.refl _ _).alloc (Nat.le_refl _) _
  have hsz : (marked w b0).heap.size = w.heap.size + 1 := by simp [marked]
  have hB2 : Below w.heap.size w ((marked w b0).alloc (.cells #[.int .u8 (b.toNat : Int)] 5)) := hB1.alloc (by omega) _
  have hc0 : ((marked w b0).alloc (.cells #[.int .u8 (b.toNat : Int)] 5)).cell? ⟨w.heap.size, 0, none⟩ = some (.int .u8 (b0.toNat : Int)) := Lib.cell?_alloc_marked _ (marked_cell w b0)
  have hc1 : ((marked w b0).alloc (.cells #[.int .u8 (b.toNat : Int)] 5)).cell? ⟨(marked w b0).heap.size, 0, none⟩ = some (.int .u8 (b.toNat : Int)) := World.cell?_alloc_mark _ _ _ _ 0
  refine wpList_append_grows _ hgd s x 29 ho 5 i0 (.int .u8 0) 1 1 Tryd.underlying29 hi hz0 hz1 hz2 rfl (by decide) (some ⟨w.heap.size, 0, none⟩) 1 1 [.int .u8 (b0.toNat : Int)] hs (fun h => by cases h) rfl ?_ ⟨(marked w b0).heap.size, 0, none⟩ 1 1 [.int .u8 (b.toNat : Int)] hx rfl ?_ ?_ (by decide) (by unfold maxLen; decide) (by decide) ?_
  · intro b' hb' j u hj
    cases hb'
    match j, hj with
    | 0, hj => simp at hj; subst hj; exact hc0
    | (j + 1), hj => simp at hj
  · intro j u hj
    match j, hj with
    | 0, hj => simp at hj; subst hj; exact hc1
    | (j + 1), hj => simp at hj
  · intro u hu; simp at hu; subst hu; rfl
  · intro v' w' ho' hg
    refine h v' w' ⟨⟨ho'.1, ?_⟩, hB2.grown hg (by simp; omega) (fun k hk => by cases hk), Nat.le_trans (by simp; omega) hg.size⟩
    rcases ho'.2 with h0 | ⟨g, cap, cur, hv, hge, r⟩
    · exact .inl h0
    · exact .inr ⟨g, cap, cur, hv, Nat.le_trans (by simp; omega) hge, r⟩
def lv (c : UInt8) : UInt8 := UInt8.ofNat (97 + c.toNat % 26)
theorem lv_val (c : UInt8) : 97 + (c.toNat : Int) % 26 = ((lv c).toNat : Int) := by
  unfold lv; rw [on _ (by omega)]; omega
def levelL (l : List UInt8) : List UInt8 := 120 :: (l.take 20).map lv
theorem level_ok (l : List UInt8) : wire (levelL l) = (levelL l, 0) := by
  unfold levelL
  refine level_wire _ ?_ (by rw [List.length_map]; exact List.length_take_le _ _)
  intro c hc
  obtain ⟨d, _, rfl⟩ := List.mem_map.1 hc
  unfold lv; rw [on _ (by omega)]; omega

set_option maxHeartbeats 400000 in
theorem level_any (s : ByteArray) (w : World) :
    Calls Tryd.prog 19 #[.string s] w fun e w' => e = .returned (.string (S (levelL (L s)))) ∧ Below w.heap.size w w' := by
  have kc := fun (w : World) (C : Array Value) (n c : Nat) => Lib.run_convert_bytes_const (P := Tryd.prog) w 29 5 C n c Tryd.underlying29 Tryd.underlying5
  go_enter Tryd.func19, Tryd.ntmps19
  go_wp2
  have hmk : w.alloc (.cells #[.int .u8 120] 5 (1, 2)) = marked w 120 := rfl
  go_loopw [3, 4] (fun v i wr => ∃ k : Nat, k ≤ s.size ∧ k ≤ 20 ∧ i = .int .i64 k ∧ ((k = 0 ∧ v = .slice (some ⟨w.heap.size, 0, none⟩) 1 1 ∧ wr = marked w 120) ∨ (0 < k ∧ Own w.heap.size v (120 :: ((L s).take k).map lv) w wr))) (fun _ i _ => 20 - (intOf i).toNat)
  case atStart => exact ⟨0, Nat.zero_le _, Nat.zero_le _, rfl, .inl ⟨rfl, rfl, rfl⟩⟩
  case round =>
    clear kc
    obtain ⟨k, hk, hk2, rfl, hst⟩ := hrel
    by_cases hgo : k < s.size ∧ k < 20
    · obtain ⟨hlt, h20⟩ := hgo
      have ea := get_bt s k hlt
      have c0 : (bt (L s) k).toNat < 256 := bt_lt _ _
      have HE : Hid (120 :: ((L s).take (k + 1)).map lv = (120 :: ((L s).take k).map lv) ++ [lv (bt (L s) k)]) := Lib.hid (by
        rw [take_snoc (L s) k hlt, List.map_append]; rfl)
      have hv := lv_val (bt (L s) k)
      rcases hst with ⟨rfl, rfl, rfl⟩ | ⟨hk0, hown⟩
      · go_wp2_with (at_builtin; go_loud (refine appL rfl _ _ rfl w 120 _ (lv (bt (L s) 0)) rfl rfl rfl ?_; intro v3 w3 hown3))
        go_roundw
        case rel => exact ⟨0 + 1, by omega, by omega, by go_num, .inr ⟨by omega, by rw [HE.out]; exact hown3⟩⟩
        case measure => simp [intOf]
      · have hlen : (120 :: ((L s).take k).map lv).length + 1 ≤ 140737488355328 := by simp; omega
        generalize (120 :: ((L s).take k).map lv) = o at *
        go_wp2_with (at_builtin; go_loud (refine app1 rfl _ _ rfl _ (lv (bt (L s) k)) hown rfl rfl rfl hlen ?_; intro v3 w3 hown3))
        go_roundw
        case rel => exact ⟨k + 1, by omega, by omega, by go_num, .inr ⟨by omega, by rw [HE.out]; exact hown3⟩⟩
        case measure => simp [intOf]; omega
    · have he : (L s).take k = (L s).take 20 := by
        rcases Nat.lt_or_ge k 20 with h | h
        · rw [List.take_of_length_le (by rw [L_length]; omega), List.take_of_length_le (by rw [L_length]; omega)]
        · have : k = 20 := by omega
          rw [this]
      rcases hst with ⟨rfl, rfl, rfl⟩ | ⟨hk0, hown⟩
      · have hs0 : ¬ 0 < s.size := fun h => hgo ⟨h, by omega⟩
        have hl0 : L s = [] := List.eq_nil_of_length_eq_zero (by rw [L_length]; omega)
        have HL : Hid (levelL (L s) = [120]) := Lib.hid (by rw [hl0]; rfl)
        have hcv := run_convert_bytes_back (P := Tryd.prog) (marked w 120) 29 9 5 ⟨w.heap.size, 0, none⟩ 1 [120] Tryd.underlying29 Tryd.underlying5 Tryd.underlying9 (fun j hj => by
          match j, hj with
          | 0, hj => exact marked_cell w 120
          | j + 1, hj => simp at hj)
        have hcv2 : (convert 29 9 (.slice (some ⟨w.heap.size, 0, none⟩) 1 1)).run Tryd.prog (marked w 120) = .ok (.string (S [120])) (marked w 120) := hcv
        clear hcv hgo he hl0
        go_wp2
        go_ret
        exact ⟨ret_str (by rw [HL.out]), (Below.refl _ _).alloc (Nat.le_refl _) _⟩
      · rw [he] at hown
        change Own _ _ (levelL (L s)) _ _ at hown
        have hcv := hown.back
        clear he
        obtain ⟨o, ho⟩ : ∃ o, o = levelL (L s) := ⟨_, rfl⟩
        rw [← ho] at hown hcv
        have HO := Lib.hid ho
        clear ho
        by_cases hlt : k < s.size
        · have h20 : ¬ k < 20 := fun h => hgo ⟨hlt, h⟩
          clear hgo
          go_wp2
          go_ret
          exact ⟨ret_str (by rw [HO.out]), hown.below⟩
        · clear hgo
          go_wp2
          go_ret
          exact ⟨ret_str (by rw [HO.out]), hown.below⟩

theorem runS_len (acc : List Nat) : (runS acc).length ≤ 11 * acc.length := by
  unfold runS
  split
  · simp
  · rename_i h
    have h1 : 1 ≤ acc.length := by cases acc with | nil => exact absurd rfl h | cons a b => simp
    have h2 := pk_len_le (acc.flatMap pairOf) nameL
    have h3 : (acc.flatMap pairOf).length ≤ 4 * acc.length := by
      clear h h1 h2
      induction acc with
      | nil => simp
      | cons r rs ih => rw [List.flatMap_cons, List.length_append, List.length_cons]; have := pairOf_len r; omega
    simp only [List.length_cons, List.length_append, List.length_nil]
    omega
theorem wn_len : ∀ (rs acc : List Nat), (wn rs acc).length ≤ 11 * acc.length + 13 * rs.length := by
  intro rs
  induction rs with
  | nil => intro acc; rw [wn]; have := runS_len acc; simp; omega
  | cons r rs ih =>
    intro acc
    rw [wn]
    split
    · have h1 := runS_len acc
      have h2 := ih []
      have h3 : (if r = 38 then ([45] : List UInt8) else []).length ≤ 1 := by split <;> simp
      simp only [List.length_append, List.length_cons, List.length_nil] at h2 ⊢
      omega
    · have := ih (acc ++ [r])
      simp only [List.length_append, List.length_cons, List.length_nil] at this ⊢
      omega
theorem encL_len (rs : List Nat) : rs.length ≤ (encL rs).length := by
  induction rs with
  | nil => simp
  | cons r rs ih => rw [encL_cons, List.length_append, List.length_cons]; have := en_len r; omega
theorem wire_len (l : List UInt8) : (wire l).1.length ≤ 3000 := by
  by_cases h : (wire l).2 = 0
  · obtain ⟨h1, h2, _, h4⟩ := wire_ok l h
    obtain ⟨rs, hs, rfl⟩ := enc_valid l h2
    rw [h4, writeName_enc rs hs]
    have := wn_len rs []
    have := encL_len rs
    simp at *
    omega
  · rw [wire_bad l h]; simp

set_option maxHeartbeats 1000000 in
theorem OctetLevels_walk (a b p : ByteArray) (w : World) (he : Env w) (ha : a.size ≤ 140737488355328) (hb : b.size ≤ 140737488355328) :
    Calls Tryd.prog 6 #[.string a, .string b, .string p] w fun e w' => e = .returned (.bool true) ∧ Below w.heap.size w w' := by
  have e3 : a ++ ⟨#[47]⟩ = S (L a ++ [47]) := S_append (L a) [47]
  have e4 : S (L a ++ [47]) ++ b = S (L a ++ [47] ++ L b) := S_append _ (L b)
  have e5 : L a ++ [47] ++ L b = L a ++ 47 :: L b := by simp
  have hs1 : (S (L a ++ [47])).size = a.size + 1 := by rw [S_size, List.length_append, L_length]; rfl
  have hc1 : ¬ 9223372036854775807 < a.size + 1 := by omega
  have hc2 : ¬ 9223372036854775807 < (S (L a ++ [47])).size + b.size := by omega
  have hpre := levels_pre (L a) (L b)
  have hjoin := levels_join (L a) (L b)
  have hla := wire_len (L a)
  have hlb := wire_len (L b)
  rw [← e5] at hpre hjoin
  have hA := Lib.hid (fun W hE => Wire_any a W hE)
  have hB := Lib.hid (fun W hE => Wire_any b W hE)
  have hAB := Lib.hid (fun W hE => Wire_any (S (L a ++ [47] ++ L b)) W hE)
  have hlv := level_ok (L p)
  have hP := Lib.hid (fun W => level_any p W)
  have hPW := Lib.hid (fun W hE => Wire_any (S (levelL (L p))) W hE)
  rw [L_S] at hAB hPW
  rw [hlv] at hPW
  clear e5 hlv
  generalize levelL (L p) = q at *
  generalize L a ++ [47] ++ L b = ab at *
  generalize L a ++ [47] = a1 at *
  generalize wire (L a) = X at *
  generalize wire (L b) = Y at *
  generalize wire ab = Z at *
  obtain ⟨x, e⟩ := X
  obtain ⟨y, f⟩ := Y
  obtain ⟨z, g⟩ := Z
  simp only at hpre hjoin hla hlb hA hB hAB hPW
  have hsx : (S x).size ≤ 3000 := by rw [S_size]; exact hla
  have hsy : (S y).size ≤ 3000 := by rw [S_size]; exact hlb
  have x3 : S x ++ ⟨#[47]⟩ = S (x ++ [47]) := S_append x [47]
  have x4 : S (x ++ [47]) ++ S y = S (x ++ [47] ++ y) := S_append _ y
  have hsx1 : (S (x ++ [47])).size ≤ 3001 := by rw [S_size, List.length_append]; simp; omega
  have hc3 : ¬ 9223372036854775807 < (S x).size + 1 := by omega
  have hc4 : ¬ 9223372036854775807 < (S (x ++ [47])).size + (S y).size := by omega
  have hq1 : ((S q).toList == (S q).toList) = true := by simp
  cases hg : (g == 0) with
  | false =>
    clear hpre hjoin
    cases hee : (e == 0) with
    | false =>
      go_enter Tryd.func6, Tryd.ntmps6
      go_wp2_with fail
      refine (hA.out _ he).mono ?_
      rintro e w1 ⟨rfl, hb1⟩
      have he1 := he.on hb1
      go_wp2_with fail
      refine (hB.out _ he1).mono ?_
      rintro e w2 ⟨rfl, hb2⟩
      have he2 := he1.on hb2
      have q2 := hb1.trans (hb2.mono hb1.size)
      go_wp2_with fail
      refine (hAB.out _ he2).mono ?_
      rintro e w3 ⟨rfl, hb3⟩
      have he3 := he2.on hb3
      have q3 := q2.trans (hb3.mono q2.size)
      go_wp2_with fail
      refine (hP.out _).mono ?_
      rintro e w4 ⟨rfl, hb4⟩
      have he4 := he3.on hb4
      have q4 := q3.trans (hb4.mono q3.size)
      go_wp2_with fail
      refine (hPW.out _ he4).mono ?_
      rintro e w5 ⟨rfl, hb5⟩
      have he5 := he4.on hb5
      have q5 := q4.trans (hb5.mono q4.size)
      go_wp2_with fail
      refine (known_any _ he5).mono ?_
      rintro e w6 ⟨rfl, hb6⟩
      go_wp2_with fail
      go_ret
      exact ⟨rfl, q5.trans (hb6.mono q5.size)⟩
    | true =>
      cases hff : (f == 0) with
      | false =>
        go_enter Tryd.func6, Tryd.ntmps6
        go_wp2_with fail
        refine (hA.out _ he).mono ?_
        rintro e w1 ⟨rfl, hb1⟩
        have he1 := he.on hb1
        go_wp2_with fail
        refine (hB.out _ he1).mono ?_
        rintro e w2 ⟨rfl, hb2⟩
        have he2 := he1.on hb2
        have q2 := hb1.trans (hb2.mono hb1.size)
        go_wp2_with fail
        refine (hAB.out _ he2).mono ?_
        rintro e w3 ⟨rfl, hb3⟩
        have he3 := he2.on hb3
        have q3 := q2.trans (hb3.mono q2.size)
        go_wp2_with fail
        refine (hP.out _).mono ?_
        rintro e w4 ⟨rfl, hb4⟩
        have he4 := he3.on hb4
        have q4 := q3.trans (hb4.mono q3.size)
        go_wp2_with fail
        refine (hPW.out _ he4).mono ?_
        rintro e w5 ⟨rfl, hb5⟩
        have he5 := he4.on hb5
        have q5 := q4.trans (hb5.mono q4.size)
        go_wp2_with fail
        refine (known_any _ he5).mono ?_
        rintro e w6 ⟨rfl, hb6⟩
        go_wp2_with fail
        go_ret
        exact ⟨rfl, q5.trans (hb6.mono q5.size)⟩
      | true =>
        go_enter Tryd.func6, Tryd.ntmps6
        go_wp2_with fail
        refine (hA.out _ he).mono ?_
        rintro e w1 ⟨rfl, hb1⟩
        have he1 := he.on hb1
        go_wp2_with fail
        refine (hB.out _ he1).mono ?_
        rintro e w2 ⟨rfl, hb2⟩
        have he2 := he1.on hb2
        have q2 := hb1.trans (hb2.mono hb1.size)
        go_wp2_with fail
        refine (hAB.out _ he2).mono ?_
        rintro e w3 ⟨rfl, hb3⟩
        have he3 := he2.on hb3
        have q3 := q2.trans (hb3.mono q2.size)
        go_wp2_with fail
        refine (hP.out _).mono ?_
        rintro e w4 ⟨rfl, hb4⟩
        have he4 := he3.on hb4
        have q4 := q3.trans (hb4.mono q3.size)
        go_wp2_with fail
        refine (hPW.out _ he4).mono ?_
        rintro e w5 ⟨rfl, hb5⟩
        have he5 := he4.on hb5
        have q5 := q4.trans (hb5.mono q4.size)
        go_wp2_with fail
        refine (known_any _ he5).mono ?_
        rintro e w6 ⟨rfl, hb6⟩
        go_wp2_with fail
        go_ret
        exact ⟨rfl, q5.trans (hb6.mono q5.size)⟩
  | true =>
    have hg0 : g = 0 := by simpa using hg
    have he0 : e = 0 := hpre hg0
    subst hg0 he0
    cases hf : (f == 0) with
    | true =>
      have hf0 : f = 0 := by simpa using hf
      subst hf0
      have hz := hjoin rfl rfl rfl
      have hz2 : z = x ++ [47] ++ y := by rw [hz]; simp
      subst hz2
      have hzq : (!((S (x ++ [47] ++ y)).toList == (S (x ++ [47] ++ y)).toList)) = false := by simp
      clear hpre hjoin hz hf hg
      go_enter Tryd.func6, Tryd.ntmps6
      go_wp2_with fail
      refine (hA.out _ he).mono ?_
      rintro e w1 ⟨rfl, hb1⟩
      have he1 := he.on hb1
      go_wp2_with fail
      refine (hB.out _ he1).mono ?_
      rintro e w2 ⟨rfl, hb2⟩
      have he2 := he1.on hb2
      have q2 := hb1.trans (hb2.mono hb1.size)
      go_wp2_with fail
      refine (hAB.out _ he2).mono ?_
      rintro e w3 ⟨rfl, hb3⟩
      have he3 := he2.on hb3
      have q3 := q2.trans (hb3.mono q2.size)
      go_wp2_with fail
      refine (hP.out _).mono ?_
      rintro e w4 ⟨rfl, hb4⟩
      have he4 := he3.on hb4
      have q4 := q3.trans (hb4.mono q3.size)
      go_wp2_with fail
      refine (hPW.out _ he4).mono ?_
      rintro e w5 ⟨rfl, hb5⟩
      have he5 := he4.on hb5
      have q5 := q4.trans (hb5.mono q4.size)
      go_wp2_with fail
      refine (known_any _ he5).mono ?_
      rintro e w6 ⟨rfl, hb6⟩
      go_wp2_with fail
      go_ret
      exact ⟨rfl, q5.trans (hb6.mono q5.size)⟩
    | false =>
      clear hpre hjoin hg
      go_enter Tryd.func6, Tryd.ntmps6
      go_wp2_with fail
      refine (hA.out _ he).mono ?_
      rintro e w1 ⟨rfl, hb1⟩
      have he1 := he.on hb1
      go_wp2_with fail
      refine (hB.out _ he1).mono ?_
      rintro e w2 ⟨rfl, hb2⟩
      have he2 := he1.on hb2
      have q2 := hb1.trans (hb2.mono hb1.size)
      go_wp2_with fail
      refine (hAB.out _ he2).mono ?_
      rintro e w3 ⟨rfl, hb3⟩
      have he3 := he2.on hb3
      have q3 := q2.trans (hb3.mono q2.size)
      go_wp2_with fail
      refine (hP.out _).mono ?_
      rintro e w4 ⟨rfl, hb4⟩
      have he4 := he3.on hb4
      have q4 := q3.trans (hb4.mono q3.size)
      go_wp2_with fail
      refine (hPW.out _ he4).mono ?_
      rintro e w5 ⟨rfl, hb5⟩
      have he5 := he4.on hb5
      have q5 := q4.trans (hb5.mono q4.size)
      go_wp2_with fail
      refine (known_any _ he5).mono ?_
      rintro e w6 ⟨rfl, hb6⟩
      go_wp2_with fail
      go_ret
      exact ⟨rfl, q5.trans (hb6.mono q5.size)⟩
end Go.Proofs.YtclegocofiigiaaDoor
