/- The statement FrameSpoilt: the walk. -/
import Derived.Test.YtllpejkfbgpobaaF10t
import Derived.Test.YtllpejkfbgpobaaF10v
import Derived.Test.YtllpejkfbgpobaaZv
namespace Go.Proofs.Ytllpejkfbgpobaa
open Go.RowKit

theorem conv_one (w : World) (t : Nat) (ht : t < 256) : (convert 22 9 (.slice (some ⟨w.heap.size, 0, none⟩) 1 1)).run Try.prog (w.alloc (.cells #[.int .u8 (t : Int)] 5)) = .ok (.string (S [u8 t])) (w.alloc (.cells #[.int .u8 (t : Int)] 5)) := by
  refine back_row (P := Try.prog) _ 22 9 5 w.heap.size 1 1 [u8 t] rfl Try.underlying22 Try.underlying5 Try.underlying9 ?_
  intro j hj
  simp at hj
  subst hj
  rw [cell_of_row _ _ 0 _ _ _ (heap_alloc_last w _)]
  simp only [bt, List.getElem?_cons_zero, Option.getD_some, u8_toNat]
  rw [Nat.mod_eq_of_lt ht]
  rfl
set_option maxHeartbeats 4000000 in
theorem FrameSpoilt_walk (first : Int) (vb : Value) (bs : List ByteArray) (vk : Value) (ks : List Int) (x t : Int) (w : World) (hf0 : -9223372036854775808 ≤ first) (hf1 : first ≤ 9223372036854775807)
    (hb : Strs w vb bs) (hz : ∀ i, i < bs.length → (bs.getD i ByteArray.empty).size ≤ 140737488355328) (hk : Ints w vk ks) (hkb : ∀ n ∈ ks, -9223372036854775808 ≤ n ∧ n ≤ 9223372036854775807) (_hc0 : -9223372036854775808 ≤ x) (_hc1 : x ≤ 9223372036854775807) (_ht0 : -9223372036854775808 ≤ t) (_ht1 : t ≤ 9223372036854775807) :
    Calls Try.prog 7 #[.int .i64 first, vb, vk, .int .i64 x, .int .i64 t] w fun e w' => e = .returned (.bool true) ∧ Below w.heap.size w w' := by
  have HR := Lib.hid (row_any first vb bs vk ks w hf0 hf1 hb hz hk hkb)
  have HBs := Lib.hid (fun w' (h : Below w.heap.size w w') => hb.on h)
  clear hb hz hk hkb
  go_enter Try.func7, Try.ntmps7
  go_wp2_with fail
  refine HR.out.mono ?_
  rintro e w1 ⟨s, ve, ok, rfl, hb1, hok⟩
  have HB1 := Lib.hid hb1
  clear hb1 HR
  cases ok with
  | false =>
    clear hok
    go_wp2_with fail
    refine (known_any _).mono ?_
    rintro e w2 ⟨rfl, hb2⟩
    go_wp2_with fail
    go_ret
    exact ⟨rfl, HB1.out.trans (hb2.mono HB1.out.size)⟩
  | true =>
    obtain ⟨G, hG, hLs, h2⟩ := hok rfl
    have hnum := h2.nums
    have HG := Lib.hid hG
    have HLS := Lib.hid hLs
    have hsz : s.size ≤ 4195304 := by have := hG.short; rw [← hLs, L_length] at this; exact this
    have HN := Lib.hid hnum
    obtain ⟨ae, ce, rfl, hne⟩ := hnum
    have hGl : G.length ≤ 4195304 := by
      have := scan_len (laid G)
      have e := scan_cut hG.rw' (c := (laid G).length) (n := G.length) (by rw [List.take_of_length_le (Nat.le_refl _)]; exact Nat.le_refl _) (fun f hf => by rw [List.getElem?_eq_none (Nat.le_refl _)] at hf; cases hf)
      rw [List.take_of_length_le (Nat.le_refl _), List.take_of_length_le (Nat.le_refl _)] at e
      rw [e] at this
      have := hG.short
      omega
    rw [List.length_map] at *
    have HNE := Lib.hid hne
    clear hok hG hLs h2 hne
    by_cases g1 : x < 0
    · go_wp2_with fail
      refine (known_any _).mono ?_
      rintro e w2 ⟨rfl, hb2⟩
      go_wp2_with fail
      go_ret
      exact ⟨rfl, HB1.out.trans (hb2.mono HB1.out.size)⟩
    by_cases g2 : (s.size : Int) ≤ x
    · go_wp2_with fail
      refine (known_any _).mono ?_
      rintro e w2 ⟨rfl, hb2⟩
      go_wp2_with fail
      go_ret
      exact ⟨rfl, HB1.out.trans (hb2.mono HB1.out.size)⟩
    by_cases g3 : t < 0
    · go_wp2_with fail
      refine (known_any _).mono ?_
      rintro e w2 ⟨rfl, hb2⟩
      go_wp2_with fail
      go_ret
      exact ⟨rfl, HB1.out.trans (hb2.mono HB1.out.size)⟩
    by_cases g4 : (255 : Int) < t
    · go_wp2_with fail
      refine (known_any _).mono ?_
      rintro e w2 ⟨rfl, hb2⟩
      go_wp2_with fail
      go_ret
      exact ⟨rfl, HB1.out.trans (hb2.mono HB1.out.size)⟩
    obtain ⟨c, rfl⟩ := Int.eq_ofNat_of_zero_le (Int.not_lt.1 g1)
    obtain ⟨y, rfl⟩ := Int.eq_ofNat_of_zero_le (Int.not_lt.1 g3)
    have hc : c < s.size := by omega
    have hy : y < 256 := by omega
    have hbc : bt (L s) c = s[c] := (bt_getElem (L s) c hc).trans rfl
    have hb3 := s[c].toNat_lt
    by_cases g5 : (s[c].toNat : Int) = (y : Int)
    · clear hbc
      go_wp2_with fail
      refine (known_any _).mono ?_
      rintro e w2 ⟨rfl, hb2⟩
      go_wp2_with fail
      go_ret
      exact ⟨rfl, HB1.out.trans (hb2.mono HB1.out.size)⟩
    have HY : Hid (bt (laid G) c ≠ u8 y) := Lib.hid (fun e => g5 (by
      rw [← HLS.out, hbc] at e
      have := congrArg UInt8.toNat e
      rw [u8_toNat] at this
      omega))
    clear hbc
    have g5' : ((s[c].toNat : Int) == (y : Int)) = false := by rw [beq_eq_false_iff_ne]; exact g5
    have HCL : Hid (c < (laid G).length) := Lib.hid (by rw [← HLS.out, L_length]; exact hc)
    have hpos : 0 < G.length := by
      rcases Nat.eq_zero_or_pos G.length with e | e
      · have e2 := List.eq_nil_of_length_eq_zero e
        have := HCL.out
        rw [e2] at this
        simp [laid] at this
      · exact e
    obtain ⟨h, hae, hl, hcc⟩ := HNE.out (by intro e; have e2 : G = [] := by simpa using e
                                            rw [e2] at hpos; simp at hpos)
    subst hae
    have HCC := Lib.hid hcc
    clear hcc
    go_wp2_with fail
    go_loopw [14] (fun v12 wr => ∃ k : Nat, k < G.length ∧ v12 = .int .i64 (k : Int) ∧ (laid (G.take k)).length ≤ c ∧ w1 = wr) (fun v _ => G.length - (intOf v).toNat)
    case atStart => exact ⟨0, hpos, rfl, by simp [laid], rfl⟩
    case round =>
      obtain ⟨k, hk, rfl, hkc, rfl⟩ := hrel
      obtain ⟨f, hf⟩ : ∃ f, G[k]? = some f := ⟨_, List.getElem?_eq_getElem hk⟩
      have hcell := HCC.out k f.ends (by rw [List.getElem?_map, hf]; rfl)
      have hE := (rw_length G 0 HG.out.rw' k f hf).2.1
      rw [Nat.zero_add] at hE
      by_cases hle : f.ends ≤ c
      · have HLE : Hid ((laid (G.take (k + 1))).length ≤ c) := Lib.hid (by rw [← hE]; exact hle)
        have hk1 : k + 1 < G.length := by
          rcases Nat.lt_or_ge (k + 1) G.length with q | q
          · exact q
          · have h1 := HLE.out
            rw [List.take_of_length_le q] at h1
            have := HCL.out
            omega
        have hle2 : (f.ends : Int) ≤ (c : Int) := by omega
        clear hE hkc hf
        generalize f.ends = E at *
        go_wp2_with fail
        go_roundw
        case rel => exact ⟨k + 1, hk1, by go_num, HLE.out, trivial⟩
        case measure => simp [intOf]; omega
      · have hle2 : ¬ (f.ends : Int) ≤ (c : Int) := by omega
        have HSC : Hid (scan (L (s.extract 0 c ++ S [u8 y] ++ s.extract (c + 1) s.size)) 0 0 = G.take k) := Lib.hid (by
          have e : L (s.extract 0 c ++ S [u8 y] ++ s.extract (c + 1) s.size) = (laid G).set c (u8 y) := by
            rw [← HLS.out, List.set_eq_take_append_cons_drop, if_pos (by rw [L_length]; exact hc)]
            have q1 : ∀ a b : ByteArray, L (a ++ b) = L a ++ L b := fun a b => by unfold L; simp [ByteArray.data_append]
            rw [q1, q1, L_upto, L_extract, show (L s).take s.size = L s from List.take_of_length_le (Nat.le_refl _), L_S]
            simp
          rw [e]
          exact scan_spoilt HG.out.rw' hf hkc (by omega) HY.out)
        have hsz2 : (s.extract 0 c ++ S [u8 y] ++ s.extract (c + 1) s.size).size = s.size := by
          rw [ByteArray.size_append, ByteArray.size_append, size_extract' _ _ _ (by omega), size_extract' _ _ _ (Nat.le_refl _), S_size]
          simp only [List.length_cons, List.length_nil]
          omega
        have HT := Lib.hid (fun W => told_any (s.extract 0 c ++ S [u8 y] ++ s.extract (c + 1) s.size) W (by omega))
        rw [HSC.out] at HT
        have hcv : (convert 22 9 (.slice (some ⟨w1.heap.size, 0, none⟩) 1 1)).run Try.prog ((w1.alloc (.cells #[.int .u8 (y : Int)] 5)).drew) = .ok (.string (S [u8 y])) ((w1.alloc (.cells #[.int .u8 (y : Int)] 5)).drew) := conv_one w1.drew y hy
        have hyw : IntKind.u8.wrap (y : Int) = (y : Int) := by rw [IntKind.wrap_u8']; omega
        have hc1 : (c : Int) + 1 ≤ (s.size : Int) := by omega
        have hc2 : (c : Int) ≤ (s.size : Int) := by omega
        have hc3 : IntKind.i64.wrap ((c : Int) + 1) = (c : Int) + 1 := by rw [IntKind.wrap_i64]; omega
        have z1 : (s.extract 0 c).size = c := by rw [size_extract' _ _ _ (by omega)]; rfl
        have z2 : (S [u8 y]).size = 1 := rfl
        have z3 : (s.extract 0 c ++ S [u8 y]).size = c + 1 := by rw [ByteArray.size_append, z1, z2]
        have z4 : (s.extract (c + 1) s.size).size = s.size - (c + 1) := size_extract' _ _ _ (Nat.le_refl _)
        have z5 : ((s.size - (c + 1) : Nat) : Int) ≤ 4195304 := by omega
        have z6 : (c : Int) + 1 + ((s.size - (c + 1) : Nat) : Int) ≤ 9223372036854775807 := by omega
        have l0 : ¬ (c : Int) + 1 < 0 := by omega
        have l1 : ¬ 9223372036854775807 < c + 1 := by omega
        have l2 : ¬ 9223372036854775807 < c + 1 + (s.size - (c + 1)) := by omega
        clear hE hkc hf hsz2 hle
        generalize f.ends = E at *
        go_wp2_with fail
        --R spoilt--
        refine wp_region_N 13 (fun X => True) (by kernel_rfl) ?_
        refine wpAnyN_take (i := 0) (oi := { dst := some 63, op := Go.Op.move (Go.Operand.tmp 11), type := 9, pos := "outright.go:87", after := #[], guard := none }) (oL := { dst := some 76, op := Go.Op.call { callee := Go.Callee.value (Go.Operand.func 11), args := #[Go.Operand.tmp 75], argTypes := #[9] }, type := 28, pos := "outright.go:87", after := #[{ on := 12, ground := Go.Ground.data }], guard := none }) (v := .string s) rfl rfl (by kernel_rfl) (by kernel_rfl) (by kernel_rfl) (by kernel_rfl) (fun _ _ _ h => h) (Or.inl ⟨by kernel_rfl, ?_⟩) trivial ?_
        · (intro X hX; skip <;> (go_simp; try (with_reducible rfl)))
        (try simp only [Act.put, List.setIfInBounds_toArray, List.set_cons_zero, List.set_cons_succ])
        refine wpAnyN_take (i := 1) (oi := { dst := some 64, op := Go.Op.move (Go.Operand.tmp 3), type := 3, pos := "outright.go:87", after := #[], guard := none }) (oL := { dst := some 76, op := Go.Op.call { callee := Go.Callee.value (Go.Operand.func 11), args := #[Go.Operand.tmp 75], argTypes := #[9] }, type := 28, pos := "outright.go:87", after := #[{ on := 12, ground := Go.Ground.data }], guard := none }) (v := .int .i64 (c : Int)) rfl rfl (by kernel_rfl) (by kernel_rfl) (by kernel_rfl) (by kernel_rfl) (fun _ _ _ h => h) (Or.inl ⟨by kernel_rfl, ?_⟩) trivial ?_
        · (intro X hX; skip <;> (go_simp; try (with_reducible rfl)))
        (try simp only [Act.put, List.setIfInBounds_toArray, List.set_cons_zero, List.set_cons_succ])
        refine wpAnyN_take (i := 2) (oi := { dst := some 65, op := Go.Op.slice 9 (Go.Operand.tmp 63) none (some (Go.Operand.tmp 64)) none, type := 9, pos := "outright.go:87", after := #[{ on := 0, ground := Go.Ground.data }, { on := 1, ground := Go.Ground.data }], guard := none }) (oL := { dst := some 76, op := Go.Op.call { callee := Go.Callee.value (Go.Operand.func 11), args := #[Go.Operand.tmp 75], argTypes := #[9] }, type := 28, pos := "outright.go:87", after := #[{ on := 12, ground := Go.Ground.data }], guard := none }) (v := .string (s.extract 0 c)) rfl rfl (by kernel_rfl) (by kernel_rfl) (by kernel_rfl) (by kernel_rfl) (fun _ _ _ h => h) (Or.inl ⟨by kernel_rfl, ?_⟩) trivial ?_
        · (intro X hX; skip <;> (go_simp; try (with_reducible rfl)))
        (try simp only [Act.put, List.setIfInBounds_toArray, List.set_cons_zero, List.set_cons_succ])
        refine wpAnyN_take (i := 3) (oi := { dst := some 66, op := Go.Op.move (Go.Operand.tmp 4), type := 3, pos := "outright.go:87", after := #[], guard := none }) (oL := { dst := some 76, op := Go.Op.call { callee := Go.Callee.value (Go.Operand.func 11), args := #[Go.Operand.tmp 75], argTypes := #[9] }, type := 28, pos := "outright.go:87", after := #[{ on := 12, ground := Go.Ground.data }], guard := none }) (v := .int .i64 (y : Int)) rfl rfl (by kernel_rfl) (by kernel_rfl) (by kernel_rfl) (by kernel_rfl) (fun _ _ _ h => h) (Or.inl ⟨by kernel_rfl, ?_⟩) trivial ?_
        · (intro X hX; skip <;> (go_simp; try (with_reducible rfl)))
        (try simp only [Act.put, List.setIfInBounds_toArray, List.set_cons_zero, List.set_cons_succ])
        refine wpAnyN_take (i := 4) (oi := { dst := some 67, op := Go.Op.convert 3 5 (Go.Operand.tmp 66), type := 5, pos := "outright.go:87", after := #[{ on := 3, ground := Go.Ground.data }], guard := none }) (oL := { dst := some 76, op := Go.Op.call { callee := Go.Callee.value (Go.Operand.func 11), args := #[Go.Operand.tmp 75], argTypes := #[9] }, type := 28, pos := "outright.go:87", after := #[{ on := 12, ground := Go.Ground.data }], guard := none }) (v := .int .u8 (y : Int)) rfl rfl (by kernel_rfl) (by kernel_rfl) (by kernel_rfl) (by kernel_rfl) (fun _ _ _ h => h) (Or.inl ⟨by kernel_rfl, ?_⟩) trivial ?_
        · (intro X hX; skip <;> (go_simp; try (with_reducible rfl)))
        (try simp only [Act.put, List.setIfInBounds_toArray, List.set_cons_zero, List.set_cons_succ])
        refine wpAnyN_take (i := 8) (oi := { dst := some 71, op := Go.Op.move (Go.Operand.tmp 11), type := 9, pos := "outright.go:87", after := #[], guard := none }) (oL := { dst := some 76, op := Go.Op.call { callee := Go.Callee.value (Go.Operand.func 11), args := #[Go.Operand.tmp 75], argTypes := #[9] }, type := 28, pos := "outright.go:87", after := #[{ on := 12, ground := Go.Ground.data }], guard := none }) (v := .string s) rfl rfl (by kernel_rfl) (by kernel_rfl) (by kernel_rfl) (by kernel_rfl) (fun _ _ _ h => h) (Or.inl ⟨by kernel_rfl, ?_⟩) trivial ?_
        · (intro X hX; skip <;> (go_simp; try (with_reducible rfl)))
        (try simp only [Act.put, List.setIfInBounds_toArray, List.set_cons_zero, List.set_cons_succ])
        refine wpAnyN_take (i := 9) (oi := { dst := some 72, op := Go.Op.move (Go.Operand.tmp 3), type := 3, pos := "outright.go:87", after := #[], guard := none }) (oL := { dst := some 76, op := Go.Op.call { callee := Go.Callee.value (Go.Operand.func 11), args := #[Go.Operand.tmp 75], argTypes := #[9] }, type := 28, pos := "outright.go:87", after := #[{ on := 12, ground := Go.Ground.data }], guard := none }) (v := .int .i64 (c : Int)) rfl rfl (by kernel_rfl) (by kernel_rfl) (by kernel_rfl) (by kernel_rfl) (fun _ _ _ h => h) (Or.inl ⟨by kernel_rfl, ?_⟩) trivial ?_
        · (intro X hX; skip <;> (go_simp; try (with_reducible rfl)))
        (try simp only [Act.put, List.setIfInBounds_toArray, List.set_cons_zero, List.set_cons_succ])
        refine wpAnyN_take (i := 10) (oi := { dst := some 73, op := Go.Op.binOp Go.BinOp.add 3 (Go.Operand.tmp 72) (Go.Operand.const (Go.Value.int Go.IntKind.i64 1)) 3, type := 3, pos := "outright.go:87", after := #[{ on := 9, ground := Go.Ground.data }], guard := none }) (oL := { dst := some 76, op := Go.Op.call { callee := Go.Callee.value (Go.Operand.func 11), args := #[Go.Operand.tmp 75], argTypes := #[9] }, type := 28, pos := "outright.go:87", after := #[{ on := 12, ground := Go.Ground.data }], guard := none }) (v := .int .i64 ((c : Int) + 1)) rfl rfl (by kernel_rfl) (by kernel_rfl) (by kernel_rfl) (by kernel_rfl) (fun _ _ _ h => h) (Or.inl ⟨by kernel_rfl, ?_⟩) trivial ?_
        · (intro X hX; skip <;> (go_simp; try (with_reducible rfl)))
        (try simp only [Act.put, List.setIfInBounds_toArray, List.set_cons_zero, List.set_cons_succ])
        refine wpAnyN_take (i := 11) (oi := { dst := some 74, op := Go.Op.slice 9 (Go.Operand.tmp 71) (some (Go.Operand.tmp 73)) none none, type := 9, pos := "outright.go:87", after := #[{ on := 8, ground := Go.Ground.data }, { on := 10, ground := Go.Ground.data }], guard := none }) (oL := { dst := some 76, op := Go.Op.call { callee := Go.Callee.value (Go.Operand.func 11), args := #[Go.Operand.tmp 75], argTypes := #[9] }, type := 28, pos := "outright.go:87", after := #[{ on := 12, ground := Go.Ground.data }], guard := none }) (v := .string (s.extract (c + 1) s.size)) rfl rfl (by kernel_rfl) (by kernel_rfl) (by kernel_rfl) (by kernel_rfl) (fun _ _ _ h => h) (Or.inl ⟨by kernel_rfl, ?_⟩) trivial ?_
        · (intro X hX; skip <;> (go_simp; try (with_reducible rfl)))
        (try simp only [Act.put, List.setIfInBounds_toArray, List.set_cons_zero, List.set_cons_succ])
        refine wpAnyN_one (i := 5) (o := { dst := some 68, op := Go.Op.buildSlice 22 1 #[(0, Go.Operand.tmp 67)], type := 22, pos := "outright.go:87", after := #[{ on := 4, ground := Go.Ground.data }], guard := none }) (by kernel_rfl) rfl (fun K hK => ?_)
        go_simp
        refine hK.out _ _ (fun _ => trivial) ?_
        clear hK K
        (try simp only [Act.put, List.setIfInBounds_toArray, List.set_cons_zero, List.set_cons_succ])
        refine wpAnyN_one (i := 6) (o := { dst := some 69, op := Go.Op.convert 22 9 (Go.Operand.tmp 68), type := 9, pos := "outright.go:87", after := #[{ on := 5, ground := Go.Ground.data }], guard := none }) (by kernel_rfl) rfl (fun K hK => ?_)
        go_simp
        refine hK.out _ _ (fun _ => trivial) ?_
        clear hK K
        (try simp only [Act.put, List.setIfInBounds_toArray, List.set_cons_zero, List.set_cons_succ])
        refine wpAnyN_one (i := 7) (o := { dst := some 70, op := Go.Op.binOp Go.BinOp.add 9 (Go.Operand.tmp 65) (Go.Operand.tmp 69) 9, type := 9, pos := "outright.go:87", after := #[{ on := 2, ground := Go.Ground.data }, { on := 6, ground := Go.Ground.data }], guard := none }) (by kernel_rfl) rfl (fun K hK => ?_)
        go_simp
        refine hK.out _ _ (fun _ => trivial) ?_
        clear hK K
        (try simp only [Act.put, List.setIfInBounds_toArray, List.set_cons_zero, List.set_cons_succ])
        refine wpAnyN_one (i := 12) (o := { dst := some 75, op := Go.Op.binOp Go.BinOp.add 9 (Go.Operand.tmp 70) (Go.Operand.tmp 74) 9, type := 9, pos := "outright.go:87", after := #[{ on := 7, ground := Go.Ground.data }, { on := 11, ground := Go.Ground.data }], guard := none }) (by kernel_rfl) rfl (fun K hK => ?_)
        go_simp
        refine hK.out _ _ (fun _ => trivial) ?_
        clear hK K
        (try simp only [Act.put, List.setIfInBounds_toArray, List.set_cons_zero, List.set_cons_succ])
        refine wpAnyN_one (i := 13) (o := { dst := some 76, op := Go.Op.call { callee := Go.Callee.value (Go.Operand.func 11), args := #[Go.Operand.tmp 75], argTypes := #[9] }, type := 28, pos := "outright.go:87", after := #[{ on := 12, ground := Go.Ground.data }], guard := none }) (by kernel_rfl) rfl (fun K hK => ?_)
        go_simp
        refine (HT.out _).mono ?_
        rintro e w5 ⟨v3, v4, B, rfl, ht, hb5, hB⟩
        refine hK.out _ _ (fun e => absurd (e.symm.trans (by kernel_rfl) : false = true) Bool.false_ne_true) ?_
        clear hK K
        (try simp only [Act.put, List.setIfInBounds_toArray, List.set_cons_zero, List.set_cons_succ])
        refine wpAnyN_of_H (S' := fun _ => True) _ _ _ _ (by kernel_rfl) ?_
        refine wpAnyH_take (i := 14) (oi := { dst := some 62, op := Go.Op.move (Go.Operand.tmp 76), type := 28, pos := "outright.go:87", after := #[{ on := 13, ground := Go.Ground.data }], guard := none }) (v := .tuple #[v3, v4]) rfl (by kernel_rfl) (by kernel_rfl) (by kernel_rfl) (fun _ _ _ h => h) (Or.inl ⟨by kernel_rfl, ?_⟩) trivial ?_
        · (intro X hX; go_simp; try (with_reducible rfl))
        (try simp only [Act.put, List.setIfInBounds_toArray, List.set_cons_zero, List.set_cons_succ])
        refine wpAnyH_take (i := 15) (oi := { dst := some 77, op := Go.Op.extract (Go.Operand.tmp 62) 0, type := 26, pos := "outright.go:87", after := #[{ on := 14, ground := Go.Ground.data }], guard := none }) (v := v3) rfl (by kernel_rfl) (by kernel_rfl) (by kernel_rfl) (fun _ _ _ h => h) (Or.inl ⟨by kernel_rfl, ?_⟩) trivial ?_
        · (intro X hX; go_simp; try (with_reducible rfl))
        (try simp only [Act.put, List.setIfInBounds_toArray, List.set_cons_zero, List.set_cons_succ])
        refine wpAnyH_take (i := 17) (oi := { dst := some 15, op := Go.Op.assign (Go.Operand.tmp 77), type := 26, pos := "outright.go:87", after := #[{ on := 15, ground := Go.Ground.data }, { on := 13, ground := Go.Ground.chain }, { on := 0, ground := Go.Ground.phase }, { on := 1, ground := Go.Ground.phase }, { on := 2, ground := Go.Ground.phase }, { on := 3, ground := Go.Ground.phase }, { on := 4, ground := Go.Ground.phase }, { on := 5, ground := Go.Ground.phase }, { on := 6, ground := Go.Ground.phase }, { on := 7, ground := Go.Ground.phase }, { on := 8, ground := Go.Ground.phase }, { on := 9, ground := Go.Ground.phase }, { on := 10, ground := Go.Ground.phase }, { on := 11, ground := Go.Ground.phase }, { on := 12, ground := Go.Ground.phase }, { on := 13, ground := Go.Ground.phase }, { on := 14, ground := Go.Ground.phase }, { on := 15, ground := Go.Ground.phase }, { on := 16, ground := Go.Ground.textOnly Go.Departure.lateStores }], guard := none }) (v := v3) rfl (by kernel_rfl) (by kernel_rfl) (by kernel_rfl) (fun _ _ _ h => h) (Or.inl ⟨by kernel_rfl, ?_⟩) trivial ?_
        · (intro X hX; go_simp; try (with_reducible rfl))
        (try simp only [Act.put, List.setIfInBounds_toArray, List.set_cons_zero, List.set_cons_succ])
        refine wpAnyH_take (i := 16) (oi := { dst := some 78, op := Go.Op.extract (Go.Operand.tmp 62) 1, type := 27, pos := "outright.go:87", after := #[{ on := 14, ground := Go.Ground.data }, { on := 17, ground := Go.Ground.gcOnly Go.Departure.lateStores }], guard := none }) (v := v4) rfl (by kernel_rfl) (by kernel_rfl) (by kernel_rfl) (fun _ _ _ h => h) (Or.inl ⟨by kernel_rfl, ?_⟩) trivial ?_
        · (intro X hX; go_simp; try (with_reducible rfl))
        (try simp only [Act.put, List.setIfInBounds_toArray, List.set_cons_zero, List.set_cons_succ])
        refine wpAnyH_take (i := 18) (oi := { dst := some 16, op := Go.Op.assign (Go.Operand.tmp 78), type := 27, pos := "outright.go:87", after := #[{ on := 16, ground := Go.Ground.data }, { on := 17, ground := Go.Ground.chain }, { on := 0, ground := Go.Ground.phase }, { on := 1, ground := Go.Ground.phase }, { on := 2, ground := Go.Ground.phase }, { on := 3, ground := Go.Ground.phase }, { on := 4, ground := Go.Ground.phase }, { on := 5, ground := Go.Ground.phase }, { on := 6, ground := Go.Ground.phase }, { on := 7, ground := Go.Ground.phase }, { on := 8, ground := Go.Ground.phase }, { on := 9, ground := Go.Ground.phase }, { on := 10, ground := Go.Ground.phase }, { on := 11, ground := Go.Ground.phase }, { on := 12, ground := Go.Ground.phase }, { on := 13, ground := Go.Ground.phase }, { on := 14, ground := Go.Ground.phase }, { on := 15, ground := Go.Ground.phase }, { on := 16, ground := Go.Ground.phase }, { on := 17, ground := Go.Ground.phase }], guard := none }) (v := v4) rfl (by kernel_rfl) (by kernel_rfl) (by kernel_rfl) (fun _ _ _ h => h) (Or.inl ⟨by kernel_rfl, ?_⟩) trivial ?_
        · (intro X hX; go_simp; try (with_reducible rfl))
        (try simp only [Act.put, List.setIfInBounds_toArray, List.set_cons_zero, List.set_cons_succ])
        refine wpAnyH_done (by kernel_rfl) ?_ _
        --E spoilt--
        have HTW := Lib.hid ht
        have hb6 : Below w1.heap.size w1 w5 := by
          have q0 : Below w1.heap.size w1 ((w1.alloc (.cells #[.int .u8 (y : Int)] 5)).drew) := ((Below.refl _ _).alloc (Nat.le_refl _) _).drew
          exact q0.trans (hb5.mono q0.size)
        have HB5 := Lib.hid hb6
        have HBB := Lib.hid (HB1.out.trans (hb6.mono HB1.out.size))
        clear ht hb5 hb6 HT hcv l0 l1 l2 z1 z2 z3 z4 z5 z6
        go_wp2_with fail
        refine (whole_any v3 v4 G k first vb bs _ w5 (Nat.le_of_lt hk) HG.out hf0 (by omega) HTW.out (HBs.out _ HBB.out) (HN.out.on HB5.out)).mono ?_
        rintro e w6 ⟨rfl, m, rfl⟩
        clear HTW
        go_wp2_with fail
        refine (known_any _).mono ?_
        rintro e w7 ⟨rfl, hb7⟩
        go_wp2_with fail
        go_ret
        exact ⟨rfl, HBB.out.trans ((below_drewN (Below.refl _ _) m).trans hb7 |>.mono HBB.out.size)⟩
end Go.Proofs.Ytllpejkfbgpobaa
