/- postbagref1: Quoted. -/
import Derived.Test.YtclegocofiigiabDoorRq
namespace Go.Proofs.YtclegocofiigiabDoor
open Go.RowKit Go.Shelf

/-- out = append(out, other...), and what else lies there stays. -/
theorem appK {ops : Array Oper} {rest : List Oper} {o : Oper} {a : Act} {Q : Exit → Act → World → Prop} (hgd : o.guard = none) (sl x : Operand)
    (ho : o.op = .call { callee := .builtin .append, args := #[sl, x], argTypes := #[44, 44] })
    {B : Nat} {v : Value} {l : List UInt8} {W0 w : World} (g : Nat) (l2 : List UInt8) (hown : Own B v l W0 w)
    (hg2 : w.heap[g]? = some (.cells (l2.map fun b => Value.int .u8 b.toNat).toArray 5 (0, 0))) (hs : a.eval sl = v) (hx : a.eval x = .slice (some ⟨g, 0, none⟩) l2.length l2.length)
    (hlen : l.length + l2.length ≤ 140737488355328)
    (h : ∀ v' w', Own B v' (l ++ l2) W0 w' → (∀ k, k < w.heap.size → v.ownBlock ≠ some k → w'.heap[k]? = w.heap[k]?) → wpList Tryd.prog ops Q rest (a.put o.dst v') w') : wpList Tryd.prog ops Q (o :: rest) a w := by
  obtain ⟨i0, hi, hz0, hz1, hz2⟩ := info_parts Tryd.infoByte
  refine wpList_append_own _ hgd sl x 44 ho B 5 i0 (.int .u8 0) 1 1 Tryd.underlying44 hi hz0 hz1 hz2 rfl (by decide) v l.length (bc l) hs hown.row ⟨g, 0, none⟩ l2.length l2.length (bc l2) hx (by rw [bc_length]; omega) ?_ (bc_one l2) (by unfold maxLen; omega) (by omega) hown.base ?_
  · intro j u hj
    have e : (⟨g, 0, none⟩ : Addr).add j = ⟨g, j, none⟩ := by
      unfold Addr.add; split
      · rename_i h; rw [h]
      · simp
    rw [e, cell_of_row w g j _ _ _ hg2]
    simpa [bc] using hj
  · intro v' w' ho' hg _
    refine h v' w' ⟨?_, hown.below.grown hg hown.base (fun k hk => (hown.row.lt k hk).1), Nat.le_trans hown.base hg.size⟩ (fun k h1 h2 => hg.block k h1 (fun e => h2 e.symm))
    rw [List.length_append, bc_append]
    exact ho'
theorem not_own {B : Nat} {v : Value} {l : List UInt8} {W0 w : World} (h : Own B v l W0 w) (k : Nat) (hk : w.heap.size ≤ k) : v.ownBlock ≠ some k := by
  intro e; have := (h.row.lt k e).2; omega

theorem heap_alloc3_new (w : World) (A B C : Obj) : (((w.alloc A).alloc B).alloc C).heap[w.heap.size + 2]? = some C := by
  have := heap_alloc_new ((w.alloc A).alloc B) C
  simpa using this
theorem heap_alloc3_mid (w : World) (A B C : Obj) : (((w.alloc A).alloc B).alloc C).heap[w.heap.size + 1]? = some B := by
  exact (heap_alloc_old ((w.alloc A).alloc B) C (by simp)).trans (heap_alloc2_new w A B)

set_option maxHeartbeats 8000000 in
set_option maxRecDepth 100000 in
theorem refQuoted_any (s : ByteArray) (w : World) (hs : s.size ≤ 1000000) :
    Calls Tryd.prog 17 #[.string s] w fun e w' => e = .returned (.string (S (quoted (L s)))) ∧ Below w.heap.size w w' := by
  have hq := quo_len (L s) false 0
  rw [L_length] at hq
  change (quoted (L s)).length ≤ _ at hq
  go_enter Tryd.func17, Tryd.ntmps17
  go_wp2
  go_loopw [3, 4, 5] (fun v n i wr => ∃ (k m : Nat) (o : List UInt8), k ≤ s.size ∧ i = .int .i64 k ∧ m ≤ 75 ∧ n = .int .i64 m ∧ o ++ quo ((L s).drop k) false m = quoted (L s) ∧ Own w.heap.size v o w wr) (fun _ _ i _ => s.size - (intOf i).toNat)
  case atStart => exact ⟨0, 0, [], Nat.zero_le _, rfl, by omega, rfl, rfl, Own.nil (Below.refl _ _) (Nat.le_refl _)⟩
  case round =>
    obtain ⟨k, m, o, hk, rfl, hm, rfl, ho, hown⟩ := hrel
    have hol : o.length ≤ 6 * s.size := by
      have := congrArg List.length ho
      rw [List.length_append] at this
      omega
    by_cases hlt : k < s.size
    · cases hc : crlf (L s) k with
      | true =>
        have hk2 := crlf_lt (L s) k hc
        rw [L_length] at hk2
        rw [quo_crlf (L s) k m hc] at ho
        have HO : Hid ((o ++ [13, 10]) ++ quo ((L s).drop (k + 2)) false 0 = quoted (L s)) := Lib.hid (by rw [← ho]; simp)
        clear ho
        have hl2 : o.length + 2 ≤ 140737488355328 := by omega
        go_wp2_with (first | (go_at_call 33; refine (breaks_any s k _ (by omega) (by omega)).mono ?_; rintro e w' ⟨rfl, rfl⟩) | (at_builtin; refine app2 rfl _ _ rfl 13 10 hown rfl rfl hl2 ?_; intro v' w2 hown2))
        go_roundw
        case rel => exact ⟨k + 2, 0, o ++ [13, 10], by omega, by go_num, by omega, rfl, HO.out, hown2⟩
        case measure => simp [intOf]; omega
      | false =>
        have ea := get_bt s k hlt
        have c0 : (bt (L s) k).toNat < 256 := bt_lt _ _
        have hd : ((bt (L s) k).toNat : Int) / 16 = (((bt (L s) k).toNat / 16 : Nat) : Int) := by omega
        have hmm : ((bt (L s) k).toNat : Int) % 16 = (((bt (L s) k).toNat % 16 : Nat) : Int) := by omega
        have hd16 : (bt (L s) k).toNat / 16 < 16 := by omega
        have hm16 : (bt (L s) k).toNat % 16 < 16 := by omega
        have hcd : coded (bt (L s) k) = [61, bt hexL ((bt (L s) k).toNat / 16), bt hexL ((bt (L s) k).toNat % 16)] := rfl
        have HCD := Lib.hid hcd
        clear hcd
        generalize (bt (L s) k).toNat / 16 = dd at hd hd16 HCD
        generalize (bt (L s) k).toNat % 16 = mo at hmm hm16 HCD
        have e1 := hexB_at dd hd16
        have e2 := hexB_at mo hm16
        have hlp := piece_len (L s) k
        by_cases hlast : k + 1 = s.size
        · have hl1 : ((k : Int) + 1 == (s.size : Int)) = true := by simp; omega
          have HEM : Hid (((L s).drop (k + 1)).isEmpty = true) := Lib.hid (by rw [List.drop_eq_nil_of_le (by rw [L_length]; omega)]; rfl)
          cases hba : bareI (bt (L s) k).toNat with
          | true =>
            obtain ⟨x1, x2, x3⟩ : (33 : Int) ≤ ((bt (L s) k).toNat : Int) ∧ ((bt (L s) k).toNat : Int) ≤ 126 ∧ (((bt (L s) k).toNat : Int) != 61) = true := by
              unfold bareI at hba; simp at hba; simp; omega
            have hpz : (bareI (bt (L s) k).toNat || (blankI (bt (L s) k).toNat && (!((L s).drop (k + 1)).isEmpty && !Lib.hasPrefix ((L s).drop (k + 1)) [13, 10]))) = true := by rw [hba]; rfl
            have HPC : Hid (piece (L s) k = [bt (L s) k]) := Lib.hid (pieceOf_self _ _ hpz)
            clear hpz
            by_cases hn : 75 < m + (piece (L s) k).length
            · rw [quo_long (L s) k m hlt hc hn] at ho
              have HO : Hid ((o ++ [61, 13, 10] ++ piece (L s) k) ++ quo ((L s).drop (k + 1)) false (piece (L s) k).length = quoted (L s)) := Lib.hid (by rw [← ho]; simp)
              clear ho
              rw [HPC.out] at hn
              have HL3 : Hid (o.length + ([61, 13, 10] : List UInt8).length ≤ 140737488355328) := Lib.hid (by simp; omega)
              have HLL : Hid ((o ++ [61, 13, 10]).length + ([bt (L s) k]).length ≤ 140737488355328) := Lib.hid (by rw [List.length_append]; simp; omega)
              have hn2 : (75 : Int) < (m : Int) + 1 := by simp at hn; omega
              clear hn
              go_wp2_with fail
              refine (breaks_any s k _ (by omega) (by omega)).mono ?_
              rintro e wA ⟨rfl, rfl⟩
              go_wp2_with fail
              go_region
              go_wp2_with (first | (at_builtin; refine appK rfl (.tmp 67) _ rfl _ [61, 13, 10] ((((hown.alloc _).alloc _).alloc _).drew) (heap_alloc3_new _ _ _ _) rfl rfl HL3.out ?_; intro v2 w2 hown2 hkeep; refine Hid.out ?_))
              refine Lib.hid ?_
              have hpb := (hkeep _ (by simp <;> omega) (not_own hown _ (by simp))).trans (heap_alloc3_mid _ _ _ _)
              have HPB := Lib.hid hpb
              clear hpb hkeep
              go_wp2_with (at_builtin; refine appK rfl (.tmp 70) _ rfl _ [bt (L s) k] hown2 HPB.out rfl rfl HLL.out ?_; intro v3 w3 hown3 _)
              go_roundw
              case rel => exact ⟨k + 1, (piece (L s) k).length, o ++ [61, 13, 10] ++ piece (L s) k, by omega, by go_num, by omega, by rw [HPC.out]; rfl, HO.out, by rw [HPC.out]; exact hown3⟩
              case measure => simp [intOf]; omega
            · rw [quo_short (L s) k m hlt hc hn] at ho
              have HO : Hid ((o ++ piece (L s) k) ++ quo ((L s).drop (k + 1)) false (m + (piece (L s) k).length) = quoted (L s)) := Lib.hid (by rw [← ho]; simp)
              clear ho
              rw [HPC.out] at hn
              have HLS : Hid (o.length + ([bt (L s) k]).length ≤ 140737488355328) := Lib.hid (by simp; omega)
              have hn2 : ¬ (75 : Int) < (m : Int) + 1 := by simp at hn; omega
              have hn3 : m + 1 ≤ 75 := by omega
              have HLN : Hid ((piece (L s) k).length = 1) := Lib.hid (by rw [HPC.out]; rfl)
              clear hn
              go_wp2_with fail
              refine (breaks_any s k _ (by omega) (by omega)).mono ?_
              rintro e wA ⟨rfl, rfl⟩
              go_wp2_with fail
              go_region
              go_wp2_with (first | (at_builtin; refine appK rfl (.tmp 70) _ rfl _ [bt (L s) k] (((hown.alloc _).alloc _).drew) (heap_alloc2_new _ _ _) rfl rfl HLS.out ?_; intro v2 w2 hown2 _))
              go_roundw
              case rel => exact ⟨k + 1, m + (piece (L s) k).length, o ++ piece (L s) k, by omega, by go_num, by have := HLN.out; omega, by rw [HPC.out]; go_num, HO.out, by rw [HPC.out]; exact hown2⟩
              case measure => simp [intOf]; omega
          | false =>
            have hnb : ((bt (L s) k).toNat : Int) < 33 ∨ 126 < ((bt (L s) k).toNat : Int) ∨ (33 ≤ ((bt (L s) k).toNat : Int) ∧ ((bt (L s) k).toNat : Int) ≤ 126 ∧ ((bt (L s) k).toNat : Int) = 61) := by
              unfold bareI at hba; simp at hba; omega
            rcases hnb with x1 | x1 | ⟨x1, x2, x3⟩
            · cases hbl : blankI (bt (L s) k).toNat with
              | true =>
                have hpz : (bareI (bt (L s) k).toNat || (blankI (bt (L s) k).toNat && (!((L s).drop (k + 1)).isEmpty && !Lib.hasPrefix ((L s).drop (k + 1)) [13, 10]))) = false := by rw [hba, hbl]; rw [HEM.out]; rfl
                have HPC : Hid (piece (L s) k = [61, bt hexL dd, bt hexL mo]) := Lib.hid ((pieceOf_coded _ _ hpz).trans HCD.out)
                clear hpz
                by_cases hn : 75 < m + (piece (L s) k).length
                · rw [quo_long (L s) k m hlt hc hn] at ho
                  have HO : Hid ((o ++ [61, 13, 10] ++ piece (L s) k) ++ quo ((L s).drop (k + 1)) false (piece (L s) k).length = quoted (L s)) := Lib.hid (by rw [← ho]; simp)
                  clear ho
                  rw [HPC.out] at hn
                  have HL3 : Hid (o.length + ([61, 13, 10] : List UInt8).length ≤ 140737488355328) := Lib.hid (by simp; omega)
                  have HLL : Hid ((o ++ [61, 13, 10]).length + ([61, bt hexL dd, bt hexL mo]).length ≤ 140737488355328) := Lib.hid (by rw [List.length_append]; simp; omega)
                  have hn2 : (75 : Int) < (m : Int) + 3 := by simp at hn; omega
                  clear hn
                  go_wp2_with fail
                  refine (breaks_any s k _ (by omega) (by omega)).mono ?_
                  rintro e wA ⟨rfl, rfl⟩
                  go_wp2_with fail
                  go_region
                  go_wp2_with (first | (go_at_call 39; refine (white_any _ _ (by omega) (by omega)).mono ?_; rintro e wC ⟨rfl, rfl⟩) | (at_builtin; refine appK rfl (.tmp 67) _ rfl _ [61, 13, 10] (((hown.alloc _).alloc _).drew) (heap_alloc2_new _ _ _) rfl rfl HL3.out ?_; intro v2 w2 hown2 hkeep; refine Hid.out ?_))
                  refine Lib.hid ?_
                  have hpb := (hkeep _ (by simp <;> omega) (not_own hown _ (by simp))).trans (heap_alloc2_old _ _ _)
                  have HPB := Lib.hid hpb
                  clear hpb hkeep
                  go_wp2_with (at_builtin; refine appK rfl (.tmp 70) _ rfl _ [61, bt hexL dd, bt hexL mo] hown2 HPB.out rfl rfl HLL.out ?_; intro v3 w3 hown3 _)
                  go_roundw
                  case rel => exact ⟨k + 1, (piece (L s) k).length, o ++ [61, 13, 10] ++ piece (L s) k, by omega, by go_num, by omega, by rw [HPC.out]; rfl, HO.out, by rw [HPC.out]; exact hown3⟩
                  case measure => simp [intOf]; omega
                · rw [quo_short (L s) k m hlt hc hn] at ho
                  have HO : Hid ((o ++ piece (L s) k) ++ quo ((L s).drop (k + 1)) false (m + (piece (L s) k).length) = quoted (L s)) := Lib.hid (by rw [← ho]; simp)
                  clear ho
                  rw [HPC.out] at hn
                  have HLS : Hid (o.length + ([61, bt hexL dd, bt hexL mo]).length ≤ 140737488355328) := Lib.hid (by simp; omega)
                  have hn2 : ¬ (75 : Int) < (m : Int) + 3 := by simp at hn; omega
                  have hn3 : m + 3 ≤ 75 := by omega
                  have HLN : Hid ((piece (L s) k).length = 3) := Lib.hid (by rw [HPC.out]; rfl)
                  clear hn
                  go_wp2_with fail
                  refine (breaks_any s k _ (by omega) (by omega)).mono ?_
                  rintro e wA ⟨rfl, rfl⟩
                  go_wp2_with fail
                  go_region
                  go_wp2_with (first | (go_at_call 39; refine (white_any _ _ (by omega) (by omega)).mono ?_; rintro e wC ⟨rfl, rfl⟩) | (at_builtin; refine appK rfl (.tmp 70) _ rfl _ [61, bt hexL dd, bt hexL mo] ((hown.alloc _).drew) (heap_alloc_new _ _) rfl rfl HLS.out ?_; intro v2 w2 hown2 _))
                  go_roundw
                  case rel => exact ⟨k + 1, m + (piece (L s) k).length, o ++ piece (L s) k, by omega, by go_num, by have := HLN.out; omega, by rw [HPC.out]; go_num, HO.out, by rw [HPC.out]; exact hown2⟩
                  case measure => simp [intOf]; omega
              | false =>
                have hpz : (bareI (bt (L s) k).toNat || (blankI (bt (L s) k).toNat && (!((L s).drop (k + 1)).isEmpty && !Lib.hasPrefix ((L s).drop (k + 1)) [13, 10]))) = false := by rw [hba, hbl]; rfl
                have HPC : Hid (piece (L s) k = [61, bt hexL dd, bt hexL mo]) := Lib.hid ((pieceOf_coded _ _ hpz).trans HCD.out)
                clear hpz
                by_cases hn : 75 < m + (piece (L s) k).length
                · rw [quo_long (L s) k m hlt hc hn] at ho
                  have HO : Hid ((o ++ [61, 13, 10] ++ piece (L s) k) ++ quo ((L s).drop (k + 1)) false (piece (L s) k).length = quoted (L s)) := Lib.hid (by rw [← ho]; simp)
                  clear ho
                  rw [HPC.out] at hn
                  have HL3 : Hid (o.length + ([61, 13, 10] : List UInt8).length ≤ 140737488355328) := Lib.hid (by simp; omega)
                  have HLL : Hid ((o ++ [61, 13, 10]).length + ([61, bt hexL dd, bt hexL mo]).length ≤ 140737488355328) := Lib.hid (by rw [List.length_append]; simp; omega)
                  have hn2 : (75 : Int) < (m : Int) + 3 := by simp at hn; omega
                  clear hn
                  go_wp2_with fail
                  refine (breaks_any s k _ (by omega) (by omega)).mono ?_
                  rintro e wA ⟨rfl, rfl⟩
                  go_wp2_with fail
                  go_region
                  go_wp2_with (first | (go_at_call 39; refine (white_any _ _ (by omega) (by omega)).mono ?_; rintro e wC ⟨rfl, rfl⟩) | (at_builtin; refine appK rfl (.tmp 67) _ rfl _ [61, 13, 10] (((hown.alloc _).alloc _).drew) (heap_alloc2_new _ _ _) rfl rfl HL3.out ?_; intro v2 w2 hown2 hkeep; refine Hid.out ?_))
                  refine Lib.hid ?_
                  have hpb := (hkeep _ (by simp <;> omega) (not_own hown _ (by simp))).trans (heap_alloc2_old _ _ _)
                  have HPB := Lib.hid hpb
                  clear hpb hkeep
                  go_wp2_with (at_builtin; refine appK rfl (.tmp 70) _ rfl _ [61, bt hexL dd, bt hexL mo] hown2 HPB.out rfl rfl HLL.out ?_; intro v3 w3 hown3 _)
                  go_roundw
                  case rel => exact ⟨k + 1, (piece (L s) k).length, o ++ [61, 13, 10] ++ piece (L s) k, by omega, by go_num, by omega, by rw [HPC.out]; rfl, HO.out, by rw [HPC.out]; exact hown3⟩
                  case measure => simp [intOf]; omega
                · rw [quo_short (L s) k m hlt hc hn] at ho
                  have HO : Hid ((o ++ piece (L s) k) ++ quo ((L s).drop (k + 1)) false (m + (piece (L s) k).length) = quoted (L s)) := Lib.hid (by rw [← ho]; simp)
                  clear ho
                  rw [HPC.out] at hn
                  have HLS : Hid (o.length + ([61, bt hexL dd, bt hexL mo]).length ≤ 140737488355328) := Lib.hid (by simp; omega)
                  have hn2 : ¬ (75 : Int) < (m : Int) + 3 := by simp at hn; omega
                  have hn3 : m + 3 ≤ 75 := by omega
                  have HLN : Hid ((piece (L s) k).length = 3) := Lib.hid (by rw [HPC.out]; rfl)
                  clear hn
                  go_wp2_with fail
                  refine (breaks_any s k _ (by omega) (by omega)).mono ?_
                  rintro e wA ⟨rfl, rfl⟩
                  go_wp2_with fail
                  go_region
                  go_wp2_with (first | (go_at_call 39; refine (white_any _ _ (by omega) (by omega)).mono ?_; rintro e wC ⟨rfl, rfl⟩) | (at_builtin; refine appK rfl (.tmp 70) _ rfl _ [61, bt hexL dd, bt hexL mo] ((hown.alloc _).drew) (heap_alloc_new _ _) rfl rfl HLS.out ?_; intro v2 w2 hown2 _))
                  go_roundw
                  case rel => exact ⟨k + 1, m + (piece (L s) k).length, o ++ piece (L s) k, by omega, by go_num, by have := HLN.out; omega, by rw [HPC.out]; go_num, HO.out, by rw [HPC.out]; exact hown2⟩
                  case measure => simp [intOf]; omega
            · have hbl : blankI (bt (L s) k).toNat = false := by unfold blankI; simp; omega
              have hpz : (bareI (bt (L s) k).toNat || (blankI (bt (L s) k).toNat && (!((L s).drop (k + 1)).isEmpty && !Lib.hasPrefix ((L s).drop (k + 1)) [13, 10]))) = false := by rw [hba, hbl]; rfl
              have HPC : Hid (piece (L s) k = [61, bt hexL dd, bt hexL mo]) := Lib.hid ((pieceOf_coded _ _ hpz).trans HCD.out)
              clear hpz
              by_cases hn : 75 < m + (piece (L s) k).length
              · rw [quo_long (L s) k m hlt hc hn] at ho
                have HO : Hid ((o ++ [61, 13, 10] ++ piece (L s) k) ++ quo ((L s).drop (k + 1)) false (piece (L s) k).length = quoted (L s)) := Lib.hid (by rw [← ho]; simp)
                clear ho
                rw [HPC.out] at hn
                have HL3 : Hid (o.length + ([61, 13, 10] : List UInt8).length ≤ 140737488355328) := Lib.hid (by simp; omega)
                have HLL : Hid ((o ++ [61, 13, 10]).length + ([61, bt hexL dd, bt hexL mo]).length ≤ 140737488355328) := Lib.hid (by rw [List.length_append]; simp; omega)
                have hn2 : (75 : Int) < (m : Int) + 3 := by simp at hn; omega
                clear hn
                go_wp2_with fail
                refine (breaks_any s k _ (by omega) (by omega)).mono ?_
                rintro e wA ⟨rfl, rfl⟩
                go_wp2_with fail
                go_region
                go_wp2_with (first | (go_at_call 39; refine (white_any _ _ (by omega) (by omega)).mono ?_; rintro e wC ⟨rfl, rfl⟩) | (at_builtin; refine appK rfl (.tmp 67) _ rfl _ [61, 13, 10] (((hown.alloc _).alloc _).drew) (heap_alloc2_new _ _ _) rfl rfl HL3.out ?_; intro v2 w2 hown2 hkeep; refine Hid.out ?_))
                refine Lib.hid ?_
                have hpb := (hkeep _ (by simp <;> omega) (not_own hown _ (by simp))).trans (heap_alloc2_old _ _ _)
                have HPB := Lib.hid hpb
                clear hpb hkeep
                go_wp2_with (at_builtin; refine appK rfl (.tmp 70) _ rfl _ [61, bt hexL dd, bt hexL mo] hown2 HPB.out rfl rfl HLL.out ?_; intro v3 w3 hown3 _)
                go_roundw
                case rel => exact ⟨k + 1, (piece (L s) k).length, o ++ [61, 13, 10] ++ piece (L s) k, by omega, by go_num, by omega, by rw [HPC.out]; rfl, HO.out, by rw [HPC.out]; exact hown3⟩
                case measure => simp [intOf]; omega
              · rw [quo_short (L s) k m hlt hc hn] at ho
                have HO : Hid ((o ++ piece (L s) k) ++ quo ((L s).drop (k + 1)) false (m + (piece (L s) k).length) = quoted (L s)) := Lib.hid (by rw [← ho]; simp)
                clear ho
                rw [HPC.out] at hn
                have HLS : Hid (o.length + ([61, bt hexL dd, bt hexL mo]).length ≤ 140737488355328) := Lib.hid (by simp; omega)
                have hn2 : ¬ (75 : Int) < (m : Int) + 3 := by simp at hn; omega
                have hn3 : m + 3 ≤ 75 := by omega
                have HLN : Hid ((piece (L s) k).length = 3) := Lib.hid (by rw [HPC.out]; rfl)
                clear hn
                go_wp2_with fail
                refine (breaks_any s k _ (by omega) (by omega)).mono ?_
                rintro e wA ⟨rfl, rfl⟩
                go_wp2_with fail
                go_region
                go_wp2_with (first | (go_at_call 39; refine (white_any _ _ (by omega) (by omega)).mono ?_; rintro e wC ⟨rfl, rfl⟩) | (at_builtin; refine appK rfl (.tmp 70) _ rfl _ [61, bt hexL dd, bt hexL mo] ((hown.alloc _).drew) (heap_alloc_new _ _) rfl rfl HLS.out ?_; intro v2 w2 hown2 _))
                go_roundw
                case rel => exact ⟨k + 1, m + (piece (L s) k).length, o ++ piece (L s) k, by omega, by go_num, by have := HLN.out; omega, by rw [HPC.out]; go_num, HO.out, by rw [HPC.out]; exact hown2⟩
                case measure => simp [intOf]; omega
            · have hbl : blankI (bt (L s) k).toNat = false := by unfold blankI; simp; omega
              have hpz : (bareI (bt (L s) k).toNat || (blankI (bt (L s) k).toNat && (!((L s).drop (k + 1)).isEmpty && !Lib.hasPrefix ((L s).drop (k + 1)) [13, 10]))) = false := by rw [hba, hbl]; rfl
              have x4 : (((bt (L s) k).toNat : Int) != 61) = false := by simp [x3]
              clear x3
              have HPC : Hid (piece (L s) k = [61, bt hexL dd, bt hexL mo]) := Lib.hid ((pieceOf_coded _ _ hpz).trans HCD.out)
              clear hpz
              by_cases hn : 75 < m + (piece (L s) k).length
              · rw [quo_long (L s) k m hlt hc hn] at ho
                have HO : Hid ((o ++ [61, 13, 10] ++ piece (L s) k) ++ quo ((L s).drop (k + 1)) false (piece (L s) k).length = quoted (L s)) := Lib.hid (by rw [← ho]; simp)
                clear ho
                rw [HPC.out] at hn
                have HL3 : Hid (o.length + ([61, 13, 10] : List UInt8).length ≤ 140737488355328) := Lib.hid (by simp; omega)
                have HLL : Hid ((o ++ [61, 13, 10]).length + ([61, bt hexL dd, bt hexL mo]).length ≤ 140737488355328) := Lib.hid (by rw [List.length_append]; simp; omega)
                have hn2 : (75 : Int) < (m : Int) + 3 := by simp at hn; omega
                clear hn
                go_wp2_with fail
                refine (breaks_any s k _ (by omega) (by omega)).mono ?_
                rintro e wA ⟨rfl, rfl⟩
                go_wp2_with fail
                go_region
                go_wp2_with (first | (go_at_call 39; refine (white_any _ _ (by omega) (by omega)).mono ?_; rintro e wC ⟨rfl, rfl⟩) | (at_builtin; refine appK rfl (.tmp 67) _ rfl _ [61, 13, 10] (((hown.alloc _).alloc _).drew) (heap_alloc2_new _ _ _) rfl rfl HL3.out ?_; intro v2 w2 hown2 hkeep; refine Hid.out ?_))
                refine Lib.hid ?_
                have hpb := (hkeep _ (by simp <;> omega) (not_own hown _ (by simp))).trans (heap_alloc2_old _ _ _)
                have HPB := Lib.hid hpb
                clear hpb hkeep
                go_wp2_with (at_builtin; refine appK rfl (.tmp 70) _ rfl _ [61, bt hexL dd, bt hexL mo] hown2 HPB.out rfl rfl HLL.out ?_; intro v3 w3 hown3 _)
                go_roundw
                case rel => exact ⟨k + 1, (piece (L s) k).length, o ++ [61, 13, 10] ++ piece (L s) k, by omega, by go_num, by omega, by rw [HPC.out]; rfl, HO.out, by rw [HPC.out]; exact hown3⟩
                case measure => simp [intOf]; omega
              · rw [quo_short (L s) k m hlt hc hn] at ho
                have HO : Hid ((o ++ piece (L s) k) ++ quo ((L s).drop (k + 1)) false (m + (piece (L s) k).length) = quoted (L s)) := Lib.hid (by rw [← ho]; simp)
                clear ho
                rw [HPC.out] at hn
                have HLS : Hid (o.length + ([61, bt hexL dd, bt hexL mo]).length ≤ 140737488355328) := Lib.hid (by simp; omega)
                have hn2 : ¬ (75 : Int) < (m : Int) + 3 := by simp at hn; omega
                have hn3 : m + 3 ≤ 75 := by omega
                have HLN : Hid ((piece (L s) k).length = 3) := Lib.hid (by rw [HPC.out]; rfl)
                clear hn
                go_wp2_with fail
                refine (breaks_any s k _ (by omega) (by omega)).mono ?_
                rintro e wA ⟨rfl, rfl⟩
                go_wp2_with fail
                go_region
                go_wp2_with (first | (go_at_call 39; refine (white_any _ _ (by omega) (by omega)).mono ?_; rintro e wC ⟨rfl, rfl⟩) | (at_builtin; refine appK rfl (.tmp 70) _ rfl _ [61, bt hexL dd, bt hexL mo] ((hown.alloc _).drew) (heap_alloc_new _ _) rfl rfl HLS.out ?_; intro v2 w2 hown2 _))
                go_roundw
                case rel => exact ⟨k + 1, m + (piece (L s) k).length, o ++ piece (L s) k, by omega, by go_num, by have := HLN.out; omega, by rw [HPC.out]; go_num, HO.out, by rw [HPC.out]; exact hown2⟩
                case measure => simp [intOf]; omega
        · have hl1 : ((k : Int) + 1 == (s.size : Int)) = false := by simp; omega
          have HEM : Hid (((L s).drop (k + 1)).isEmpty = false) := Lib.hid (by rw [drop_cons (L s) (k + 1) (by rw [L_length]; omega)]; rfl)
          cases hcr : crlf (L s) (k + 1) with
          | true =>
            have HCR : Hid (Lib.hasPrefix ((L s).drop (k + 1)) [13, 10] = true) := Lib.hid hcr
            cases hba : bareI (bt (L s) k).toNat with
            | true =>
              obtain ⟨x1, x2, x3⟩ : (33 : Int) ≤ ((bt (L s) k).toNat : Int) ∧ ((bt (L s) k).toNat : Int) ≤ 126 ∧ (((bt (L s) k).toNat : Int) != 61) = true := by
                unfold bareI at hba; simp at hba; simp; omega
              have hpz : (bareI (bt (L s) k).toNat || (blankI (bt (L s) k).toNat && (!((L s).drop (k + 1)).isEmpty && !Lib.hasPrefix ((L s).drop (k + 1)) [13, 10]))) = true := by rw [hba]; rfl
              have HPC : Hid (piece (L s) k = [bt (L s) k]) := Lib.hid (pieceOf_self _ _ hpz)
              clear hpz
              by_cases hn : 75 < m + (piece (L s) k).length
              · rw [quo_long (L s) k m hlt hc hn] at ho
                have HO : Hid ((o ++ [61, 13, 10] ++ piece (L s) k) ++ quo ((L s).drop (k + 1)) false (piece (L s) k).length = quoted (L s)) := Lib.hid (by rw [← ho]; simp)
                clear ho
                rw [HPC.out] at hn
                have HL3 : Hid (o.length + ([61, 13, 10] : List UInt8).length ≤ 140737488355328) := Lib.hid (by simp; omega)
                have HLL : Hid ((o ++ [61, 13, 10]).length + ([bt (L s) k]).length ≤ 140737488355328) := Lib.hid (by rw [List.length_append]; simp; omega)
                have hn2 : (75 : Int) < (m : Int) + 1 := by simp at hn; omega
                clear hn
                go_wp2_with fail
                refine (breaks_any s k _ (by omega) (by omega)).mono ?_
                rintro e wA ⟨rfl, rfl⟩
                go_wp2_with fail
                refine (breaks_any s (k + 1) _ (by omega) (by omega)).mono ?_
                rintro e wB ⟨rfl, rfl⟩
                go_wp2_with fail
                go_region
                go_wp2_with (first | (at_builtin; refine appK rfl (.tmp 67) _ rfl _ [61, 13, 10] ((((hown.alloc _).alloc _).alloc _).drew) (heap_alloc3_new _ _ _ _) rfl rfl HL3.out ?_; intro v2 w2 hown2 hkeep; refine Hid.out ?_))
                refine Lib.hid ?_
                have hpb := (hkeep _ (by simp <;> omega) (not_own hown _ (by simp))).trans (heap_alloc3_mid _ _ _ _)
                have HPB := Lib.hid hpb
                clear hpb hkeep
                go_wp2_with (at_builtin; refine appK rfl (.tmp 70) _ rfl _ [bt (L s) k] hown2 HPB.out rfl rfl HLL.out ?_; intro v3 w3 hown3 _)
                go_roundw
                case rel => exact ⟨k + 1, (piece (L s) k).length, o ++ [61, 13, 10] ++ piece (L s) k, by omega, by go_num, by omega, by rw [HPC.out]; rfl, HO.out, by rw [HPC.out]; exact hown3⟩
                case measure => simp [intOf]; omega
              · rw [quo_short (L s) k m hlt hc hn] at ho
                have HO : Hid ((o ++ piece (L s) k) ++ quo ((L s).drop (k + 1)) false (m + (piece (L s) k).length) = quoted (L s)) := Lib.hid (by rw [← ho]; simp)
                clear ho
                rw [HPC.out] at hn
                have HLS : Hid (o.length + ([bt (L s) k]).length ≤ 140737488355328) := Lib.hid (by simp; omega)
                have hn2 : ¬ (75 : Int) < (m : Int) + 1 := by simp at hn; omega
                have hn3 : m + 1 ≤ 75 := by omega
                have HLN : Hid ((piece (L s) k).length = 1) := Lib.hid (by rw [HPC.out]; rfl)
                clear hn
                go_wp2_with fail
                refine (breaks_any s k _ (by omega) (by omega)).mono ?_
                rintro e wA ⟨rfl, rfl⟩
                go_wp2_with fail
                refine (breaks_any s (k + 1) _ (by omega) (by omega)).mono ?_
                rintro e wB ⟨rfl, rfl⟩
                go_wp2_with fail
                go_region
                go_wp2_with (first | (at_builtin; refine appK rfl (.tmp 70) _ rfl _ [bt (L s) k] (((hown.alloc _).alloc _).drew) (heap_alloc2_new _ _ _) rfl rfl HLS.out ?_; intro v2 w2 hown2 _))
                go_roundw
                case rel => exact ⟨k + 1, m + (piece (L s) k).length, o ++ piece (L s) k, by omega, by go_num, by have := HLN.out; omega, by rw [HPC.out]; go_num, HO.out, by rw [HPC.out]; exact hown2⟩
                case measure => simp [intOf]; omega
            | false =>
              have hnb : ((bt (L s) k).toNat : Int) < 33 ∨ 126 < ((bt (L s) k).toNat : Int) ∨ (33 ≤ ((bt (L s) k).toNat : Int) ∧ ((bt (L s) k).toNat : Int) ≤ 126 ∧ ((bt (L s) k).toNat : Int) = 61) := by
                unfold bareI at hba; simp at hba; omega
              rcases hnb with x1 | x1 | ⟨x1, x2, x3⟩
              · cases hbl : blankI (bt (L s) k).toNat with
                | true =>
                  have hpz : (bareI (bt (L s) k).toNat || (blankI (bt (L s) k).toNat && (!((L s).drop (k + 1)).isEmpty && !Lib.hasPrefix ((L s).drop (k + 1)) [13, 10]))) = false := by rw [hba, hbl]; rw [HCR.out]; simp
                  have HPC : Hid (piece (L s) k = [61, bt hexL dd, bt hexL mo]) := Lib.hid ((pieceOf_coded _ _ hpz).trans HCD.out)
                  clear hpz
                  by_cases hn : 75 < m + (piece (L s) k).length
                  · rw [quo_long (L s) k m hlt hc hn] at ho
                    have HO : Hid ((o ++ [61, 13, 10] ++ piece (L s) k) ++ quo ((L s).drop (k + 1)) false (piece (L s) k).length = quoted (L s)) := Lib.hid (by rw [← ho]; simp)
                    clear ho
                    rw [HPC.out] at hn
                    have HL3 : Hid (o.length + ([61, 13, 10] : List UInt8).length ≤ 140737488355328) := Lib.hid (by simp; omega)
                    have HLL : Hid ((o ++ [61, 13, 10]).length + ([61, bt hexL dd, bt hexL mo]).length ≤ 140737488355328) := Lib.hid (by rw [List.length_append]; simp; omega)
                    have hn2 : (75 : Int) < (m : Int) + 3 := by simp at hn; omega
                    clear hn
                    go_wp2_with fail
                    refine (breaks_any s k _ (by omega) (by omega)).mono ?_
                    rintro e wA ⟨rfl, rfl⟩
                    go_wp2_with fail
                    refine (breaks_any s (k + 1) _ (by omega) (by omega)).mono ?_
                    rintro e wB ⟨rfl, rfl⟩
                    go_wp2_with fail
                    go_region
                    go_wp2_with (first | (go_at_call 39; refine (white_any _ _ (by omega) (by omega)).mono ?_; rintro e wC ⟨rfl, rfl⟩) | (at_builtin; refine appK rfl (.tmp 67) _ rfl _ [61, 13, 10] (((hown.alloc _).alloc _).drew) (heap_alloc2_new _ _ _) rfl rfl HL3.out ?_; intro v2 w2 hown2 hkeep; refine Hid.out ?_))
                    refine Lib.hid ?_
                    have hpb := (hkeep _ (by simp <;> omega) (not_own hown _ (by simp))).trans (heap_alloc2_old _ _ _)
                    have HPB := Lib.hid hpb
                    clear hpb hkeep
                    go_wp2_with (at_builtin; refine appK rfl (.tmp 70) _ rfl _ [61, bt hexL dd, bt hexL mo] hown2 HPB.out rfl rfl HLL.out ?_; intro v3 w3 hown3 _)
                    go_roundw
                    case rel => exact ⟨k + 1, (piece (L s) k).length, o ++ [61, 13, 10] ++ piece (L s) k, by omega, by go_num, by omega, by rw [HPC.out]; rfl, HO.out, by rw [HPC.out]; exact hown3⟩
                    case measure => simp [intOf]; omega
                  · rw [quo_short (L s) k m hlt hc hn] at ho
                    have HO : Hid ((o ++ piece (L s) k) ++ quo ((L s).drop (k + 1)) false (m + (piece (L s) k).length) = quoted (L s)) := Lib.hid (by rw [← ho]; simp)
                    clear ho
                    rw [HPC.out] at hn
                    have HLS : Hid (o.length + ([61, bt hexL dd, bt hexL mo]).length ≤ 140737488355328) := Lib.hid (by simp; omega)
                    have hn2 : ¬ (75 : Int) < (m : Int) + 3 := by simp at hn; omega
                    have hn3 : m + 3 ≤ 75 := by omega
                    have HLN : Hid ((piece (L s) k).length = 3) := Lib.hid (by rw [HPC.out]; rfl)
                    clear hn
                    go_wp2_with fail
                    refine (breaks_any s k _ (by omega) (by omega)).mono ?_
                    rintro e wA ⟨rfl, rfl⟩
                    go_wp2_with fail
                    refine (breaks_any s (k + 1) _ (by omega) (by omega)).mono ?_
                    rintro e wB ⟨rfl, rfl⟩
                    go_wp2_with fail
                    go_region
                    go_wp2_with (first | (go_at_call 39; refine (white_any _ _ (by omega) (by omega)).mono ?_; rintro e wC ⟨rfl, rfl⟩) | (at_builtin; refine appK rfl (.tmp 70) _ rfl _ [61, bt hexL dd, bt hexL mo] ((hown.alloc _).drew) (heap_alloc_new _ _) rfl rfl HLS.out ?_; intro v2 w2 hown2 _))
                    go_roundw
                    case rel => exact ⟨k + 1, m + (piece (L s) k).length, o ++ piece (L s) k, by omega, by go_num, by have := HLN.out; omega, by rw [HPC.out]; go_num, HO.out, by rw [HPC.out]; exact hown2⟩
                    case measure => simp [intOf]; omega
                | false =>
                  have hpz : (bareI (bt (L s) k).toNat || (blankI (bt (L s) k).toNat && (!((L s).drop (k + 1)).isEmpty && !Lib.hasPrefix ((L s).drop (k + 1)) [13, 10]))) = false := by rw [hba, hbl]; rfl
                  have HPC : Hid (piece (L s) k = [61, bt hexL dd, bt hexL mo]) := Lib.hid ((pieceOf_coded _ _ hpz).trans HCD.out)
                  clear hpz
                  by_cases hn : 75 < m + (piece (L s) k).length
                  · rw [quo_long (L s) k m hlt hc hn] at ho
                    have HO : Hid ((o ++ [61, 13, 10] ++ piece (L s) k) ++ quo ((L s).drop (k + 1)) false (piece (L s) k).length = quoted (L s)) := Lib.hid (by rw [← ho]; simp)
                    clear ho
                    rw [HPC.out] at hn
                    have HL3 : Hid (o.length + ([61, 13, 10] : List UInt8).length ≤ 140737488355328) := Lib.hid (by simp; omega)
                    have HLL : Hid ((o ++ [61, 13, 10]).length + ([61, bt hexL dd, bt hexL mo]).length ≤ 140737488355328) := Lib.hid (by rw [List.length_append]; simp; omega)
                    have hn2 : (75 : Int) < (m : Int) + 3 := by simp at hn; omega
                    clear hn
                    go_wp2_with fail
                    refine (breaks_any s k _ (by omega) (by omega)).mono ?_
                    rintro e wA ⟨rfl, rfl⟩
                    go_wp2_with fail
                    refine (breaks_any s (k + 1) _ (by omega) (by omega)).mono ?_
                    rintro e wB ⟨rfl, rfl⟩
                    go_wp2_with fail
                    go_region
                    go_wp2_with (first | (go_at_call 39; refine (white_any _ _ (by omega) (by omega)).mono ?_; rintro e wC ⟨rfl, rfl⟩) | (at_builtin; refine appK rfl (.tmp 67) _ rfl _ [61, 13, 10] (((hown.alloc _).alloc _).drew) (heap_alloc2_new _ _ _) rfl rfl HL3.out ?_; intro v2 w2 hown2 hkeep; refine Hid.out ?_))
                    refine Lib.hid ?_
                    have hpb := (hkeep _ (by simp <;> omega) (not_own hown _ (by simp))).trans (heap_alloc2_old _ _ _)
                    have HPB := Lib.hid hpb
                    clear hpb hkeep
                    go_wp2_with (at_builtin; refine appK rfl (.tmp 70) _ rfl _ [61, bt hexL dd, bt hexL mo] hown2 HPB.out rfl rfl HLL.out ?_; intro v3 w3 hown3 _)
                    go_roundw
                    case rel => exact ⟨k + 1, (piece (L s) k).length, o ++ [61, 13, 10] ++ piece (L s) k, by omega, by go_num, by omega, by rw [HPC.out]; rfl, HO.out, by rw [HPC.out]; exact hown3⟩
                    case measure => simp [intOf]; omega
                  · rw [quo_short (L s) k m hlt hc hn] at ho
                    have HO : Hid ((o ++ piece (L s) k) ++ quo ((L s).drop (k + 1)) false (m + (piece (L s) k).length) = quoted (L s)) := Lib.hid (by rw [← ho]; simp)
                    clear ho
                    rw [HPC.out] at hn
                    have HLS : Hid (o.length + ([61, bt hexL dd, bt hexL mo]).length ≤ 140737488355328) := Lib.hid (by simp; omega)
                    have hn2 : ¬ (75 : Int) < (m : Int) + 3 := by simp at hn; omega
                    have hn3 : m + 3 ≤ 75 := by omega
                    have HLN : Hid ((piece (L s) k).length = 3) := Lib.hid (by rw [HPC.out]; rfl)
                    clear hn
                    go_wp2_with fail
                    refine (breaks_any s k _ (by omega) (by omega)).mono ?_
                    rintro e wA ⟨rfl, rfl⟩
                    go_wp2_with fail
                    refine (breaks_any s (k + 1) _ (by omega) (by omega)).mono ?_
                    rintro e wB ⟨rfl, rfl⟩
                    go_wp2_with fail
                    go_region
                    go_wp2_with (first | (go_at_call 39; refine (white_any _ _ (by omega) (by omega)).mono ?_; rintro e wC ⟨rfl, rfl⟩) | (at_builtin; refine appK rfl (.tmp 70) _ rfl _ [61, bt hexL dd, bt hexL mo] ((hown.alloc _).drew) (heap_alloc_new _ _) rfl rfl HLS.out ?_; intro v2 w2 hown2 _))
                    go_roundw
                    case rel => exact ⟨k + 1, m + (piece (L s) k).length, o ++ piece (L s) k, by omega, by go_num, by have := HLN.out; omega, by rw [HPC.out]; go_num, HO.out, by rw [HPC.out]; exact hown2⟩
                    case measure => simp [intOf]; omega
              · have hbl : blankI (bt (L s) k).toNat = false := by unfold blankI; simp; omega
                have hpz : (bareI (bt (L s) k).toNat || (blankI (bt (L s) k).toNat && (!((L s).drop (k + 1)).isEmpty && !Lib.hasPrefix ((L s).drop (k + 1)) [13, 10]))) = false := by rw [hba, hbl]; rfl
                have HPC : Hid (piece (L s) k = [61, bt hexL dd, bt hexL mo]) := Lib.hid ((pieceOf_coded _ _ hpz).trans HCD.out)
                clear hpz
                by_cases hn : 75 < m + (piece (L s) k).length
                · rw [quo_long (L s) k m hlt hc hn] at ho
                  have HO : Hid ((o ++ [61, 13, 10] ++ piece (L s) k) ++ quo ((L s).drop (k + 1)) false (piece (L s) k).length = quoted (L s)) := Lib.hid (by rw [← ho]; simp)
                  clear ho
                  rw [HPC.out] at hn
                  have HL3 : Hid (o.length + ([61, 13, 10] : List UInt8).length ≤ 140737488355328) := Lib.hid (by simp; omega)
                  have HLL : Hid ((o ++ [61, 13, 10]).length + ([61, bt hexL dd, bt hexL mo]).length ≤ 140737488355328) := Lib.hid (by rw [List.length_append]; simp; omega)
                  have hn2 : (75 : Int) < (m : Int) + 3 := by simp at hn; omega
                  clear hn
                  go_wp2_with fail
                  refine (breaks_any s k _ (by omega) (by omega)).mono ?_
                  rintro e wA ⟨rfl, rfl⟩
                  go_wp2_with fail
                  refine (breaks_any s (k + 1) _ (by omega) (by omega)).mono ?_
                  rintro e wB ⟨rfl, rfl⟩
                  go_wp2_with fail
                  go_region
                  go_wp2_with (first | (go_at_call 39; refine (white_any _ _ (by omega) (by omega)).mono ?_; rintro e wC ⟨rfl, rfl⟩) | (at_builtin; refine appK rfl (.tmp 67) _ rfl _ [61, 13, 10] (((hown.alloc _).alloc _).drew) (heap_alloc2_new _ _ _) rfl rfl HL3.out ?_; intro v2 w2 hown2 hkeep; refine Hid.out ?_))
                  refine Lib.hid ?_
                  have hpb := (hkeep _ (by simp <;> omega) (not_own hown _ (by simp))).trans (heap_alloc2_old _ _ _)
                  have HPB := Lib.hid hpb
                  clear hpb hkeep
                  go_wp2_with (at_builtin; refine appK rfl (.tmp 70) _ rfl _ [61, bt hexL dd, bt hexL mo] hown2 HPB.out rfl rfl HLL.out ?_; intro v3 w3 hown3 _)
                  go_roundw
                  case rel => exact ⟨k + 1, (piece (L s) k).length, o ++ [61, 13, 10] ++ piece (L s) k, by omega, by go_num, by omega, by rw [HPC.out]; rfl, HO.out, by rw [HPC.out]; exact hown3⟩
                  case measure => simp [intOf]; omega
                · rw [quo_short (L s) k m hlt hc hn] at ho
                  have HO : Hid ((o ++ piece (L s) k) ++ quo ((L s).drop (k + 1)) false (m + (piece (L s) k).length) = quoted (L s)) := Lib.hid (by rw [← ho]; simp)
                  clear ho
                  rw [HPC.out] at hn
                  have HLS : Hid (o.length + ([61, bt hexL dd, bt hexL mo]).length ≤ 140737488355328) := Lib.hid (by simp; omega)
                  have hn2 : ¬ (75 : Int) < (m : Int) + 3 := by simp at hn; omega
                  have hn3 : m + 3 ≤ 75 := by omega
                  have HLN : Hid ((piece (L s) k).length = 3) := Lib.hid (by rw [HPC.out]; rfl)
                  clear hn
                  go_wp2_with fail
                  refine (breaks_any s k _ (by omega) (by omega)).mono ?_
                  rintro e wA ⟨rfl, rfl⟩
                  go_wp2_with fail
                  refine (breaks_any s (k + 1) _ (by omega) (by omega)).mono ?_
                  rintro e wB ⟨rfl, rfl⟩
                  go_wp2_with fail
                  go_region
                  go_wp2_with (first | (go_at_call 39; refine (white_any _ _ (by omega) (by omega)).mono ?_; rintro e wC ⟨rfl, rfl⟩) | (at_builtin; refine appK rfl (.tmp 70) _ rfl _ [61, bt hexL dd, bt hexL mo] ((hown.alloc _).drew) (heap_alloc_new _ _) rfl rfl HLS.out ?_; intro v2 w2 hown2 _))
                  go_roundw
                  case rel => exact ⟨k + 1, m + (piece (L s) k).length, o ++ piece (L s) k, by omega, by go_num, by have := HLN.out; omega, by rw [HPC.out]; go_num, HO.out, by rw [HPC.out]; exact hown2⟩
                  case measure => simp [intOf]; omega
              · have hbl : blankI (bt (L s) k).toNat = false := by unfold blankI; simp; omega
                have hpz : (bareI (bt (L s) k).toNat || (blankI (bt (L s) k).toNat && (!((L s).drop (k + 1)).isEmpty && !Lib.hasPrefix ((L s).drop (k + 1)) [13, 10]))) = false := by rw [hba, hbl]; rfl
                have x4 : (((bt (L s) k).toNat : Int) != 61) = false := by simp [x3]
                clear x3
                have HPC : Hid (piece (L s) k = [61, bt hexL dd, bt hexL mo]) := Lib.hid ((pieceOf_coded _ _ hpz).trans HCD.out)
                clear hpz
                by_cases hn : 75 < m + (piece (L s) k).length
                · rw [quo_long (L s) k m hlt hc hn] at ho
                  have HO : Hid ((o ++ [61, 13, 10] ++ piece (L s) k) ++ quo ((L s).drop (k + 1)) false (piece (L s) k).length = quoted (L s)) := Lib.hid (by rw [← ho]; simp)
                  clear ho
                  rw [HPC.out] at hn
                  have HL3 : Hid (o.length + ([61, 13, 10] : List UInt8).length ≤ 140737488355328) := Lib.hid (by simp; omega)
                  have HLL : Hid ((o ++ [61, 13, 10]).length + ([61, bt hexL dd, bt hexL mo]).length ≤ 140737488355328) := Lib.hid (by rw [List.length_append]; simp; omega)
                  have hn2 : (75 : Int) < (m : Int) + 3 := by simp at hn; omega
                  clear hn
                  go_wp2_with fail
                  refine (breaks_any s k _ (by omega) (by omega)).mono ?_
                  rintro e wA ⟨rfl, rfl⟩
                  go_wp2_with fail
                  refine (breaks_any s (k + 1) _ (by omega) (by omega)).mono ?_
                  rintro e wB ⟨rfl, rfl⟩
                  go_wp2_with fail
                  go_region
                  go_wp2_with (first | (go_at_call 39; refine (white_any _ _ (by omega) (by omega)).mono ?_; rintro e wC ⟨rfl, rfl⟩) | (at_builtin; refine appK rfl (.tmp 67) _ rfl _ [61, 13, 10] (((hown.alloc _).alloc _).drew) (heap_alloc2_new _ _ _) rfl rfl HL3.out ?_; intro v2 w2 hown2 hkeep; refine Hid.out ?_))
                  refine Lib.hid ?_
                  have hpb := (hkeep _ (by simp <;> omega) (not_own hown _ (by simp))).trans (heap_alloc2_old _ _ _)
                  have HPB := Lib.hid hpb
                  clear hpb hkeep
                  go_wp2_with (at_builtin; refine appK rfl (.tmp 70) _ rfl _ [61, bt hexL dd, bt hexL mo] hown2 HPB.out rfl rfl HLL.out ?_; intro v3 w3 hown3 _)
                  go_roundw
                  case rel => exact ⟨k + 1, (piece (L s) k).length, o ++ [61, 13, 10] ++ piece (L s) k, by omega, by go_num, by omega, by rw [HPC.out]; rfl, HO.out, by rw [HPC.out]; exact hown3⟩
                  case measure => simp [intOf]; omega
                · rw [quo_short (L s) k m hlt hc hn] at ho
                  have HO : Hid ((o ++ piece (L s) k) ++ quo ((L s).drop (k + 1)) false (m + (piece (L s) k).length) = quoted (L s)) := Lib.hid (by rw [← ho]; simp)
                  clear ho
                  rw [HPC.out] at hn
                  have HLS : Hid (o.length + ([61, bt hexL dd, bt hexL mo]).length ≤ 140737488355328) := Lib.hid (by simp; omega)
                  have hn2 : ¬ (75 : Int) < (m : Int) + 3 := by simp at hn; omega
                  have hn3 : m + 3 ≤ 75 := by omega
                  have HLN : Hid ((piece (L s) k).length = 3) := Lib.hid (by rw [HPC.out]; rfl)
                  clear hn
                  go_wp2_with fail
                  refine (breaks_any s k _ (by omega) (by omega)).mono ?_
                  rintro e wA ⟨rfl, rfl⟩
                  go_wp2_with fail
                  refine (breaks_any s (k + 1) _ (by omega) (by omega)).mono ?_
                  rintro e wB ⟨rfl, rfl⟩
                  go_wp2_with fail
                  go_region
                  go_wp2_with (first | (go_at_call 39; refine (white_any _ _ (by omega) (by omega)).mono ?_; rintro e wC ⟨rfl, rfl⟩) | (at_builtin; refine appK rfl (.tmp 70) _ rfl _ [61, bt hexL dd, bt hexL mo] ((hown.alloc _).drew) (heap_alloc_new _ _) rfl rfl HLS.out ?_; intro v2 w2 hown2 _))
                  go_roundw
                  case rel => exact ⟨k + 1, m + (piece (L s) k).length, o ++ piece (L s) k, by omega, by go_num, by have := HLN.out; omega, by rw [HPC.out]; go_num, HO.out, by rw [HPC.out]; exact hown2⟩
                  case measure => simp [intOf]; omega
          | false =>
            have HCR : Hid (Lib.hasPrefix ((L s).drop (k + 1)) [13, 10] = false) := Lib.hid hcr
            cases hba : bareI (bt (L s) k).toNat with
            | true =>
              obtain ⟨x1, x2, x3⟩ : (33 : Int) ≤ ((bt (L s) k).toNat : Int) ∧ ((bt (L s) k).toNat : Int) ≤ 126 ∧ (((bt (L s) k).toNat : Int) != 61) = true := by
                unfold bareI at hba; simp at hba; simp; omega
              have hpz : (bareI (bt (L s) k).toNat || (blankI (bt (L s) k).toNat && (!((L s).drop (k + 1)).isEmpty && !Lib.hasPrefix ((L s).drop (k + 1)) [13, 10]))) = true := by rw [hba]; rfl
              have HPC : Hid (piece (L s) k = [bt (L s) k]) := Lib.hid (pieceOf_self _ _ hpz)
              clear hpz
              by_cases hn : 75 < m + (piece (L s) k).length
              · rw [quo_long (L s) k m hlt hc hn] at ho
                have HO : Hid ((o ++ [61, 13, 10] ++ piece (L s) k) ++ quo ((L s).drop (k + 1)) false (piece (L s) k).length = quoted (L s)) := Lib.hid (by rw [← ho]; simp)
                clear ho
                rw [HPC.out] at hn
                have HL3 : Hid (o.length + ([61, 13, 10] : List UInt8).length ≤ 140737488355328) := Lib.hid (by simp; omega)
                have HLL : Hid ((o ++ [61, 13, 10]).length + ([bt (L s) k]).length ≤ 140737488355328) := Lib.hid (by rw [List.length_append]; simp; omega)
                have hn2 : (75 : Int) < (m : Int) + 1 := by simp at hn; omega
                clear hn
                go_wp2_with fail
                refine (breaks_any s k _ (by omega) (by omega)).mono ?_
                rintro e wA ⟨rfl, rfl⟩
                go_wp2_with fail
                refine (breaks_any s (k + 1) _ (by omega) (by omega)).mono ?_
                rintro e wB ⟨rfl, rfl⟩
                go_wp2_with fail
                go_region
                go_wp2_with (first | (at_builtin; refine appK rfl (.tmp 67) _ rfl _ [61, 13, 10] ((((hown.alloc _).alloc _).alloc _).drew) (heap_alloc3_new _ _ _ _) rfl rfl HL3.out ?_; intro v2 w2 hown2 hkeep; refine Hid.out ?_))
                refine Lib.hid ?_
                have hpb := (hkeep _ (by simp <;> omega) (not_own hown _ (by simp))).trans (heap_alloc3_mid _ _ _ _)
                have HPB := Lib.hid hpb
                clear hpb hkeep
                go_wp2_with (at_builtin; refine appK rfl (.tmp 70) _ rfl _ [bt (L s) k] hown2 HPB.out rfl rfl HLL.out ?_; intro v3 w3 hown3 _)
                go_roundw
                case rel => exact ⟨k + 1, (piece (L s) k).length, o ++ [61, 13, 10] ++ piece (L s) k, by omega, by go_num, by omega, by rw [HPC.out]; rfl, HO.out, by rw [HPC.out]; exact hown3⟩
                case measure => simp [intOf]; omega
              · rw [quo_short (L s) k m hlt hc hn] at ho
                have HO : Hid ((o ++ piece (L s) k) ++ quo ((L s).drop (k + 1)) false (m + (piece (L s) k).length) = quoted (L s)) := Lib.hid (by rw [← ho]; simp)
                clear ho
                rw [HPC.out] at hn
                have HLS : Hid (o.length + ([bt (L s) k]).length ≤ 140737488355328) := Lib.hid (by simp; omega)
                have hn2 : ¬ (75 : Int) < (m : Int) + 1 := by simp at hn; omega
                have hn3 : m + 1 ≤ 75 := by omega
                have HLN : Hid ((piece (L s) k).length = 1) := Lib.hid (by rw [HPC.out]; rfl)
                clear hn
                go_wp2_with fail
                refine (breaks_any s k _ (by omega) (by omega)).mono ?_
                rintro e wA ⟨rfl, rfl⟩
                go_wp2_with fail
                refine (breaks_any s (k + 1) _ (by omega) (by omega)).mono ?_
                rintro e wB ⟨rfl, rfl⟩
                go_wp2_with fail
                go_region
                go_wp2_with (first | (at_builtin; refine appK rfl (.tmp 70) _ rfl _ [bt (L s) k] (((hown.alloc _).alloc _).drew) (heap_alloc2_new _ _ _) rfl rfl HLS.out ?_; intro v2 w2 hown2 _))
                go_roundw
                case rel => exact ⟨k + 1, m + (piece (L s) k).length, o ++ piece (L s) k, by omega, by go_num, by have := HLN.out; omega, by rw [HPC.out]; go_num, HO.out, by rw [HPC.out]; exact hown2⟩
                case measure => simp [intOf]; omega
            | false =>
              have hnb : ((bt (L s) k).toNat : Int) < 33 ∨ 126 < ((bt (L s) k).toNat : Int) ∨ (33 ≤ ((bt (L s) k).toNat : Int) ∧ ((bt (L s) k).toNat : Int) ≤ 126 ∧ ((bt (L s) k).toNat : Int) = 61) := by
                unfold bareI at hba; simp at hba; omega
              rcases hnb with x1 | x1 | ⟨x1, x2, x3⟩
              · cases hbl : blankI (bt (L s) k).toNat with
                | true =>
                  have hpz : (bareI (bt (L s) k).toNat || (blankI (bt (L s) k).toNat && (!((L s).drop (k + 1)).isEmpty && !Lib.hasPrefix ((L s).drop (k + 1)) [13, 10]))) = true := by rw [hba, hbl, HEM.out, HCR.out]; rfl
                  have HPC : Hid (piece (L s) k = [bt (L s) k]) := Lib.hid (pieceOf_self _ _ hpz)
                  clear hpz
                  by_cases hn : 75 < m + (piece (L s) k).length
                  · rw [quo_long (L s) k m hlt hc hn] at ho
                    have HO : Hid ((o ++ [61, 13, 10] ++ piece (L s) k) ++ quo ((L s).drop (k + 1)) false (piece (L s) k).length = quoted (L s)) := Lib.hid (by rw [← ho]; simp)
                    clear ho
                    rw [HPC.out] at hn
                    have HL3 : Hid (o.length + ([61, 13, 10] : List UInt8).length ≤ 140737488355328) := Lib.hid (by simp; omega)
                    have HLL : Hid ((o ++ [61, 13, 10]).length + ([bt (L s) k]).length ≤ 140737488355328) := Lib.hid (by rw [List.length_append]; simp; omega)
                    have hn2 : (75 : Int) < (m : Int) + 1 := by simp at hn; omega
                    clear hn
                    go_wp2_with fail
                    refine (breaks_any s k _ (by omega) (by omega)).mono ?_
                    rintro e wA ⟨rfl, rfl⟩
                    go_wp2_with fail
                    refine (breaks_any s (k + 1) _ (by omega) (by omega)).mono ?_
                    rintro e wB ⟨rfl, rfl⟩
                    go_wp2_with fail
                    go_region
                    go_wp2_with (first | (go_at_call 39; refine (white_any _ _ (by omega) (by omega)).mono ?_; rintro e wC ⟨rfl, rfl⟩) | (at_builtin; refine appK rfl (.tmp 67) _ rfl _ [61, 13, 10] ((((hown.alloc _).alloc _).alloc _).drew) (heap_alloc3_new _ _ _ _) rfl rfl HL3.out ?_; intro v2 w2 hown2 hkeep; refine Hid.out ?_))
                    refine Lib.hid ?_
                    have hpb := (hkeep _ (by simp <;> omega) (not_own hown _ (by simp))).trans (heap_alloc3_mid _ _ _ _)
                    have HPB := Lib.hid hpb
                    clear hpb hkeep
                    go_wp2_with (at_builtin; refine appK rfl (.tmp 70) _ rfl _ [bt (L s) k] hown2 HPB.out rfl rfl HLL.out ?_; intro v3 w3 hown3 _)
                    go_roundw
                    case rel => exact ⟨k + 1, (piece (L s) k).length, o ++ [61, 13, 10] ++ piece (L s) k, by omega, by go_num, by omega, by rw [HPC.out]; rfl, HO.out, by rw [HPC.out]; exact hown3⟩
                    case measure => simp [intOf]; omega
                  · rw [quo_short (L s) k m hlt hc hn] at ho
                    have HO : Hid ((o ++ piece (L s) k) ++ quo ((L s).drop (k + 1)) false (m + (piece (L s) k).length) = quoted (L s)) := Lib.hid (by rw [← ho]; simp)
                    clear ho
                    rw [HPC.out] at hn
                    have HLS : Hid (o.length + ([bt (L s) k]).length ≤ 140737488355328) := Lib.hid (by simp; omega)
                    have hn2 : ¬ (75 : Int) < (m : Int) + 1 := by simp at hn; omega
                    have hn3 : m + 1 ≤ 75 := by omega
                    have HLN : Hid ((piece (L s) k).length = 1) := Lib.hid (by rw [HPC.out]; rfl)
                    clear hn
                    go_wp2_with fail
                    refine (breaks_any s k _ (by omega) (by omega)).mono ?_
                    rintro e wA ⟨rfl, rfl⟩
                    go_wp2_with fail
                    refine (breaks_any s (k + 1) _ (by omega) (by omega)).mono ?_
                    rintro e wB ⟨rfl, rfl⟩
                    go_wp2_with fail
                    go_region
                    go_wp2_with (first | (go_at_call 39; refine (white_any _ _ (by omega) (by omega)).mono ?_; rintro e wC ⟨rfl, rfl⟩) | (at_builtin; refine appK rfl (.tmp 70) _ rfl _ [bt (L s) k] (((hown.alloc _).alloc _).drew) (heap_alloc2_new _ _ _) rfl rfl HLS.out ?_; intro v2 w2 hown2 _))
                    go_roundw
                    case rel => exact ⟨k + 1, m + (piece (L s) k).length, o ++ piece (L s) k, by omega, by go_num, by have := HLN.out; omega, by rw [HPC.out]; go_num, HO.out, by rw [HPC.out]; exact hown2⟩
                    case measure => simp [intOf]; omega
                | false =>
                  have hpz : (bareI (bt (L s) k).toNat || (blankI (bt (L s) k).toNat && (!((L s).drop (k + 1)).isEmpty && !Lib.hasPrefix ((L s).drop (k + 1)) [13, 10]))) = false := by rw [hba, hbl]; rfl
                  have HPC : Hid (piece (L s) k = [61, bt hexL dd, bt hexL mo]) := Lib.hid ((pieceOf_coded _ _ hpz).trans HCD.out)
                  clear hpz
                  by_cases hn : 75 < m + (piece (L s) k).length
                  · rw [quo_long (L s) k m hlt hc hn] at ho
                    have HO : Hid ((o ++ [61, 13, 10] ++ piece (L s) k) ++ quo ((L s).drop (k + 1)) false (piece (L s) k).length = quoted (L s)) := Lib.hid (by rw [← ho]; simp)
                    clear ho
                    rw [HPC.out] at hn
                    have HL3 : Hid (o.length + ([61, 13, 10] : List UInt8).length ≤ 140737488355328) := Lib.hid (by simp; omega)
                    have HLL : Hid ((o ++ [61, 13, 10]).length + ([61, bt hexL dd, bt hexL mo]).length ≤ 140737488355328) := Lib.hid (by rw [List.length_append]; simp; omega)
                    have hn2 : (75 : Int) < (m : Int) + 3 := by simp at hn; omega
                    clear hn
                    go_wp2_with fail
                    refine (breaks_any s k _ (by omega) (by omega)).mono ?_
                    rintro e wA ⟨rfl, rfl⟩
                    go_wp2_with fail
                    refine (breaks_any s (k + 1) _ (by omega) (by omega)).mono ?_
                    rintro e wB ⟨rfl, rfl⟩
                    go_wp2_with fail
                    go_region
                    go_wp2_with (first | (go_at_call 39; refine (white_any _ _ (by omega) (by omega)).mono ?_; rintro e wC ⟨rfl, rfl⟩) | (at_builtin; refine appK rfl (.tmp 67) _ rfl _ [61, 13, 10] (((hown.alloc _).alloc _).drew) (heap_alloc2_new _ _ _) rfl rfl HL3.out ?_; intro v2 w2 hown2 hkeep; refine Hid.out ?_))
                    refine Lib.hid ?_
                    have hpb := (hkeep _ (by simp <;> omega) (not_own hown _ (by simp))).trans (heap_alloc2_old _ _ _)
                    have HPB := Lib.hid hpb
                    clear hpb hkeep
                    go_wp2_with (at_builtin; refine appK rfl (.tmp 70) _ rfl _ [61, bt hexL dd, bt hexL mo] hown2 HPB.out rfl rfl HLL.out ?_; intro v3 w3 hown3 _)
                    go_roundw
                    case rel => exact ⟨k + 1, (piece (L s) k).length, o ++ [61, 13, 10] ++ piece (L s) k, by omega, by go_num, by omega, by rw [HPC.out]; rfl, HO.out, by rw [HPC.out]; exact hown3⟩
                    case measure => simp [intOf]; omega
                  · rw [quo_short (L s) k m hlt hc hn] at ho
                    have HO : Hid ((o ++ piece (L s) k) ++ quo ((L s).drop (k + 1)) false (m + (piece (L s) k).length) = quoted (L s)) := Lib.hid (by rw [← ho]; simp)
                    clear ho
                    rw [HPC.out] at hn
                    have HLS : Hid (o.length + ([61, bt hexL dd, bt hexL mo]).length ≤ 140737488355328) := Lib.hid (by simp; omega)
                    have hn2 : ¬ (75 : Int) < (m : Int) + 3 := by simp at hn; omega
                    have hn3 : m + 3 ≤ 75 := by omega
                    have HLN : Hid ((piece (L s) k).length = 3) := Lib.hid (by rw [HPC.out]; rfl)
                    clear hn
                    go_wp2_with fail
                    refine (breaks_any s k _ (by omega) (by omega)).mono ?_
                    rintro e wA ⟨rfl, rfl⟩
                    go_wp2_with fail
                    refine (breaks_any s (k + 1) _ (by omega) (by omega)).mono ?_
                    rintro e wB ⟨rfl, rfl⟩
                    go_wp2_with fail
                    go_region
                    go_wp2_with (first | (go_at_call 39; refine (white_any _ _ (by omega) (by omega)).mono ?_; rintro e wC ⟨rfl, rfl⟩) | (at_builtin; refine appK rfl (.tmp 70) _ rfl _ [61, bt hexL dd, bt hexL mo] ((hown.alloc _).drew) (heap_alloc_new _ _) rfl rfl HLS.out ?_; intro v2 w2 hown2 _))
                    go_roundw
                    case rel => exact ⟨k + 1, m + (piece (L s) k).length, o ++ piece (L s) k, by omega, by go_num, by have := HLN.out; omega, by rw [HPC.out]; go_num, HO.out, by rw [HPC.out]; exact hown2⟩
                    case measure => simp [intOf]; omega
              · have hbl : blankI (bt (L s) k).toNat = false := by unfold blankI; simp; omega
                have hpz : (bareI (bt (L s) k).toNat || (blankI (bt (L s) k).toNat && (!((L s).drop (k + 1)).isEmpty && !Lib.hasPrefix ((L s).drop (k + 1)) [13, 10]))) = false := by rw [hba, hbl]; rfl
                have HPC : Hid (piece (L s) k = [61, bt hexL dd, bt hexL mo]) := Lib.hid ((pieceOf_coded _ _ hpz).trans HCD.out)
                clear hpz
                by_cases hn : 75 < m + (piece (L s) k).length
                · rw [quo_long (L s) k m hlt hc hn] at ho
                  have HO : Hid ((o ++ [61, 13, 10] ++ piece (L s) k) ++ quo ((L s).drop (k + 1)) false (piece (L s) k).length = quoted (L s)) := Lib.hid (by rw [← ho]; simp)
                  clear ho
                  rw [HPC.out] at hn
                  have HL3 : Hid (o.length + ([61, 13, 10] : List UInt8).length ≤ 140737488355328) := Lib.hid (by simp; omega)
                  have HLL : Hid ((o ++ [61, 13, 10]).length + ([61, bt hexL dd, bt hexL mo]).length ≤ 140737488355328) := Lib.hid (by rw [List.length_append]; simp; omega)
                  have hn2 : (75 : Int) < (m : Int) + 3 := by simp at hn; omega
                  clear hn
                  go_wp2_with fail
                  refine (breaks_any s k _ (by omega) (by omega)).mono ?_
                  rintro e wA ⟨rfl, rfl⟩
                  go_wp2_with fail
                  refine (breaks_any s (k + 1) _ (by omega) (by omega)).mono ?_
                  rintro e wB ⟨rfl, rfl⟩
                  go_wp2_with fail
                  go_region
                  go_wp2_with (first | (go_at_call 39; refine (white_any _ _ (by omega) (by omega)).mono ?_; rintro e wC ⟨rfl, rfl⟩) | (at_builtin; refine appK rfl (.tmp 67) _ rfl _ [61, 13, 10] (((hown.alloc _).alloc _).drew) (heap_alloc2_new _ _ _) rfl rfl HL3.out ?_; intro v2 w2 hown2 hkeep; refine Hid.out ?_))
                  refine Lib.hid ?_
                  have hpb := (hkeep _ (by simp <;> omega) (not_own hown _ (by simp))).trans (heap_alloc2_old _ _ _)
                  have HPB := Lib.hid hpb
                  clear hpb hkeep
                  go_wp2_with (at_builtin; refine appK rfl (.tmp 70) _ rfl _ [61, bt hexL dd, bt hexL mo] hown2 HPB.out rfl rfl HLL.out ?_; intro v3 w3 hown3 _)
                  go_roundw
                  case rel => exact ⟨k + 1, (piece (L s) k).length, o ++ [61, 13, 10] ++ piece (L s) k, by omega, by go_num, by omega, by rw [HPC.out]; rfl, HO.out, by rw [HPC.out]; exact hown3⟩
                  case measure => simp [intOf]; omega
                · rw [quo_short (L s) k m hlt hc hn] at ho
                  have HO : Hid ((o ++ piece (L s) k) ++ quo ((L s).drop (k + 1)) false (m + (piece (L s) k).length) = quoted (L s)) := Lib.hid (by rw [← ho]; simp)
                  clear ho
                  rw [HPC.out] at hn
                  have HLS : Hid (o.length + ([61, bt hexL dd, bt hexL mo]).length ≤ 140737488355328) := Lib.hid (by simp; omega)
                  have hn2 : ¬ (75 : Int) < (m : Int) + 3 := by simp at hn; omega
                  have hn3 : m + 3 ≤ 75 := by omega
                  have HLN : Hid ((piece (L s) k).length = 3) := Lib.hid (by rw [HPC.out]; rfl)
                  clear hn
                  go_wp2_with fail
                  refine (breaks_any s k _ (by omega) (by omega)).mono ?_
                  rintro e wA ⟨rfl, rfl⟩
                  go_wp2_with fail
                  refine (breaks_any s (k + 1) _ (by omega) (by omega)).mono ?_
                  rintro e wB ⟨rfl, rfl⟩
                  go_wp2_with fail
                  go_region
                  go_wp2_with (first | (go_at_call 39; refine (white_any _ _ (by omega) (by omega)).mono ?_; rintro e wC ⟨rfl, rfl⟩) | (at_builtin; refine appK rfl (.tmp 70) _ rfl _ [61, bt hexL dd, bt hexL mo] ((hown.alloc _).drew) (heap_alloc_new _ _) rfl rfl HLS.out ?_; intro v2 w2 hown2 _))
                  go_roundw
                  case rel => exact ⟨k + 1, m + (piece (L s) k).length, o ++ piece (L s) k, by omega, by go_num, by have := HLN.out; omega, by rw [HPC.out]; go_num, HO.out, by rw [HPC.out]; exact hown2⟩
                  case measure => simp [intOf]; omega
              · have hbl : blankI (bt (L s) k).toNat = false := by unfold blankI; simp; omega
                have hpz : (bareI (bt (L s) k).toNat || (blankI (bt (L s) k).toNat && (!((L s).drop (k + 1)).isEmpty && !Lib.hasPrefix ((L s).drop (k + 1)) [13, 10]))) = false := by rw [hba, hbl]; rfl
                have x4 : (((bt (L s) k).toNat : Int) != 61) = false := by simp [x3]
                clear x3
                have HPC : Hid (piece (L s) k = [61, bt hexL dd, bt hexL mo]) := Lib.hid ((pieceOf_coded _ _ hpz).trans HCD.out)
                clear hpz
                by_cases hn : 75 < m + (piece (L s) k).length
                · rw [quo_long (L s) k m hlt hc hn] at ho
                  have HO : Hid ((o ++ [61, 13, 10] ++ piece (L s) k) ++ quo ((L s).drop (k + 1)) false (piece (L s) k).length = quoted (L s)) := Lib.hid (by rw [← ho]; simp)
                  clear ho
                  rw [HPC.out] at hn
                  have HL3 : Hid (o.length + ([61, 13, 10] : List UInt8).length ≤ 140737488355328) := Lib.hid (by simp; omega)
                  have HLL : Hid ((o ++ [61, 13, 10]).length + ([61, bt hexL dd, bt hexL mo]).length ≤ 140737488355328) := Lib.hid (by rw [List.length_append]; simp; omega)
                  have hn2 : (75 : Int) < (m : Int) + 3 := by simp at hn; omega
                  clear hn
                  go_wp2_with fail
                  refine (breaks_any s k _ (by omega) (by omega)).mono ?_
                  rintro e wA ⟨rfl, rfl⟩
                  go_wp2_with fail
                  refine (breaks_any s (k + 1) _ (by omega) (by omega)).mono ?_
                  rintro e wB ⟨rfl, rfl⟩
                  go_wp2_with fail
                  go_region
                  go_wp2_with (first | (go_at_call 39; refine (white_any _ _ (by omega) (by omega)).mono ?_; rintro e wC ⟨rfl, rfl⟩) | (at_builtin; refine appK rfl (.tmp 67) _ rfl _ [61, 13, 10] (((hown.alloc _).alloc _).drew) (heap_alloc2_new _ _ _) rfl rfl HL3.out ?_; intro v2 w2 hown2 hkeep; refine Hid.out ?_))
                  refine Lib.hid ?_
                  have hpb := (hkeep _ (by simp <;> omega) (not_own hown _ (by simp))).trans (heap_alloc2_old _ _ _)
                  have HPB := Lib.hid hpb
                  clear hpb hkeep
                  go_wp2_with (at_builtin; refine appK rfl (.tmp 70) _ rfl _ [61, bt hexL dd, bt hexL mo] hown2 HPB.out rfl rfl HLL.out ?_; intro v3 w3 hown3 _)
                  go_roundw
                  case rel => exact ⟨k + 1, (piece (L s) k).length, o ++ [61, 13, 10] ++ piece (L s) k, by omega, by go_num, by omega, by rw [HPC.out]; rfl, HO.out, by rw [HPC.out]; exact hown3⟩
                  case measure => simp [intOf]; omega
                · rw [quo_short (L s) k m hlt hc hn] at ho
                  have HO : Hid ((o ++ piece (L s) k) ++ quo ((L s).drop (k + 1)) false (m + (piece (L s) k).length) = quoted (L s)) := Lib.hid (by rw [← ho]; simp)
                  clear ho
                  rw [HPC.out] at hn
                  have HLS : Hid (o.length + ([61, bt hexL dd, bt hexL mo]).length ≤ 140737488355328) := Lib.hid (by simp; omega)
                  have hn2 : ¬ (75 : Int) < (m : Int) + 3 := by simp at hn; omega
                  have hn3 : m + 3 ≤ 75 := by omega
                  have HLN : Hid ((piece (L s) k).length = 3) := Lib.hid (by rw [HPC.out]; rfl)
                  clear hn
                  go_wp2_with fail
                  refine (breaks_any s k _ (by omega) (by omega)).mono ?_
                  rintro e wA ⟨rfl, rfl⟩
                  go_wp2_with fail
                  refine (breaks_any s (k + 1) _ (by omega) (by omega)).mono ?_
                  rintro e wB ⟨rfl, rfl⟩
                  go_wp2_with fail
                  go_region
                  go_wp2_with (first | (go_at_call 39; refine (white_any _ _ (by omega) (by omega)).mono ?_; rintro e wC ⟨rfl, rfl⟩) | (at_builtin; refine appK rfl (.tmp 70) _ rfl _ [61, bt hexL dd, bt hexL mo] ((hown.alloc _).drew) (heap_alloc_new _ _) rfl rfl HLS.out ?_; intro v2 w2 hown2 _))
                  go_roundw
                  case rel => exact ⟨k + 1, m + (piece (L s) k).length, o ++ piece (L s) k, by omega, by go_num, by have := HLN.out; omega, by rw [HPC.out]; go_num, HO.out, by rw [HPC.out]; exact hown2⟩
                  case measure => simp [intOf]; omega
    · have hd : (L s).drop k = [] := List.drop_eq_nil_of_le (by rw [L_length]; omega)
      rw [hd, quo, List.append_nil] at ho
      subst ho
      have hcv := hown.back
      clear hd
      go_wp2
      go_ret
      exact ⟨rfl, hown.below⟩
end Go.Proofs.YtclegocofiigiabDoor
