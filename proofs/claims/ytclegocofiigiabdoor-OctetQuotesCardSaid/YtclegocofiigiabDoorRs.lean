/- postbagref1: FromQuoted. -/
import Derived.Test.YtclegocofiigiabDoorRq
namespace Go.Proofs.YtclegocofiigiabDoor
open Go.RowKit Go.Shelf

/-- out = append(out, c) at a step of a region that draws its order. -/
theorem stp1 {ops : Array Oper} {o : Oper} {a : Act} {K : Act → World → Prop} {Q : Exit → Act → World → Prop} {E : Prop} (hgd : o.guard = none) (s x : Operand)
    (ho : o.op = .call { callee := .builtin .append, args := #[s, x], argTypes := #[44, 44] })
    {B : Nat} {v : Value} {l : List UInt8} {W0 w : World} (g : Nat) (b : UInt8) (hown : Own B v l W0 w) (hg2 : w.heap[g]? = some (.cells #[.int .u8 (b.toNat : Int)] 5 (0, 0))) (hs : a.eval s = v) (hx : a.eval x = .slice (some ⟨g, 0, none⟩) 1 1)
    (hlen : l.length + 1 ≤ 140737488355328)
    (h : ∀ v' w', Own B v' (l ++ [b]) W0 w' → K (a.put o.dst v') w') : if Region.wanted o (yielded ops a.tmps) = true then Oper.wp Tryd.prog o a w K Q else E := by
  obtain ⟨i0, hi, hz0, hz1, hz2⟩ := info_parts Tryd.infoByte
  refine step_append_lies _ hgd s x 44 ho B 5 i0 (.int .u8 0) 1 1 Tryd.underlying44 hi hz0 hz1 hz2 rfl (by decide) v l.length (bc l) hs hown.row ⟨g, 0, none⟩ 1 1 [.int .u8 (b.toNat : Int)] hx rfl ?_ ?_ (by decide) (by unfold maxLen; omega) (by omega) hown.base _ rfl ?_
  · intro j u hj
    match j, hj with
    | 0, hj => simp at hj; subst hj; exact (cell_of_row w g 0 _ _ _ hg2)
    | (j + 1), hj => simp at hj
  · intro u hu; simp at hu; subst hu; rfl
  · intro g' cap w' ho' hg _ _
    refine h _ w' ⟨?_, hown.below.grown hg hown.base (fun k hk => (hown.row.lt k hk).1), Nat.le_trans hown.base hg.size⟩
    rw [List.length_append, bc_append]
    exact ho'

theorem eqRead_hit (l : List UInt8) (i : Nat) (h : i + 2 < l.length) (h0 : hexI (bt l (i + 1)).toNat ≠ -1) (h1 : hexI (bt l (i + 2)).toNat ≠ -1) :
    eqRead (l.drop (i + 1)) = ([UInt8.ofNat (hexI (bt l (i + 1)).toNat * 16 + hexI (bt l (i + 2)).toNat).toNat], 2) := by
  unfold eqRead
  rw [if_pos]
  · rw [bt_drop, bt_drop]
  · rw [bt_drop, bt_drop, List.length_drop]
    exact ⟨by omega, h0, h1⟩

set_option maxHeartbeats 4000000 in
set_option maxRecDepth 100000 in
theorem refFromQuoted_any (s : ByteArray) (w : World) (hs : s.size ≤ 1000000) :
    Calls Tryd.prog 19 #[.string s] w fun e w' => e = .returned (.string (S (fromQuoted (L s)))) ∧ Below w.heap.size w w' := by
  have hq := fq_len (L s) 0
  rw [L_length] at hq
  change (fromQuoted (L s)).length ≤ _ at hq
  go_enter Tryd.func19, Tryd.ntmps19
  go_wp2
  go_loopw [3, 4] (fun v i wr => ∃ (k : Nat) (o : List UInt8), k ≤ s.size ∧ i = .int .i64 k ∧ o ++ fq ((L s).drop k) 0 = fromQuoted (L s) ∧ Own w.heap.size v o w wr) (fun _ i _ => s.size - (intOf i).toNat)
  case atStart => exact ⟨0, [], Nat.zero_le _, rfl, rfl, Own.nil (Below.refl _ _) (Nat.le_refl _)⟩
  case round =>
    obtain ⟨k, o, hk, rfl, ho, hown⟩ := hrel
    have hol : o.length ≤ s.size := by
      have := congrArg List.length ho
      rw [List.length_append] at this
      omega
    have hl1 : o.length + 1 ≤ 140737488355328 := by omega
    by_cases hlt : k < s.size
    · have ea := get_bt s k hlt
      have c0 : (bt (L s) k).toNat < 256 := bt_lt _ _
      by_cases h61 : bt (L s) k = 61
      · have hc : (((bt (L s) k).toNat : Int) == 61) = true := by rw [h61]; rfl
        rw [fq_eq (L s) k hlt h61] at ho
        by_cases hm : k + 2 < (L s).length ∧ hexI (bt (L s) (k + 1)).toNat ≠ -1 ∧ hexI (bt (L s) (k + 2)).toNat ≠ -1
        · obtain ⟨hm0, hm1, hm2⟩ := hm
          rw [eqRead_hit (L s) k hm0 hm1 hm2] at ho
          rw [L_length] at hm0
          have hk1 : k + 1 < s.size := by omega
          have hw1 : IntKind.i64.wrap ((k : Int) + 1) = ((k + 1 : Nat) : Int) := by rw [IntKind.wrap_i64]; omega
          have hw2 : IntKind.i64.wrap ((k : Int) + 2) = ((k + 2 : Nat) : Int) := by rw [IntKind.wrap_i64]; omega
          have l0 := hexI_lo (bt (L s) (k + 1)).toNat
          have l1 := hexI_lo (bt (L s) (k + 2)).toNat
          have u0 := hexI_hi (bt (L s) (k + 1)).toNat
          have u1 := hexI_hi (bt (L s) (k + 2)).toNat
          have hx : IntKind.u8.wrap (16 * hexI (bt (L s) (k + 1)).toNat + hexI (bt (L s) (k + 2)).toNat) = ((UInt8.ofNat (hexI (bt (L s) (k + 1)).toNat * 16 + hexI (bt (L s) (k + 2)).toNat).toNat).toNat : Int) := by
            rw [IntKind.wrap_u8]; simp; omega
          have HO : Hid ((o ++ [UInt8.ofNat (hexI (bt (L s) (k + 1)).toNat * 16 + hexI (bt (L s) (k + 2)).toNat).toNat]) ++ fq ((L s).drop (k + 3)) 0 = fromQuoted (L s)) := Lib.hid (by rw [← ho]; simp)
          have y0 : (0 : Int) ≤ hexI (bt (L s) (k + 1)).toNat := by omega
          have y1 : (0 : Int) ≤ hexI (bt (L s) (k + 2)).toNat := by omega
          have ea1 := get_bt s (k + 1) hk1
          have ea2 := get_bt s (k + 2) hm0
          have c1 : (bt (L s) (k + 1)).toNat < 256 := bt_lt _ _
          have c2 : (bt (L s) (k + 2)).toNat < 256 := bt_lt _ _
          clear ho hm1 hm2
          generalize UInt8.ofNat (hexI (bt (L s) (k + 1)).toNat * 16 + hexI (bt (L s) (k + 2)).toNat).toNat = y at *
          go_wp2_with (go_at_call 43; refine (hex_any _ _ ?_).mono ?_; (first | exact c1 | exact c2); rintro e w' ⟨rfl, rfl⟩)
          obtain ⟨k1, hk1e⟩ : ∃ k1, k1 = k + 1 := ⟨_, rfl⟩
          obtain ⟨k2, hk2e⟩ : ∃ k2, k2 = k + 2 := ⟨_, rfl⟩
          clear ea1 ea2
          rw [← hk1e] at hw1 hk1 c1 hx l0 u0 y0
          rw [← hk2e] at hw2 hm0 c2 hx l1 u1 y1
          have ea1 := get_bt s k1 hk1
          have ea2 := get_bt s k2 hm0
          have HK1 := Lib.hid hk1e
          have HK2 := Lib.hid hk2e
          clear hk1e hk2e
          have hv1 : IntKind.i64.wrap (16 * hexI (bt (L s) k1).toNat) = 16 * hexI (bt (L s) k1).toNat := by rw [IntKind.wrap_i64]; omega
          have hv2 : IntKind.i64.wrap (16 * hexI (bt (L s) k1).toNat + hexI (bt (L s) k2).toNat) = 16 * hexI (bt (L s) k1).toNat + hexI (bt (L s) k2).toNat := by rw [IntKind.wrap_i64]; omega
          go_region_held3 (fun _ => True) (trivial) (first | (go_at_call 43; refine (hex_any _ _ ?_).mono ?_; (first | exact c1 | exact c2); rintro e w' ⟨rfl, rfl⟩) | ((first | refine stp1 (by rfl) _ _ (by rfl) _ y ((hown.alloc _).drew) (heap_alloc_new _ _) (by rfl) (by rfl) hl1 ?_ | refine stp1 (by rfl) _ _ (by rfl) _ y (hown.alloc _) (heap_alloc_new _ _) (by rfl) (by rfl) hl1 ?_); intro v2 w2 hown2))
          all_goals
            go_wp2
            go_roundw
            case rel => exact ⟨k + 3, o ++ [y], by have := HK2.out; omega, by go_num, HO.out, hown2⟩
            case measure => simp [intOf]; have := HK2.out; omega
        · rw [eqRead_miss (L s) k hm hlt, L_length] at ho
          have hp := past_le (L s) (k + 1) (by rw [L_length]; omega)
          rw [L_length] at hp hm
          have hge : k + 1 ≤ past (L s) (k + 1) := by unfold past; omega
          have hBh := Lib.hid (fun W => behind_any s (k + 1) W (by omega) (by omega))
          generalize past (L s) (k + 1) = q at *
          by_cases hlen : k + 2 < s.size
          · have hk1 : k + 1 < s.size := by omega
            have ea1 := get_bt s (k + 1) hk1
            have ea2 := get_bt s (k + 2) hlen
            have c1 : (bt (L s) (k + 1)).toNat < 256 := bt_lt _ _
            have c2 : (bt (L s) (k + 2)).toNat < 256 := bt_lt _ _
            have l0 := hexI_lo (bt (L s) (k + 1)).toNat
            have l1 := hexI_lo (bt (L s) (k + 2)).toNat
            have u0 := hexI_hi (bt (L s) (k + 1)).toNat
            have u1 := hexI_hi (bt (L s) (k + 2)).toNat
            by_cases z0 : hexI (bt (L s) (k + 1)).toNat = -1
            · have z0' : ¬ (0 : Int) ≤ hexI (bt (L s) (k + 1)).toNat := by omega
              clear hm z0
              by_cases hq2 : s.size ≤ q
              · rw [if_pos hq2] at ho
                have HO : Hid (o ++ fq ((L s).drop q) 0 = fromQuoted (L s)) := Lib.hid (by rw [← ho]; simp; congr 3; omega)
                clear ho
                have hE : (decide (s.size ≤ q) || crlf (L s) q) = true := by simp [hq2]
                rw [hE] at hBh
                have hqs : ¬ (q : Int) < (s.size : Int) := by omega
                clear hE
                go_wp2_with (first | (go_at_call 43; refine (hex_any _ _ ?_).mono ?_; (first | exact c1 | exact c2); rintro e w' ⟨rfl, rfl⟩) | (go_at_call 44; refine (hBh.out _).mono ?_; rintro e w' ⟨rfl, rfl⟩))
                go_roundw
                case rel => exact ⟨q, o, hp, rfl, by have := HO.out; simpa using this, hown⟩
                case measure => simp [intOf]; omega
              · rw [if_neg hq2] at ho
                cases hcr : crlf (L s) q with
                | true =>
                  have hq3 := crlf_lt (L s) q hcr
                  rw [L_length] at hq3
                  rw [hcr, if_pos rfl] at ho
                  have e9 : k + 1 + (q + 2 - (k + 1)) = q + 2 := by omega
                  have HO : Hid (o ++ fq ((L s).drop (q + 2)) 0 = fromQuoted (L s)) := Lib.hid (by rw [← ho]; simp only [List.nil_append]; rw [e9])
                  clear e9
                  clear ho
                  have hE : (decide (s.size ≤ q) || crlf (L s) q) = true := by simp [hcr]
                  rw [hE] at hBh
                  clear hE hcr
                  go_wp2_with (first | (go_at_call 43; refine (hex_any _ _ ?_).mono ?_; (first | exact c1 | exact c2); rintro e w' ⟨rfl, rfl⟩) | (go_at_call 44; refine (hBh.out _).mono ?_; rintro e w' ⟨rfl, rfl⟩))
                  go_roundw
                  case rel => exact ⟨q + 2, o, by omega, by go_num, by have := HO.out; simpa using this, hown⟩
                  case measure => simp [intOf]; omega
                | false =>
                  rw [hcr, if_neg (by simp)] at ho
                  have HO : Hid ((o ++ [61]) ++ fq ((L s).drop (k + 1)) 0 = fromQuoted (L s)) := Lib.hid (by rw [← ho]; simp)
                  clear ho
                  have hE : (decide (s.size ≤ q) || crlf (L s) q) = false := by rw [hcr]; simp; omega
                  rw [hE] at hBh
                  clear hE hcr
                  go_wp2_with (first | (go_at_call 43; refine (hex_any _ _ ?_).mono ?_; (first | exact c1 | exact c2); rintro e w' ⟨rfl, rfl⟩) | (go_at_call 44; refine (hBh.out _).mono ?_; rintro e w' ⟨rfl, rfl⟩) | (at_builtin; refine app1 rfl _ _ rfl _ 61 hown rfl rfl rfl hl1 ?_; intro v2 w2 hown2))
                  go_roundw
                  case rel => exact ⟨k + 1, o ++ [61], by omega, by go_num, HO.out, hown2⟩
                  case measure => simp [intOf]; omega
            · have z0' : (0 : Int) ≤ hexI (bt (L s) (k + 1)).toNat := by omega
              have z1' : ¬ (0 : Int) ≤ hexI (bt (L s) (k + 2)).toNat := by
                have : hexI (bt (L s) (k + 2)).toNat = -1 := by
                  by_cases z1 : hexI (bt (L s) (k + 2)).toNat = -1
                  · exact z1
                  · exact absurd ⟨hlen, z0, z1⟩ hm
                omega
              clear hm z0
              by_cases hq2 : s.size ≤ q
              · rw [if_pos hq2] at ho
                have HO : Hid (o ++ fq ((L s).drop q) 0 = fromQuoted (L s)) := Lib.hid (by rw [← ho]; simp; congr 3; omega)
                clear ho
                have hE : (decide (s.size ≤ q) || crlf (L s) q) = true := by simp [hq2]
                rw [hE] at hBh
                have hqs : ¬ (q : Int) < (s.size : Int) := by omega
                clear hE
                go_wp2_with (first | (go_at_call 43; refine (hex_any _ _ ?_).mono ?_; (first | exact c1 | exact c2); rintro e w' ⟨rfl, rfl⟩) | (go_at_call 44; refine (hBh.out _).mono ?_; rintro e w' ⟨rfl, rfl⟩))
                go_roundw
                case rel => exact ⟨q, o, hp, rfl, by have := HO.out; simpa using this, hown⟩
                case measure => simp [intOf]; omega
              · rw [if_neg hq2] at ho
                cases hcr : crlf (L s) q with
                | true =>
                  have hq3 := crlf_lt (L s) q hcr
                  rw [L_length] at hq3
                  rw [hcr, if_pos rfl] at ho
                  have e9 : k + 1 + (q + 2 - (k + 1)) = q + 2 := by omega
                  have HO : Hid (o ++ fq ((L s).drop (q + 2)) 0 = fromQuoted (L s)) := Lib.hid (by rw [← ho]; simp only [List.nil_append]; rw [e9])
                  clear e9
                  clear ho
                  have hE : (decide (s.size ≤ q) || crlf (L s) q) = true := by simp [hcr]
                  rw [hE] at hBh
                  clear hE hcr
                  go_wp2_with (first | (go_at_call 43; refine (hex_any _ _ ?_).mono ?_; (first | exact c1 | exact c2); rintro e w' ⟨rfl, rfl⟩) | (go_at_call 44; refine (hBh.out _).mono ?_; rintro e w' ⟨rfl, rfl⟩))
                  go_roundw
                  case rel => exact ⟨q + 2, o, by omega, by go_num, by have := HO.out; simpa using this, hown⟩
                  case measure => simp [intOf]; omega
                | false =>
                  rw [hcr, if_neg (by simp)] at ho
                  have HO : Hid ((o ++ [61]) ++ fq ((L s).drop (k + 1)) 0 = fromQuoted (L s)) := Lib.hid (by rw [← ho]; simp)
                  clear ho
                  have hE : (decide (s.size ≤ q) || crlf (L s) q) = false := by rw [hcr]; simp; omega
                  rw [hE] at hBh
                  clear hE hcr
                  go_wp2_with (first | (go_at_call 43; refine (hex_any _ _ ?_).mono ?_; (first | exact c1 | exact c2); rintro e w' ⟨rfl, rfl⟩) | (go_at_call 44; refine (hBh.out _).mono ?_; rintro e w' ⟨rfl, rfl⟩) | (at_builtin; refine app1 rfl _ _ rfl _ 61 hown rfl rfl rfl hl1 ?_; intro v2 w2 hown2))
                  go_roundw
                  case rel => exact ⟨k + 1, o ++ [61], by omega, by go_num, HO.out, hown2⟩
                  case measure => simp [intOf]; omega
          · clear hm
            by_cases hq2 : s.size ≤ q
            · rw [if_pos hq2] at ho
              have HO : Hid (o ++ fq ((L s).drop q) 0 = fromQuoted (L s)) := Lib.hid (by rw [← ho]; simp; congr 3; omega)
              clear ho
              have hE : (decide (s.size ≤ q) || crlf (L s) q) = true := by simp [hq2]
              rw [hE] at hBh
              have hqs : ¬ (q : Int) < (s.size : Int) := by omega
              clear hE
              go_wp2_with (first | (go_at_call 44; refine (hBh.out _).mono ?_; rintro e w' ⟨rfl, rfl⟩))
              go_roundw
              case rel => exact ⟨q, o, hp, rfl, by have := HO.out; simpa using this, hown⟩
              case measure => simp [intOf]; omega
            · rw [if_neg hq2] at ho
              cases hcr : crlf (L s) q with
              | true =>
                have hq3 := crlf_lt (L s) q hcr
                rw [L_length] at hq3
                exfalso; omega
              | false =>
                rw [hcr, if_neg (by simp)] at ho
                have HO : Hid ((o ++ [61]) ++ fq ((L s).drop (k + 1)) 0 = fromQuoted (L s)) := Lib.hid (by rw [← ho]; simp)
                clear ho
                have hE : (decide (s.size ≤ q) || crlf (L s) q) = false := by rw [hcr]; simp; omega
                rw [hE] at hBh
                clear hE hcr
                go_wp2_with (first | (go_at_call 44; refine (hBh.out _).mono ?_; rintro e w' ⟨rfl, rfl⟩) | (at_builtin; refine app1 rfl _ _ rfl _ 61 hown rfl rfl rfl hl1 ?_; intro v2 w2 hown2))
                go_roundw
                case rel => exact ⟨k + 1, o ++ [61], by omega, by go_num, HO.out, hown2⟩
                case measure => simp [intOf]; omega
      · have hc : (((bt (L s) k).toNat : Int) == 61) = false := by
          rw [beq_eq_false_iff_ne]
          intro h
          exact h61 (UInt8.toNat_inj.1 (by have : (61 : UInt8).toNat = 61 := rfl
                                           omega))
        cases hb : blankI (bt (L s) k).toNat with
        | false =>
          rw [fq_other (L s) k hlt h61 hb] at ho
          have HO : Hid ((o ++ [bt (L s) k]) ++ fq ((L s).drop (k + 1)) 0 = fromQuoted (L s)) := Lib.hid (by rw [← ho]; simp)
          clear ho h61
          go_wp2_with (first | (go_at_call 39; refine (white_any _ _ (by omega) (by omega)).mono ?_; rintro e w' ⟨rfl, rfl⟩) | (at_builtin; refine app1 rfl _ _ rfl _ (bt (L s) k) hown rfl rfl rfl hl1 ?_; intro v' w2 hown2))
          go_roundw
          case rel => exact ⟨k + 1, o ++ [bt (L s) k], by omega, by go_num, HO.out, hown2⟩
          case measure => simp [intOf]; omega
        | true =>
          have hp := past_le (L s) k (by rw [L_length]; omega)
          rw [L_length] at hp
          have hgt : k < past (L s) k := by rw [past_blank (L s) k hlt hb]; omega
          have hBh := Lib.hid (fun W => behind_any s k W (by omega) (by omega))
          have hgone := fun he => fq_gone (L s) k hlt h61 hb he
          have hkept := fun h1 h2 => fq_kept (L s) k hlt h61 hb h1 h2
          generalize past (L s) k = q at *
          clear h61
          cases hE : (decide (s.size ≤ q) || crlf (L s) q) with
          | true =>
            rw [hE] at hBh
            rw [hgone (by rw [Bool.or_eq_true] at hE; rcases hE with h | h; exact .inl (by rw [L_length]; simpa using h); exact .inr h)] at ho
            have HO := Lib.hid ho
            clear hgone hkept ho hE
            go_wp2_with (first | (go_at_call 39; refine (white_any _ _ (by omega) (by omega)).mono ?_; rintro e w' ⟨rfl, rfl⟩) | (go_at_call 44; refine (hBh.out _).mono ?_; rintro e w' ⟨rfl, rfl⟩))
            go_roundw
            case rel => exact ⟨q, o, by omega, rfl, HO.out, hown⟩
            case measure => simp [intOf]; omega
          | false =>
            rw [hE] at hBh
            rw [Bool.or_eq_false_iff] at hE
            have hq2 : q < s.size := by have := hE.1; simp at this; exact this
            rw [hkept hq2 hE.2] at ho
            have HO : Hid ((o ++ ((L s).drop k).take (q - k)) ++ fq ((L s).drop q) 0 = fromQuoted (L s)) := Lib.hid (by rw [← ho]; simp)
            have hl : (((L s).drop k).take (q - k)).length ≤ s.size := by rw [List.length_take, List.length_drop, L_length]; omega
            have HL4 : Hid (o.length + (S (((L s).drop k).take (q - k))).size ≤ 140737488355328) := Lib.hid (by rw [S_size]; omega)
            have hex := extract_S s k q
            generalize ((L s).drop k).take (q - k) = pc at *
            clear hgone hkept ho hl hE
            go_wp2_with (first | (go_at_call 39; refine (white_any _ _ (by omega) (by omega)).mono ?_; rintro e w' ⟨rfl, rfl⟩) | (go_at_call 44; refine (hBh.out _).mono ?_; rintro e w' ⟨rfl, rfl⟩) | (at_builtin; refine appS rfl _ _ rfl (S pc) hown rfl rfl HL4.out ?_; intro v' w2 hown2))
            go_roundw
            case rel => exact ⟨q, o ++ pc, by omega, rfl, HO.out, hown2⟩
            case measure => simp [intOf]; omega
    · have hd : (L s).drop k = [] := List.drop_eq_nil_of_le (by rw [L_length]; omega)
      rw [hd, fq, List.append_nil] at ho
      subst ho
      have hcv := hown.back
      clear hd
      go_wp2
      go_ret
      exact ⟨rfl, hown.below⟩
end Go.Proofs.YtclegocofiigiabDoor
