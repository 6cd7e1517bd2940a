/- The statement OctetPads: the walk. -/
import Derived.Test.YtclegocofiigiaaDoorLi
import Derived.Test.YtclegocofiigiaaDoorQb
namespace Go.Proofs.YtclegocofiigiaaDoor
open Go.RowKit Go.Shelf

theorem pd_len (pad q : List UInt8) : (pd pad q).length ≤ (pad.length + 1) * q.length := by
  induction q with
  | nil => simp [pd]
  | cons c r ih =>
    have : pd pad (c :: r) = (if c = 13 then pad ++ [c] else [c]) ++ pd pad r := rfl
    rw [this, List.length_append, List.length_cons, Nat.mul_succ]
    have h : (if c = 13 then pad ++ [c] else [c]).length ≤ pad.length + 1 := by split <;> simp
    omega

set_option maxHeartbeats 1000000 in
theorem OctetPads_walk (s t : ByteArray) (w : World) (he : Env w) :
    Calls Tryd.prog 4 #[.string s, .string t] w fun e w' => e = .returned (.bool true) ∧ Below w.heap.size w w' := by
  by_cases hs : s.size ≤ 20000
  · by_cases ht : t.size ≤ 9
    · have hql := quo_len (L s) false 0
      rw [L_length] at hql
      change (quoted (L s)).length ≤ _ at hql
      have hpb := fun hp => pad_back (L t) (L s) hp
      have hQ := Lib.hid (fun W => Quoted_any s W (by omega))
      generalize quoted (L s) = q at *
      have hpl := pd_len (L t) q
      rw [L_length] at hpl
      have hpl2 : (pd (L t) q).length ≤ 1200000 := by
        have : (t.size + 1) * q.length ≤ 10 * 120000 := Nat.mul_le_mul (by omega) (by omega)
        omega
      have HPB := Lib.hid hpb
      have HQL : Hid ((S q).size ≤ 120000) := Lib.hid (by rw [S_size]; omega)
      clear hpb hpl hql
      go_enter Tryd.func4, Tryd.ntmps4
      go_wp2
      go_loop [5] (fun i => ∃ k : Nat, k ≤ t.size ∧ i = .int .i64 k ∧ allBlank ((L t).take k)) (fun i => t.size - (intOf i).toNat)
      case atStart => exact ⟨0, Nat.zero_le _, rfl, noBlank⟩
      case round =>
        obtain ⟨k, hk, rfl, hall⟩ := hrel
        by_cases hlt : k < t.size
        · have ea := get_bt t k hlt
          have c0 : (bt (L t) k).toNat < 256 := bt_lt _ _
          cases hb : blankI (bt (L t) k).toNat with
          | true =>
            have HA : Hid (allBlank ((L t).take (k + 1))) := Lib.hid (by
              rw [take_snoc (L t) k hlt]
              intro c hc
              rcases List.mem_append.1 hc with hc | hc
              · exact hall c hc
              · simp at hc; subst hc; exact hb)
            clear hall
            by_cases h32 : ((bt (L t) k).toNat : Int) = 32
            · have n32 : (((bt (L t) k).toNat : Int) != 32) = false := by simp [h32]
              clear h32
              go_wp2
              go_round
              case rel => exact ⟨k + 1, by omega, by go_num, HA.out⟩
              case measure => simp [intOf]; omega
            · have n32 : (((bt (L t) k).toNat : Int) != 32) = true := by simpa using h32
              have n9 : (((bt (L t) k).toNat : Int) != 9) = false := by
                unfold blankI at hb; simp at hb; simp; omega
              clear h32
              go_wp2
              go_round
              case rel => exact ⟨k + 1, by omega, by go_num, HA.out⟩
              case measure => simp [intOf]; omega
          | false =>
            have n32 : (((bt (L t) k).toNat : Int) != 32) = true := by
              unfold blankI at hb; simp at hb; simp; omega
            have n9 : (((bt (L t) k).toNat : Int) != 9) = true := by
              unfold blankI at hb; simp at hb; simp; omega
            go_wp2
            go_ret
            exact ⟨rfl, Below.refl _ _⟩
        · rw [List.take_of_length_le (by rw [L_length]; omega)] at hall
          have hfin := HPB.out hall
          have HF := Lib.hid hfin
          clear hfin hall HPB
          go_wp2_with (go_at_call 14; refine (hQ.out _).mono ?_; rintro e w1 ⟨rfl, hb1⟩)
          go_loopw [7, 8] (fun v i wr => ∃ m : Nat, m ≤ (S q).size ∧ i = .int .i64 m ∧ Own w1.heap.size v (pd (L t) (q.take m)) w1 wr) (fun _ i _ => (S q).size - (intOf i).toNat)
          case atStart => exact ⟨0, Nat.zero_le _, rfl, Own.nil (Below.refl _ _) (Nat.le_refl _)⟩
          case round =>
            obtain ⟨m, hm, rfl, hown⟩ := hrel
            have hq1 := HQL.out
            by_cases hltm : m < (S q).size
            · have eb := get_bt (S q) m hltm
              rw [L_S] at eb
              have c1 : (bt q m).toNat < 256 := bt_lt _ _
              have hts := take_snoc q m hltm
              have hol : (pd (L t) (q.take m)).length ≤ 1200000 := by
                have h1 : q = q.take m ++ q.drop m := (List.take_append_drop m q).symm
                have h2 : (pd (L t) q).length = (pd (L t) (q.take m)).length + (pd (L t) (q.drop m)).length := by
                  rw [← List.length_append, ← pd_append, List.take_append_drop]
                omega
              by_cases h13 : bt q m = 13
              · have n13 : (((bt q m).toNat : Int) == 13) = true := by rw [h13]; rfl
                have HE : Hid (pd (L t) (q.take (m + 1)) = pd (L t) (q.take m) ++ L t ++ [bt q m]) := Lib.hid (by
                  rw [hts, pd_append, h13, pd_cr]; simp [pd])
                clear hts h13
                generalize pd (L t) (q.take m) = o at *
                have hl1 : o.length + t.size ≤ 140737488355328 := by omega
                have HL2 : Hid ((o ++ L t).length + 1 ≤ 140737488355328) := Lib.hid (by rw [List.length_append, L_length]; omega)
                go_wp2_with (first | (at_builtin; refine appS rfl _ _ rfl t hown rfl rfl hl1 ?_; intro v2 w2 hown2) | (at_builtin; refine app1 rfl _ _ rfl _ (bt q m) hown2 rfl rfl rfl HL2.out ?_; intro v3 w3 hown3))
                go_roundw
                case rel => exact ⟨m + 1, by omega, by go_num, by rw [HE.out]; exact hown3⟩
                case measure => simp [intOf]; omega
              · have n13 : (((bt q m).toNat : Int) == 13) = false := by
                  rw [beq_eq_false_iff_ne]
                  intro h
                  exact h13 (UInt8.toNat_inj.1 (by have : (13 : UInt8).toNat = 13 := rfl
                                                   omega))
                have HE : Hid (pd (L t) (q.take (m + 1)) = pd (L t) (q.take m) ++ [bt q m]) := Lib.hid (by
                  rw [hts, pd_append, pd_cons _ _ _ h13]; rfl)
                clear hts h13
                generalize pd (L t) (q.take m) = o at *
                have hl1 : o.length + 1 ≤ 140737488355328 := by omega
                go_wp2_with (at_builtin; refine app1 rfl _ _ rfl _ (bt q m) hown rfl rfl rfl hl1 ?_; intro v3 w3 hown3)
                go_roundw
                case rel => exact ⟨m + 1, by omega, by go_num, by rw [HE.out]; exact hown3⟩
                case measure => simp [intOf]; omega
            · rw [List.take_of_length_le (by have := S_size q; omega)] at hown
              have HFQ := HF.out
              have hsz : (S (pd (L t) q ++ L t)).size ≤ 10000000 := by rw [S_size, List.length_append, L_length]; omega
              have hFQ := Lib.hid (fun W => FromQuoted_any (S (pd (L t) q ++ L t)) W hsz)
              rw [L_S, HFQ] at hFQ
              clear HFQ HF
              have hl1 : (pd (L t) q).length + t.size ≤ 140737488355328 := by omega
              have HL1 := Lib.hid hl1
              clear hl1
              generalize pd (L t) q = o at *
              have hss : ((S (L s)).toList == s.toList) = true := by rw [toList_L]; show (L s == s.toList) = true; rw [toList_L]; simp
              go_wp2_with (first | (at_builtin; refine appS rfl _ _ rfl t hown rfl rfl HL1.out ?_; intro v2 w2 hown2; have hcv := hown2.back) | (go_at_call 15; refine (hFQ.out _).mono ?_; rintro e w3 ⟨rfl, hb3⟩) | (go_at_call 13; refine (known_any _ (((he.on hb1).on hown2.below).on hb3)).mono ?_; rintro e w4 ⟨rfl, hb4⟩))
              have q2 := hb1.trans (hown2.below.mono hb1.size)
              have q3 := q2.trans (hb3.mono q2.size)
              have q4 := q3.trans (hb4.mono q3.size)
              go_ret
              exact ⟨rfl, q4⟩
    · go_enter Tryd.func4, Tryd.ntmps4
      go_wp2
      go_ret
      exact ⟨rfl, Below.refl _ _⟩
  · go_enter Tryd.func4, Tryd.ntmps4
    go_wp2
    go_ret
    exact ⟨rfl, Below.refl _ _⟩
end Go.Proofs.YtclegocofiigiaaDoor
