/- The reference: Join. -/
import Derived.Test.YtkclcjnfjielfabDoorYp
import Derived.Test.YtkclcjnfjielfabDoorYd
namespace Go.Proofs.YtkclcjnfjielfabDoor
open Go.RowKit

abbrev RJ := List Rg × Int × Int × Bool
def rjs (st : RJ) (p : Rg) : RJ :=
  if pieceB p = false then st
  else if 0 < p.1 ∧ 0 < p.2 then (putR st.1 (min p.1 p.2, max p.1 p.2), st.2)
  else (st.1, (if 0 < max p.1 p.2 ∧ (st.2.1 = 0 ∨ max p.1 p.2 < st.2.1) then max p.1 p.2 else st.2.1), max st.2.2.1 (max p.1 p.2), true)
def rjf (ps : List Rg) : RJ := ps.foldl rjs ([], 0, 0, false)
theorem rjf_snoc (ps : List Rg) (p : Rg) : rjf (ps ++ [p]) = rjs (rjf ps) p := by simp [rjf]
def rjEnd (st : RJ) : List Rg :=
  if st.2.2.2 = true then (if st.2.1 < st.2.2.1 then putR st.1 (st.2.1, st.2.2.1) else st.1) ++ [(st.2.1, 0)] else (if st.2.1 < st.2.2.1 then putR st.1 (st.2.1, st.2.2.1) else st.1)
structure RJRel (st : RJ) (js : JS) : Prop where
  l : st.1 = tog js.1
  n : (js.2.1 = [] ∧ st.2.1 = 0 ∧ st.2.2.1 = 0 ∧ st.2.2.2 = js.2.2) ∨ (js.2.1 ≠ [] ∧ st.2.1 = Lib.minOf js.2.1 ∧ st.2.2.1 = Lib.maxOf js.2.1 ∧ st.2.2.2 = true)
theorem tog_snoc (l : List Rg) (p : Rg) : tog (l ++ [p]) = putR (tog l) p := by simp [tog]
theorem minOf_snoc (l : List Int) (n : Int) (h : l ≠ []) : Lib.minOf (l ++ [n]) = min (Lib.minOf l) n := by
  cases l with
  | nil => exact absurd rfl h
  | cons a r => unfold Lib.minOf; simp [List.foldl_append]
theorem maxOf_snoc (l : List Int) (n : Int) (h : l ≠ []) : Lib.maxOf (l ++ [n]) = max (Lib.maxOf l) n := by
  cases l with
  | nil => exact absurd rfl h
  | cons a r => unfold Lib.maxOf; simp [List.foldl_append]
theorem minOf_one (n : Int) : Lib.minOf [n] = n := by simp [Lib.minOf]
theorem maxOf_one (n : Int) : Lib.maxOf [n] = n := by simp [Lib.maxOf]
theorem RJRel.next {st : RJ} {js : JS} (h : RJRel st js) (hb : ∀ n ∈ js.2.1, 1 ≤ n ∧ n ≤ 4294967295) (p : Rg) : RJRel (rjs st p) (jst js p) := by
  unfold rjs jst
  by_cases h0 : pieceB p = false
  · rw [if_pos h0, if_pos h0]; exact h
  · rw [if_neg h0, if_neg h0]
    have hp := (pieceB_iff p).1 (by simpa using h0)
    by_cases h1 : p.1 ≠ 0 ∧ p.2 ≠ 0
    · rw [if_pos h1, if_pos (by omega)]
      exact ⟨by show putR st.1 _ = tog (js.1 ++ [_]); rw [tog_snoc, h.l], h.n⟩
    · rw [if_neg h1, if_neg (by omega)]
      by_cases h2 : p.1 ≠ p.2
      · rw [if_pos h2]
        have hn : 0 < max p.1 p.2 := by omega
        refine ⟨h.l, .inr ⟨by simp, ?_, ?_, rfl⟩⟩
        · show (if 0 < max p.1 p.2 ∧ (st.2.1 = 0 ∨ max p.1 p.2 < st.2.1) then max p.1 p.2 else st.2.1) = Lib.minOf (js.2.1 ++ [max p.1 p.2])
          rcases h.n with ⟨g1, g2, _⟩ | ⟨g1, g2, _⟩
          · rw [g1, if_pos ⟨hn, .inl g2⟩, List.nil_append, minOf_one]
          · have gm := (minOf_mem js.2.1 g1).1
            have := hb _ gm
            rw [minOf_snoc _ _ g1, g2]
            split <;> omega
        · show max st.2.2.1 (max p.1 p.2) = Lib.maxOf (js.2.1 ++ [max p.1 p.2])
          rcases h.n with ⟨g1, _, g3, _⟩ | ⟨g1, _, g3, _⟩
          · rw [g1, g3, List.nil_append, maxOf_one]; omega
          · rw [maxOf_snoc _ _ g1, g3]
      · rw [if_neg h2]
        have hn : max p.1 p.2 = 0 := by omega
        refine ⟨h.l, ?_⟩
        rw [hn]
        show (js.2.1 = [] ∧ (if 0 < (0 : Int) ∧ (st.2.1 = 0 ∨ 0 < st.2.1) then 0 else st.2.1) = 0 ∧ max st.2.2.1 0 = 0 ∧ true = true) ∨ (js.2.1 ≠ [] ∧ (if 0 < (0 : Int) ∧ (st.2.1 = 0 ∨ 0 < st.2.1) then 0 else st.2.1) = Lib.minOf js.2.1 ∧ max st.2.2.1 0 = Lib.maxOf js.2.1 ∧ true = true)
        rw [if_neg (by omega)]
        rcases h.n with ⟨g1, g2, g3, _⟩ | ⟨g1, g2, g3, _⟩
        · exact .inl ⟨g1, g2, by omega, rfl⟩
        · have gm := (maxOf_mem js.2.1 g1).1
          have := hb _ gm
          exact .inr ⟨g1, g2, by omega, rfl⟩
theorem rj_rel (ps : List Rg) : RJRel (rjf ps) (jfold ps) := by
  have key : ∀ (n : Nat) (ps : List Rg), ps.length = n → RJRel (rjf ps) (jfold ps) := by
    intro n
    induction n with
    | zero =>
      intro ps h
      obtain rfl := List.eq_nil_of_length_eq_zero h
      exact ⟨rfl, .inl ⟨rfl, rfl, rfl, rfl⟩⟩
    | succ n ih =>
      intro ps h
      have hne : ps ≠ [] := fun e => by rw [e] at h; simp at h
      rw [← List.dropLast_concat_getLast hne, rjf_snoc, jfold_snoc]
      exact (ih ps.dropLast (by rw [List.length_dropLast]; omega)).next (jfold_ok ps.dropLast).2 _
  exact key _ ps rfl
theorem rj_end (ps : List Rg) : rjEnd (rjf ps) = joinS (jfold ps) := by
  have h := rj_rel ps
  unfold rjEnd joinS
  rcases h.n with ⟨g1, g2, g3, g4⟩ | ⟨g1, g2, g3, g4⟩
  · rw [if_pos g1, g2, g3, g4, h.l]
    simp
  · rw [if_neg g1, if_pos g4, g2, g3, h.l]
    unfold starL
    split
    · rw [tog_snoc]
    · rfl
structure RJI (ps : List Rg) (L : List Rg) (lo hi : Int) : Prop where
  ok : okC L
  len : L.length ≤ ps.length
  lo0 : 0 ≤ lo
  lo1 : lo ≤ 4294967295
  hi0 : 0 ≤ hi
  hi1 : hi ≤ 4294967295
  pos : lo < hi → 1 ≤ lo
theorem rj_ok {ps : List Rg} {L : List Rg} {lo hi : Int} {sb : Bool} (h : rjf ps = (L, lo, hi, sb)) : RJI ps L lo hi := by
  have hr := rj_rel ps
  rw [h] at hr
  have hl : L = tog (jfold ps).1 := hr.l
  have ho := jfold_ok ps
  have hln := jfold_length ps
  have e1 : okC L := by rw [hl]; exact (okC_tog ho.1).1
  have e2 : L.length ≤ ps.length := by rw [hl]; exact Nat.le_trans tog_length hln.1
  rcases hr.n with ⟨g1, g2, g3, _⟩ | ⟨g1, g2, g3, _⟩
  · have g2' : lo = 0 := g2
    have g3' : hi = 0 := g3
    exact ⟨e1, e2, by omega, by omega, by omega, by omega, by omega⟩
  · have g2' : lo = Lib.minOf (jfold ps).2.1 := g2
    have g3' : hi = Lib.maxOf (jfold ps).2.1 := g3
    have m1 := ho.2 _ (minOf_mem _ g1).1
    have m2 := ho.2 _ (maxOf_mem _ g1).1
    exact ⟨e1, e2, by omega, by omega, by omega, by omega, fun _ => by omega⟩
theorem pair_eq {p : Rg} {x y : Int} (h1 : p.1 = x) (h2 : p.2 = y) : p = (x, y) := Prod.ext h1 h2
set_option maxRecDepth 100000 in
set_option maxHeartbeats 8000000 in
theorem refJoin_any (v : Value) (ll : List (List Rg)) (w : World) (hr : Sets w v ll) (hl : ll.flatten.length ≤ 1000000) :
    Calls Tryd.prog 24 #[v] w fun e w' => ∃ v', e = .returned v' ∧ OwnR w.heap.size v' (joinL ll) w w' := by
  obtain ⟨ao, cap, hv, hcs⟩ : ∃ ao cap, v = .slice ao ll.length cap ∧ (0 < ll.length → ∃ (b off : Nat) (f : Nat → Value), ao = some ⟨b, off, none⟩ ∧ b < w.heap.size ∧ ∀ i, i < ll.length → w.cell? ⟨b, off + i, none⟩ = some (f i) ∧ Rgs w (f i) (ll.getD i [])) := by
    rcases hr with ⟨rfl, ao, cap, rfl, _⟩ | ⟨b, off, cap, f, rfl, _, h1, h2⟩
    · exact ⟨ao, cap, rfl, fun h => by simp at h⟩
    · exact ⟨_, _, rfl, fun _ => ⟨b, off, f, rfl, h1, h2⟩⟩
  subst hv
  have HCS := Lib.hid hcs
  have hbig : ll.length ≤ 5864062014805 := by
    rcases hr with ⟨rfl, _⟩ | ⟨_, _, _, _, _, h, _⟩
    · simp
    · exact h
  clear hcs hr
  go_enter Tryd.func24, Tryd.ntmps24
  go_wp2_with fail
  go_loopg [3, 4, 5, 6, 7, 8, 9, 10] ll.length (fun gg s3 s4 s5 s6 s7 s8 s9 s10 wr => ∃ (i : Nat) (v3 : Value) (L : List Rg) (lo hi : Int) (sb : Bool) (X : World), X = wr ∧ i ≤ ll.length ∧ ll.length - i ≤ gg ∧ s7 = .int .i64 i ∧ v3 = s3 ∧ s4 = .int .i64 lo ∧ s5 = .int .i64 hi ∧ s6 = .bool sb ∧ Hid (rjf (ll.take i).flatten = (L, lo, hi, sb)) ∧ OwnR w.heap.size v3 L w X)
  case atStart => exact ⟨0, _, [], 0, 0, false, _, rfl, Nat.zero_le _, by omega, rfl, rfl, rfl, rfl, rfl, Lib.hid rfl, OwnR.nil (Below.refl _ _) (Nat.le_refl _)⟩
  case round =>
    obtain ⟨i, v3, L, lo, hi, sb, X, hX, hi2, hgg, rfl, hv3, rfl, rfl, rfl, HJ, hown⟩ := hrel
    subst hX
    subst hv3
    have HO := Lib.hid hown
    clear hown
    by_cases hlt : i < ll.length
    · have hltz : (i : Int) < (ll.length : Int) := by omega
      obtain ⟨b, off, f, hao, hb, hc⟩ := HCS.out (by omega)
      subst hao
      obtain ⟨c1, c2⟩ := hc i hlt
      obtain ⟨ao2, cap2, hs2, hcell2⟩ := c2.shape
      have HC2 := Lib.hid hcell2
      have HFT := Lib.hid (flatten_take ll i hlt)
      have hfl : ((ll.take i).flatten ++ ll.getD i []).length ≤ 1000000 := by (rw [← flatten_take ll i hlt]; exact Nat.le_trans (flatten_take_le ll (i + 1)) hl)
      rw [hs2] at c1
      have HC1 := Lib.hid c1
      clear hcell2 c2 hc hs2 c1
      generalize ll.getD i [] = l at *
      generalize (ll.take i).flatten = P at *
      have hll : l.length ≤ 1000000 := by (rw [List.length_append] at hfl; omega)
      go_wp2_with fail
      go_loopg [3, 4, 5, 6, 8, 9, 10] l.length (fun gg s3 s4 s5 s6 s8 s9 s10 wr => ∃ (k : Nat) (v3 : Value) (L : List Rg) (lo hi : Int) (sb : Bool) (X : World), X = wr ∧ k ≤ l.length ∧ l.length - k ≤ gg ∧ s8 = .int .i64 k ∧ v3 = s3 ∧ s4 = .int .i64 lo ∧ s5 = .int .i64 hi ∧ s6 = .bool sb ∧ Hid (rjf (P ++ l.take k) = (L, lo, hi, sb)) ∧ OwnR w.heap.size v3 L w X)
      case atStart => exact ⟨0, _, L, lo, hi, sb, _, rfl, Nat.zero_le _, by omega, rfl, rfl, rfl, rfl, rfl, by rw [List.take_zero, List.append_nil]; exact HJ, HO.out⟩
      case round =>
        clear HJ HO
        obtain ⟨k, v3, L, lo, hi, sb, X, hX, hk, hgg2, rfl, hv3, rfl, rfl, rfl, HJ, hown⟩ := hrel
        subst hX
        subst hv3
        have HO := Lib.hid hown
        clear hown
        have cc := HC1.out
        rw [← HO.out.below.cell (p := ⟨b, off + i, none⟩) hb] at cc
        by_cases hlt2 : k < l.length
        · have hltz2 : (k : Int) < (l.length : Int) := by omega
          obtain ⟨b2, off2, hao2, hb2, hc2⟩ := HC2.out (by omega)
          subst hao2
          obtain ⟨c1, c2⟩ := hc2 k hlt2
          rw [← HO.out.below.cell (p := ⟨b2, off2 + k * 2, none⟩) hb2] at c1
          rw [← HO.out.below.cell (p := ⟨b2, off2 + k * 2 + 1, none⟩) hb2] at c2
          have HST : Hid (rjf (P ++ l.take (k + 1)) = rjs (L, lo, hi, sb) (l.getD k (0, 0))) := Lib.hid (by rw [take_snocR l k hlt2, ← List.append_assoc, rjf_snoc, HJ.out])
          have hpl : (P ++ l.take k).length ≤ 1000000 := by (simp only [List.length_append, List.length_take] at hfl ⊢; omega)
          obtain ⟨hok, hlen, hlo0, hlo1, hhi0, hhi1, _⟩ := rj_ok HJ.out
          have hL1 : L.length ≤ 1000000 := Nat.le_trans hlen hpl
          have HOK := Lib.hid hok
          have HSA := Lib.hid (refSound_any (l.getD k (0, 0)).1)
          have HSB := Lib.hid (refSound_any (l.getD k (0, 0)).2)
          have HPB := Lib.hid (show pieceB (l.getD k (0, 0)) = (endB (l.getD k (0, 0)).1 && endB (l.getD k (0, 0)).2) from rfl)
          have HQ : Hid (l.getD k (0, 0) = ((l.getD k (0, 0)).1, (l.getD k (0, 0)).2)) := Lib.hid rfl
          have hea : endB (l.getD k (0, 0)).1 = true → 0 ≤ (l.getD k (0, 0)).1 ∧ (l.getD k (0, 0)).1 ≤ 4294967295 := fun h => by unfold endB at h; simpa using h
          have heb : endB (l.getD k (0, 0)).2 = true → 0 ≤ (l.getD k (0, 0)).2 ∧ (l.getD k (0, 0)).2 ≤ 4294967295 := fun h => by unfold endB at h; simpa using h
          clear hlen hpl hc2 hok
          generalize (l.getD k (0, 0)).1 = x at *
          generalize (l.getD k (0, 0)).2 = y at *
          rw [HQ.out] at HST HPB
          clear HQ
          generalize endB x = ea at *
          generalize endB y = eb at *
          cases ea with
          | false =>
            clear hea heb
            have HE : Hid (rjs (L, lo, hi, sb) (x, y) = (L, lo, hi, sb)) := Lib.hid (by unfold rjs; rw [if_pos (by rw [HPB.out]; rfl)])
            have HST2 := Lib.hid (HST.out.trans HE.out)
            clear HST HE
            go_wp2_with (first | (go_at_call 39; (first | (with_reducible refine (HSA.out _).mono ?_) | (with_reducible refine (HSB.out _).mono ?_)); rintro e w' ⟨rfl, hw'⟩; subst w'))
            go_roundg (l.length - (k + 1))
            case measure => omega
            case rel => exact ⟨k + 1, _, L, lo, hi, sb, _, rfl, by omega, by omega, by go_num, rfl, rfl, rfl, rfl, HST2, (HO.out.alloc _)⟩
          | true =>
            cases eb with
            | false =>
              clear hea heb
              have HE : Hid (rjs (L, lo, hi, sb) (x, y) = (L, lo, hi, sb)) := Lib.hid (by unfold rjs; rw [if_pos (by rw [HPB.out]; rfl)])
              have HST2 := Lib.hid (HST.out.trans HE.out)
              clear HST HE
              go_wp2_with (first | (go_at_call 39; (first | (with_reducible refine (HSA.out _).mono ?_) | (with_reducible refine (HSB.out _).mono ?_)); rintro e w' ⟨rfl, hw'⟩; subst w'))
              go_roundg (l.length - (k + 1))
              case measure => omega
              case rel => exact ⟨k + 1, _, L, lo, hi, sb, _, rfl, by omega, by omega, by go_num, rfl, rfl, rfl, rfl, HST2, (HO.out.alloc _)⟩
            | true =>
              obtain ⟨hx0, hx1⟩ := hea rfl
              obtain ⟨hy0, hy1⟩ := heb rfl
              clear hea heb
              by_cases hx : 0 < x
              · by_cases hy : 0 < y
                · have hm : okP (min x y, max x y) := ⟨by show 1 ≤ min x y; omega, by show min x y ≤ max x y; omega, by show max x y ≤ 4294967295; omega⟩
                  have HPUT : Hid (∀ Y, OwnR w.heap.size v3 L w Y → Calls Tryd.prog 37 #[v3, .int .i64 (min x y), .int .i64 (max x y)] Y fun e w' => ∃ ao c, e = .returned (.slice ao (putR L (min x y, max x y)).length c) ∧ OwnR w.heap.size (.slice ao (putR L (min x y, max x y)).length c) (putR L (min x y, max x y)) w w') := Lib.hid (fun Y hOY => by
                    refine (put_any v3 L _ _ Y (hOY.rgs (by omega)) (by omega) HOK.out hm).mono ?_
                    rintro e w' ⟨v', rfl, ho⟩
                    have ho2 : OwnR w.heap.size v' (putR L (min x y, max x y)) w w' := (ho.mono hOY.base).shift hOY.below
                    obtain ⟨ao, c, hs⟩ := ho2.shp
                    subst hs
                    exact ⟨ao, c, rfl, ho2⟩)
                  clear hm
                  have HE : Hid (rjs (L, lo, hi, sb) (x, y) = (putR L (min x y, max x y), lo, hi, sb)) := Lib.hid (by unfold rjs; rw [if_neg (by rw [HPB.out]; simp), if_pos (by exact ⟨hx, hy⟩)])
                  have HST2 := Lib.hid (HST.out.trans HE.out)
                  clear HST HE
                  go_wp2_with (first | (go_at_call 39; (first | (with_reducible refine (HSA.out _).mono ?_) | (with_reducible refine (HSB.out _).mono ?_)); rintro e w' ⟨rfl, hw'⟩; subst w') | (go_at_call 37; refine (HPUT.out _ (HO.out.alloc _)).mono ?_; rintro e w1 ⟨ao1, cp1, rfl, ho1⟩; have HO1 := Lib.hid ho1; clear ho1))
                  go_roundg (l.length - (k + 1))
                  case measure => omega
                  case rel => exact ⟨k + 1, _, (putR L (min x y, max x y)), lo, hi, sb, _, rfl, by omega, by omega, by go_num, rfl, rfl, rfl, rfl, HST2, HO1.out⟩
                · have hy2 : y = 0 := by omega
                  subst hy2
                  have hmx : max x 0 = x := by omega
                  by_cases hl0 : lo = 0
                  · subst hl0
                    have HE : Hid (rjs (L, 0, hi, sb) (x, 0) = (L, x, max hi x, true)) := Lib.hid (by unfold rjs; rw [if_neg (by rw [HPB.out]; simp), if_neg (by simp)]; show (L, (if 0 < max x 0 ∧ ((0 : Int) = 0 ∨ max x 0 < 0) then max x 0 else 0), max hi (max x 0), true) = _; rw [hmx, if_pos ⟨hx, .inl rfl⟩])
                    have HST2 := Lib.hid (HST.out.trans HE.out)
                    clear HST HE
                    go_wp2_with (first | (go_at_call 39; (first | (with_reducible refine (HSA.out _).mono ?_) | (with_reducible refine (HSB.out _).mono ?_)); rintro e w' ⟨rfl, hw'⟩; subst w'))
                    go_roundg (l.length - (k + 1))
                    case measure => omega
                    case rel => exact ⟨k + 1, _, L, x, (max hi x), true, _, rfl, by omega, by omega, by go_num, rfl, rfl, rfl, rfl, HST2, (HO.out.alloc _)⟩
                  · have hl0z : (lo == 0) = false := by simpa using hl0
                    by_cases hnl : x < lo
                    · have HE : Hid (rjs (L, lo, hi, sb) (x, 0) = (L, x, max hi x, true)) := Lib.hid (by unfold rjs; rw [if_neg (by rw [HPB.out]; simp), if_neg (by simp)]; show (L, (if 0 < max x 0 ∧ (lo = 0 ∨ max x 0 < lo) then max x 0 else lo), max hi (max x 0), true) = _; rw [hmx, if_pos ⟨hx, .inr hnl⟩])
                      have HST2 := Lib.hid (HST.out.trans HE.out)
                      clear HST HE
                      go_wp2_with (first | (go_at_call 39; (first | (with_reducible refine (HSA.out _).mono ?_) | (with_reducible refine (HSB.out _).mono ?_)); rintro e w' ⟨rfl, hw'⟩; subst w'))
                      go_roundg (l.length - (k + 1))
                      case measure => omega
                      case rel => exact ⟨k + 1, _, L, x, (max hi x), true, _, rfl, by omega, by omega, by go_num, rfl, rfl, rfl, rfl, HST2, (HO.out.alloc _)⟩
                    · have HE : Hid (rjs (L, lo, hi, sb) (x, 0) = (L, lo, max hi x, true)) := Lib.hid (by unfold rjs; rw [if_neg (by rw [HPB.out]; simp), if_neg (by simp)]; show (L, (if 0 < max x 0 ∧ (lo = 0 ∨ max x 0 < lo) then max x 0 else lo), max hi (max x 0), true) = _; rw [hmx, if_neg (by omega)])
                      have HST2 := Lib.hid (HST.out.trans HE.out)
                      clear HST HE
                      go_wp2_with (first | (go_at_call 39; (first | (with_reducible refine (HSA.out _).mono ?_) | (with_reducible refine (HSB.out _).mono ?_)); rintro e w' ⟨rfl, hw'⟩; subst w'))
                      go_roundg (l.length - (k + 1))
                      case measure => omega
                      case rel => exact ⟨k + 1, _, L, lo, (max hi x), true, _, rfl, by omega, by omega, by go_num, rfl, rfl, rfl, rfl, HST2, (HO.out.alloc _)⟩
              · have hx2 : x = 0 := by omega
                subst hx2
                by_cases hy : 0 < y
                · have hmx : max 0 y = y := by omega
                  by_cases hl0 : lo = 0
                  · subst hl0
                    have HE : Hid (rjs (L, 0, hi, sb) (0, y) = (L, y, max hi y, true)) := Lib.hid (by unfold rjs; rw [if_neg (by rw [HPB.out]; simp), if_neg (by simp)]; show (L, (if 0 < max 0 y ∧ ((0 : Int) = 0 ∨ max 0 y < 0) then max 0 y else 0), max hi (max 0 y), true) = _; rw [hmx, if_pos ⟨hy, .inl rfl⟩])
                    have HST2 := Lib.hid (HST.out.trans HE.out)
                    clear HST HE
                    go_wp2_with (first | (go_at_call 39; (first | (with_reducible refine (HSA.out _).mono ?_) | (with_reducible refine (HSB.out _).mono ?_)); rintro e w' ⟨rfl, hw'⟩; subst w'))
                    go_roundg (l.length - (k + 1))
                    case measure => omega
                    case rel => exact ⟨k + 1, _, L, y, (max hi y), true, _, rfl, by omega, by omega, by go_num, rfl, rfl, rfl, rfl, HST2, (HO.out.alloc _)⟩
                  · have hl0z : (lo == 0) = false := by simpa using hl0
                    by_cases hnl : y < lo
                    · have HE : Hid (rjs (L, lo, hi, sb) (0, y) = (L, y, max hi y, true)) := Lib.hid (by unfold rjs; rw [if_neg (by rw [HPB.out]; simp), if_neg (by simp)]; show (L, (if 0 < max 0 y ∧ (lo = 0 ∨ max 0 y < lo) then max 0 y else lo), max hi (max 0 y), true) = _; rw [hmx, if_pos ⟨hy, .inr hnl⟩])
                      have HST2 := Lib.hid (HST.out.trans HE.out)
                      clear HST HE
                      go_wp2_with (first | (go_at_call 39; (first | (with_reducible refine (HSA.out _).mono ?_) | (with_reducible refine (HSB.out _).mono ?_)); rintro e w' ⟨rfl, hw'⟩; subst w'))
                      go_roundg (l.length - (k + 1))
                      case measure => omega
                      case rel => exact ⟨k + 1, _, L, y, (max hi y), true, _, rfl, by omega, by omega, by go_num, rfl, rfl, rfl, rfl, HST2, (HO.out.alloc _)⟩
                    · have HE : Hid (rjs (L, lo, hi, sb) (0, y) = (L, lo, max hi y, true)) := Lib.hid (by unfold rjs; rw [if_neg (by rw [HPB.out]; simp), if_neg (by simp)]; show (L, (if 0 < max 0 y ∧ (lo = 0 ∨ max 0 y < lo) then max 0 y else lo), max hi (max 0 y), true) = _; rw [hmx, if_neg (by omega)])
                      have HST2 := Lib.hid (HST.out.trans HE.out)
                      clear HST HE
                      go_wp2_with (first | (go_at_call 39; (first | (with_reducible refine (HSA.out _).mono ?_) | (with_reducible refine (HSB.out _).mono ?_)); rintro e w' ⟨rfl, hw'⟩; subst w'))
                      go_roundg (l.length - (k + 1))
                      case measure => omega
                      case rel => exact ⟨k + 1, _, L, lo, (max hi y), true, _, rfl, by omega, by omega, by go_num, rfl, rfl, rfl, rfl, HST2, (HO.out.alloc _)⟩
                · have hy2 : y = 0 := by omega
                  subst hy2
                  have HE : Hid (rjs (L, lo, hi, sb) (0, 0) = (L, lo, max hi 0, true)) := Lib.hid (by unfold rjs; rw [if_neg (by rw [HPB.out]; simp), if_neg (by simp)]; show (L, (if 0 < max (0 : Int) 0 ∧ (lo = 0 ∨ max (0 : Int) 0 < lo) then max 0 0 else lo), max hi (max 0 0), true) = _; rw [if_neg (by simp), Int.max_self])
                  have HST2 := Lib.hid (HST.out.trans HE.out)
                  clear HST HE
                  go_wp2_with (first | (go_at_call 39; (first | (with_reducible refine (HSA.out _).mono ?_) | (with_reducible refine (HSB.out _).mono ?_)); rintro e w' ⟨rfl, hw'⟩; subst w'))
                  go_roundg (l.length - (k + 1))
                  case measure => omega
                  case rel => exact ⟨k + 1, _, L, lo, (max hi 0), true, _, rfl, by omega, by omega, by go_num, rfl, rfl, rfl, rfl, HST2, (HO.out.alloc _)⟩
        · have hltz2 : ¬ (k : Int) < (l.length : Int) := by omega
          have hkl : k = l.length := by omega
          subst hkl
          have HJ2 : Hid (rjf (ll.take (i + 1)).flatten = (L, lo, hi, sb)) := Lib.hid (by rw [HFT.out, ← HJ.out, List.take_length])
          go_wp2_with fail
          go_roundg (ll.length - (i + 1))
          case measure => omega
          case rel => exact ⟨i + 1, _, L, lo, hi, sb, _, rfl, by omega, by omega, by go_num, rfl, rfl, rfl, rfl, HJ2, HO.out⟩
    · have hltz : ¬ (i : Int) < (ll.length : Int) := by omega
      have hil : i = ll.length := by omega
      subst hil
      have HE : Hid (joinL ll = rjEnd (L, lo, hi, sb)) := Lib.hid (by rw [← HJ.out, rj_end, List.take_length]; rfl)
      obtain ⟨hok, hlen, hlo0, hlo1, hhi0, hhi1, hpos⟩ := rj_ok HJ.out
      have hL1 : L.length ≤ 1000000 := Nat.le_trans hlen (Nat.le_trans (flatten_take_le ll _) hl)
      have HOK := Lib.hid hok
      have HPOS := Lib.hid hpos
      clear hok hlen hpos
      by_cases hlh : lo < hi
      · have hm : okP (lo, hi) := ⟨HPOS.out hlh, by show lo ≤ hi; omega, hhi1⟩
        have HPL := Lib.hid (putR_len L (lo, hi))
        have HPUT : Hid (Calls Tryd.prog 37 #[v3, .int .i64 lo, .int .i64 hi] X fun e w' => ∃ ao c, e = .returned (.slice ao (putR L (lo, hi)).length c) ∧ OwnR w.heap.size (.slice ao (putR L (lo, hi)).length c) (putR L (lo, hi)) w w') := Lib.hid (by
          have hOY := HO.out
          refine (put_any v3 L _ _ X (hOY.rgs (by omega)) (by omega) HOK.out hm).mono ?_
          rintro e w' ⟨v', rfl, ho⟩
          have ho2 : OwnR w.heap.size v' (putR L (lo, hi)) w w' := (ho.mono hOY.base).shift hOY.below
          obtain ⟨ao, c, hs⟩ := ho2.shp
          subst hs
          exact ⟨ao, c, rfl, ho2⟩)
        clear hm
        cases sb with
        | true =>
          have HR : Hid (joinL ll = putR L (lo, hi) ++ [(lo, 0)]) := Lib.hid (by rw [HE.out]; unfold rjEnd; rw [if_pos rfl, if_pos (by exact hlh)])
          go_wp2_with fail
          refine HPUT.out.mono ?_
          rintro e w1 ⟨ao1, c1, rfl, ho1⟩
          have HO1 := Lib.hid ho1
          clear ho1
          go_wp2_with (at_builtin; refine appP rfl _ _ rfl lo 0 HO1.out rfl rfl (by have := HPL.out; omega) ?_)
          intro v5 w5 ho5
          have HO5 := Lib.hid ho5
          clear ho5
          go_wp2_with fail
          go_ret
          exact ⟨_, rfl, by rw [HR.out]; exact HO5.out⟩
        | false =>
          have HR : Hid (joinL ll = putR L (lo, hi)) := Lib.hid (by rw [HE.out]; unfold rjEnd; rw [if_neg (by simp), if_pos (by exact hlh)])
          go_wp2_with fail
          refine HPUT.out.mono ?_
          rintro e w1 ⟨ao1, c1, rfl, ho1⟩
          have HO1 := Lib.hid ho1
          clear ho1
          go_wp2_with fail
          go_ret
          exact ⟨_, rfl, by rw [HR.out]; exact HO1.out⟩
      · cases sb with
        | true =>
          have HR : Hid (joinL ll = L ++ [(lo, 0)]) := Lib.hid (by rw [HE.out]; unfold rjEnd; rw [if_pos rfl, if_neg (by exact hlh)])
          go_wp2_with (at_builtin; refine appP rfl _ _ rfl lo 0 HO.out rfl rfl (by omega) ?_)
          intro v5 w5 ho5
          have HO5 := Lib.hid ho5
          clear ho5
          go_wp2_with fail
          go_ret
          exact ⟨_, rfl, by rw [HR.out]; exact HO5.out⟩
        | false =>
          have HR : Hid (joinL ll = L) := Lib.hid (by rw [HE.out]; unfold rjEnd; rw [if_neg (by simp), if_neg (by exact hlh)])
          go_wp2_with fail
          go_ret
          exact ⟨_, rfl, by rw [HR.out]; exact HO.out⟩
end Go.Proofs.YtkclcjnfjielfabDoor
