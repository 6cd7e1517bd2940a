/- SpanMeans: the walk. -/
import Derived.Test.YtoikjkcnekkehaaDoorWc
import Derived.Deep.RegionHeld3
import Derived.Deep.QuietTactic
import Derived.BigQuiet
namespace Go.Proofs.YtoikjkcnekkehaaDoor
open Go.RowKit

/-- out = append(out, list...), of numbers. -/
theorem appLI {ops : Array Oper} {rest : List Oper} {o : Oper} {a : Act} {Q : Exit → Act → World → Prop} (hgd : o.guard = none) (s x : Operand)
    (ho : o.op = .call { callee := .builtin .append, args := #[s, x], argTypes := #[29, 29] })
    {B : Nat} {v : Value} {l : List Int} {W0 w : World} {v2 : Value} {l2 : List Int} (hown : OwnI B v l W0 w) (h2 : Ints w v2 l2) (hs : a.eval s = v) (hx : a.eval x = v2)
    (hlen : l.length + l2.length ≤ 17592186044416)
    (h : ∀ v' w', OwnI B v' (l ++ l2) W0 w' → wpList Tryd.prog ops Q rest (a.put o.dst v') w') : wpList Tryd.prog ops Q (o :: rest) a w := by
  obtain ⟨i0, hi, hz0, hz1, hz2⟩ := info_parts Tryd.infoInt
  rcases h2 with ⟨rfl, ao, cap, rfl, hn⟩ | ⟨b, off, cap, rfl, _, _, hc⟩
  · cases ao with
    | none =>
      rw [hn rfl] at hx
      exact wpList_append_own_none hgd s x 29 ho B 3 i0 1 Tryd.underlying29 hi v l.length (ic l) hs hown.row hx (h v w (by rw [List.append_nil]; exact hown))
    | some ad =>
      refine wpList_append_own _ hgd s x 29 ho B 3 i0 (.int .i64 0) 1 8 Tryd.underlying29 hi hz0 hz1 hz2 rfl (by decide) v l.length (ic l) hs hown.row ad 0 cap [] hx rfl (by intro j u hj; simp at hj) (by intro u hu; simp at hu) (by unfold maxLen; simp only [List.length_nil] at hlen; omega) (by simp only [List.length_nil] at hlen; omega) hown.base ?_
      intro v' w' ho' hg _
      refine h v' w' ⟨?_, hown.below.grown hg hown.base (fun k hk => (hown.row.lt k hk).1), Nat.le_trans hown.base hg.size⟩
      rw [List.length_append, ic_append]
      exact ho'
  · refine wpList_append_own _ hgd s x 29 ho B 3 i0 (.int .i64 0) 1 8 Tryd.underlying29 hi hz0 hz1 hz2 rfl (by decide) v l.length (ic l) hs hown.row ⟨b, off, none⟩ l2.length cap (ic l2) hx (by rw [ic_length]; omega) ?_ (ic_one l2) (by unfold maxLen; omega) (by omega) hown.base ?_
    · intro j u hj
      have hj2 : j < l2.length := by rw [← ic_length]; exact (List.getElem?_eq_some_iff.1 hj).1
      rw [ic_at l2 j hj2] at hj
      rw [Addr.add_lit, hc j hj2, hj]
    · intro v' w' ho' hg _
      refine h v' w' ⟨?_, hown.below.grown hg hown.base (fun k hk => (hown.row.lt k hk).1), Nat.le_trans hown.base hg.size⟩
      rw [List.length_append, ic_append]
      exact ho'
theorem litI6 (w : World) (N : Nat) (a b c d e f : Int) (t : TypeId) (hN : N = w.heap.size) : Ints (w.alloc (.cells #[.int .i64 a, .int .i64 b, .int .i64 c, .int .i64 d, .int .i64 e, .int .i64 f] t)) (.slice (some ⟨N, 0, none⟩) 6 6) [a, b, c, d, e, f] := by
  subst hN
  refine .inr ⟨w.heap.size, 0, 6, rfl, by simp, by simp, fun i hi => ?_⟩
  have : i = 0 ∨ i = 1 ∨ i = 2 ∨ i = 3 ∨ i = 4 ∨ i = 5 := by simp at hi; omega
  rcases this with rfl | rfl | rfl | rfl | rfl | rfl <;> simp
theorem Sets.shape {w : World} {v : Value} {ll : List (List Rg)} (h : Sets w v ll) : ∃ ao cap, v = .slice ao ll.length cap ∧ ll.length ≤ 5864062014805 ∧ (0 < ll.length → ∃ (b off : Nat) (f : Nat → Value), ao = some ⟨b, off, none⟩ ∧ b < w.heap.size ∧ ∀ i, i < ll.length → w.cell? ⟨b, off + i, none⟩ = some (f i) ∧ Rgs w (f i) (ll.getD i [])) := by
  rcases h with ⟨rfl, ao, cap, rfl, _⟩ | ⟨b, off, cap, f, rfl, h0, h1, h2⟩
  · exact ⟨ao, cap, rfl, by simp, fun h => by simp at h⟩
  · exact ⟨_, _, rfl, h0, fun _ => ⟨b, off, f, rfl, h1, h2⟩⟩
theorem Ints.shape {w : World} {v : Value} {l : List Int} (h : Ints w v l) : ∃ ao cap, v = .slice ao l.length cap ∧ l.length ≤ 17592186044416 ∧ (0 < l.length → ∃ (b off : Nat), ao = some ⟨b, off, none⟩ ∧ b < w.heap.size ∧ ∀ i, i < l.length → w.cell? ⟨b, off + i, none⟩ = some (.int .i64 (l.getD i 0))) := by
  rcases h with ⟨rfl, ao, cap, rfl, _⟩ | ⟨b, off, cap, rfl, h0, h1, h2⟩
  · exact ⟨ao, cap, rfl, by simp, fun h => by simp at h⟩
  · exact ⟨_, _, rfl, h0, fun _ => ⟨b, off, rfl, h1, h2⟩⟩
theorem Rgs.len {w : World} {v : Value} {l : List Rg} (h : Rgs w v l) : l.length ≤ 8796093022208 := by
  rcases h with ⟨rfl, _⟩ | ⟨_, _, _, _, h0, _⟩
  · simp
  · exact h0
theorem flat_succ (ll : List (List Rg)) (i : Nat) (hi : i < ll.length) : (ll.take (i + 1)).flatten.length = (ll.take i).flatten.length + (ll.getD i []).length := by
  rw [flatten_take ll i hi, List.length_append]
theorem any_snoc (p : List Rg → Bool) (ll : List (List Rg)) (k : Nat) (hk : k < ll.length) : (ll.take (k + 1)).any p = ((ll.take k).any p || p (ll.getD k [])) := by
  rw [List.take_succ_eq_append_getElem hk, List.any_append]; simp [hk]

def l60 (n : Nat) : Prop := n ≤ 60
theorem joinL_len (ll : List (List Rg)) : (joinL ll).length ≤ ll.flatten.length + 2 := by
  unfold joinL joinS
  have h := (jfold_length ll.flatten).1
  generalize jfold ll.flatten = st at *
  split
  · split
    · have := tog_length (l := st.1); rw [List.length_append, List.length_singleton]; omega
    · have := tog_length (l := st.1); omega
  · unfold starL
    rw [List.length_append, List.length_singleton]
    split
    · have := tog_length (l := st.1 ++ [(Lib.minOf st.2.1, Lib.maxOf st.2.1)]); rw [List.length_append, List.length_singleton] at this; omega
    · have := tog_length (l := st.1); omega
theorem cthenB {w X : World} {B i : Nat} {v : Value} (h : w.cell? ⟨B, i, none⟩ = some v) (hb : Below w.heap.size w X) : X.cell? ⟨B, i, none⟩ = some v := by
  rw [hb.cell (p := ⟨B, i, none⟩) (block_lt_of_cell h)]; exact h
theorem bthen {w X Y : World} (h : Below w.heap.size w X) (hb : Below X.heap.size X Y) : Below w.heap.size w Y := h.trans (hb.mono h.size)
abbrev s7S (w : World) (b o : Nat) (v : Value) (bm om : Nat) (gv : Int) : World → Prop := fun X => X.cell? ⟨b, o, none⟩ = some v ∧ X.cell? ⟨bm, om, none⟩ = some (.int .i64 gv) ∧ Below w.heap.size w X
theorem s7S.on {w : World} {b o : Nat} {v : Value} {bm om : Nat} {gv : Int} {X Y : World} (h : s7S w b o v bm om gv X) (hb : Below X.heap.size X Y) : s7S w b o v bm om gv Y := ⟨cthenB h.1 hb, cthenB h.2.1 hb, bthen h.2.2 hb⟩
set_option maxRecDepth 100000 in
set_option maxHeartbeats 4000000 in
theorem SpanMeans_walk (v0 v1 v2 : Value) (ll : List (List Rg)) (la lg : List Int) (w : World) (he : Env w) (h0 : Sets w v0 ll) (h1 : Ints w v1 la) (h2 : Ints w v2 lg) :
    Calls Tryd.prog 4 #[v0, v1, v2] w fun e w' => e = .returned (.bool true) ∧ Below w.heap.size w w' := by
  have HK := Lib.hid (fun X (hX : Below w.heap.size w X) => (known_any X (he.on hX)).mono fun e w' ⟨p, q⟩ => (⟨p, hX.trans (q.mono hX.size)⟩ : e = Ending.returned (.bool true) ∧ Below w.heap.size w w'))
  obtain ⟨ao, cap, hv0, hl0, hc0⟩ := h0.shape
  obtain ⟨ao1, cap1, hv1, hl1, _⟩ := h1.shape
  obtain ⟨ao2, cap2, hv2, hl2, _⟩ := h2.shape
  subst hv0
  subst hv1
  subst hv2
  have HC0 := Lib.hid hc0
  have H0 := Lib.hid h0
  have H1 := Lib.hid h1
  have H2 := Lib.hid h2
  clear h0 h1 h2 he hc0
  go_enter Tryd.func4, Tryd.ntmps4
  go_wp2_with fail
  go_loopg [7, 8] ll.length (fun gg s7 s8 wr => ∃ (i m : Nat), w = wr ∧ i ≤ ll.length ∧ ll.length - i ≤ gg ∧ s8 = .int .i64 i ∧ s7 = .int .i64 m ∧ m ≤ 100000000000000 ∧ Hid (m = ll.length + la.length + (ll.take i).flatten.length))
  case atStart => exact ⟨0, ll.length + la.length, rfl, Nat.zero_le _, by omega, rfl, rfl, by omega, Lib.hid (by simp)⟩
  case round =>
    obtain ⟨i, m, hw, hi, hgg, rfl, rfl, hm, HM⟩ := hrel
    subst hw
    by_cases h60 : m ≤ 60
    · have h60z : (m : Int) ≤ 60 := by omega
      have h60y : ¬ (60 : Int) < (m : Int) := by omega
      by_cases hlt : i < ll.length
      · have hltz : (i : Int) < (ll.length : Int) := by omega
        obtain ⟨b, off, f, hao, hb, hc⟩ := HC0.out (by omega)
        subst hao
        obtain ⟨c1, c2⟩ := hc i hlt
        obtain ⟨ao3, cap3, hs3, _⟩ := c2.shape
        have hl3 := c2.len
        have HF := Lib.hid (flat_succ ll i hlt)
        rw [hs3] at c1
        clear hc c2 hs3
        generalize ll.getD i [] = l at *
        go_wp2_with fail
        go_roundg (ll.length - (i + 1))
        case measure => omega
        case rel => exact ⟨i + 1, m + l.length, rfl, by omega, by omega, by go_num, by go_num, by omega, Lib.hid (by rw [HF.out, HM.out]; omega)⟩
      · have hltz : ¬ (i : Int) < (ll.length : Int) := by omega
        have : i = ll.length := by omega
        subst this
        have HT : Hid (ll.flatten.length ≤ 60 ∧ ll.length ≤ 60 ∧ la.length ≤ 60) := Lib.hid (by have := HM.out; rw [List.take_of_length_le (Nat.le_refl _)] at this; omega)
        clear HM
        by_cases h6 : 6 < lg.length
        · have h6z : (6 : Int) < (lg.length : Int) := by omega
          go_wp2_with fail
          go_ret
          exact ⟨rfl, Below.refl _ _⟩
        · have h6z : ¬ (6 : Int) < (lg.length : Int) := by omega
          have hsmall := HT.out
          obtain ⟨hs1, hs2, hs3⟩ := hsmall
          have HJ := Lib.hid (join_any _ ll w H0.out (by omega))
          have HOA0 := Lib.hid (fun wJ : World => (⟨World.ownsRow_made wJ #[] 0 (Nat.le_refl _) (Nat.zero_le _) (by simp), (Below.refl _ _).alloc (Nat.le_refl _) _, by simp⟩ : OwnI wJ.heap.size (.slice (some ⟨wJ.heap.size, 0, none⟩) 0 0) [] wJ (wJ.alloc (.cells #[] 3))))
          go_wp2_with (first | (go_at_call 11; refine HJ.out.mono ?_; rintro e wJ ⟨vj, rfl, hoj⟩; have HOJ := Lib.hid hoj; clear hoj) | (at_builtin; refine appLI rfl _ _ rfl (HOA0.out wJ) (H1.out.on (HOJ.out.below.alloc HOJ.out.base _)) rfl rfl (by simp; omega) ?_))
          intro va0 wa0 hoa0
          have HOA0' := Lib.hid hoa0
          clear hoa0
          go_wp2_with fail
          go_loopg [10, 11] ll.length (fun gg s10 s11 wr => ∃ (i : Nat) (va : Value) (A : List Int) (wA : World), wA = wr ∧ i ≤ ll.length ∧ ll.length - i ≤ gg ∧ s11 = .int .i64 i ∧ va = s10 ∧ OwnI wJ.heap.size va A wJ wA ∧ A.length ≤ 60 + 6 * (ll.take i).flatten.length)
          case atStart => exact ⟨0, _, _, _, rfl, Nat.zero_le _, by omega, rfl, rfl, HOA0'.out, by simp; omega⟩
          case round =>
            clear HOA0'
            obtain ⟨i, va, A, wA, hwA, hi, hgg2, rfl, hva, hoa, hAl⟩ := hrel
            subst hva
            subst hwA
            have HOA := Lib.hid hoa
            clear hoa
            by_cases hlt2 : i < ll.length
            · have hltz2 : (i : Int) < (ll.length : Int) := by omega
              obtain ⟨b, off, f, hao, hb, hc⟩ := HC0.out (by omega)
              subst hao
              obtain ⟨c1, c2⟩ := hc i hlt2
              obtain ⟨ao3, cap3, hs3, hcl⟩ := c2.shape
              have hl3 := c2.len
              have HF := Lib.hid (flat_succ ll i hlt2)
              have hft : (ll.take (i + 1)).flatten.length ≤ 60 := Nat.le_trans (flatten_take_le ll (i + 1)) hs1
              rw [hs3] at c1
              have HCL := Lib.hid hcl
              have hl4 : l60 (ll.getD i []).length := by (unfold l60; have := HF.out; omega)
              unfold l60 at hl4
              clear hc c2 hs3 hcl
              generalize ll.getD i [] = l at *
              have HFT : Hid ((ll.take i).flatten.length + l.length ≤ 60) := Lib.hid (by have := HF.out; omega)
              have hP : (ll.take i).flatten.length + l.length ≤ 60 := HFT.out
              generalize hPn : (ll.take i).flatten.length = P at *
              have HPN := Lib.hid hPn
              clear hPn hft
              go_wp2_with fail
              go_loopg [10, 12] l.length (fun gg s10 s12 wr => ∃ (k : Nat) (va : Value) (A : List Int), k ≤ l.length ∧ l.length - k ≤ gg ∧ s12 = .int .i64 k ∧ va = s10 ∧ OwnI wJ.heap.size va A wJ wr ∧ A.length ≤ 60 + 6 * (P + k))
              case atStart => exact ⟨0, _, _, Nat.zero_le _, by omega, rfl, rfl, HOA.out, by omega⟩
              case round =>
                clear HOA hAl
                obtain ⟨k, va, A, hk, hgg3, rfl, hva, hoa, hAl⟩ := hrel
                subst hva
                have HOA := Lib.hid hoa
                clear hoa
                have HBX := Lib.hid (HOJ.out.below.trans (HOA.out.below.mono HOJ.out.base))
                have c18 := cthenB c1 HBX.out
                by_cases hlt3 : k < l.length
                · have hltz3 : (k : Int) < (l.length : Int) := by omega
                  obtain ⟨b3, o3, hao3, hb3, hc3⟩ := HCL.out (by omega)
                  subst hao3
                  obtain ⟨d1, d2⟩ := hc3 k hlt3
                  replace d1 := cthenB d1 HBX.out
                  replace d2 := cthenB d2 HBX.out
                  clear hc3
                  generalize (l.getD k (0, 0)).1 = x at *
                  generalize (l.getD k (0, 0)).2 = y at *
                  by_cases x0 : 0 ≤ x
                  · by_cases y0 : 0 ≤ y
                    · by_cases x1 : x ≤ 4294967295
                      · by_cases y1 : y ≤ 4294967295
                        · have hA2 : A.length + 6 ≤ 17592186044416 := by omega
                          go_wp2_with (at_builtin; refine appLI rfl _ _ rfl ((HOA.out.alloc _).alloc _) (litI6 _ _ (x - 1) x (x + 1) (y - 1) y (y + 1) _ (by simp)) rfl rfl (by simp; omega) ?_)
                          intro v6 w6 ho6
                          have HO6 := Lib.hid ho6
                          clear ho6
                          go_wp2_with fail
                          go_roundg (l.length - (k + 1))
                          case measure => omega
                          case rel => exact ⟨k + 1, _, _, by omega, by omega, by go_num, rfl, HO6.out, by simp; omega⟩
                        · skip
                          go_wp2_with fail
                          go_roundg (l.length - (k + 1))
                          case measure => omega
                          case rel => exact ⟨k + 1, _, A, by omega, by omega, by go_num, rfl, HOA.out.alloc _, by omega⟩
                      · skip
                        go_wp2_with fail
                        go_roundg (l.length - (k + 1))
                        case measure => omega
                        case rel => exact ⟨k + 1, _, A, by omega, by omega, by go_num, rfl, HOA.out.alloc _, by omega⟩
                    · skip
                      go_wp2_with fail
                      go_roundg (l.length - (k + 1))
                      case measure => omega
                      case rel => exact ⟨k + 1, _, A, by omega, by omega, by go_num, rfl, HOA.out.alloc _, by omega⟩
                  · skip
                    go_wp2_with fail
                    go_roundg (l.length - (k + 1))
                    case measure => omega
                    case rel => exact ⟨k + 1, _, A, by omega, by omega, by go_num, rfl, HOA.out.alloc _, by omega⟩
                · have hltz3 : ¬ (k : Int) < (l.length : Int) := by omega
                  have : k = l.length := by omega
                  subst this
                  go_wp2_with fail
                  go_roundg (ll.length - (i + 1))
                  case measure => omega
                  case rel => exact ⟨i + 1, _, A, _, rfl, by omega, by omega, by go_num, rfl, HOA.out, by rw [HF.out]; omega⟩
            · have hltz2 : ¬ (i : Int) < (ll.length : Int) := by omega
              have : i = ll.length := by omega
              subst this
              have hA4 : A.length ≤ 420 := by (have := flatten_take_le ll ll.length; omega)
              obtain ⟨aoA, capA, hvA, _, hcA⟩ := (HOA.out.ints (by omega)).shape
              subst hvA
              have HCA := Lib.hid hcA
              clear hcA hAl
              go_wp2_with (at_builtin; refine appLI rfl _ _ rfl (HOA0.out _) (((H2.out.on HOJ.out.below).on HOA.out.below).on ((Below.refl _ _).alloc (Nat.le_refl _) _)) rfl rfl (by simp; omega) ?_)
              intro vm0 wm0 hom0
              have HOM0 := Lib.hid hom0
              clear hom0
              go_wp2_with fail
              have HBA := Lib.hid (HOJ.out.below.trans (HOA.out.below.mono HOJ.out.base))
              go_loopg [14, 15] A.length (fun gg s14 s15 wr => ∃ (i : Nat) (vm : Value) (M : List Int) (wM : World), wM = wr ∧ i ≤ A.length ∧ A.length - i ≤ gg ∧ s15 = .int .i64 i ∧ vm = s14 ∧ OwnI wA.heap.size vm M wA wM ∧ M.length ≤ 16)
              case atStart => exact ⟨0, _, _, _, rfl, Nat.zero_le _, by omega, rfl, rfl, HOM0.out, by (try simp); omega⟩
              case round =>
                clear HOM0
                obtain ⟨i, vm, M, wM, hwM, hi4, hgg4, rfl, hvm, hom, hMl⟩ := hrel
                subst hvm
                subst hwM
                have HOM := Lib.hid hom
                obtain ⟨aoM, capM, hvM, _, hcM⟩ := (hom.ints (by omega)).shape
                subst hvM
                have HCM := Lib.hid hcM
                clear hcM hom
                by_cases hlt4 : i < A.length
                · have hltz4 : (i : Int) < (A.length : Int) := by omega
                  by_cases h16 : M.length < 16
                  · have h16z : (M.length : Int) < 16 := by omega
                    obtain ⟨ba, oa, haoA, hba, hca⟩ := HCA.out (by omega)
                    subst haoA
                    have c4 := cthenB (hca i hlt4) HOM.out.below
                    clear hca
                    generalize A.getD i 0 = x at *
                    go_wp2_with (at_builtin; refine appI rfl _ _ rfl x HOM.out rfl rfl (by omega) ?_)
                    intro v6 w6 ho6
                    have HO6 := Lib.hid ho6
                    clear ho6
                    go_wp2_with fail
                    go_roundg (A.length - (i + 1))
                    case measure => omega
                    case rel => exact ⟨i + 1, _, _, _, rfl, by omega, by omega, by go_num, rfl, HO6.out, by rw [List.length_append, List.length_singleton]; omega⟩
                  · have h16z : ¬ (M.length : Int) < 16 := by omega
                    go_wp2_with fail
                    have HBM := Lib.hid (HBA.out.trans (HOM.out.below.mono HBA.out.size))
                    have HJR := Lib.hid (((HOJ.out.rgs (by have := joinL_len ll; omega)).on HOA.out.below).on HOM.out.below)
                    go_loopg [16] M.length (fun gg s16 wr => ∃ gi : Nat, gi ≤ M.length ∧ M.length - gi ≤ gg ∧ s16 = .int .i64 gi ∧ Below wM.heap.size wM wr)
                    case atStart => exact ⟨0, Nat.zero_le _, by omega, rfl, Below.refl _ _⟩
                    case round =>
                      obtain ⟨gi, hgi, hgg5, rfl, hbx5⟩ := hrel
                      have HBX5 := Lib.hid hbx5
                      clear hbx5
                      by_cases hlt5 : gi < M.length
                      · have hltz5 : (gi : Int) < (M.length : Int) := by omega
                        obtain ⟨bm, om, haoM, hbm, hcm⟩ := HCM.out (by omega)
                        subst haoM
                        have cg := hcm gi hlt5
                        clear hcm
                        generalize M.getD gi 0 = gv at *
                        go_wp2_with fail
                        go_loopg [17] (A.length + 1) (fun gg s17 wr => ∃ i6 : Nat, i6 ≤ A.length + 1 ∧ A.length + 1 - i6 ≤ gg ∧ s17 = .int .i64 i6 ∧ Below wM.heap.size wM wr)
                        case atStart => exact ⟨0, Nat.zero_le _, by omega, rfl, HBX5.out⟩
                        case round =>
                          clear HBX5
                          obtain ⟨i6, hi6, hgg6, rfl, hbx⟩ := hrel
                          have HBX := Lib.hid hbx
                          clear hbx
                          have cg6 := cthenB cg HBX.out
                          by_cases hlt6 : i6 ≤ A.length
                          · have hltz6 : (i6 : Int) ≤ (A.length : Int) := by omega
                            by_cases hl7 : i6 < A.length
                            · have hlz7 : (i6 : Int) < (A.length : Int) := by omega
                              obtain ⟨ba, oa, haoA, hba, hca⟩ := HCA.out (by omega)
                              subst haoA
                              have c6 := cthenB (cthenB (hca i6 hl7) HOM.out.below) HBX.out
                              clear hca
                              generalize A.getD i6 0 = n at *
                              go_wp2_with fail
                              go_loopg [19, 20] ll.length (fun gg s19 s20 wr => ∃ (k : Nat) (bb : Bool), k ≤ ll.length ∧ ll.length - k ≤ gg ∧ s20 = .int .i64 k ∧ s19 = .bool bb ∧ Hid (bb = (ll.take k).any fun l => hasB l n gv) ∧ Below wM.heap.size wM wr)
                              case atStart => exact ⟨0, false, Nat.zero_le _, by omega, rfl, rfl, Lib.hid (by simp), HBX.out⟩
                              case round =>
                                obtain ⟨k, bb, hk, hgg7, rfl, rfl, HBB, hbx7⟩ := hrel
                                have HBX7 := Lib.hid hbx7
                                clear hbx7
                                have cg7 := cthenB cg HBX7.out
                                by_cases hlt7 : k < ll.length
                                · have hltz7 : (k : Int) < (ll.length : Int) := by omega
                                  obtain ⟨b, off, f, hao, hb, hc⟩ := HC0.out (by omega)
                                  subst hao
                                  obtain ⟨c1, c2⟩ := hc k hlt7
                                  have HR7 := Lib.hid c2
                                  obtain ⟨ao3, cap3, hs3, _⟩ := c2.shape
                                  have HAS := Lib.hid (any_snoc (fun l => hasB l n gv) ll k hlt7)
                                  rw [hs3] at c1
                                  rw [hs3] at HR7
                                  have c17 := cthenB (cthenB c1 HBM.out) HBX7.out
                                  clear hc c2 hs3 c1
                                  generalize ll.getD k [] = l at *
                                  cases bb with
                                  | true =>
                                    go_wp2_with fail
                                    go_quiet (fail)
                                    go_wp2_with fail
                                    go_roundg (ll.length - (k + 1))
                                    case measure => omega
                                    case rel => exact ⟨k + 1, _, by omega, by omega, by go_num, rfl, Lib.hid (by rw [HAS.out, ← HBB.out]; rfl), below_drewN HBX7.out _⟩
                                  | false =>
                                    have HS7 := Lib.hid (fun X (hX : s7S wM b (off + k) (.slice ao3 l.length cap3) bm (om + gi) gv X) => (has_any _ l n gv X ((HR7.out.on HBM.out).on hX.2.2)).mono (fun e w' ⟨p, q⟩ => (⟨p, s7S.on hX q⟩ : _ ∧ s7S wM b (off + k) (.slice ao3 l.length cap3) bm (om + gi) gv w')))
                                    have HST := Lib.hid (s7S.on (w := wM) ⟨c17, cg7, HBX7.out⟩ (Below.refl _ _).drew)
                                    generalize hasB l n gv = hq at *
                                    go_wp2_with fail
                                    go_region_held3 (s7S wM b (off + k) (.slice ao3 l.length cap3) bm (om + gi) gv) (first | with_reducible exact HST.out | with_reducible assumption) (first | (go_at_call 9; with_reducible refine (HS7.out _ ?_).mono ?_; with_reducible assumption; rintro e w9 ⟨rfl, h9⟩))
                                    go_wp2_with fail
                                    go_roundg (ll.length - (k + 1))
                                    case measure => omega
                                    case rel => exact ⟨k + 1, _, by omega, by omega, by go_num, rfl, Lib.hid (by rw [HAS.out, ← HBB.out]; rfl), h9.2.2⟩
                                · have hltz7 : ¬ (k : Int) < (ll.length : Int) := by omega
                                  have : k = ll.length := by omega
                                  subst this
                                  rw [List.take_of_length_le (Nat.le_refl _)] at HBB
                                  have HJN : Hid (hasB (joinL ll) n gv = bb) := Lib.hid (by rw [HBB.out, has_joinL, hasB_flatten])
                                  have hbb : (bb != bb) = false := by simp
                                  clear HBB
                                  go_wp2_with (go_at_call 9; refine (has_is bb (HJR.out.on HBX7.out) HJN.out).mono ?_; rintro e w9 ⟨rfl, hb9⟩)
                                  go_roundg (A.length + 1 - (i6 + 1))
                                  case measure => omega
                                  case rel => exact ⟨i6 + 1, by omega, by omega, by go_num, bthen HBX7.out hb9⟩
                            · have hlz7 : ¬ (i6 : Int) < (A.length : Int) := by omega
                              go_wp2_with fail
                              go_loopg [19, 20] ll.length (fun gg s19 s20 wr => ∃ (k : Nat) (bb : Bool), k ≤ ll.length ∧ ll.length - k ≤ gg ∧ s20 = .int .i64 k ∧ s19 = .bool bb ∧ Hid (bb = (ll.take k).any fun l => hasB l gv gv) ∧ Below wM.heap.size wM wr)
                              case atStart => exact ⟨0, false, Nat.zero_le _, by omega, rfl, rfl, Lib.hid (by simp), HBX.out⟩
                              case round =>
                                obtain ⟨k, bb, hk, hgg7, rfl, rfl, HBB, hbx7⟩ := hrel
                                have HBX7 := Lib.hid hbx7
                                clear hbx7
                                have cg7 := cthenB cg HBX7.out
                                by_cases hlt7 : k < ll.length
                                · have hltz7 : (k : Int) < (ll.length : Int) := by omega
                                  obtain ⟨b, off, f, hao, hb, hc⟩ := HC0.out (by omega)
                                  subst hao
                                  obtain ⟨c1, c2⟩ := hc k hlt7
                                  have HR7 := Lib.hid c2
                                  obtain ⟨ao3, cap3, hs3, _⟩ := c2.shape
                                  have HAS := Lib.hid (any_snoc (fun l => hasB l gv gv) ll k hlt7)
                                  rw [hs3] at c1
                                  rw [hs3] at HR7
                                  have c17 := cthenB (cthenB c1 HBM.out) HBX7.out
                                  clear hc c2 hs3 c1
                                  generalize ll.getD k [] = l at *
                                  cases bb with
                                  | true =>
                                    go_wp2_with fail
                                    go_quiet (fail)
                                    go_wp2_with fail
                                    go_roundg (ll.length - (k + 1))
                                    case measure => omega
                                    case rel => exact ⟨k + 1, _, by omega, by omega, by go_num, rfl, Lib.hid (by rw [HAS.out, ← HBB.out]; rfl), below_drewN HBX7.out _⟩
                                  | false =>
                                    have HS7 := Lib.hid (fun X (hX : s7S wM b (off + k) (.slice ao3 l.length cap3) bm (om + gi) gv X) => (has_any _ l gv gv X ((HR7.out.on HBM.out).on hX.2.2)).mono (fun e w' ⟨p, q⟩ => (⟨p, s7S.on hX q⟩ : _ ∧ s7S wM b (off + k) (.slice ao3 l.length cap3) bm (om + gi) gv w')))
                                    have HST := Lib.hid (s7S.on (w := wM) ⟨c17, cg7, HBX7.out⟩ (Below.refl _ _).drew)
                                    generalize hasB l gv gv = hq at *
                                    go_wp2_with fail
                                    go_region_held3 (s7S wM b (off + k) (.slice ao3 l.length cap3) bm (om + gi) gv) (first | with_reducible exact HST.out | with_reducible assumption) (first | (go_at_call 9; with_reducible refine (HS7.out _ ?_).mono ?_; with_reducible assumption; rintro e w9 ⟨rfl, h9⟩))
                                    go_wp2_with fail
                                    go_roundg (ll.length - (k + 1))
                                    case measure => omega
                                    case rel => exact ⟨k + 1, _, by omega, by omega, by go_num, rfl, Lib.hid (by rw [HAS.out, ← HBB.out]; rfl), h9.2.2⟩
                                · have hltz7 : ¬ (k : Int) < (ll.length : Int) := by omega
                                  have : k = ll.length := by omega
                                  subst this
                                  rw [List.take_of_length_le (Nat.le_refl _)] at HBB
                                  have HJN : Hid (hasB (joinL ll) gv gv = bb) := Lib.hid (by rw [HBB.out, has_joinL, hasB_flatten])
                                  have hbb : (bb != bb) = false := by simp
                                  clear HBB
                                  go_wp2_with (go_at_call 9; refine (has_is bb (HJR.out.on HBX7.out) HJN.out).mono ?_; rintro e w9 ⟨rfl, hb9⟩)
                                  go_roundg (A.length + 1 - (i6 + 1))
                                  case measure => omega
                                  case rel => exact ⟨i6 + 1, by omega, by omega, by go_num, bthen HBX7.out hb9⟩
                          · have hltz6 : ¬ (i6 : Int) ≤ (A.length : Int) := by omega
                            go_wp2_with fail
                            go_roundg (M.length - (gi + 1))
                            case measure => omega
                            case rel => exact ⟨gi + 1, by omega, by omega, by go_num, HBX.out⟩
                      · have hltz5 : ¬ (gi : Int) < (M.length : Int) := by omega
                        go_wp2_with (go_at_call 10; refine (HK.out _ (HBM.out.trans (HBX5.out.mono HBM.out.size))).mono ?_; rintro e w12 ⟨rfl, hb12⟩)
                        go_ret
                        exact ⟨rfl, hb12⟩
                · have hltz4 : ¬ (i : Int) < (A.length : Int) := by omega
                  go_wp2_with fail
                  have HBM := Lib.hid (HBA.out.trans (HOM.out.below.mono HBA.out.size))
                  have HJR := Lib.hid (((HOJ.out.rgs (by have := joinL_len ll; omega)).on HOA.out.below).on HOM.out.below)
                  go_loopg [16] M.length (fun gg s16 wr => ∃ gi : Nat, gi ≤ M.length ∧ M.length - gi ≤ gg ∧ s16 = .int .i64 gi ∧ Below wM.heap.size wM wr)
                  case atStart => exact ⟨0, Nat.zero_le _, by omega, rfl, Below.refl _ _⟩
                  case round =>
                    obtain ⟨gi, hgi, hgg5, rfl, hbx5⟩ := hrel
                    have HBX5 := Lib.hid hbx5
                    clear hbx5
                    by_cases hlt5 : gi < M.length
                    · have hltz5 : (gi : Int) < (M.length : Int) := by omega
                      obtain ⟨bm, om, haoM, hbm, hcm⟩ := HCM.out (by omega)
                      subst haoM
                      have cg := hcm gi hlt5
                      clear hcm
                      generalize M.getD gi 0 = gv at *
                      go_wp2_with fail
                      go_loopg [17] (A.length + 1) (fun gg s17 wr => ∃ i6 : Nat, i6 ≤ A.length + 1 ∧ A.length + 1 - i6 ≤ gg ∧ s17 = .int .i64 i6 ∧ Below wM.heap.size wM wr)
                      case atStart => exact ⟨0, Nat.zero_le _, by omega, rfl, HBX5.out⟩
                      case round =>
                        clear HBX5
                        obtain ⟨i6, hi6, hgg6, rfl, hbx⟩ := hrel
                        have HBX := Lib.hid hbx
                        clear hbx
                        have cg6 := cthenB cg HBX.out
                        by_cases hlt6 : i6 ≤ A.length
                        · have hltz6 : (i6 : Int) ≤ (A.length : Int) := by omega
                          by_cases hl7 : i6 < A.length
                          · have hlz7 : (i6 : Int) < (A.length : Int) := by omega
                            obtain ⟨ba, oa, haoA, hba, hca⟩ := HCA.out (by omega)
                            subst haoA
                            have c6 := cthenB (cthenB (hca i6 hl7) HOM.out.below) HBX.out
                            clear hca
                            generalize A.getD i6 0 = n at *
                            go_wp2_with fail
                            go_loopg [19, 20] ll.length (fun gg s19 s20 wr => ∃ (k : Nat) (bb : Bool), k ≤ ll.length ∧ ll.length - k ≤ gg ∧ s20 = .int .i64 k ∧ s19 = .bool bb ∧ Hid (bb = (ll.take k).any fun l => hasB l n gv) ∧ Below wM.heap.size wM wr)
                            case atStart => exact ⟨0, false, Nat.zero_le _, by omega, rfl, rfl, Lib.hid (by simp), HBX.out⟩
                            case round =>
                              obtain ⟨k, bb, hk, hgg7, rfl, rfl, HBB, hbx7⟩ := hrel
                              have HBX7 := Lib.hid hbx7
                              clear hbx7
                              have cg7 := cthenB cg HBX7.out
                              by_cases hlt7 : k < ll.length
                              · have hltz7 : (k : Int) < (ll.length : Int) := by omega
                                obtain ⟨b, off, f, hao, hb, hc⟩ := HC0.out (by omega)
                                subst hao
                                obtain ⟨c1, c2⟩ := hc k hlt7
                                have HR7 := Lib.hid c2
                                obtain ⟨ao3, cap3, hs3, _⟩ := c2.shape
                                have HAS := Lib.hid (any_snoc (fun l => hasB l n gv) ll k hlt7)
                                rw [hs3] at c1
                                rw [hs3] at HR7
                                have c17 := cthenB (cthenB c1 HBM.out) HBX7.out
                                clear hc c2 hs3 c1
                                generalize ll.getD k [] = l at *
                                cases bb with
                                | true =>
                                  go_wp2_with fail
                                  go_quiet (fail)
                                  go_wp2_with fail
                                  go_roundg (ll.length - (k + 1))
                                  case measure => omega
                                  case rel => exact ⟨k + 1, _, by omega, by omega, by go_num, rfl, Lib.hid (by rw [HAS.out, ← HBB.out]; rfl), below_drewN HBX7.out _⟩
                                | false =>
                                  have HS7 := Lib.hid (fun X (hX : s7S wM b (off + k) (.slice ao3 l.length cap3) bm (om + gi) gv X) => (has_any _ l n gv X ((HR7.out.on HBM.out).on hX.2.2)).mono (fun e w' ⟨p, q⟩ => (⟨p, s7S.on hX q⟩ : _ ∧ s7S wM b (off + k) (.slice ao3 l.length cap3) bm (om + gi) gv w')))
                                  have HST := Lib.hid (s7S.on (w := wM) ⟨c17, cg7, HBX7.out⟩ (Below.refl _ _).drew)
                                  generalize hasB l n gv = hq at *
                                  go_wp2_with fail
                                  go_region_held3 (s7S wM b (off + k) (.slice ao3 l.length cap3) bm (om + gi) gv) (first | with_reducible exact HST.out | with_reducible assumption) (first | (go_at_call 9; with_reducible refine (HS7.out _ ?_).mono ?_; with_reducible assumption; rintro e w9 ⟨rfl, h9⟩))
                                  go_wp2_with fail
                                  go_roundg (ll.length - (k + 1))
                                  case measure => omega
                                  case rel => exact ⟨k + 1, _, by omega, by omega, by go_num, rfl, Lib.hid (by rw [HAS.out, ← HBB.out]; rfl), h9.2.2⟩
                              · have hltz7 : ¬ (k : Int) < (ll.length : Int) := by omega
                                have : k = ll.length := by omega
                                subst this
                                rw [List.take_of_length_le (Nat.le_refl _)] at HBB
                                have HJN : Hid (hasB (joinL ll) n gv = bb) := Lib.hid (by rw [HBB.out, has_joinL, hasB_flatten])
                                have hbb : (bb != bb) = false := by simp
                                clear HBB
                                go_wp2_with (go_at_call 9; refine (has_is bb (HJR.out.on HBX7.out) HJN.out).mono ?_; rintro e w9 ⟨rfl, hb9⟩)
                                go_roundg (A.length + 1 - (i6 + 1))
                                case measure => omega
                                case rel => exact ⟨i6 + 1, by omega, by omega, by go_num, bthen HBX7.out hb9⟩
                          · have hlz7 : ¬ (i6 : Int) < (A.length : Int) := by omega
                            go_wp2_with fail
                            go_loopg [19, 20] ll.length (fun gg s19 s20 wr => ∃ (k : Nat) (bb : Bool), k ≤ ll.length ∧ ll.length - k ≤ gg ∧ s20 = .int .i64 k ∧ s19 = .bool bb ∧ Hid (bb = (ll.take k).any fun l => hasB l gv gv) ∧ Below wM.heap.size wM wr)
                            case atStart => exact ⟨0, false, Nat.zero_le _, by omega, rfl, rfl, Lib.hid (by simp), HBX.out⟩
                            case round =>
                              obtain ⟨k, bb, hk, hgg7, rfl, rfl, HBB, hbx7⟩ := hrel
                              have HBX7 := Lib.hid hbx7
                              clear hbx7
                              have cg7 := cthenB cg HBX7.out
                              by_cases hlt7 : k < ll.length
                              · have hltz7 : (k : Int) < (ll.length : Int) := by omega
                                obtain ⟨b, off, f, hao, hb, hc⟩ := HC0.out (by omega)
                                subst hao
                                obtain ⟨c1, c2⟩ := hc k hlt7
                                have HR7 := Lib.hid c2
                                obtain ⟨ao3, cap3, hs3, _⟩ := c2.shape
                                have HAS := Lib.hid (any_snoc (fun l => hasB l gv gv) ll k hlt7)
                                rw [hs3] at c1
                                rw [hs3] at HR7
                                have c17 := cthenB (cthenB c1 HBM.out) HBX7.out
                                clear hc c2 hs3 c1
                                generalize ll.getD k [] = l at *
                                cases bb with
                                | true =>
                                  go_wp2_with fail
                                  go_quiet (fail)
                                  go_wp2_with fail
                                  go_roundg (ll.length - (k + 1))
                                  case measure => omega
                                  case rel => exact ⟨k + 1, _, by omega, by omega, by go_num, rfl, Lib.hid (by rw [HAS.out, ← HBB.out]; rfl), below_drewN HBX7.out _⟩
                                | false =>
                                  have HS7 := Lib.hid (fun X (hX : s7S wM b (off + k) (.slice ao3 l.length cap3) bm (om + gi) gv X) => (has_any _ l gv gv X ((HR7.out.on HBM.out).on hX.2.2)).mono (fun e w' ⟨p, q⟩ => (⟨p, s7S.on hX q⟩ : _ ∧ s7S wM b (off + k) (.slice ao3 l.length cap3) bm (om + gi) gv w')))
                                  have HST := Lib.hid (s7S.on (w := wM) ⟨c17, cg7, HBX7.out⟩ (Below.refl _ _).drew)
                                  generalize hasB l gv gv = hq at *
                                  go_wp2_with fail
                                  go_region_held3 (s7S wM b (off + k) (.slice ao3 l.length cap3) bm (om + gi) gv) (first | with_reducible exact HST.out | with_reducible assumption) (first | (go_at_call 9; with_reducible refine (HS7.out _ ?_).mono ?_; with_reducible assumption; rintro e w9 ⟨rfl, h9⟩))
                                  go_wp2_with fail
                                  go_roundg (ll.length - (k + 1))
                                  case measure => omega
                                  case rel => exact ⟨k + 1, _, by omega, by omega, by go_num, rfl, Lib.hid (by rw [HAS.out, ← HBB.out]; rfl), h9.2.2⟩
                              · have hltz7 : ¬ (k : Int) < (ll.length : Int) := by omega
                                have : k = ll.length := by omega
                                subst this
                                rw [List.take_of_length_le (Nat.le_refl _)] at HBB
                                have HJN : Hid (hasB (joinL ll) gv gv = bb) := Lib.hid (by rw [HBB.out, has_joinL, hasB_flatten])
                                have hbb : (bb != bb) = false := by simp
                                clear HBB
                                go_wp2_with (go_at_call 9; refine (has_is bb (HJR.out.on HBX7.out) HJN.out).mono ?_; rintro e w9 ⟨rfl, hb9⟩)
                                go_roundg (A.length + 1 - (i6 + 1))
                                case measure => omega
                                case rel => exact ⟨i6 + 1, by omega, by omega, by go_num, bthen HBX7.out hb9⟩
                        · have hltz6 : ¬ (i6 : Int) ≤ (A.length : Int) := by omega
                          go_wp2_with fail
                          go_roundg (M.length - (gi + 1))
                          case measure => omega
                          case rel => exact ⟨gi + 1, by omega, by omega, by go_num, HBX.out⟩
                    · have hltz5 : ¬ (gi : Int) < (M.length : Int) := by omega
                      go_wp2_with (go_at_call 10; refine (HK.out _ (HBM.out.trans (HBX5.out.mono HBM.out.size))).mono ?_; rintro e w12 ⟨rfl, hb12⟩)
                      go_ret
                      exact ⟨rfl, hb12⟩
    · have h60z : ¬ (m : Int) ≤ 60 := by omega
      have h60y : (60 : Int) < (m : Int) := by omega
      by_cases hlt : i < ll.length
      · have hltz : (i : Int) < (ll.length : Int) := by omega
        go_wp2_with fail
        go_ret
        exact ⟨rfl, Below.refl _ _⟩
      · have hltz : ¬ (i : Int) < (ll.length : Int) := by omega
        go_wp2_with fail
        go_ret
        exact ⟨rfl, Below.refl _ _⟩
end Go.Proofs.YtoikjkcnekkehaaDoor
