/- The reference: put, Least. -/
import Derived.Test.YtkclcjnfjielfabDoorWc
import Derived.Deep.AppendLies
import Derived.Deep.RegionHeld3
namespace Go.Proofs.YtkclcjnfjielfabDoor
open Go.RowKit

structure TwoR (B : Nat) (v4 : Value) (l4 : List Rg) (v5 : Value) (l5 : List Rg) (W0 w : World) : Prop where
  a : OwnR B v4 l4 W0 w
  b : OwnR B v5 l5 W0 w
  d : ∀ k, v4.ownBlock = some k → v5.ownBlock ≠ some k
theorem TwoR.swap {B : Nat} {v4 v5 : Value} {l4 l5 : List Rg} {W0 w : World} (h : TwoR B v4 l4 v5 l5 W0 w) : TwoR B v5 l5 v4 l4 W0 w := ⟨h.b, h.a, fun k h1 h2 => h.d k h2 h1⟩
theorem TwoR.nil {B : Nat} {W0 w : World} (h : Below B W0 w) (hB : B ≤ w.heap.size) : TwoR B (.slice none 0 0) [] (.slice none 0 0) [] W0 w := ⟨OwnR.nil h hB, OwnR.nil h hB, fun k h => by simp [Value.ownBlock] at h⟩
/-- The second one grows by a piece. -/
theorem appTR {ops : Array Oper} {rest : List Oper} {o : Oper} {a : Act} {Q : Exit → Act → World → Prop} (hgd : o.guard = none) (s x : Operand)
    (ho : o.op = .call { callee := .builtin .append, args := #[s, x], argTypes := #[25, 25] })
    {B : Nat} {v4 v5 : Value} {l4 l5 : List Rg} {W0 w : World} (p q : Int) (h2 : TwoR B v4 l4 v5 l5 W0 w) (hs : a.eval s = v5) (hx : a.eval x = .slice (some ⟨w.heap.size, 0, none⟩) 1 1)
    (hlen : l5.length + 1 ≤ 8796093022208)
    (h : ∀ v' w', TwoR B v4 l4 v' (l5 ++ [(p, q)]) W0 w' → wpList Tryd.prog ops Q rest (a.put o.dst v') w') : wpList Tryd.prog ops Q (o :: rest) a (w.alloc (.cells #[.int .i64 p, .int .i64 q] 63)) := by
  obtain ⟨i0, hi, hz0, hz1, hz2⟩ := info_parts Tryd.infoRange
  have ha := h2.a.alloc (.cells #[.int .i64 p, .int .i64 q] 63)
  have hb := h2.b.alloc (.cells #[.int .i64 p, .int .i64 q] 63)
  refine wpList_append_lies _ hgd s x 25 ho B 63 i0 (rgV 0 0) 2 16 Tryd.underlying25 hi hz0 hz1 hz2 rfl (by decide) v5 l5.length (rc l5) hs hb.row ⟨w.heap.size, 0, none⟩ 1 1 [.int .i64 p, .int .i64 q] hx rfl ?_ ?_ (by decide) (by unfold maxLen; omega) (by omega) hb.base _ rfl ?_
  · intro j u hj
    match j, hj with
    | 0, hj => simp at hj; subst hj; simp [Addr.add]
    | 1, hj => simp at hj; subst hj; simp [Addr.add]
    | (j + 2), hj => simp at hj
  · intro u hu; simp at hu; rcases hu with rfl | rfl <;> rfl
  · intro g cap w' ho' hg hat _
    have hbb := hb.below.grown hg hb.base (fun k hk => (hb.row.lt k hk).1)
    have hba := Nat.le_trans hb.base hg.size
    refine h _ w' ⟨⟨ha.row.kept hg ?_, hbb, hba⟩, ⟨?_, hbb, hba⟩, fun k h4 h5 => ?_⟩
    · cases h4 : v4.ownBlock with
      | none => exact .inl rfl
      | some k => exact .inr (fun e => h2.d k h4 e.symm)
    · rw [List.length_append, rc_append]
      exact ho'
    · have e : g = k := by simpa [Value.ownBlock] using h5
      subst e
      rcases hat with h6 | h6
      · exact h2.d g h4 h6
      · have := (ha.row.lt g h4).2
        omega

abbrev PS := List Rg × List Rg × Rg
def putF (l : List Rg) (p : Rg) (k : Nat) : PS := (l.take k).foldl putStep ([], [], p)
theorem putF_succ (l : List Rg) (p : Rg) (k : Nat) (hk : k < l.length) : putF l p (k + 1) = putStep (putF l p k) (l.getD k (0, 0)) := by
  unfold putF
  rw [take_snocR l k hk, List.foldl_append]
  rfl
def okP (p : Rg) : Prop := 1 ≤ p.1 ∧ p.1 ≤ p.2 ∧ p.2 ≤ 4294967295
structure PutI (k : Nat) (st : PS) : Prop where
  l1 : st.1.length ≤ k
  l2 : st.2.1.length ≤ k
  ok : okP st.2.2
theorem PutI.next {k : Nat} {st : PS} {q : Rg} (h : PutI k st) (hq : okP q) : PutI (k + 1) (putStep st q) := by
  obtain ⟨h1, h2, h3, h4, h5⟩ := h
  obtain ⟨q1, q2, q3⟩ := hq
  unfold putStep
  split
  · exact ⟨by simp; omega, by show st.2.1.length ≤ k + 1; omega, ⟨h3, h4, h5⟩⟩
  · split
    · exact ⟨by show st.1.length ≤ k + 1; omega, by simp; omega, ⟨h3, h4, h5⟩⟩
    · refine ⟨by show st.1.length ≤ k + 1; omega, by show st.2.1.length ≤ k + 1; omega, ?_⟩
      show 1 ≤ min st.2.2.1 q.1 ∧ min st.2.2.1 q.1 ≤ max st.2.2.2 q.2 ∧ max st.2.2.2 q.2 ≤ 4294967295
      omega
theorem okC_okP {l : List Rg} (h : okC l) (k : Nat) (hk : k < l.length) : okP (l.getD k (0, 0)) := by
  have hm : l.getD k (0, 0) ∈ l := by rw [List.getD_eq_getElem?_getD, List.getElem?_eq_getElem hk]; exact List.getElem_mem hk
  exact h.2 _ hm
theorem putF_end {l : List Rg} {p : Rg} (h : okC l) (hp : okP p) : (putF l p l.length).1 ++ [(putF l p l.length).2.2] ++ (putF l p l.length).2.1 = putR l p := by
  have := putL_eq (pre := []) h.1 (p := p) hp.2.1
  unfold putF
  rw [List.take_length]
  simpa using this
theorem okC_putR {l : List Rg} {p : Rg} (h : okC l) (hp : okP p) : okC (putR l p) := by
  obtain ⟨p1, p2, p3⟩ := hp
  have hc := putR_canon h.1 (p := p) (by omega) p2
  refine ⟨hc.1, fun q hq => ?_⟩
  have h1 := canonF_mem hc.1 hq
  have e1 : cov (putR l p) q.1 := ⟨q, hq, by omega, by omega⟩
  have e2 : cov (putR l p) q.2 := ⟨q, hq, by omega, by omega⟩
  have hb : ∀ n, cov (putR l p) n → 1 ≤ n ∧ n ≤ 4294967295 := fun n hn => by
    rcases (hc.2 n).1 hn with ⟨x, hx, h3, h4⟩ | h3
    · have := h.2 x hx; omega
    · omega
  have := hb _ e1
  have := hb _ e2
  omega
theorem putR_len (l : List Rg) (p : Rg) : (putR l p).length ≤ l.length + 1 := by
  induction l generalizing p with
  | nil => simp [putR]
  | cons q s ih =>
    unfold putR
    split
    · have := ih p; simp; omega
    · split
      · simp
      · have := ih (min p.1 q.1, max p.2 q.2); simp; omega
set_option maxRecDepth 100000 in
set_option maxHeartbeats 4000000 in
theorem put_any (v : Value) (l : List Rg) (a b : Int) (w : World) (hr : Rgs w v l) (hl : l.length ≤ 1000000) (hok : okC l) (hp : okP (a, b)) :
    Calls Tryd.prog 37 #[v, .int .i64 a, .int .i64 b] w fun e w' => ∃ v', e = .returned v' ∧ OwnR w.heap.size v' (putR l (a, b)) w w' := by
  obtain ⟨ao, cap, hv, hc⟩ := hr.shape
  subst hv
  have HC := Lib.hid hc
  have HOK := Lib.hid (okC_okP hok)
  have HEND := Lib.hid (putF_end hok hp)
  have HS := Lib.hid (putF_succ l (a, b))
  have H0 : Hid (PutI 0 (putF l (a, b) 0) ∧ (putF l (a, b) 0).1 = [] ∧ (putF l (a, b) 0).2.1 = [] ∧ (putF l (a, b) 0).2.2.1 = a ∧ (putF l (a, b) 0).2.2.2 = b) := Lib.hid ⟨⟨by simp [putF], by simp [putF], hp⟩, by simp [putF], by simp [putF], by simp [putF], by simp [putF]⟩
  clear hc hr hok hp
  generalize putR l (a, b) = r at *
  generalize putF l (a, b) = F at *
  go_enter Tryd.func37, Tryd.ntmps37
  go_wp2_with fail
  go_loopg [1, 2, 7, 8, 9] l.length (fun gg s1 s2 s7 s8 s9 wr => ∃ (k : Nat) (x y : Int) (v7 v8 : Value) (l7 l8 : List Rg) (X : World), X = wr ∧ k ≤ l.length ∧ l.length - k ≤ gg ∧ s9 = .int .i64 k ∧ s1 = .int .i64 x ∧ s2 = .int .i64 y ∧ s7 = v7 ∧ s8 = v8 ∧ 1 ≤ x ∧ x ≤ 4294967295 ∧ 1 ≤ y ∧ y ≤ 4294967295 ∧ l7.length ≤ k ∧ l8.length ≤ k ∧ TwoR w.heap.size v7 l7 v8 l8 w X ∧ Hid (PutI k (F k) ∧ F k = (l7, l8, (x, y))))
  case atStart =>
    obtain ⟨h1, h2, h3, h4, h5⟩ := H0.out
    have hok0 := h1.ok
    rw [okP, h4, h5] at hok0
    refine ⟨0, a, b, _, _, [], [], _, rfl, Nat.zero_le _, by omega, rfl, rfl, rfl, rfl, rfl, by omega, by omega, by omega, by omega, Nat.zero_le _, Nat.zero_le _, TwoR.nil (Below.refl _ _) (Nat.le_refl _), Lib.hid ⟨h1, ?_⟩⟩
    exact Prod.ext h2 (Prod.ext h3 (Prod.ext h4 h5))
  case round =>
    obtain ⟨k, x, y, v7, v8, l7, l8, X, hX, hk, hgg, rfl, rfl, rfl, hv7, hv8, hx1, hx2, hy1, hy2, hl7, hl8, htw, HP⟩ := hrel
    subst hX
    subst hv7
    subst hv8
    have HT := Lib.hid htw
    clear htw
    by_cases hlt : k < l.length
    · have hltz : (k : Int) < (l.length : Int) := by omega
      obtain ⟨bb, off, hb, hs, hcc⟩ := HC.out (by omega)
      subst hb
      obtain ⟨c1, c2⟩ := hcc k hlt
      rw [← HT.out.a.below.cell (p := ⟨bb, off + k * 2, none⟩) hs] at c1
      rw [← HT.out.a.below.cell (p := ⟨bb, off + k * 2 + 1, none⟩) hs] at c2
      have HQ := Lib.hid (HP.out.1.next (HOK.out k hlt))
      have HF : Hid (F (k + 1) = putStep (l7, l8, (x, y)) (l.getD k (0, 0))) := Lib.hid (by rw [HS.out k hlt, HP.out.2])
      have hq := HOK.out k hlt
      rw [HP.out.2] at HQ
      have HE : Hid (l.getD k (0, 0) = ((l.getD k (0, 0)).1, (l.getD k (0, 0)).2)) := Lib.hid rfl
      obtain ⟨hq1, hq2, hq3⟩ := hq
      clear hcc
      generalize (l.getD k (0, 0)).1 = p at *
      generalize (l.getD k (0, 0)).2 = z at *
      generalize l.getD k (0, 0) = pz at *
      by_cases h1 : z < x - 1
      · have HG : Hid (F (k + 1) = (l7 ++ [(p, z)], l8, (x, y))) := Lib.hid (by rw [HF.out, HE.out]; unfold putStep; rw [if_pos (by exact h1)])
        have HQ2 : Hid (PutI (k + 1) (F (k + 1))) := Lib.hid (by rw [HF.out]; exact HQ.out)
        go_wp2_with (at_builtin; refine appTR rfl _ _ rfl p z HT.out.swap rfl rfl (by omega) ?_)
        intro v10 w10 ht10
        have HT10 := Lib.hid ht10.swap
        clear ht10
        go_wp2_with fail
        go_roundg (l.length - (k + 1))
        case measure => omega
        case rel => exact ⟨k + 1, x, y, _, _, _, _, _, rfl, by omega, by omega, by go_num, rfl, rfl, rfl, rfl, hx1, hx2, hy1, hy2, by simp; omega, by omega, HT10.out, Lib.hid ⟨HQ2.out, HG.out⟩⟩
      · by_cases h2 : y + 1 < p
        · have HG : Hid (F (k + 1) = (l7, l8 ++ [(p, z)], (x, y))) := Lib.hid (by rw [HF.out, HE.out]; unfold putStep; rw [if_neg (by exact h1), if_pos (by exact h2)])
          have HQ2 : Hid (PutI (k + 1) (F (k + 1))) := Lib.hid (by rw [HF.out]; exact HQ.out)
          go_wp2_with (at_builtin; refine appTR rfl _ _ rfl p z HT.out rfl rfl (by omega) ?_)
          intro v10 w10 ht10
          have HT10 := Lib.hid ht10
          clear ht10
          go_wp2_with fail
          go_roundg (l.length - (k + 1))
          case measure => omega
          case rel => exact ⟨k + 1, x, y, _, _, _, _, _, rfl, by omega, by omega, by go_num, rfl, rfl, rfl, rfl, hx1, hx2, hy1, hy2, by omega, by simp; omega, HT10.out, Lib.hid ⟨HQ2.out, HG.out⟩⟩
        · have HG : Hid (F (k + 1) = (l7, l8, (min x p, max y z))) := Lib.hid (by rw [HF.out, HE.out]; unfold putStep; rw [if_neg (by exact h1), if_neg (by exact h2)])
          have HQ2 : Hid (PutI (k + 1) (F (k + 1))) := Lib.hid (by rw [HF.out]; exact HQ.out)
          have hm1 : 1 ≤ min x p ∧ min x p ≤ 4294967295 := by omega
          have hm2 : 1 ≤ max y z ∧ max y z ≤ 4294967295 := by omega
          have HM1 := Lib.hid hm1
          have HM2 := Lib.hid hm2
          clear hm1 hm2
          go_wp2_with fail
          go_roundg (l.length - (k + 1))
          case measure => omega
          case rel => exact ⟨k + 1, min x p, max y z, _, _, _, _, _, rfl, by omega, by omega, by go_num, rfl, rfl, rfl, rfl, HM1.out.1, HM1.out.2, HM2.out.1, HM2.out.2, by omega, by omega, HT.out, Lib.hid ⟨HQ2.out, HG.out⟩⟩
    · have hltz : ¬ (k : Int) < (l.length : Int) := by omega
      have hkl : k = l.length := by omega
      subst hkl
      have HR : Hid (r = l7 ++ (x, y) :: l8) := Lib.hid (by rw [← HEND.out, HP.out.2]; simp)
      have hz : l7.length + 1 + l8.length ≤ 8796093022208 := by omega
      go_wp2_with (at_builtin; refine appTR rfl _ _ rfl x y HT.out.swap rfl rfl (by omega) ?_)
      intro v10 w10 ht10
      have HT10 := Lib.hid ht10.swap
      have HR8 := Lib.hid (ht10.a.rgs (by omega))
      clear ht10
      go_wp2_with (at_builtin; refine appL rfl _ _ rfl HT10.out.a HR8.out rfl rfl (by simp; omega) ?_)
      intro v11 w11 ho11
      have HO := Lib.hid ho11
      clear ho11
      go_wp2_with fail
      go_ret
      exact ⟨_, rfl, by rw [HR.out]; exact HO.out⟩
end Go.Proofs.YtkclcjnfjielfabDoor
