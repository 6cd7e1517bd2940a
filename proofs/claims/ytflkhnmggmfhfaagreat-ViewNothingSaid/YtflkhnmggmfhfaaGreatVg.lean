/- span: together. -/
import Derived.Test.YtflkhnmggmfhfaaGreatVf
import Derived.Deep.QuietTactic
import Derived.BigQuiet
import Derived.Test.YtflkhnmggmfhfaaGreatVe
namespace Go.Proofs.YtflkhnmggmfhfaaGreat
open Go.RowKit

theorem OwnR.form {B : Nat} {v : Value} {pre : List Rg} {q : Rg} {W0 w : World} (h : OwnR B v (pre ++ [q]) W0 w) : ∃ g cap, v = .slice (some ⟨g, 0, none⟩) (pre.length + 1) cap ∧ B ≤ g ∧ g < w.heap.size ∧ w.cell? ⟨g, pre.length * 2, none⟩ = some (.int .i64 q.1) ∧ w.cell? ⟨g, pre.length * 2 + 1, none⟩ = some (.int .i64 q.2) ∧ w.frozen? ⟨g, pre.length * 2 + 1, none⟩ = false := by
  rcases h.row.2 with ⟨rfl, h0⟩ | ⟨g, cap, cur, rfl, hB, hg, rest⟩
  · simp at h0
  · have e : (pre ++ [q]).length = pre.length + 1 := by simp
    refine ⟨g, cap, by rw [e], hB, (Array.getElem?_eq_some_iff.1 hg).1, ?_, ?_, h.row.frozenAt _⟩
    · rw [h.row.cellAt _ (by rw [e]; omega), (rc_at (pre ++ [q]) pre.length (by simp)).1]; simp
    · rw [h.row.cellAt _ (by rw [e]; omega), (rc_at (pre ++ [q]) pre.length (by simp)).2]; simp
theorem rc_set2 (pre : List Rg) (q : Rg) (z : Int) : (rc (pre ++ [q])).set (pre.length * 2 + 1) (.int .i64 z) = rc (pre ++ [(q.1, z)]) := by
  rw [rc_append, rc_append, List.set_append_right _ _ (by rw [rc_length]; omega), rc_length, show pre.length * 2 + 1 - pre.length * 2 = 1 by omega]
  rfl
theorem OwnR.setTo {B g cap : Nat} {pre : List Rg} {q : Rg} {W0 w : World} (h : OwnR B (.slice (some ⟨g, 0, none⟩) (pre.length + 1) cap) (pre ++ [q]) W0 w) (hB : B ≤ g) (z : Int) :
    OwnR B (.slice (some ⟨g, 0, none⟩) (pre.length + 1) cap) (pre ++ [(q.1, z)]) W0 (w.setCell ⟨g, pre.length * 2 + 1, none⟩ (.int .i64 z)) := by
  have e : (pre ++ [q]).length = pre.length + 1 := by simp
  have e' : (pre ++ [(q.1, z)]).length = pre.length + 1 := by simp
  have hr := h.row
  rw [e] at hr
  have hs := hr.stored (pre.length * 2 + 1) (.int .i64 z)
  rw [rc_set2] at hs
  exact ⟨by rw [e']; exact hs.1, h.below.setCell hB _, by simpa using h.base⟩

def accT (l : List Rg) (k : Nat) : List Rg := (l.take k).foldl stp []
theorem accT_succ (l : List Rg) (k : Nat) (hk : k < l.length) : accT l (k + 1) = stp (accT l k) (l.getD k (0, 0)) := by
  unfold accT
  rw [List.take_succ_eq_append_getElem hk, List.foldl_append]
  simp [hk]
theorem stp_length (a : List Rg) (p : Rg) : (stp a p).length ≤ a.length + 1 := by
  induction a with
  | nil => simp [stp]
  | cons x r ih =>
    cases r with
    | nil => unfold stp; split <;> simp
    | cons y r => show (x :: stp (y :: r) p).length ≤ _; simp at ih ⊢; omega
theorem accT_length (l : List Rg) (k : Nat) : (accT l k).length ≤ k := by
  induction k with
  | zero => simp [accT]
  | succ k ih =>
    by_cases hk : k < l.length
    · rw [accT_succ l k hk]; have := stp_length (accT l k) (l.getD k (0, 0)); omega
    · have : accT l (k + 1) = accT l k := by unfold accT; rw [List.take_of_length_le (by omega), List.take_of_length_le (by omega)]
      rw [this]; omega
theorem snoc_of {l : List Rg} (h : l ≠ []) : ∃ pre q, l = pre ++ [q] := ⟨l.dropLast, l.getLast h, (List.dropLast_concat_getLast h).symm⟩

set_option maxRecDepth 100000 in
set_option maxHeartbeats 2000000 in
theorem together_any (v : Value) (l : List Rg) (w : World) (hr : Rgs w v l) (hl : l.length ≤ 8796093022207) (hb : ∀ p ∈ l, 1 ≤ p.1 ∧ p.1 ≤ p.2 ∧ p.1 ≤ 9223372036854775807) :
    Calls Tryz.prog 84 #[v] w fun e w' => ∃ v', e = .returned v' ∧ OwnR w.heap.size v' (tog l) w w' := by
  have HC := Lib.hid (clone_any v l w hr)
  have HB := Lib.hid hb
  clear hr hb
  go_enter Tryz.func84, Tryz.ntmps84
  go_wp2_with fail
  refine HC.out.mono ?_
  rintro e w1 ⟨v1, rfl, ho1⟩
  have HO1 := Lib.hid ho1
  clear ho1
  go_wp2_with fail
  refine (sort_any HO1.out (by omega)).mono ?_
  rintro e w2 ⟨rfl, l', hr2, hlen, hmem, hso, hbw, hsz⟩
  have HR2 := Lib.hid hr2
  have HM := Lib.hid hmem
  have HS := Lib.hid hso
  have HBW := Lib.hid hbw
  have HLN := Lib.hid hlen
  have HSZ := Lib.hid hsz
  clear hr2 hmem hso hbw hlen hsz
  rcases HR2.out with ⟨hl0, ao, cap, rfl, _⟩ | ⟨gs, off, cap, hv1, hl2, hgs, hcs⟩
  · have HE : Hid (tog l = []) := Lib.hid (by
      have := HLN.out
      rw [hl0] at this
      have : l = [] := List.eq_nil_of_length_eq_zero (by simpa using this.symm)
      rw [this]; rfl)
    go_wp2_with fail
    refine wp_loop_rounds 1 ?_
    rw [rounds_succ]
    go_wp2_with fail
    go_ret
    refine ⟨_, rfl, ?_⟩
    rw [HE.out]
    exact OwnR.nil HBW.out (Nat.le_trans HO1.out.base HSZ.out)
  · subst hv1
    have HCS := Lib.hid hcs
    have HT : Hid (accT l' l'.length = tog l) := Lib.hid (by
      unfold accT
      rw [List.take_of_length_le (Nat.le_refl _)]
      exact tog_of_sorted (m := -1) (fun p hp => by have := HB.out p hp; omega) HM.out HS.out)
    clear hcs
    go_wp2_with fail
    go_loopg [4, 14] l'.length (fun gg s4 s14 wr => ∃ (k : Nat) (v4 : Value), k ≤ l'.length ∧ l'.length - k ≤ gg ∧ s14 = .int .i64 k ∧ v4 = s4 ∧ OwnR w2.heap.size v4 (accT l' k) w2 wr)
    case atStart => exact ⟨0, _, Nat.zero_le _, by omega, rfl, rfl, OwnR.nil (Below.refl _ _) (Nat.le_refl _)⟩
    case round =>
      obtain ⟨k, v4, hk, hgg, rfl, hv4, hown⟩ := hrel
      subst hv4
      have HOW := Lib.hid hown
      clear hown
      by_cases hlt : k < l'.length
      · have hltz : (k : Int) < (l'.length : Int) := by omega
        obtain ⟨c1, c2⟩ := HCS.out k hlt
        rw [← HOW.out.below.cell (p := ⟨gs, off + k * 2, none⟩) hgs] at c1
        rw [← HOW.out.below.cell (p := ⟨gs, off + k * 2 + 1, none⟩) hgs] at c2
        have hbd := HB.out (l'.getD k (0, 0)) ((HM.out _).1 (by rw [List.getD_eq_getElem?_getD, List.getElem?_eq_getElem hlt]; exact List.getElem_mem hlt))
        have hac := Lib.hid (accT_succ l' k hlt)
        have hal := accT_length l' k
        have HQ : Hid (l'.getD k (0, 0) = ((l'.getD k (0, 0)).1, (l'.getD k (0, 0)).2)) := Lib.hid rfl
        generalize (l'.getD k (0, 0)).1 = x at *
        generalize (l'.getD k (0, 0)).2 = y at *
        rw [HQ.out] at hac
        clear HQ
        obtain ⟨hx1, hxy, hx2⟩ := hbd
        by_cases hz : accT l' k = []
        · rw [hz] at HOW hac
          replace hac : Hid (accT l' (k + 1) = [(x, y)]) := hac
          obtain ⟨ao, cp, hsl⟩ : ∃ ao cp, v4 = .slice ao 0 cp := by
            rcases HOW.out.row.2 with ⟨h, _⟩ | ⟨g, cap, cur, h, _⟩
            · exact ⟨_, _, h⟩
            · exact ⟨_, _, h⟩
          subst hsl
          go_wp2_with fail
          go_quiet (fail)
          go_wp2_with (at_builtin; refine appP rfl _ _ rfl x y ((HOW.out.alloc _).drewN _) rfl (by show Value.slice _ 1 1 = _; simp) (by simp) ?_)
          intro v5 w5 ho5
          have HO5 := Lib.hid ho5
          clear ho5
          go_wp2_with fail
          go_roundg (l'.length - (k + 1))
          case measure => omega
          case rel => exact ⟨k + 1, _, by omega, by omega, by go_num, rfl, by rw [hac.out]; exact HO5.out⟩
        · obtain ⟨pre, q, hpq⟩ := snoc_of hz
          rw [hpq] at HOW hac hal
          rw [stp_snoc] at hac
          obtain ⟨g, cp, hsl, hg1, hg2, d1, d2, d3⟩ := HOW.out.form
          subst hsl
          clear hz hpq
          generalize hq1 : q.1 = q1 at *
          generalize hq2 : q.2 = q2 at *
          have HQ1 := Lib.hid hq1
          have HQ2 := Lib.hid hq2
          clear hq1 hq2
          have hpl : pre.length + 2 ≤ 8796093022208 := by (have := HLN.out; simp at hal; omega)
          have b0 : (0 : Int) ≤ (pre.length : Int) := by omega
          by_cases hc : x - 1 ≤ q2
          · have hcd : decide (x - 1 ≤ q2) = true := by simpa using hc
            go_wp2_with fail
            go_quiet (fail)
            rw [if_pos hc] at hac
            go_wp2_with fail
            go_region
            go_wp2_with fail
            go_roundg (l'.length - (k + 1))
            case measure => omega
            case rel => exact ⟨k + 1, _, by omega, by omega, by go_num, rfl, by rw [hac.out, ← HQ1.out]; exact OwnR.setTo ((HOW.out.alloc _).drewN _) hg1 (max q2 y)⟩
          · rw [if_neg hc] at hac
            have hcd : decide (x - 1 ≤ q2) = false := by simpa using hc
            go_wp2_with fail
            go_quiet (fail)
            go_wp2_with (at_builtin; refine appP rfl _ _ rfl x y ((HOW.out.alloc _).drewN _) rfl (by show Value.slice _ 1 1 = _; simp) (by simpa using hpl) ?_)
            intro v5 w5 ho5
            have HO5 := Lib.hid ho5
            clear ho5
            go_wp2_with fail
            go_roundg (l'.length - (k + 1))
            case measure => omega
            case rel => exact ⟨k + 1, _, by omega, by omega, by go_num, rfl, by rw [hac.out, List.append_assoc]; exact HO5.out⟩
      · have hltz : ¬ (k : Int) < (l'.length : Int) := by omega
        have : k = l'.length := by omega
        subst this
        go_wp2_with fail
        go_ret
        refine ⟨_, rfl, ?_⟩
        rw [← HT.out]
        exact (HOW.out.mono (Nat.le_trans HO1.out.base HSZ.out)).shift HBW.out
end Go.Proofs.YtflkhnmggmfhfaaGreat

/- span: lists of numbers in memory; Least. -/
namespace Go.Proofs.YtflkhnmggmfhfaaGreat
open Go.RowKit

def okN (n : Int) : Bool := decide (1 ≤ n) && decide (n ≤ 4294967295)
def ones (l : List Int) : List Rg := (l.filter okN).map fun n => (n, n)
theorem ones_append (a b : List Int) : ones (a ++ b) = ones a ++ ones b := by simp [ones]
theorem ones_mem {l : List Int} {p : Rg} (h : p ∈ ones l) : 1 ≤ p.1 ∧ p.1 ≤ 4294967295 ∧ p.1 = p.2 ∧ p.1 ∈ l := by
  unfold ones at h
  obtain ⟨n, hn, rfl⟩ := List.mem_map.1 h
  have := List.mem_filter.1 hn
  simp [okN] at this
  exact ⟨this.2.1, this.2.2, rfl, this.1⟩
theorem ones_length (l : List Int) : (ones l).length ≤ l.length := by
  unfold ones; rw [List.length_map]; exact List.length_filter_le _ _
def leastL (l : List Int) : List Rg := tog (ones l)
end Go.Proofs.YtflkhnmggmfhfaaGreat

/- span: rows of numbers that the call has made; withStar. -/
namespace Go.Proofs.YtflkhnmggmfhfaaGreat
open Go.RowKit

def starL (l : List Rg) (a b : Int) : List Rg := tog (if a < b then l ++ [(a, b)] else l) ++ [(a, 0)]
theorem tog_length {l : List Rg} : (tog l).length ≤ l.length := by
  have key : ∀ (l acc : List Rg), (l.foldl (fun acc p => putR acc p) acc).length ≤ acc.length + l.length := by
    intro l
    induction l with
    | nil => intro acc; simp
    | cons p r ih =>
      intro acc
      have h1 := ih (putR acc p)
      have h2 : (putR acc p).length ≤ acc.length + 1 := by
        clear ih h1
        induction acc generalizing p with
        | nil => simp [putR]
        | cons q s ih =>
          unfold putR
          split
          · have := ih p; simp; omega
          · split
            · simp
            · have := ih (min p.1 q.1, max p.2 q.2); simp; omega
      simp only [List.foldl_cons, List.length_cons]
      omega
  have := key l []
  simpa [tog] using this
end Go.Proofs.YtflkhnmggmfhfaaGreat

/- span: several sets in memory; Join. -/
namespace Go.Proofs.YtflkhnmggmfhfaaGreat
open Go.RowKit

/-- v is a list of lists of pieces, ll, in memory that is there. -/
def Sets (w : World) (v : Value) (ll : List (List Rg)) : Prop :=
  (ll = [] ∧ ∃ ao cap, v = .slice ao 0 cap ∧ (ao = none → cap = 0)) ∨ ∃ (b off cap : Nat) (f : Nat → Value), v = .slice (some ⟨b, off, none⟩) ll.length cap ∧ ll.length ≤ 5864062014805 ∧ b < w.heap.size ∧ ∀ i, i < ll.length → w.cell? ⟨b, off + i, none⟩ = some (f i) ∧ Rgs w (f i) (ll.getD i [])
theorem Sets.on {w w' : World} {v : Value} {ll : List (List Rg)} (h : Sets w v ll) (hb : Below w.heap.size w w') : Sets w' v ll := by
  rcases h with h | ⟨b, off, cap, f, rfl, h0, h1, h2⟩
  · exact .inl h
  · refine .inr ⟨b, off, cap, f, rfl, h0, Nat.lt_of_lt_of_le h1 hb.size, fun i hi => ?_⟩
    rw [hb.cell (p := ⟨b, off + i, none⟩) h1]
    exact ⟨(h2 i hi).1, (h2 i hi).2.on hb⟩
/-- The shape of a list that is there. -/
theorem Rgs.shape {w : World} {v : Value} {l : List Rg} (h : Rgs w v l) : ∃ ao cap, v = .slice ao l.length cap ∧ (0 < l.length → ∃ b off, ao = some ⟨b, off, none⟩ ∧ b < w.heap.size ∧ ∀ i, i < l.length → w.cell? ⟨b, off + i * 2, none⟩ = some (.int .i64 (l.getD i (0, 0)).1) ∧ w.cell? ⟨b, off + i * 2 + 1, none⟩ = some (.int .i64 (l.getD i (0, 0)).2)) := by
  rcases h with ⟨rfl, ao, cap, rfl, _⟩ | ⟨b, off, cap, rfl, _, h1, h2⟩
  · exact ⟨ao, cap, rfl, fun h => by simp at h⟩
  · exact ⟨_, _, rfl, fun _ => ⟨b, off, rfl, h1, h2⟩⟩

abbrev JS := List Rg × List Int × Bool
def jst (st : JS) (p : Rg) : JS :=
  if pieceB p = false then st
  else if p.1 ≠ 0 ∧ p.2 ≠ 0 then (st.1 ++ [(min p.1 p.2, max p.1 p.2)], st.2.1, st.2.2)
  else if p.1 ≠ p.2 then (st.1, st.2.1 ++ [max p.1 p.2], st.2.2)
  else (st.1, st.2.1, true)
def jfold (ps : List Rg) : JS := ps.foldl jst ([], [], false)
theorem jfold_snoc (ps : List Rg) (p : Rg) : jfold (ps ++ [p]) = jst (jfold ps) p := by simp [jfold]
theorem jst_length (st : JS) (p : Rg) : (jst st p).1.length ≤ st.1.length + 1 ∧ (jst st p).2.1.length ≤ st.2.1.length + 1 := by
  unfold jst
  repeat' split
  all_goals simp
theorem jfold_length (ps : List Rg) : (jfold ps).1.length ≤ ps.length ∧ (jfold ps).2.1.length ≤ ps.length := by
  have key : ∀ (ps : List Rg) (st : JS), (ps.foldl jst st).1.length ≤ st.1.length + ps.length ∧ (ps.foldl jst st).2.1.length ≤ st.2.1.length + ps.length := by
    intro ps
    induction ps with
    | nil => intro st; simp
    | cons p r ih =>
      intro st
      have h1 := ih (jst st p)
      have h2 := jst_length st p
      simp only [List.foldl_cons, List.length_cons]
      omega
  have := key ps ([], [], false)
  simpa [jfold] using this
theorem pieceB_iff (p : Rg) : pieceB p = true ↔ 0 ≤ p.1 ∧ p.1 ≤ 4294967295 ∧ 0 ≤ p.2 ∧ p.2 ≤ 4294967295 := by
  unfold pieceB endB; simp; omega
theorem jfold_ok (ps : List Rg) : (∀ p ∈ (jfold ps).1, 1 ≤ p.1 ∧ p.1 ≤ p.2 ∧ p.2 ≤ 4294967295) ∧ (∀ n ∈ (jfold ps).2.1, 1 ≤ n ∧ n ≤ 4294967295) := by
  have key : ∀ (ps : List Rg) (st : JS), ((∀ p ∈ st.1, 1 ≤ p.1 ∧ p.1 ≤ p.2 ∧ p.2 ≤ 4294967295) ∧ (∀ n ∈ st.2.1, 1 ≤ n ∧ n ≤ 4294967295)) → ((∀ p ∈ (ps.foldl jst st).1, 1 ≤ p.1 ∧ p.1 ≤ p.2 ∧ p.2 ≤ 4294967295) ∧ (∀ n ∈ (ps.foldl jst st).2.1, 1 ≤ n ∧ n ≤ 4294967295)) := by
    intro ps
    induction ps with
    | nil => intro st h; exact h
    | cons p r ih =>
      intro st h
      refine ih (jst st p) ?_
      unfold jst
      by_cases h0 : pieceB p = false
      · rw [if_pos h0]; exact h
      · rw [if_neg h0]
        have hp := (pieceB_iff p).1 (by simpa using h0)
        by_cases h1 : p.1 ≠ 0 ∧ p.2 ≠ 0
        · rw [if_pos h1]
          refine ⟨fun q hq => ?_, h.2⟩
          rcases List.mem_append.1 hq with hq | hq
          · exact h.1 q hq
          · simp at hq; subst hq; show 1 ≤ min p.1 p.2 ∧ min p.1 p.2 ≤ max p.1 p.2 ∧ max p.1 p.2 ≤ 4294967295; omega
        · rw [if_neg h1]
          by_cases h2 : p.1 ≠ p.2
          · rw [if_pos h2]
            refine ⟨h.1, fun n hn => ?_⟩
            rcases List.mem_append.1 hn with hn | hn
            · exact h.2 n hn
            · simp at hn; subst hn; omega
          · rw [if_neg h2]; exact h
  exact key ps ([], [], false) ⟨by simp, by simp⟩
theorem minOf_mem : ∀ (zs : List Int), zs ≠ [] → Lib.minOf zs ∈ zs ∧ ∀ z ∈ zs, Lib.minOf zs ≤ z := by
  have key : ∀ (zs : List Int) (a : Int), (zs.foldl min a = a ∨ zs.foldl min a ∈ zs) ∧ zs.foldl min a ≤ a ∧ ∀ z ∈ zs, zs.foldl min a ≤ z := by
    intro zs
    induction zs with
    | nil => intro a; simp
    | cons z r ih =>
      intro a
      have h := ih (min a z)
      simp only [List.foldl_cons]
      refine ⟨?_, by omega, fun y hy => ?_⟩
      · rcases h.1 with h1 | h1
        · rcases Int.le_total a z with h2 | h2
          · left; rw [h1]; omega
          · right; rw [h1, Int.min_eq_right h2]; exact List.mem_cons_self
        · right; exact List.mem_cons_of_mem _ h1
      · rcases List.mem_cons.1 hy with rfl | hy
        · omega
        · exact h.2.2 y hy
  intro zs hz
  cases zs with
  | nil => exact absurd rfl hz
  | cons a r =>
    have h := key (a :: r) a
    unfold Lib.minOf
    refine ⟨?_, h.2.2⟩
    rcases h.1 with h1 | h1
    · simp only [List.headD_cons]; rw [h1]; exact List.mem_cons_self
    · exact h1
theorem maxOf_mem : ∀ (zs : List Int), zs ≠ [] → Lib.maxOf zs ∈ zs ∧ ∀ z ∈ zs, z ≤ Lib.maxOf zs := by
  have key : ∀ (zs : List Int) (a : Int), (zs.foldl max a = a ∨ zs.foldl max a ∈ zs) ∧ a ≤ zs.foldl max a ∧ ∀ z ∈ zs, z ≤ zs.foldl max a := by
    intro zs
    induction zs with
    | nil => intro a; simp
    | cons z r ih =>
      intro a
      have h := ih (max a z)
      simp only [List.foldl_cons]
      refine ⟨?_, by omega, fun y hy => ?_⟩
      · rcases h.1 with h1 | h1
        · rcases Int.le_total a z with h2 | h2
          · right; rw [h1, Int.max_eq_right h2]; exact List.mem_cons_self
          · left; rw [h1]; omega
        · right; exact List.mem_cons_of_mem _ h1
      · rcases List.mem_cons.1 hy with rfl | hy
        · omega
        · exact h.2.2 y hy
  intro zs hz
  cases zs with
  | nil => exact absurd rfl hz
  | cons a r =>
    have h := key (a :: r) a
    unfold Lib.maxOf
    refine ⟨?_, h.2.2⟩
    rcases h.1 with h1 | h1
    · simp only [List.headD_cons]; rw [h1]; exact List.mem_cons_self
    · exact h1
def joinS (st : JS) : List Rg :=
  if st.2.1 = [] then (if st.2.2 = true then tog st.1 ++ [(0, 0)] else tog st.1) else starL st.1 (Lib.minOf st.2.1) (Lib.maxOf st.2.1)
def joinL (ll : List (List Rg)) : List Rg := joinS (jfold ll.flatten)
theorem flatten_take (ll : List (List Rg)) (i : Nat) (hi : i < ll.length) : (ll.take (i + 1)).flatten = (ll.take i).flatten ++ ll.getD i [] := by
  rw [List.take_succ_eq_append_getElem hi, List.flatten_append]; simp [hi]
theorem flatten_take_le (ll : List (List Rg)) (i : Nat) : (ll.take i).flatten.length ≤ ll.flatten.length := by
  conv => rhs; rw [← List.take_append_drop i ll, List.flatten_append, List.length_append]
  omega
theorem take_snocR (l : List Rg) (k : Nat) (hk : k < l.length) : l.take (k + 1) = l.take k ++ [l.getD k (0, 0)] := by
  rw [List.take_succ_eq_append_getElem hk]; simp [hk]
end Go.Proofs.YtflkhnmggmfhfaaGreat

/- span: Join. -/
namespace Go.Proofs.YtflkhnmggmfhfaaGreat
open Go.RowKit

/-- What Join holds in a round. -/
structure JW (B : Nat) (W0 : World) (st : JS) (v3 v4 : Value) (w : World) : Prop where
  r : OwnR B v3 st.1 W0 w
  n : OwnI B v4 st.2.1 W0 w
theorem JW.on {B : Nat} {W0 w w' : World} {st : JS} {v3 v4 : Value} (h : JW B W0 st v3 v4 w) (hb : Below w.heap.size w w') : JW B W0 st v3 v4 w' := ⟨h.r.on hb, h.n.on hb⟩
theorem JW.alloc {B : Nat} {W0 w : World} {st : JS} {v3 v4 : Value} (h : JW B W0 st v3 v4 w) (o : Obj) : JW B W0 st v3 v4 (w.alloc o) := ⟨h.r.alloc o, h.n.alloc o⟩
theorem own_shapeI {B : Nat} {v : Value} {l : List Int} {W0 w : World} (h : OwnI B v l W0 w) : ∃ ao cap, v = .slice ao l.length cap ∧ (l ≠ [] → ∃ g, ao = some ⟨g, 0, none⟩ ∧ ∀ i, i < l.length → w.cell? ⟨g, 0 + i, none⟩ = some (.int .i64 (l.getD i 0))) := by
  rcases h.row.2 with ⟨rfl, h0⟩ | ⟨g, cap, cur, rfl, hB, hg, rest⟩
  · have : l = [] := List.eq_nil_of_length_eq_zero h0
    subst this
    exact ⟨none, 0, rfl, fun h => absurd rfl h⟩
  · refine ⟨_, _, rfl, fun _ => ⟨g, rfl, fun i hi => ?_⟩⟩
    have c1 := h.row.cells (g := g) rfl i _ (ic_at l i hi)
    rw [Addr.add_lit] at c1
    exact c1

end Go.Proofs.YtflkhnmggmfhfaaGreat

/- span: allSettled, the search among pieces, Of. -/
namespace Go.Proofs.YtflkhnmggmfhfaaGreat
open Go.RowKit

def setsL (l : List Rg) (g : Int) : List Rg := (l.filter pieceB).map fun p => setl p g
theorem setsL_append (a b : List Rg) (g : Int) : setsL (a ++ b) g = setsL a g ++ setsL b g := by simp [setsL]
theorem setsL_length (l : List Rg) (g : Int) : (setsL l g).length ≤ l.length := by
  unfold setsL; rw [List.length_map]; exact List.length_filter_le _ _
theorem starI_ok {x g : Int} (h : endB x = true) (hg : 1 ≤ g) (hg2 : g ≤ 9223372036854775807) : 1 ≤ starI x g ∧ starI x g ≤ 9223372036854775807 := by
  unfold endB at h; unfold starI; simp at h; split <;> omega
theorem setsL_ok {l : List Rg} {g : Int} (hg : 1 ≤ g) (hg2 : g ≤ 9223372036854775807) : ∀ p ∈ setsL l g, 1 ≤ p.1 ∧ p.1 ≤ p.2 ∧ p.1 ≤ 9223372036854775807 := by
  intro p hp
  unfold setsL at hp
  obtain ⟨q, hq, rfl⟩ := List.mem_map.1 hp
  have hq2 := (List.mem_filter.1 hq).2
  unfold pieceB at hq2
  rw [Bool.and_eq_true] at hq2
  have h1 := starI_ok hq2.1 hg hg2
  have h2 := starI_ok hq2.2 hg hg2
  unfold setl
  show 1 ≤ min _ _ ∧ min _ _ ≤ max _ _ ∧ min _ _ ≤ _
  omega
theorem cov_setsL (l : List Rg) (n g : Int) (hg : 1 ≤ g) : cov (setsL l g) n ↔ hasB l n g = true := by
  unfold hasB setsL
  rw [decide_eq_true hg, Bool.true_and, List.any_eq_true]
  constructor
  · rintro ⟨p, hp, h⟩
    obtain ⟨q, hq, rfl⟩ := List.mem_map.1 hp
    have hq2 := List.mem_filter.1 hq
    exact ⟨q, hq2.1, by rw [hq2.2, Bool.true_and]; unfold inB; simp; exact h⟩
  · rintro ⟨q, hq, h⟩
    rw [Bool.and_eq_true] at h
    refine ⟨setl q g, List.mem_map.2 ⟨q, List.mem_filter.2 ⟨hq, h.1⟩, rfl⟩, ?_⟩
    have := h.2
    unfold inB at this
    simpa using this

set_option maxRecDepth 100000 in
set_option maxHeartbeats 2000000 in
theorem allSettled_any (v : Value) (l : List Rg) (g : Int) (w : World) (hr : Rgs w v l) (hl : l.length ≤ 1000000) (hg : 1 ≤ g) (hg2 : g ≤ 9223372036854775807) :
    Calls Tryz.prog 70 #[v, .int .i64 g] w fun e w' => ∃ v', e = .returned v' ∧ OwnR w.heap.size v' (tog (setsL l g)) w w' := by
  obtain ⟨ao, cap, hv, hcs⟩ := hr.shape
  subst hv
  have HCS := Lib.hid hcs
  clear hcs hr
  have HG : Hid (∀ v4 X, OwnR w.heap.size v4 (setsL l g) w X → Calls Tryz.prog 84 #[v4] X fun e w' => ∃ v', e = .returned v' ∧ OwnR w.heap.size v' (tog (setsL l g)) w w') := Lib.hid (fun v4 X h => by
    have hll := setsL_length l g
    exact (together_any v4 (setsL l g) X (h.rgs (by omega)) (by omega) (setsL_ok hg hg2)).mono fun e w' ⟨v', he, ho⟩ => ⟨v', he, (ho.mono h.base).shift h.below⟩)
  go_enter Tryz.func70, Tryz.ntmps70
  go_wp2_with fail
  go_loopg [5, 10] l.length (fun gg s5 s10 wr => ∃ (k : Nat) (v5 : Value), k ≤ l.length ∧ l.length - k ≤ gg ∧ s10 = .int .i64 k ∧ v5 = s5 ∧ OwnR w.heap.size v5 (setsL (l.take k) g) w wr)
  case atStart => exact ⟨0, _, Nat.zero_le _, by omega, rfl, rfl, OwnR.nil (Below.refl _ _) (Nat.le_refl _)⟩
  case round =>
    obtain ⟨k, v5, hk, hgg, rfl, hv5, hown⟩ := hrel
    subst hv5
    have HOW := Lib.hid hown
    clear hown
    by_cases hlt : k < l.length
    · have hltz : (k : Int) < (l.length : Int) := by omega
      obtain ⟨b, off, hao, hbs, hc⟩ := HCS.out (by omega)
      subst hao
      obtain ⟨c1, c2⟩ := hc k hlt
      rw [← HOW.out.below.cell (p := ⟨b, off + k * 2, none⟩) hbs] at c1
      rw [← HOW.out.below.cell (p := ⟨b, off + k * 2 + 1, none⟩) hbs] at c2
      have hac : Hid (setsL (l.take (k + 1)) g = setsL (l.take k) g ++ setsL [l.getD k (0, 0)] g) := Lib.hid (by rw [take_snocR l k hlt, setsL_append])
      have hll : (setsL (l.take k) g).length ≤ 1000000 := by (have := setsL_length (l.take k) g; rw [List.length_take] at this; omega)
      have HQ : Hid (l.getD k (0, 0) = ((l.getD k (0, 0)).1, (l.getD k (0, 0)).2)) := Lib.hid rfl
      clear hc
      generalize (l.getD k (0, 0)).1 = x at *
      generalize (l.getD k (0, 0)).2 = y at *
      rw [HQ.out] at hac
      clear HQ
      cases hp : pieceB (x, y) with
      | false =>
        have he : setsL [(x, y)] g = [] := by simp [setsL, hp]
        rw [he, List.append_nil] at hac
        clear he
        go_wp2_with (go_at_call 82; refine (isPiece_any _ _ _).mono ?_; rintro e w1 ⟨rfl, hb1⟩)
        go_roundg (l.length - (k + 1))
        case measure => omega
        case rel => exact ⟨k + 1, _, by omega, by omega, by go_num, rfl, by rw [hac.out]; exact (HOW.out.alloc _).on hb1⟩
      | true =>
        have he : setsL [(x, y)] g = [((setl (x, y) g).1, (setl (x, y) g).2)] := by simp [setsL, hp]
        rw [he] at hac
        clear he
        have HS := Lib.hid (settled_any x y g)
        generalize (setl (x, y) g).1 = x2 at *
        generalize (setl (x, y) g).2 = y2 at *
        go_wp2_with (first | (go_at_call 82; refine (isPiece_any _ _ _).mono ?_; rintro e w1 ⟨rfl, hb1⟩; obtain ⟨hc, hf⟩ := bcell hb1) | (go_at_call 83; refine (HS.out _).mono ?_; rintro e w2 ⟨rfl, hb2⟩) | (at_builtin; refine appP rfl _ _ rfl x2 y2 (((HOW.out.alloc _).on hb1).on hb2) rfl rfl (by omega) ?_))
        intro v6 w6 ho6
        have HO6 := Lib.hid ho6
        clear ho6
        go_wp2_with fail
        go_roundg (l.length - (k + 1))
        case measure => omega
        case rel => exact ⟨k + 1, _, by omega, by omega, by go_num, rfl, by rw [hac.out]; exact HO6.out⟩
    · have hltz : ¬ (k : Int) < (l.length : Int) := by omega
      have : k = l.length := by omega
      subst this
      rw [List.take_of_length_le (Nat.le_refl _)] at HOW
      go_wp2_with fail
      refine (HG.out _ _ HOW.out).mono ?_
      rintro e w1 ⟨v1, rfl, ho⟩
      have HO := Lib.hid ho
      clear ho
      go_wp2_with fail
      go_ret
      exact ⟨_, rfl, HO.out⟩

theorem canonF_lt : ∀ {l : List Rg} {m : Int} (_ : canonF m l) (i j : Nat), i < j → j < l.length → (l.getD i (0, 0)).2 + 1 < (l.getD j (0, 0)).1
  | [], _, _, i, j, _, h => by simp at h
  | p :: r, m, ⟨a, b, c⟩, i, j, hij, h => by
    cases j with
    | zero => omega
    | succ j =>
      cases i with
      | zero =>
        have hj : j < r.length := by simpa using h
        have := canonF_mem c (p := r.getD j (0, 0)) (by rw [List.getD_eq_getElem?_getD, List.getElem?_eq_getElem hj]; exact List.getElem_mem hj)
        simpa using this.1
      | succ i => simpa using canonF_lt c i j (by omega) (by simpa using h)
theorem canonF_le {l : List Rg} {m : Int} (h : canonF m l) (i : Nat) (hi : i < l.length) : (l.getD i (0, 0)).1 ≤ (l.getD i (0, 0)).2 :=
  (canonF_mem h (by rw [List.getD_eq_getElem?_getD, List.getElem?_eq_getElem hi]; exact List.getElem_mem hi)).2
theorem find_hit {l : List Rg} {n : Int} {i : Nat} (hi : i < l.length) (h : inB ((l.getD i (0, 0)).1, (l.getD i (0, 0)).2) n = true) : l.any (fun p => inB p n) = true := any_hit i hi h
theorem find_miss {l : List Rg} {m n : Int} {i : Nat} (hc : canonF m l) (h1 : ∀ t, t < i → (l.getD t (0, 0)).2 < n) (h2 : ∀ t, i ≤ t → t < l.length → n ≤ (l.getD t (0, 0)).2) (h : i < l.length → n < (l.getD i (0, 0)).1) : l.any (fun p => inB p n) = false := by
  refine any_getD (fun j hj => ?_)
  unfold inB
  rw [Bool.and_eq_false_iff, decide_eq_false_iff_not, decide_eq_false_iff_not]
  rcases Nat.lt_trichotomy j i with hji | hji | hji
  · have := h1 j hji; omega
  · subst hji; have := h hj; omega
  · have a := canonF_lt hc i j hji hj
    have b := canonF_le hc i (by omega)
    have c := h (by omega)
    omega
end Go.Proofs.YtflkhnmggmfhfaaGreat

/- span: the search among pieces, Of. -/
namespace Go.Proofs.YtflkhnmggmfhfaaGreat
open Go.RowKit

theorem side_neg (a b n : Int) : sideI a b n < 0 ↔ b < n := by
  unfold sideI
  by_cases h1 : b < n
  · rw [if_pos h1]; omega
  · rw [if_neg h1]; split <;> omega
set_option maxRecDepth 100000 in
set_option maxHeartbeats 4000000 in
theorem search_any (v : Value) (l : List Rg) (m n : Int) (w : World) (hr : Rgs w v l) (hl : l.length ≤ 1000000) (hc : canonF m l) :
    Calls Tryz.prog 71 #[v, .int .i64 n, .func (.func 72) #[] #[]] w fun e w' => (∃ i : Int, e = .returned (.tuple #[.int .i64 i, .bool (l.any fun p => inB p n)])) ∧ Below w.heap.size w w' := by
  obtain ⟨ao, cap, hv, hcs⟩ := hr.shape
  subst hv
  have HCS := Lib.hid hcs
  have HCA := Lib.hid hc
  have HANY : ∃ R, R = l.any fun p => inB p n := ⟨_, rfl⟩
  obtain ⟨R, hR⟩ := HANY
  have HR := Lib.hid hR
  rw [← hR]
  clear hcs hr hc hR
  go_enter Tryz.func71, Tryz.ntmps71
  go_wp2_with fail
  go_loopg [9, 10] l.length (fun kx s9 s10 wr => ∃ lo hi : Nat, s9 = .int .i64 lo ∧ s10 = .int .i64 hi ∧ lo ≤ hi ∧ hi ≤ l.length ∧ hi - lo ≤ kx ∧ Below w.heap.size w wr ∧ Hid ((∀ t, t < lo → (l.getD t (0, 0)).2 < n) ∧ (∀ t, hi ≤ t → t < l.length → n ≤ (l.getD t (0, 0)).2)))
  case atStart => exact ⟨0, l.length, rfl, rfl, Nat.zero_le _, Nat.le_refl _, by omega, Below.refl _ _, Lib.hid ⟨fun t ht => absurd ht (Nat.not_lt_zero _), fun t h1 h2 => by omega⟩⟩
  case round =>
    obtain ⟨lo, hi, rfl, rfl, hlh, hin, hg, hbw, I⟩ := hrel
    have hbl := hbw.size
    by_cases hlt : lo < hi
    · obtain ⟨b, off, hao, hbs, hc⟩ := HCS.out (by omega)
      subst hao
      obtain ⟨c1, c2⟩ := hc ((lo + hi) / 2) (by omega)
      rw [← hbw.cell (p := ⟨b, off + (lo + hi) / 2 * 2, none⟩) hbs] at c1
      rw [← hbw.cell (p := ⟨b, off + (lo + hi) / 2 * 2 + 1, none⟩) hbs] at c2
      have HY : ∃ y, y = (l.getD ((lo + hi) / 2) (0, 0)).2 := ⟨_, rfl⟩
      obtain ⟨y, hy⟩ := HY
      have Y := Lib.hid hy
      rw [← hy] at c2
      clear hc hy
      generalize (l.getD ((lo + hi) / 2) (0, 0)).1 = x at c1
      have HS := Lib.hid (sideOf_any x y n)
      have HN := Lib.hid (side_neg x y n)
      generalize sideI x y n = q at *
      by_cases hyx : y < n
      · have hq : q < 0 := HN.out.2 hyx
        go_wp2_with (go_at_call 72; refine (HS.out _).mono ?_; rintro e w' ⟨rfl, hb'⟩)
        go_roundg (hi - ((lo + hi) / 2 + 1))
        case measure => omega
        case rel =>
          refine ⟨(lo + hi) / 2 + 1, hi, by rw [show ((lo : Int) + (hi : Int)) / 2 + 1 = (((lo + hi) / 2 + 1 : Nat) : Int) by omega], rfl, by omega, hin, Nat.le_refl _, hbw.trans (hb'.mono hbl), Lib.hid ⟨fun t ht => ?_, I.out.2⟩⟩
          by_cases e : t = (lo + hi) / 2
          · subst e; rw [← Y.out]; exact hyx
          · have a := canonF_lt HCA.out t ((lo + hi) / 2) (by omega) (by omega)
            have b := canonF_le HCA.out ((lo + hi) / 2) (by omega)
            rw [← Y.out] at b
            omega
      · have hq : ¬ q < 0 := fun h => hyx (HN.out.1 h)
        go_wp2_with (go_at_call 72; refine (HS.out _).mono ?_; rintro e w' ⟨rfl, hb'⟩)
        go_roundg ((lo + hi) / 2 - lo)
        case measure => omega
        case rel =>
          refine ⟨lo, (lo + hi) / 2, rfl, by rw [show ((lo : Int) + (hi : Int)) / 2 = (((lo + hi) / 2 : Nat) : Int) by omega], by omega, by omega, Nat.le_refl _, hbw.trans (hb'.mono hbl), Lib.hid ⟨I.out.1, fun t ht htn => ?_⟩⟩
          by_cases e : t = (lo + hi) / 2
          · subst e; rw [← Y.out]; omega
          · have a := canonF_lt HCA.out ((lo + hi) / 2) t (by omega) htn
            have b := canonF_le HCA.out t htn
            rw [← Y.out] at a
            omega
    · obtain rfl : hi = lo := by omega
      by_cases hn : hi < l.length
      · obtain ⟨b, off, hao, hbs, hc⟩ := HCS.out (by omega)
        subst hao
        obtain ⟨c1, c2⟩ := hc hi hn
        rw [← hbw.cell (p := ⟨b, off + hi * 2, none⟩) hbs] at c1
        rw [← hbw.cell (p := ⟨b, off + hi * 2 + 1, none⟩) hbs] at c2
        have hit := Lib.hid (fun h => find_hit (l := l) (n := n) hn h)
        have miss := Lib.hid (fun h => find_miss (n := n) HCA.out I.out.1 I.out.2 (fun _ => h))
        have h2 := Lib.hid (I.out.2 hi (Nat.le_refl _) hn)
        clear hc
        generalize (l.getD hi (0, 0)).1 = x at *
        generalize (l.getD hi (0, 0)).2 = y at *
        have HS := Lib.hid (sideOf_any x y n)
        have HZ : Hid ((sideI x y n == 0) = inB (x, y) n) := Lib.hid (side_zero (x, y) n)
        generalize sideI x y n = q at *
        by_cases hxn : n < x
        · have hq : (q == 0) = false := by rw [HZ.out]; unfold inB; rw [Bool.and_eq_false_iff, decide_eq_false_iff_not]; left; exact Int.not_le.2 hxn
          have HRR : Hid (R = false) := Lib.hid (HR.out.trans (miss.out hxn))
          go_wp2_with (go_at_call 72; refine (HS.out _).mono ?_; rintro e w' ⟨rfl, hb'⟩)
          go_ret2
          exact ⟨⟨_, by rw [HRR.out]; rfl⟩, hbw.trans (hb'.mono hbl)⟩
        · have hin2 : inB (x, y) n = true := by unfold inB; rw [Bool.and_eq_true, decide_eq_true_iff, decide_eq_true_iff]; exact ⟨Int.not_lt.1 hxn, h2.out⟩
          have hq : (q == 0) = true := by rw [HZ.out]; exact hin2
          have HRR : Hid (R = true) := Lib.hid (HR.out.trans (hit.out hin2))
          clear hin2
          go_wp2_with (go_at_call 72; refine (HS.out _).mono ?_; rintro e w' ⟨rfl, hb'⟩)
          go_ret2
          exact ⟨⟨_, by rw [HRR.out]; rfl⟩, hbw.trans (hb'.mono hbl)⟩
      · have HRR : Hid (R = false) := Lib.hid (HR.out.trans (find_miss (n := n) HCA.out I.out.1 I.out.2 (fun h => absurd h hn)))
        go_wp2
        go_ret2
        exact ⟨⟨_, by rw [HRR.out]; rfl⟩, hbw⟩
end Go.Proofs.YtflkhnmggmfhfaaGreat

/- span: Of. -/
namespace Go.Proofs.YtflkhnmggmfhfaaGreat
open Go.RowKit

def lastI (list : List Int) : Int := list.getD (list.length - 1) 0
def ofL (l : List Rg) (list : List Int) : List Int := list.filter fun n => hasB l n (lastI list)
theorem ofL_small (l : List Rg) (list : List Int) (h : ¬ 1 ≤ lastI list) : ofL l list = [] := by
  unfold ofL
  rw [List.filter_eq_nil_iff]
  intro n _
  unfold hasB
  rw [decide_eq_false h]; simp
theorem any_tog (l : List Rg) (n g : Int) (hg : 1 ≤ g) (hg2 : g ≤ 9223372036854775807) : ((tog (setsL l g)).any fun p => inB p n) = hasB l n g := by
  have h := (tog_canon (l := setsL l g) (m := -1) (fun p hp => by have := setsL_ok hg hg2 p hp; omega)).2 n
  rw [cov_setsL l n g hg] at h
  rw [Bool.eq_iff_iff, ← h, List.any_eq_true]
  unfold cov inB
  simp
theorem filter_snoc (p : Int → Bool) (l : List Int) (k : Nat) (hk : k < l.length) : (l.take (k + 1)).filter p = (l.take k).filter p ++ (if p (l.getD k 0) = true then [l.getD k 0] else []) := by
  rw [take_snocI l k hk, List.filter_append]
  congr 1
  by_cases h : p (l.getD k 0) = true
  · rw [if_pos h, List.filter_cons_of_pos h]; rfl
  · rw [if_neg h, List.filter_cons_of_neg h]; rfl
set_option maxRecDepth 100000 in
set_option maxHeartbeats 4000000 in
theorem of_any (v v2 : Value) (l : List Rg) (list : List Int) (w : World) (hr : Rgs w v l) (hr2 : Ints w v2 list) (hl : l.length ≤ 1000000) (hl2 : list.length ≤ 1000000) (hmax : ∀ n ∈ list, n ≤ 9223372036854775807) :
    Calls Tryz.prog 54 #[v, v2] w fun e w' => ∃ v', e = .returned v' ∧ OwnI w.heap.size v' (ofL l list) w w' := by
  rcases hr2 with ⟨rfl, ao, cap, rfl, _⟩ | ⟨b, off, cap, rfl, _, hbs, hc⟩
  · go_enter Tryz.func54, Tryz.ntmps54
    go_wp2
    go_ret
    exact ⟨_, rfl, OwnI.nil (Below.refl _ _) (Nat.le_refl _)⟩
  · by_cases h0 : list = []
    · subst h0
      go_enter Tryz.func54, Tryz.ntmps54
      go_wp2
      go_ret
      exact ⟨_, rfl, OwnI.nil (Below.refl _ _) (Nat.le_refl _)⟩
    obtain ⟨m, hm⟩ : ∃ m, list.length = m + 1 := ⟨list.length - 1, by have := List.length_pos_iff.2 h0; omega⟩
    have HC := Lib.hid hc
    have HM := Lib.hid hm
    have cl : w.cell? ⟨b, off + m, none⟩ = some (.int .i64 (lastI list)) := by (have := hc m (by omega); unfold lastI; rw [hm]; exact this)
    have hlm : lastI list ≤ 9223372036854775807 := hmax _ (by unfold lastI; rw [List.getD_eq_getElem?_getD, List.getElem?_eq_getElem (by omega)]; exact List.getElem_mem (by omega))
    have hmb : m + 1 ≤ 1000000 := by omega
    rw [hm]
    have hz0 : ((m : Int) + 1 == 0) = false := by (rw [beq_eq_false_iff_ne]; omega)
    clear hc hm h0 hl2
    by_cases hg : 1 ≤ lastI list
    · have HA := Lib.hid (allSettled_any v l (lastI list) w hr hl hg hlm)
      have HT := Lib.hid (fun n => any_tog l n (lastI list) hg hlm)
      have HCN := Lib.hid (tog_canon (l := setsL l (lastI list)) (m := -1) (fun p hp => by (have := setsL_ok hg hlm p hp; omega))).1
      have htl : (tog (setsL l (lastI list))).length ≤ 1000000 := Nat.le_trans tog_length (Nat.le_trans (setsL_length l _) hl)
      have HOL : Hid (ofL l list = list.filter fun n => hasB l n (lastI list)) := Lib.hid rfl
      clear hr hmax
      generalize lastI list = g at *
      generalize tog (setsL l g) = T at *
      go_enter Tryz.func54, Tryz.ntmps54
      go_wp2_with (go_at_call 70; refine HA.out.mono ?_; rintro e w1 ⟨v1, rfl, ho1⟩; have HO1 := Lib.hid ho1; clear ho1)
      go_loopg [6, 33] (m + 1) (fun gg s6 s33 wr => ∃ (k : Nat) (v6 : Value), k ≤ m + 1 ∧ m + 1 - k ≤ gg ∧ s33 = .int .i64 k ∧ v6 = s6 ∧ OwnI w1.heap.size v6 ((list.take k).filter fun n => hasB l n g) w1 wr)
      case atStart => exact ⟨0, _, Nat.zero_le _, by omega, rfl, rfl, OwnI.nil (Below.refl _ _) (Nat.le_refl _)⟩
      case round =>
        obtain ⟨k, v6, hk, hgg, rfl, hv6, hown⟩ := hrel
        subst hv6
        have HOW := Lib.hid hown
        clear hown
        by_cases hlt : k < m + 1
        · have hltz : (k : Int) < (m : Int) + 1 := by omega
          have c1 := HC.out k (by rw [HM.out]; exact hlt)
          have hbb := (HO1.out.below.trans (HOW.out.below.mono HO1.out.base))
          rw [← hbb.cell (p := ⟨b, off + k, none⟩) hbs] at c1
          clear hbb
          have hac := Lib.hid (filter_snoc (fun n => hasB l n g) list k (by rw [HM.out]; exact hlt))
          have hfl : ((list.take k).filter fun n => hasB l n g).length ≤ 1000000 := by (have := List.length_filter_le (fun n => hasB l n g) (list.take k); rw [List.length_take] at this; omega)
          generalize list.getD k 0 = x at *
          have HSR := Lib.hid (fun X (hX : OwnI w1.heap.size v6 ((list.take k).filter fun n => hasB l n g) w1 X) => search_any v1 T (-1) x X ((HO1.out.rgs (by omega)).on hX.below) htl HCN.out)
          rw [HT.out x] at HSR
          cases hh : hasB l x g with
          | true =>
            rw [hh] at HSR
            rw [if_pos hh] at hac
            clear hh
            go_wp2_with (first | (go_at_call 71; refine (HSR.out _ HOW.out).mono ?_; rintro e w2 ⟨⟨i2, rfl⟩, hb2⟩) | (at_builtin; refine appI rfl _ _ rfl x (HOW.out.on hb2) rfl rfl (by omega) ?_))
            intro v7 w7 ho7
            have HO7 := Lib.hid ho7
            clear ho7
            go_wp2_with fail
            go_roundg (m + 1 - (k + 1))
            case measure => omega
            case rel => exact ⟨k + 1, _, by omega, by omega, by go_num, rfl, by rw [hac.out]; exact HO7.out⟩
          | false =>
            rw [hh] at HSR
            rw [if_neg (by rw [hh]; simp), List.append_nil] at hac
            clear hh
            go_wp2_with (go_at_call 71; refine (HSR.out _ HOW.out).mono ?_; rintro e w2 ⟨⟨i2, rfl⟩, hb2⟩)
            go_roundg (m + 1 - (k + 1))
            case measure => omega
            case rel => exact ⟨k + 1, _, by omega, by omega, by go_num, rfl, by rw [hac.out]; exact HOW.out.on hb2⟩
        · have hltz : ¬ (k : Int) < (m : Int) + 1 := by omega
          have : k = m + 1 := by omega
          subst this
          rw [List.take_of_length_le (by rw [HM.out]; exact Nat.le_refl _)] at HOW
          go_wp2_with fail
          go_ret
          exact ⟨_, rfl, by rw [HOL.out]; exact (HOW.out.mono HO1.out.base).shift HO1.out.below⟩
    · have HE := Lib.hid (ofL_small l list hg)
      clear hr hmax
      generalize lastI list = g at *
      go_enter Tryz.func54, Tryz.ntmps54
      go_wp2_with fail
      go_ret
      exact ⟨_, rfl, by rw [HE.out]; exact OwnI.nil (Below.refl _ _) (Nat.le_refl _)⟩
end Go.Proofs.YtflkhnmggmfhfaaGreat
