/- span: allSettled, the search among pieces, Of. -/
import Derived.Test.YtiphbnmnoofpkaaVk
namespace Go.Proofs.Ytiphbnmnoofpkaa
open Go.RowKit

def setsL (l : List Rg) (g : Int) : List Rg := (l.filter pieceB).map fun p => setl p g
theorem setsL_append (a b : List Rg) (g : Int) : setsL (a ++ b) g = setsL a g ++ setsL b g := by simp [setsL]
theorem setsL_length (l : List Rg) (g : Int) : (setsL l g).length ≤ l.length := by
  unfold setsL; rw [List.length_map]; exact List.length_filter_le _ _
theorem starI_ok {x g : Int} (h : endB x = true) (hg : 1 ≤ g) (hg2 : g ≤ 9223372036854775807) : 1 ≤ starI x g ∧ starI x g ≤ 9223372036854775807 := by
  unfold endB at h; unfold starI; simp at h; split <;> omega
theorem setsL_ok {l : List Rg} {g : Int} (hg : 1 ≤ g) (hg2 : g ≤ 9223372036854775807) : ∀ p ∈ setsL l g, 1 ≤ p.1 ∧ p.1 ≤ p.2 ∧ p.1 ≤ 9223372036854775807 := by
  intro p hp
  unfold setsL at hp
  obtain ⟨q, hq, rfl⟩ := List.mem_map.1 hp
  have hq2 := (List.mem_filter.1 hq).2
  unfold pieceB at hq2
  rw [Bool.and_eq_true] at hq2
  have h1 := starI_ok hq2.1 hg hg2
  have h2 := starI_ok hq2.2 hg hg2
  unfold setl
  show 1 ≤ min _ _ ∧ min _ _ ≤ max _ _ ∧ min _ _ ≤ _
  omega
theorem cov_setsL (l : List Rg) (n g : Int) (hg : 1 ≤ g) : cov (setsL l g) n ↔ hasB l n g = true := by
  unfold hasB setsL
  rw [decide_eq_true hg, Bool.true_and, List.any_eq_true]
  constructor
  · rintro ⟨p, hp, h⟩
    obtain ⟨q, hq, rfl⟩ := List.mem_map.1 hp
    have hq2 := List.mem_filter.1 hq
    exact ⟨q, hq2.1, by rw [hq2.2, Bool.true_and]; unfold inB; simp; exact h⟩
  · rintro ⟨q, hq, h⟩
    rw [Bool.and_eq_true] at h
    refine ⟨setl q g, List.mem_map.2 ⟨q, List.mem_filter.2 ⟨hq, h.1⟩, rfl⟩, ?_⟩
    have := h.2
    unfold inB at this
    simpa using this

set_option maxRecDepth 100000 in
set_option maxHeartbeats 2000000 in
theorem allSettled_any (v : Value) (l : List Rg) (g : Int) (w : World) (hr : Rgs w v l) (hl : l.length ≤ 1000000) (hg : 1 ≤ g) (hg2 : g ≤ 9223372036854775807) :
    Calls Try.prog 50 #[v, .int .i64 g] w fun e w' => ∃ v', e = .returned v' ∧ OwnR w.heap.size v' (tog (setsL l g)) w w' := by
  obtain ⟨ao, cap, hv, hcs⟩ := hr.shape
  subst hv
  have HCS := Lib.hid hcs
  clear hcs hr
  have HG : Hid (∀ v4 X, OwnR w.heap.size v4 (setsL l g) w X → Calls Try.prog 60 #[v4] X fun e w' => ∃ v', e = .returned v' ∧ OwnR w.heap.size v' (tog (setsL l g)) w w') := Lib.hid (fun v4 X h => by
    have hll := setsL_length l g
    exact (together_any v4 (setsL l g) X (h.rgs (by omega)) (by omega) (setsL_ok hg hg2)).mono fun e w' ⟨v', he, ho⟩ => ⟨v', he, (ho.mono h.base).shift h.below⟩)
  go_enter Try.func50, Try.ntmps50
  go_wp2_with fail
  go_loopg [5, 10] l.length (fun gg s5 s10 wr => ∃ (k : Nat) (v5 : Value), k ≤ l.length ∧ l.length - k ≤ gg ∧ s10 = .int .i64 k ∧ v5 = s5 ∧ OwnR w.heap.size v5 (setsL (l.take k) g) w wr)
  case atStart => exact ⟨0, _, Nat.zero_le _, by omega, rfl, rfl, OwnR.nil (Below.refl _ _) (Nat.le_refl _)⟩
  case round =>
    obtain ⟨k, v5, hk, hgg, rfl, hv5, hown⟩ := hrel
    subst hv5
    have HOW := Lib.hid hown
    clear hown
    by_cases hlt : k < l.length
    · have hltz : (k : Int) < (l.length : Int) := by omega
      obtain ⟨b, off, hao, hbs, hc⟩ := HCS.out (by omega)
      subst hao
      obtain ⟨c1, c2⟩ := hc k hlt
      rw [← HOW.out.below.cell (p := ⟨b, off + k * 2, none⟩) hbs] at c1
      rw [← HOW.out.below.cell (p := ⟨b, off + k * 2 + 1, none⟩) hbs] at c2
      have hac : Hid (setsL (l.take (k + 1)) g = setsL (l.take k) g ++ setsL [l.getD k (0, 0)] g) := Lib.hid (by rw [take_snocR l k hlt, setsL_append])
      have hll : (setsL (l.take k) g).length ≤ 1000000 := by (have := setsL_length (l.take k) g; rw [List.length_take] at this; omega)
      have HQ : Hid (l.getD k (0, 0) = ((l.getD k (0, 0)).1, (l.getD k (0, 0)).2)) := Lib.hid rfl
      clear hc
      generalize (l.getD k (0, 0)).1 = x at *
      generalize (l.getD k (0, 0)).2 = y at *
      rw [HQ.out] at hac
      clear HQ
      cases hp : pieceB (x, y) with
      | false =>
        have he : setsL [(x, y)] g = [] := by simp [setsL, hp]
        rw [he, List.append_nil] at hac
        clear he
        go_wp2_with (go_at_call 58; refine (isPiece_any _ _ _).mono ?_; rintro e w1 ⟨rfl, hb1⟩)
        go_roundg (l.length - (k + 1))
        case measure => omega
        case rel => exact ⟨k + 1, _, by omega, by omega, by go_num, rfl, by rw [hac.out]; exact (HOW.out.alloc _).on hb1⟩
      | true =>
        have he : setsL [(x, y)] g = [((setl (x, y) g).1, (setl (x, y) g).2)] := by simp [setsL, hp]
        rw [he] at hac
        clear he
        have HS := Lib.hid (settled_any x y g)
        generalize (setl (x, y) g).1 = x2 at *
        generalize (setl (x, y) g).2 = y2 at *
        go_wp2_with (first | (go_at_call 58; refine (isPiece_any _ _ _).mono ?_; rintro e w1 ⟨rfl, hb1⟩; obtain ⟨hc, hf⟩ := bcell hb1) | (go_at_call 59; refine (HS.out _).mono ?_; rintro e w2 ⟨rfl, hb2⟩) | (at_builtin; refine appP rfl _ _ rfl x2 y2 (((HOW.out.alloc _).on hb1).on hb2) rfl rfl (by omega) ?_))
        intro v6 w6 ho6
        have HO6 := Lib.hid ho6
        clear ho6
        go_wp2_with fail
        go_roundg (l.length - (k + 1))
        case measure => omega
        case rel => exact ⟨k + 1, _, by omega, by omega, by go_num, rfl, by rw [hac.out]; exact HO6.out⟩
    · have hltz : ¬ (k : Int) < (l.length : Int) := by omega
      have : k = l.length := by omega
      subst this
      rw [List.take_of_length_le (Nat.le_refl _)] at HOW
      go_wp2_with fail
      refine (HG.out _ _ HOW.out).mono ?_
      rintro e w1 ⟨v1, rfl, ho⟩
      have HO := Lib.hid ho
      clear ho
      go_wp2_with fail
      go_ret
      exact ⟨_, rfl, HO.out⟩

theorem canonF_lt : ∀ {l : List Rg} {m : Int} (_ : canonF m l) (i j : Nat), i < j → j < l.length → (l.getD i (0, 0)).2 + 1 < (l.getD j (0, 0)).1
  | [], _, _, i, j, _, h => by simp at h
  | p :: r, m, ⟨a, b, c⟩, i, j, hij, h => by
    cases j with
    | zero => omega
    | succ j =>
      cases i with
      | zero =>
        have hj : j < r.length := by simpa using h
        have := canonF_mem c (p := r.getD j (0, 0)) (by rw [List.getD_eq_getElem?_getD, List.getElem?_eq_getElem hj]; exact List.getElem_mem hj)
        simpa using this.1
      | succ i => simpa using canonF_lt c i j (by omega) (by simpa using h)
theorem canonF_le {l : List Rg} {m : Int} (h : canonF m l) (i : Nat) (hi : i < l.length) : (l.getD i (0, 0)).1 ≤ (l.getD i (0, 0)).2 :=
  (canonF_mem h (by rw [List.getD_eq_getElem?_getD, List.getElem?_eq_getElem hi]; exact List.getElem_mem hi)).2
theorem find_hit {l : List Rg} {n : Int} {i : Nat} (hi : i < l.length) (h : inB ((l.getD i (0, 0)).1, (l.getD i (0, 0)).2) n = true) : l.any (fun p => inB p n) = true := any_hit i hi h
theorem find_miss {l : List Rg} {m n : Int} {i : Nat} (hc : canonF m l) (h1 : ∀ t, t < i → (l.getD t (0, 0)).2 < n) (h2 : ∀ t, i ≤ t → t < l.length → n ≤ (l.getD t (0, 0)).2) (h : i < l.length → n < (l.getD i (0, 0)).1) : l.any (fun p => inB p n) = false := by
  refine any_getD (fun j hj => ?_)
  unfold inB
  rw [Bool.and_eq_false_iff, decide_eq_false_iff_not, decide_eq_false_iff_not]
  rcases Nat.lt_trichotomy j i with hji | hji | hji
  · have := h1 j hji; omega
  · subst hji; have := h hj; omega
  · have a := canonF_lt hc i j hji hj
    have b := canonF_le hc i (by omega)
    have c := h (by omega)
    omega
end Go.Proofs.Ytiphbnmnoofpkaa
