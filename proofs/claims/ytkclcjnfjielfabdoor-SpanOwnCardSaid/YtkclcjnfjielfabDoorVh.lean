/- span: lists of numbers in memory; Least. -/
import Derived.Test.YtkclcjnfjielfabDoorVg
namespace Go.Proofs.YtkclcjnfjielfabDoor
open Go.RowKit

/-- v is a list of numbers, l, in memory that is there. -/
def Ints (w : World) (v : Value) (l : List Int) : Prop :=
  (l = [] ∧ ∃ ao cap, v = .slice ao 0 cap ∧ (ao = none → cap = 0)) ∨ ∃ b off cap, v = .slice (some ⟨b, off, none⟩) l.length cap ∧ l.length ≤ 17592186044416 ∧ b < w.heap.size ∧ ∀ i, i < l.length → w.cell? ⟨b, off + i, none⟩ = some (.int .i64 (l.getD i 0))
theorem Ints.on {w w' : World} {v : Value} {l : List Int} (h : Ints w v l) (hb : Below w.heap.size w w') : Ints w' v l := by
  rcases h with h | ⟨b, off, cap, rfl, h0, h1, h2⟩
  · exact .inl h
  · refine .inr ⟨b, off, cap, rfl, h0, Nat.lt_of_lt_of_le h1 hb.size, fun i hi => ?_⟩
    rw [hb.cell (p := ⟨b, off + i, none⟩) h1]
    exact h2 i hi
def okN (n : Int) : Bool := decide (1 ≤ n) && decide (n ≤ 4294967295)
def ones (l : List Int) : List Rg := (l.filter okN).map fun n => (n, n)
theorem ones_append (a b : List Int) : ones (a ++ b) = ones a ++ ones b := by simp [ones]
theorem ones_mem {l : List Int} {p : Rg} (h : p ∈ ones l) : 1 ≤ p.1 ∧ p.1 ≤ 4294967295 ∧ p.1 = p.2 ∧ p.1 ∈ l := by
  unfold ones at h
  obtain ⟨n, hn, rfl⟩ := List.mem_map.1 h
  have := List.mem_filter.1 hn
  simp [okN] at this
  exact ⟨this.2.1, this.2.2, rfl, this.1⟩
theorem ones_length (l : List Int) : (ones l).length ≤ l.length := by
  unfold ones; rw [List.length_map]; exact List.length_filter_le _ _
def leastL (l : List Int) : List Rg := tog (ones l)
theorem take_snocI (l : List Int) (k : Nat) (hk : k < l.length) : l.take (k + 1) = l.take k ++ [l.getD k 0] := by
  rw [List.take_succ_eq_append_getElem hk]; simp [hk]

set_option maxRecDepth 100000 in
set_option maxHeartbeats 2000000 in
theorem least_any (v : Value) (l : List Int) (w : World) (hr : Ints w v l) (hl : l.length ≤ 1000000) :
    Calls Tryd.prog 12 #[v] w fun e w' => ∃ v', e = .returned v' ∧ OwnR w.heap.size v' (leastL l) w w' := by
  rcases hr with ⟨rfl, ao, cap, rfl, _⟩ | ⟨b, off, cap, rfl, _, hbs, hc⟩
  · have HG : Hid (∀ v4 X, OwnR w.heap.size v4 [] w X → Calls Tryd.prog 38 #[v4] X fun e w' => ∃ v', e = .returned v' ∧ OwnR w.heap.size v' [] w w') := Lib.hid (fun v4 X h => (together_any v4 [] X (h.rgs (by simp)) (by simp) (by intro p hp; cases hp)).mono fun e w' ⟨v', he, ho⟩ => ⟨v', he, (ho.mono h.base).shift h.below⟩)
    go_enter Tryd.func12, Tryd.ntmps12
    go_wp2
    refine wp_loop_rounds 1 ?_
    rw [rounds_succ]
    go_wp2_with fail
    refine (HG.out _ _ (OwnR.nil (Below.refl _ _) (Nat.le_refl _))).mono ?_
    rintro e w1 ⟨v1, rfl, ho⟩
    have HO := Lib.hid ho
    clear ho
    go_wp2_with fail
    go_ret
    exact ⟨_, rfl, HO.out⟩
  · have HCS := Lib.hid hc
    clear hc
    have HG : Hid (∀ v4 X, OwnR w.heap.size v4 (ones l) w X → Calls Tryd.prog 38 #[v4] X fun e w' => ∃ v', e = .returned v' ∧ OwnR w.heap.size v' (leastL l) w w') := Lib.hid (fun v4 X h => by
      have hll := ones_length l
      refine (together_any v4 (ones l) X (h.rgs (by omega)) (by omega) (fun p hp => ?_)).mono fun e w' ⟨v', he, ho⟩ => ⟨v', he, (ho.mono h.base).shift h.below⟩
      have := ones_mem hp
      omega)
    go_enter Tryd.func12, Tryd.ntmps12
    go_wp2_with fail
    go_loopg [3, 8] l.length (fun gg s3 s8 wr => ∃ (k : Nat) (v3 : Value), k ≤ l.length ∧ l.length - k ≤ gg ∧ s8 = .int .i64 k ∧ v3 = s3 ∧ OwnR w.heap.size v3 (ones (l.take k)) w wr)
    case atStart => exact ⟨0, _, Nat.zero_le _, by omega, rfl, rfl, OwnR.nil (Below.refl _ _) (Nat.le_refl _)⟩
    case round =>
      obtain ⟨k, v3, hk, hgg, rfl, hv3, hown⟩ := hrel
      subst hv3
      have HOW := Lib.hid hown
      clear hown
      by_cases hlt : k < l.length
      · have hltz : (k : Int) < (l.length : Int) := by omega
        have c1 := HCS.out k hlt
        rw [← HOW.out.below.cell (p := ⟨b, off + k, none⟩) hbs] at c1
        have hac : Hid (ones (l.take (k + 1)) = ones (l.take k) ++ ones [l.getD k 0]) := Lib.hid (by rw [take_snocI l k hlt, ones_append])
        have hll : (ones (l.take k)).length ≤ 1000000 := by (have := ones_length (l.take k); rw [List.length_take] at this; omega)
        generalize l.getD k 0 = x at *
        by_cases h1 : 1 ≤ x
        · by_cases h2 : x ≤ 4294967295
          · have he : ones [x] = [(x, x)] := by simp [ones, okN, h1, h2]
            rw [he] at hac
            clear he
            go_wp2_with (at_builtin; refine appP rfl _ _ rfl x x HOW.out rfl rfl (by omega) ?_)
            intro v5 w5 ho5
            have HO5 := Lib.hid ho5
            clear ho5
            go_wp2_with fail
            go_roundg (l.length - (k + 1))
            case measure => omega
            case rel => exact ⟨k + 1, _, by omega, by omega, by go_num, rfl, by rw [hac.out]; exact HO5.out⟩
          · have he : ones [x] = [] := by simp [ones, okN]; omega
            rw [he, List.append_nil] at hac
            clear he
            go_wp2_with fail
            go_roundg (l.length - (k + 1))
            case measure => omega
            case rel => exact ⟨k + 1, _, by omega, by omega, by go_num, rfl, by rw [hac.out]; exact HOW.out⟩
        · have he : ones [x] = [] := by simp [ones, okN]; omega
          rw [he, List.append_nil] at hac
          clear he
          go_wp2_with fail
          go_roundg (l.length - (k + 1))
          case measure => omega
          case rel => exact ⟨k + 1, _, by omega, by omega, by go_num, rfl, by rw [hac.out]; exact HOW.out⟩
      · have hltz : ¬ (k : Int) < (l.length : Int) := by omega
        have : k = l.length := by omega
        subst this
        rw [List.take_of_length_le (Nat.le_refl _)] at HOW
        go_wp2_with fail
        refine (HG.out _ _ HOW.out).mono ?_
        rintro e w1 ⟨v1, rfl, ho⟩
        have HO := Lib.hid ho
        clear ho
        go_wp2_with fail
        go_ret
        exact ⟨_, rfl, HO.out⟩
end Go.Proofs.YtkclcjnfjielfabDoor
