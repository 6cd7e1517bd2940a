/- Lines: plain mathematics; postbagref1: Lines, Whole. -/
import Derived.Test.YtclegocofiigiabDoorRq
import Derived.Test.YtclegocofiigiabDoorTh
namespace Go.Proofs.YtclegocofiigiabDoor
open Go.RowKit Go.Shelf

def cutN (r : List UInt8) : List UInt8 × List UInt8 × Bool := Lib.cut r [13, 10]
def lnsF : Nat → List UInt8 → List (List UInt8)
  | 0, _ => []
  | f + 1, r => if r = [] then [] else (cutN r).1 :: lnsF f (cutN r).2.1
def lns (r : List UInt8) : List (List UInt8) := lnsF r.length r
theorem cutN_less (r : List UInt8) (h : r ≠ []) : (cutN r).2.1.length < r.length := cut_less r h
theorem lnsF_two : ∀ (f g : Nat) (r : List UInt8), r.length ≤ f → r.length ≤ g → lnsF f r = lnsF g r := by
  intro f
  induction f with
  | zero =>
    intro g r h _
    have : r = [] := List.eq_nil_of_length_eq_zero (by omega)
    subst this
    cases g <;> rfl
  | succ f ih =>
    intro g r h1 h2
    by_cases h0 : r = []
    · subst h0; cases g <;> rfl
    · have hl := cutN_less r h0
      cases g with
      | zero => omega
      | succ g => rw [lnsF, lnsF, if_neg h0, if_neg h0, ih g _ (by omega) (by omega)]
theorem lns_nil : lns [] = [] := rfl
theorem lns_step (r : List UInt8) (h : r ≠ []) : lns r = (cutN r).1 :: lns (cutN r).2.1 := by
  have hl := cutN_less r h
  unfold lns
  obtain ⟨n, hn⟩ : ∃ n, r.length = n + 1 := ⟨r.length - 1, by have := List.length_pos_iff.2 h; omega⟩
  rw [hn, lnsF, if_neg h, lnsF_two n (cutN r).2.1.length _ (by omega) (Nat.le_refl _)]
theorem lns_len : ∀ (n : Nat) (r : List UInt8), r.length ≤ n → (lns r).length ≤ r.length := by
  intro n
  induction n with
  | zero => intro r h; have : r = [] := List.eq_nil_of_length_eq_zero (by omega); subst this; simp [lns_nil]
  | succ n ih =>
    intro r h
    by_cases h0 : r = []
    · subst h0; simp [lns_nil]
    · have hl := cutN_less r h0
      rw [lns_step r h0, List.length_cons]
      have := ih (cutN r).2.1 (by omega)
      omega
theorem cut_skip (l : List UInt8) : ∀ (d a : Nat), (∀ q, a ≤ q → q < a + d → crlf l q = false) → a + d ≤ l.length →
    cutN (l.drop a) = ((l.drop a).take d ++ (cutN (l.drop (a + d))).1, (cutN (l.drop (a + d))).2.1, (cutN (l.drop (a + d))).2.2) := by
  intro d
  induction d with
  | zero => intro a _ _; simp
  | succ d ih =>
    intro a hno hl
    have h1 := ih (a + 1) (fun q hq1 hq2 => hno q (by omega) (by omega)) (by omega)
    have h2 := hno a (by omega) (by omega)
    unfold crlf at h2
    have e : a + 1 + d = a + (d + 1) := by omega
    rw [e] at h1
    rw [drop_cons l a (by omega)] at h2 ⊢
    rw [cutN, cut_cons, if_neg (by rw [h2]; simp)]
    change (bt l a :: (cutN (l.drop (a + 1))).1, (cutN (l.drop (a + 1))).2.1, (cutN (l.drop (a + 1))).2.2) = _
    rw [h1]
    rfl
theorem cut_hit (l : List UInt8) (a i : Nat) (ha : a ≤ i) (hno : ∀ q, a ≤ q → q < i → crlf l q = false) (hi : crlf l i = true) : cutN (l.drop a) = ((l.drop a).take (i - a), l.drop (i + 2), true) := by
  have hl := crlf_lt l i hi
  have e : a + (i - a) = i := by omega
  have h := cut_skip l (i - a) a (fun q h1 h2 => hno q h1 (by omega)) (by omega)
  rw [e] at h
  have h2 : cutN (l.drop i) = ([], l.drop (i + 2), true) := by
    unfold crlf at hi
    rw [drop_cons l i (by omega)] at hi ⊢
    rw [cutN, cut_cons, if_pos hi, List.drop_drop]
  rw [h, h2, List.append_nil]
theorem cut_end (l : List UInt8) (a : Nat) (ha : a ≤ l.length) (hno : ∀ q, a ≤ q → q < l.length → crlf l q = false) : cutN (l.drop a) = (l.drop a, [], false) := by
  have e : a + (l.length - a) = l.length := by omega
  have h := cut_skip l (l.length - a) a (fun q h1 h2 => hno q h1 (by omega)) (by omega)
  rw [e, List.drop_length] at h
  have h2 : cutN [] = ([], [], false) := by unfold cutN Lib.cut; rfl
  rw [h, h2, List.append_nil, List.take_of_length_le (by rw [List.length_drop]; omega)]
theorem crlf_next (l : List UInt8) (i : Nat) (h : crlf l i = true) : crlf l (i + 1) = false := by
  rw [crlf_iff] at h ⊢
  simp at h
  rw [Bool.and_eq_false_iff]; right
  rw [Bool.and_eq_false_iff]; left
  rw [h.2.2]; rfl

/-- A row of texts that the call made itself. -/
def sS (l : List (List UInt8)) : List Value := l.map fun x => Value.string (S x)
theorem sS_length (l : List (List UInt8)) : (sS l).length = l.length := by simp [sS]
theorem sS_append (a b : List (List UInt8)) : sS (a ++ b) = sS a ++ sS b := by simp [sS]
structure OwnS (B : Nat) (v : Value) (l : List (List UInt8)) (W0 w : World) : Prop where
  row : w.ownsRow B 9 1 v l.length (sS l)
  below : Below B W0 w
  base : B ≤ w.heap.size
theorem OwnS.nil {B : Nat} {W0 w : World} (h : Below B W0 w) (hB : B ≤ w.heap.size) : OwnS B (.slice none 0 0) [] W0 w := ⟨World.ownsRow_nil _ _ _ _, h, hB⟩
theorem OwnS.alloc {B : Nat} {v : Value} {l : List (List UInt8)} {W0 w : World} (h : OwnS B v l W0 w) (o : Obj) : OwnS B v l W0 (w.alloc o) :=
  ⟨h.row.alloc o, h.below.alloc h.base o, by have := h.base; simp; omega⟩
theorem OwnS.strs {B : Nat} {v : Value} {l : List (List UInt8)} {W0 w : World} (h : OwnS B v l W0 w) (hl : l.length ≤ 1000000) : Strs w v (l.map S) := by
  rcases h.row.2 with ⟨rfl, h0⟩ | ⟨g, cap, cur, rfl, hB, hg, rest⟩
  · left
    have : l = [] := List.eq_nil_of_length_eq_zero h0
    exact ⟨by rw [this]; rfl, none, 0, rfl⟩
  · right
    refine ⟨g, 0, cap, by rw [List.length_map], by rw [List.length_map]; omega, (Array.getElem?_eq_some_iff.1 hg).1, fun j hj => ?_⟩
    rw [List.length_map] at hj
    have := h.row.cells (g := g) rfl j (.string ((l.map S).getD j ByteArray.empty)) (by simp [sS, hj])
    have e : (⟨g, 0, none⟩ : Addr).add j = ⟨g, 0 + j, none⟩ := by
      unfold Addr.add; split
      · rename_i h; rw [h]
      · simp
    rw [e] at this; exact this
theorem Tryd.infoStr : (Tryd.prog.info? 9).map (fun i => (i.zero, i.size, i.bytes)) = some (some (.string ⟨#[]⟩), 1, 16) := by kernel_rfl
theorem appT {ops : Array Oper} {rest : List Oper} {o : Oper} {a : Act} {Q : Exit → Act → World → Prop} (hgd : o.guard = none) (s x : Operand)
    (ho : o.op = .call { callee := .builtin .append, args := #[s, x], argTypes := #[22, 22] })
    {B : Nat} {v : Value} {l : List (List UInt8)} {W0 w : World} (b : List UInt8) (hown : OwnS B v l W0 w) (hs : a.eval s = v) (hx : a.eval x = .slice (some ⟨w.heap.size, 0, none⟩) 1 1)
    (hlen : l.length + 1 ≤ 1000000)
    (h : ∀ v' w', OwnS B v' (l ++ [b]) W0 w' → wpList Tryd.prog ops Q rest (a.put o.dst v') w') : wpList Tryd.prog ops Q (o :: rest) a (w.alloc (.cells #[.string (S b)] 9)) := by
  obtain ⟨i0, hi, hz0, hz1, hz2⟩ := info_parts Tryd.infoStr
  have ha := hown.alloc (.cells #[.string (S b)] 9)
  refine wpList_append_own _ hgd s x 22 ho B 9 i0 (.string ⟨#[]⟩) 1 16 Tryd.underlying22 hi hz0 hz1 hz2 rfl (by decide) v l.length (sS l) hs ha.row ⟨w.heap.size, 0, none⟩ 1 1 [.string (S b)] hx rfl ?_ ?_ (by unfold maxLen; omega) (by omega) ha.base ?_
  · intro j u hj
    match j, hj with
    | 0, hj => simp at hj; subst hj; simp [Addr.add]
    | (j + 1), hj => simp at hj
  · intro u hu; simp at hu; subst hu; rfl
  · intro v' w' ho' hg _
    refine h v' w' ⟨?_, ha.below.grown hg ha.base (fun k hk => (ha.row.lt k hk).1), Nat.le_trans ha.base hg.size⟩
    rw [List.length_append, sS_append]
    exact ho'

set_option maxHeartbeats 1000000 in
theorem refLines_any (s : ByteArray) (w : World) (hs : s.size ≤ 500000) :
    Calls Tryd.prog 10 #[.string s] w fun e w' => ∃ v, e = .returned v ∧ OwnS w.heap.size v (lns (L s)) w w' := by
  have hLs := L_length s
  go_enter Tryd.func10, Tryd.ntmps10
  go_wp2
  go_loopw [3, 4, 5] (fun v fr i wr => ∃ (k m : Nat) (o : List (List UInt8)), k ≤ s.size ∧ m ≤ s.size ∧ m ≤ k + 1 ∧ o.length ≤ k ∧ i = .int .i64 k ∧ fr = .int .i64 m ∧ Hid ((m = k + 1 → crlf (L s) k = false) ∧ (∀ q, m ≤ q → q < k → crlf (L s) q = false) ∧ o ++ lns ((L s).drop m) = lns (L s)) ∧ OwnS w.heap.size v o w wr) (fun _ _ i _ => s.size - (intOf i).toNat)
  case atStart => exact ⟨0, 0, [], Nat.zero_le _, Nat.zero_le _, by omega, by simp, rfl, rfl, Lib.hid ⟨fun h => by omega, fun q h1 h2 => by omega, rfl⟩, OwnS.nil (Below.refl _ _) (Nat.le_refl _)⟩
  case round =>
    obtain ⟨k, m, o, hk, hm, hmk, hol, rfl, rfl, HI, hown⟩ := hrel
    by_cases hlt : k < s.size
    · have hB := Lib.hid (fun W => breaks_any s k W (by omega) (by omega))
      cases hc : crlf (L s) k with
      | true =>
        rw [hc] at hB
        have hk2 := crlf_lt (L s) k hc
        have hmk2 : m ≤ k := by
          rcases Nat.lt_or_ge k m with h | h
          · have := HI.out.1 (by omega); rw [hc] at this; cases this
          · exact h
        have hcut := cut_hit (L s) m k hmk2 HI.out.2.1 hc
        have hx : s.extract m k = S (((L s).drop m).take (k - m)) := extract_S s m k
        have HI2 : Hid ((k + 2 = k + 1 + 1 → crlf (L s) (k + 1) = false) ∧ (∀ q, k + 2 ≤ q → q < k + 1 → crlf (L s) q = false) ∧ (o ++ [((L s).drop m).take (k - m)]) ++ lns ((L s).drop (k + 2)) = lns (L s)) := Lib.hid ⟨fun _ => crlf_next (L s) k hc, fun q h1 h2 => by omega, by
          have h3 := HI.out.2.2
          rw [lns_step ((L s).drop m) (by intro e; have := congrArg List.length e; simp at this; omega), hcut] at h3
          rw [← h3]; simp⟩
        have hlen : o.length + 1 ≤ 1000000 := by omega
        clear HI hcut hc
        generalize ((L s).drop m).take (k - m) = x at *
        go_wp2_with (first | (go_at_call 33; refine (hB.out _).mono ?_; rintro e w' ⟨rfl, rfl⟩) | (at_builtin; go_loud (refine appT rfl _ _ rfl x hown rfl rfl hlen ?_; intro v3 w3 hown3)))
        go_roundw
        case rel => exact ⟨k + 1, k + 2, o ++ [x], by omega, by omega, by omega, by simp; omega, by go_num, by go_num, Lib.hid ⟨fun _ => HI2.out.1 trivial, HI2.out.2⟩, hown3⟩
        case measure => simp [intOf]; omega
      | false =>
        rw [hc] at hB
        have HI2 : Hid ((m = k + 1 + 1 → crlf (L s) (k + 1) = false) ∧ (∀ q, m ≤ q → q < k + 1 → crlf (L s) q = false) ∧ o ++ lns ((L s).drop m) = lns (L s)) := Lib.hid ⟨fun h => by omega, fun q h1 h2 => by
          by_cases e : q = k
          · subst e; exact hc
          · exact HI.out.2.1 q h1 (by omega), HI.out.2.2⟩
        clear HI hc
        go_wp2_with (first | (go_at_call 33; refine (hB.out _).mono ?_; rintro e w' ⟨rfl, rfl⟩))
        go_roundw
        case rel => exact ⟨k + 1, m, o, by omega, by omega, by omega, by omega, by go_num, rfl, HI2, hown⟩
        case measure => simp [intOf]; omega
    · by_cases hfr : m < s.size
      · have hcut := cut_end (L s) m (by omega) (fun q h1 h2 => HI.out.2.1 q h1 (by omega))
        have hx : s.extract m s.size = S ((L s).drop m) := by rw [extract_S, List.take_of_length_le (by rw [List.length_drop]; omega)]
        have HE : Hid (lns (L s) = o ++ [(L s).drop m]) := Lib.hid (by
          have h3 := HI.out.2.2
          rw [lns_step ((L s).drop m) (by intro e; have := congrArg List.length e; simp at this; omega), hcut] at h3
          rw [← h3]; rfl)
        have hlen : o.length + 1 ≤ 1000000 := by omega
        clear HI hcut
        generalize (L s).drop m = x at *
        go_wp2_with (first | (at_builtin; go_loud (refine appT rfl _ _ rfl x hown rfl rfl hlen ?_; intro v3 w3 hown3)))
        go_ret
        exact ⟨_, rfl, by rw [HE.out]; exact hown3⟩
      · have HE : Hid (lns (L s) = o) := Lib.hid (by
          have h3 := HI.out.2.2
          rw [List.drop_eq_nil_of_le (by omega), lns_nil, List.append_nil] at h3
          exact h3.symm)
        clear HI
        go_wp2
        go_ret
        exact ⟨_, rfl, by rw [HE.out]; exact hown⟩

set_option maxHeartbeats 1000000 in
theorem refWhole_any (s : ByteArray) (w : World) (hs : s.size ≤ 1000000) :
    Calls Tryd.prog 12 #[.string s] w fun e w' => e = .returned (.bool (whole (L s))) ∧ w' = w := by
  go_enter Tryd.func12, Tryd.ntmps12
  go_wp2
  go_loop [3] (fun t => ∃ k : Nat, k ≤ s.size ∧ t = .int .i64 k ∧ wholeTo (L s) k = true) (fun t => s.size - (intOf t).toNat)
  case atStart => exact ⟨0, Nat.zero_le _, rfl, rfl⟩
  case round =>
    obtain ⟨k, hk, rfl, hp⟩ := hrel
    have HP := Lib.hid hp
    clear hp
    by_cases hlt : k < s.size
    · have ea := get_bt s k hlt
      have c0 : (bt (L s) k).toNat < 256 := bt_lt _ _
      have HK : Hid (okAt (L s) k = (!(((bt (L s) k).toNat : Int) == 13 && !crlf (L s) k) && !(((bt (L s) k).toNat : Int) == 10 && ((k : Int) == 0 || ((bt (L s) (k - 1)).toNat : Int) != 13)))) := Lib.hid rfl
      have HS : Hid (wholeTo (L s) (k + 1) = (wholeTo (L s) k && okAt (L s) k)) := Lib.hid rfl
      have HF := Lib.hid (fun h => wholeTo_false (L s) k h (L s).length (by rw [L_length]; exact hlt))
      cases h13 : (((bt (L s) k).toNat : Int) == 13) with
      | true =>
        have h10 : (((bt (L s) k).toNat : Int) == 10) = false := by
          rw [beq_iff_eq] at h13; rw [h13]; rfl
        cases hcr : crlf (L s) k with
        | true =>
          have HN : Hid (wholeTo (L s) (k + 1) = true) := Lib.hid (by rw [HS.out, HP.out, HK.out, h13, hcr, h10]; rfl)
          go_wp2_with (go_at_call 33; refine (breaks_any s k _ (by omega) (by omega)).mono ?_; rintro e w' ⟨rfl, rfl⟩)
          go_round
          case rel => exact ⟨k + 1, by omega, by go_num, HN.out⟩
          case measure => simp [intOf]; omega
        | false =>
          have HN : Hid (whole (L s) = false) := Lib.hid (HF.out (by rw [HK.out, h13, hcr]; rfl))
          go_wp2_with (go_at_call 33; refine (breaks_any s k _ (by omega) (by omega)).mono ?_; rintro e w' ⟨rfl, rfl⟩)
          go_ret
          exact ⟨ret_bool HN.out.symm, rfl⟩
      | false =>
        cases h10 : (((bt (L s) k).toNat : Int) == 10) with
        | false =>
          have HN : Hid (wholeTo (L s) (k + 1) = true) := Lib.hid (by rw [HS.out, HP.out, HK.out, h13, h10]; rfl)
          go_wp2
          go_round
          case rel => exact ⟨k + 1, by omega, by go_num, HN.out⟩
          case measure => simp [intOf]; omega
        | true =>
          cases hk0 : ((k : Int) == 0) with
          | true =>
            have HN : Hid (whole (L s) = false) := Lib.hid (HF.out (by rw [HK.out, h13, h10, hk0]; rfl))
            go_wp2
            go_ret
            exact ⟨ret_bool HN.out.symm, rfl⟩
          | false =>
            have hkp : 0 < k := by rw [beq_eq_false_iff_ne] at hk0; omega
            obtain ⟨j, rfl⟩ : ∃ j, k = j + 1 := ⟨k - 1, by omega⟩
            have eb := get_bt s j (by omega)
            have c1 : (bt (L s) j).toNat < 256 := bt_lt _ _
            rw [Nat.add_sub_cancel] at HK
            cases hj : (((bt (L s) j).toNat : Int) != 13) with
            | true =>
              have HN : Hid (whole (L s) = false) := Lib.hid (HF.out (by rw [HK.out, h13, h10, hk0, hj]; rfl))
              go_wp2
              go_ret
              exact ⟨ret_bool HN.out.symm, rfl⟩
            | false =>
              have HN : Hid (wholeTo (L s) (j + 1 + 1) = true) := Lib.hid (by rw [HS.out, HP.out, HK.out, h13, h10, hk0, hj]; rfl)
              go_wp2
              go_round
              case rel => exact ⟨j + 1 + 1, by omega, by go_num, HN.out⟩
              case measure => simp [intOf]; omega
    · have hall : k = (L s).length := by rw [L_length]; omega
      have HN : Hid (whole (L s) = true) := Lib.hid (by unfold whole; rw [← hall]; exact HP.out)
      clear hall
      go_wp2
      go_ret
      exact ⟨ret_bool HN.out.symm, rfl⟩
end Go.Proofs.YtclegocofiigiabDoor
