/- postbaglaw9: does, with what becomes of the files. -/
import Derived.Test.YtbnicjpkfldcdaaDoorD9xa
namespace Go.Proofs.YtbnicjpkfldcdaaDoor
open Go.RowKit Go.Lib

theorem modP_len (n : ByteArray) (g : PF → PF) (P : List PF) : (modP n g P).length ≤ P.length + 1 := by
  unfold modP
  simp
theorem growP_len (n : ByteArray) (x : List UInt8) (P : List PF) : (growP n x P).length ≤ P.length + 1 := by
  unfold growP
  split
  · exact modP_len _ _ _
  · simp
theorem dropP_le (n : ByteArray) (P : List PF) : (dropP n P).length ≤ P.length := by
  unfold dropP
  exact List.length_filter_le _ _
theorem dropP_len (n : ByteArray) (P : List PF) : (dropP n P).length ≤ P.length + 1 := Nat.le_succ_of_le (dropP_le n P)
theorem moveP_len (a b : ByteArray) (P : List PF) : (moveP a b P).length ≤ P.length + 1 := by
  unfold moveP
  split
  · omega
  · split
    · omega
    · have h1 := dropP_le a (dropP b P)
      have h2 := dropP_le b P
      simp
      omega
theorem ite_len {c : Prop} [Decidable c] {G P : List PF} (h : G.length ≤ P.length + 1) : (if c then G else P).length ≤ P.length + 1 := by
  split
  · exact h
  · omega
/-- Behind one operation, whichever it was: the files too. -/
def DoneP (A : Whys) (w0 : World) (d : Nat) (S : DS) (P : List PF) (K : List (Nat × Obj)) (r : Value) (w' : World) : Prop :=
  ∃ G Gp K' op nm code, Dk A w0 d S.next (nextF S code P G Gp) K' w' ∧ ErrK A op nm (errS S) (errC S code) r K K' ∧ code ≠ 93 ∧ G.length ≤ P.length + 1 ∧ ∀ y, (Gp y).length ≤ P.length + 1
/-- At most one file more. -/
theorem nextF_len {S : DS} {code : Int} {P G : List PF} {Gp : Int → List PF} (h1 : G.length ≤ P.length + 1) (h2 : ∀ y, (Gp y).length ≤ P.length + 1) : (nextF S code P G Gp).length ≤ P.length + 1 := by
  unfold nextF
  split
  · split
    · split
      · exact h1
      · omega
    · rw [List.length_map]
      split
      · exact h2 _
      · omega
  · omega
/-- What is refused on a machine that goes on leaves the files. -/
theorem nextF_same {S : DS} {code : Int} {P G : List PF} {Gp : Int → List PF} (hr : S.next.runs = true) (hc : errC S code ≠ 0) : nextF S code P G Gp = P := by
  by_cases h : S.runs = true
  · cases hd : S.due with
    | none =>
      unfold errC at hc
      unfold nextF
      rw [if_pos h] at hc ⊢
      rw [hd] at hc ⊢
      rw [if_neg hc]
    | some yz =>
      exfalso
      unfold DS.next at hr
      rw [if_pos h, hd] at hr
      cases hr
  · unfold nextF
    rw [if_neg h]
set_option maxHeartbeats 4000000 in
theorem doesP_any {A : Whys} {w0 w : World} {d : Nat} {S : DS} {P : List PF} {K : List (Nat × Obj)} (h : Dk A w0 d S P K w) (hok : S.ok) (hn : S.steps < 1000000000) (q : ActR) (hns : q.name.size ≤ 140737488355328) (hts : q.dest.size ≤ 140737488355328) :
    Calls Tryd.prog 8 #[.pointer (some ⟨d, 0, none⟩), .agg q.cells] w fun e w' => ∃ s r, e = .returned (.tuple #[.string s, r]) ∧ DoneP A w0 d S P K r w' := by
  obtain ⟨kind, on, name, dest, data, n, sa, sn, sc⟩ := q
  simp only [ActR.cells] at *
  have hbx : Below w.heap.size w (w.alloc (.cells #[.int .i64 kind, .int .i64 on, .string name, .string dest, .string data, .int .i64 n, .slice sa sn sc] 35)) := (Below.refl _ _).alloc (Nat.le_refl _) _
  have hob := heap_alloc_new w (.cells #[.int .i64 kind, .int .i64 on, .string name, .string dest, .string data, .int .i64 n, .slice sa sn sc] 35)
  obtain ⟨W, hW⟩ : ∃ W, w.alloc (.cells #[.int .i64 kind, .int .i64 on, .string name, .string dest, .string data, .int .i64 n, .slice sa sn sc] 35) = W := ⟨_, rfl⟩
  rw [hW] at hbx hob
  have c0 := cell_of hob 0
  have c2 := cell_of hob 2
  have c3 := cell_of hob 3
  have c4 := cell_of hob 4
  have c5 := cell_of hob 5
  simp only [List.getElem?_toArray, List.getElem?_cons_zero, List.getElem?_cons_succ] at c0 c2 c3 c4 c5
  have hD := h.up hbx
  have HW := Lib.hid hW
  by_cases h1 : kind = 1
  · subst h1
    have HC := Lib.hid (AppendD hD hok hn name data hns)
    have H9 := Lib.hid (appCode_93 S P name data)
    clear h hok hn hns hts hbx hob hD hW
    go_enter Tryd.func8, Tryd.ntmps8
    go_upto_region 1 with fail
    rw [HW.out]
    go_wp2_with (go_at_call 16; refine HC.out.mono ?_; rintro e w2 ⟨r, K', rfl, hD2, hE2⟩; have HE := Lib.hid (And.intro hD2 hE2); clear hD2 hE2)
    go_ret2
    exact ⟨_, r, rfl, _, _, K', _, _, _, HE.out.1, HE.out.2, H9.out, growP_len _ _ _, fun y => growP_len _ _ _⟩
  by_cases h2 : kind = 2
  · subst h2
    clear h1
    have HC := Lib.hid (SyncD hD hok hn name hns)
    have H9 := Lib.hid (lookC_93 P name)
    clear h hok hn hns hts hbx hob hD hW
    go_enter Tryd.func8, Tryd.ntmps8
    go_upto_region 1 with fail
    rw [HW.out]
    go_wp2_with (go_at_call 22; refine HC.out.mono ?_; rintro e w2 ⟨r, K', rfl, hD2, hE2⟩; have HE := Lib.hid (And.intro hD2 hE2); clear hD2 hE2)
    go_ret2
    exact ⟨_, r, rfl, _, _, K', _, _, _, HE.out.1, HE.out.2, H9.out, modP_len _ _ _, fun y => ite_len (modP_len _ _ _)⟩
  by_cases h3 : kind = 3
  · subst h3
    clear h1
    clear h2
    have HC := Lib.hid (ReadD hD hok hn name hns)
    have H9 := Lib.hid (lookC_93 P name)
    clear h hok hn hns hts hbx hob hD hW
    go_enter Tryd.func8, Tryd.ntmps8
    go_upto_region 1 with fail
    rw [HW.out]
    go_wp2_with (go_at_call 17; refine HC.out.mono ?_; rintro e w2 ⟨r, K', rfl, hD2, hE2⟩; have HE := Lib.hid (And.intro hD2 hE2); clear hD2 hE2)
    go_ret2
    exact ⟨_, r, rfl, _, _, K', _, _, _, HE.out.1, HE.out.2, H9.out, Nat.le_succ _, fun _ => Nat.le_succ _⟩
  by_cases h4 : kind = 4
  · subst h4
    clear h1
    clear h2
    clear h3
    have HC := Lib.hid (RenameD hD hok hn name dest hns hts)
    have H9 := Lib.hid (renC_93 P name dest)
    clear h hok hn hns hts hbx hob hD hW
    go_enter Tryd.func8, Tryd.ntmps8
    go_upto_region 1 with fail
    rw [HW.out]
    go_wp2_with (go_at_call 23; refine HC.out.mono ?_; rintro e w2 ⟨r, K', rfl, hD2, hE2⟩; have HE := Lib.hid (And.intro hD2 hE2); clear hD2 hE2)
    go_ret2
    exact ⟨_, r, rfl, _, _, K', _, _, _, HE.out.1, HE.out.2, H9.out, moveP_len _ _ _, fun y => ite_len (moveP_len _ _ _)⟩
  by_cases h5 : kind = 5
  · subst h5
    clear h1
    clear h2
    clear h3
    clear h4
    have HC := Lib.hid (RemoveD hD hok hn name hns)
    have H9 := Lib.hid (lookC_93 P name)
    clear h hok hn hns hts hbx hob hD hW
    go_enter Tryd.func8, Tryd.ntmps8
    go_upto_region 1 with fail
    rw [HW.out]
    go_wp2_with (go_at_call 24; refine HC.out.mono ?_; rintro e w2 ⟨r, K', rfl, hD2, hE2⟩; have HE := Lib.hid (And.intro hD2 hE2); clear hD2 hE2)
    go_ret2
    exact ⟨_, r, rfl, _, _, K', _, _, _, HE.out.1, HE.out.2, H9.out, dropP_len _ _, fun y => ite_len (dropP_len _ _)⟩
  have b1 := beqI_no h1
  have b2 := beqI_no h2
  have b3 := beqI_no h3
  have b4 := beqI_no h4
  have b5 := beqI_no h5
  have HC := Lib.hid (TruncateD hD hok hn name n hns)
  have H9 := Lib.hid (truC_93 P name n)
  clear h hok hn hns hts hbx hob hD hW
  go_enter Tryd.func8, Tryd.ntmps8
  go_upto_region 1 with fail
  rw [HW.out]
  go_wp2_with (go_at_call 25; refine HC.out.mono ?_; rintro e w2 ⟨r, K', rfl, hD2, hE2⟩; have HE := Lib.hid (And.intro hD2 hE2); clear hD2 hE2)
  go_ret2
  exact ⟨_, r, rfl, _, _, K', _, _, _, HE.out.1, HE.out.2, H9.out, modP_len _ _ _, fun y => ite_len (modP_len _ _ _)⟩
end Go.Proofs.YtbnicjpkfldcdaaDoor

/- postbaglaw9: twin; Plan at a slice that lies above the disk. -/
namespace Go.Proofs.YtbnicjpkfldcdaaDoor
open Go.RowKit Go.Lib

theorem PlanG {A : Whys} {w0 w W : World} {d : Nat} {S : DS} {P : List PF} {K : List (Nat × Obj)} (h : Dk A w0 d S P K w) (hq : 1 ≤ S.quota) (hb : Below w.heap.size w W) (l : List (Int × Int × Int)) (g c : Nat) (hg : w.heap.size ≤ g) (hl : l.length ≤ 5864062014634) (hin : StopsIn W g 0 l.length l) :
    Calls Tryd.prog 6 #[.pointer (some ⟨d, 0, none⟩), .slice (some ⟨g, 0, none⟩) l.length c] W fun e w' => e = .returned (.tuple #[]) ∧ Dk A w0 d { S with stops := planP l } P K w' := by
  obtain ⟨m, sv, clk, F, hD, rfl, hb0, he, hK⟩ := h
  refine (Plan_some (hD.below hb) hq l g 0 c hl (hD.far hg) hin).mono ?_
  rintro e w' ⟨rfl, sv', hD', hS, hM⟩
  have hS' : Stays (fpOf d m sv F) w w' := (Stays.ofBelow hb).trans hS (fun b hb => .inl hb)
  have hM' : ∀ b, b ∈ fpOf d m sv' F → b ∈ fpOf d m sv F ∨ w.heap.size ≤ b := fun b hb' => by
    rcases hM b hb' with e | e
    · exact .inl e
    · exact .inr (Nat.le_trans hb.size e)
  exact ⟨rfl, m, sv', clk, F, hD', rfl, hb0.trans (hS'.below hD.base hD.size), he.stays hS' hD.base, keep_on hK hS' hM'⟩
theorem stops_at (l : List (Int × Int × Int)) (i : Nat) (s : Int × Int × Int) (h : l[i]? = some s) : (stopCells l)[3 * i]? = some (.int .i64 s.1) ∧ (stopCells l)[3 * i + 1]? = some (.int .i64 s.2.1) ∧ (stopCells l)[3 * i + 2]? = some (.int .i64 s.2.2) := by
  induction l generalizing i with
  | nil => simp at h
  | cons x l ih =>
    cases i with
    | zero =>
      simp at h
      subst h
      exact ⟨rfl, rfl, rfl⟩
    | succ i =>
      have := ih i (by simpa using h)
      have e : stopCells (x :: l) = .int .i64 x.1 :: .int .i64 x.2.1 :: .int .i64 x.2.2 :: stopCells l := rfl
      rw [e, show 3 * (i + 1) = 3 * i + 3 by omega, show 3 * i + 3 + 1 = 3 * i + 1 + 3 by omega, show 3 * i + 3 + 2 = 3 * i + 2 + 3 by omega]
      simpa using this
theorem stopsIn_own {w : World} {B g c : Nat} {l : List (Int × Int × Int)} (h : w.ownsRow B 56 3 (.slice (some ⟨g, 0, none⟩) l.length c) l.length (stopCells l)) (n : Nat) : StopsIn w g 0 n l := by
  intro i _ s hs
  obtain ⟨h0, h1, h2⟩ := stops_at l i s hs
  have hc := h.cells (g := g) rfl
  have k0 := hc _ _ h0
  have k1 := hc _ _ h1
  have k2 := hc _ _ h2
  rw [Addr.add_lit] at k0 k1 k2
  exact ⟨k0, by rw [Nat.add_assoc]; exact k1, by rw [Nat.add_assoc]; exact k2⟩
/-- Stops that came in: how append reads them. -/
def StopsCame (w : World) (a : Option Addr) (n c : Nat) (l : List (Int × Int × Int)) : Prop :=
  l.length = n ∧ ((a = none ∧ n = 0 ∧ c = 0) ∨ ∃ x, a = some x ∧ ∀ j u, (stopCells l)[j]? = some u → w.cell? (x.add j) = some u)
set_option maxHeartbeats 2000000 in
theorem twin_any {w : World} {a : Option Addr} {n c : Nat} {l : List (Int × Int × Int)} (h : StopsCame w a n c l) (hn : n ≤ 5864062014634) :
    Calls Tryd.prog 7 #[.slice a n c] w fun e w' => ∃ g cap, e = .returned (.slice (some ⟨g, 0, none⟩) (n + 1) cap) ∧ n + 1 ≤ cap ∧ w.heap.size ≤ g ∧ StopsIn w' g 0 n l ∧ Below w.heap.size w w' := by
  obtain ⟨hlen, hcame⟩ := h
  obtain ⟨i0, hi, hz0, hz1, hz2⟩ := info_parts' Tryd.infoStop
  have hone : ∀ u ∈ stopCells l, u.oneCell' = true := by
    intro u hu
    simp only [stopCells, List.mem_flatMap] at hu
    obtain ⟨s, _, hs⟩ := hu
    simp at hs
    rcases hs with rfl | rfl | rfl <;> rfl
  obtain ⟨v1, W1, hrun1, hrow1, hb1⟩ : ∃ v1 W1, (Builtin.append_ #[33, 33] 33 #[.slice none 0 0, .slice a n c]).run Tryd.prog w = .ok v1 W1 ∧ W1.ownsRow w.heap.size 56 3 v1 n (stopCells l) ∧ Below w.heap.size w W1 := by
    rcases hcame with ⟨rfl, rfl, rfl⟩ | ⟨x, rfl, hc⟩
    · have hl : l = [] := List.eq_nil_of_length_eq_zero hlen
      subst hl
      exact ⟨_, w, run_append_owned_none (P := Tryd.prog) (w := w) w.heap.size 33 33 56 i0 3 Tryd.underlying33 hi (.slice none 0 0) 0 [] (World.ownsRow_nil _ _ _ _), World.ownsRow_nil _ _ _ _, Below.refl _ _⟩
    · obtain ⟨v', W3, hrun, hrow3, hgr, _, _⟩ := run_append_own_at (P := Tryd.prog) w w.heap.size 33 33 56 i0 _ 3 24 Tryd.underlying33 hi hz0 hz1 hz2 rfl (by decide) (.slice none 0 0) 0 [] (World.ownsRow_nil _ _ _ _) x n c (stopCells l) (by rw [stopCells_length, hlen, Nat.mul_comm]) hc hone (by unfold maxLen; omega) (by omega) (Nat.le_refl _)
      rw [Nat.zero_add, List.nil_append] at hrow3
      exact ⟨v', W3, hrun, hrow3, (Below.refl _ _).grown hgr (Nat.le_refl _) (fun k hk => by cases hk)⟩
  obtain ⟨a1, c1, rfl⟩ := ownsRow_shape hrow1
  have hbs := hb1.size
  have hnew : (W1.alloc (.cells #[.int .i64 1, .int .i64 77, .int .i64 77] 56)).heap[W1.heap.size]? = some (.cells #[.int .i64 1, .int .i64 77, .int .i64 77] 56 (0, 0)) := heap_alloc_new W1 _
  obtain ⟨v2, W2, hrun2, hrow2, hgr2, _, _⟩ := run_append_own_at (P := Tryd.prog) (W1.alloc (.cells #[.int .i64 1, .int .i64 77, .int .i64 77] 56)) w.heap.size 33 33 56 i0 _ 3 24 Tryd.underlying33 hi hz0 hz1 hz2 rfl (by decide) (.slice a1 n c1) n (stopCells l) (hrow1.alloc _) ⟨W1.heap.size, 0, none⟩ 1 1 [.int .i64 1, .int .i64 77, .int .i64 77] rfl (by
      intro j u hj
      match j, hj with
      | 0, hj => simp at hj; subst hj; exact cell_of hnew 0
      | 1, hj => simp at hj; subst hj; exact cell_of hnew 1
      | 2, hj => simp at hj; subst hj; exact cell_of hnew 2
      | (j + 3), hj => simp at hj) (by
      intro u hu
      simp at hu
      rcases hu with rfl | rfl <;> rfl) (by unfold maxLen; omega) (by omega) (by simp; omega)
  have hb2 : Below w.heap.size w W2 := (hb1.alloc hbs _).grown hgr2 (by simp; omega) (fun k hk => (hrow1.lt k hk).1)
  have hfin : ∃ g cap, v2 = .slice (some ⟨g, 0, none⟩) (n + 1) cap ∧ n + 1 ≤ cap ∧ w.heap.size ≤ g ∧ StopsIn W2 g 0 n l := by
    have e : stopCells l ++ [.int .i64 1, .int .i64 77, .int .i64 77] = stopCells (l ++ [(1, 77, 77)]) := (stopCells_snoc l (1, 77, 77)).symm
    rw [e] at hrow2
    rcases hrow2.2 with ⟨_, h0⟩ | ⟨g, cap, cur, rfl, hbase, _, hcap, _, _, _⟩
    · omega
    · have el : (l ++ [((1 : Int), (77 : Int), (77 : Int))]).length = n + 1 := by simp [hlen]
      have hs := stopsIn_own (l := l ++ [(1, 77, 77)]) (g := g) (c := cap) (B := w.heap.size) (w := W2) (by rw [el]; exact hrow2) n
      refine ⟨g, cap, rfl, hcap, hbase, fun i hi' s hs' => hs i hi' s ?_⟩
      rw [List.getElem?_append_left (by omega)]
      exact hs'
  obtain ⟨g, cap, rfl, hcap, hg, hst⟩ := hfin
  have H1 := Lib.hid hrun1
  have H2 := Lib.hid hrun2
  have HE := Lib.hid (And.intro hcap (And.intro hg (And.intro hst hb2)))
  clear hcame hi hz0 hz1 hz2 hone hrun1 hrow1 hb1 hbs hnew hrun2 hrow2 hgr2 hb2 hcap hg hst hlen hn
  go_enter Tryd.func7, Tryd.ntmps7
  go_upto_region 3 with (at_builtin; refine append_by_run rfl _ _ _ rfl _ rfl _ _ rfl rfl _ _ H1.out ?_)
  go_wp2_with (at_builtin; refine append_by_run rfl _ _ _ rfl _ rfl _ _ rfl rfl _ _ H2.out ?_)
  go_ret
  exact ⟨g, cap, rfl, HE.out⟩
end Go.Proofs.YtbnicjpkfldcdaaDoor

/- postbaglaw9: texts of two rows that are alike. -/
namespace Go.Proofs.YtbnicjpkfldcdaaDoor
open Go.RowKit Go.Lib

end Go.Proofs.YtbnicjpkfldcdaaDoor
