/- DiskPlays: does, words; Start and Plan, plain. -/
import Derived.Test.YtgafomknpdnfcaaGreatDoorM9a
namespace Go.Proofs.YtgafomknpdnfcaaGreatDoor
open Go.RowKit Go.Lib

set_option maxHeartbeats 4000000 in
theorem doesM_any {A : Whys} {w0 w : World} {d : Nat} {S : DS} {P : List PF} {K : List (Nat × Obj)} (h : Dk A w0 d S P K w) {l : List PF} {rs : List (Int × Int × Int)} {si : Int} (hM : Meet S P l rs si) (hn : S.steps < 1000000000) (q : ActR) (hk : 1 ≤ q.kind ∧ q.kind ≤ 6) (hns : q.name.size ≤ 140737488355328) (hts : q.dest.size ≤ 140737488355328) :
    Calls Tryz.prog 17 #[.pointer (some ⟨d, 0, none⟩), .agg q.cells] w fun e w' => ∃ s r, e = .returned (.tuple #[.string s, r]) ∧ DoneM A w0 d S l rs si q K s r w' := by
  have hok := hM.ok
  have HM := Lib.hid hM
  obtain ⟨kind, on, name, dest, data, n, sa, sn, sc⟩ := q
  simp only [ActR.cells] at *
  have hbx : Below w.heap.size w (w.alloc (.cells #[.int .i64 kind, .int .i64 on, .string name, .string dest, .string data, .int .i64 n, .slice sa sn sc] 38)) := (Below.refl _ _).alloc (Nat.le_refl _) _
  have hob := heap_alloc_new w (.cells #[.int .i64 kind, .int .i64 on, .string name, .string dest, .string data, .int .i64 n, .slice sa sn sc] 38)
  obtain ⟨W, hW⟩ : ∃ W, w.alloc (.cells #[.int .i64 kind, .int .i64 on, .string name, .string dest, .string data, .int .i64 n, .slice sa sn sc] 38) = W := ⟨_, rfl⟩
  rw [hW] at hbx hob
  have c0 := cell_of hob 0
  have c2 := cell_of hob 2
  have c3 := cell_of hob 3
  have c4 := cell_of hob 4
  have c5 := cell_of hob 5
  simp only [List.getElem?_toArray, List.getElem?_cons_zero, List.getElem?_cons_succ] at c0 c2 c3 c4 c5
  have hD := h.up hbx
  have HW := Lib.hid hW
  by_cases h1 : kind = 1
  · subst h1
    have HC := Lib.hid (AppendD hD hok hn name data hns)
    clear h hok hn hns hts hbx hob hD hW hM hk
    go_enter Tryz.func17, Tryz.ntmps17
    go_upto_region 1 with fail
    rw [HW.out]
    go_wp2_with (go_at_call 10; refine HC.out.mono ?_; rintro e w2 ⟨r, K', rfl, hD2, hE2⟩; have HE := Lib.hid (And.intro hD2 hE2); clear hD2 hE2)
    go_ret2
    exact ⟨_, r, rfl, doneM_of HM.out (opM_1 HM.out _ _ _ _) HE.out.1 HE.out.2 (other_meet _ _ _ _ _ _ _ (by show (1 : Int) ≠ 3; decide) _ _ _ _).symm⟩
  by_cases h2 : kind = 2
  · subst h2
    clear h1
    have HC := Lib.hid (SyncD hD hok hn name hns)
    clear h hok hn hns hts hbx hob hD hW hM hk
    go_enter Tryz.func17, Tryz.ntmps17
    go_upto_region 1 with fail
    rw [HW.out]
    go_wp2_with (go_at_call 50; refine HC.out.mono ?_; rintro e w2 ⟨r, K', rfl, hD2, hE2⟩; have HE := Lib.hid (And.intro hD2 hE2); clear hD2 hE2)
    go_ret2
    exact ⟨_, r, rfl, doneM_of HM.out (opM_2 HM.out _ _ _ _) HE.out.1 HE.out.2 (other_meet _ _ _ _ _ _ _ (by show (2 : Int) ≠ 3; decide) _ _ _ _).symm⟩
  by_cases h3 : kind = 3
  · subst h3
    clear h1
    clear h2
    have HC := Lib.hid (ReadD hD hok hn name hns)
    clear h hok hn hns hts hbx hob hD hW hM hk
    go_enter Tryz.func17, Tryz.ntmps17
    go_upto_region 1 with fail
    rw [HW.out]
    go_wp2_with (go_at_call 11; refine HC.out.mono ?_; rintro e w2 ⟨r, K', rfl, hD2, hE2⟩; have HE := Lib.hid (And.intro hD2 hE2); clear hD2 hE2)
    go_ret2
    exact ⟨_, r, rfl, doneM_of HM.out (opM_3 HM.out _ _ _ _) HE.out.1 HE.out.2 (read_meet HM.out _ _ _ _).symm⟩
  by_cases h4 : kind = 4
  · subst h4
    clear h1
    clear h2
    clear h3
    have HC := Lib.hid (RenameD hD hok hn name dest hns hts)
    clear h hok hn hns hts hbx hob hD hW hM hk
    go_enter Tryz.func17, Tryz.ntmps17
    go_upto_region 1 with fail
    rw [HW.out]
    go_wp2_with (go_at_call 51; refine HC.out.mono ?_; rintro e w2 ⟨r, K', rfl, hD2, hE2⟩; have HE := Lib.hid (And.intro hD2 hE2); clear hD2 hE2)
    go_ret2
    exact ⟨_, r, rfl, doneM_of HM.out (opM_4 HM.out _ _ _ _) HE.out.1 HE.out.2 (other_meet _ _ _ _ _ _ _ (by show (4 : Int) ≠ 3; decide) _ _ _ _).symm⟩
  by_cases h5 : kind = 5
  · subst h5
    clear h1
    clear h2
    clear h3
    clear h4
    have HC := Lib.hid (RemoveD hD hok hn name hns)
    clear h hok hn hns hts hbx hob hD hW hM hk
    go_enter Tryz.func17, Tryz.ntmps17
    go_upto_region 1 with fail
    rw [HW.out]
    go_wp2_with (go_at_call 52; refine HC.out.mono ?_; rintro e w2 ⟨r, K', rfl, hD2, hE2⟩; have HE := Lib.hid (And.intro hD2 hE2); clear hD2 hE2)
    go_ret2
    exact ⟨_, r, rfl, doneM_of HM.out (opM_5 HM.out _ _ _ _) HE.out.1 HE.out.2 (other_meet _ _ _ _ _ _ _ (by show (5 : Int) ≠ 3; decide) _ _ _ _).symm⟩
  have h6 : kind = 6 := by omega
  subst h6
  clear h1 h2 h3 h4 h5
  have HC := Lib.hid (TruncateD hD hok hn name n hns)
  clear h hok hn hns hts hbx hob hD hW hM hk
  go_enter Tryz.func17, Tryz.ntmps17
  go_upto_region 1 with fail
  rw [HW.out]
  go_wp2_with (go_at_call 53; refine HC.out.mono ?_; rintro e w2 ⟨r, K', rfl, hD2, hE2⟩; have HE := Lib.hid (And.intro hD2 hE2); clear hD2 hE2)
  go_ret2
  exact ⟨_, r, rfl, doneM_of HM.out (opM_6 HM.out _ _ _ _) HE.out.1 HE.out.2 (other_meet _ _ _ _ _ _ _ (by show (6 : Int) ≠ 3; decide) _ _ _ _).symm⟩
theorem words_any (k : Int) (hk : 1 ≤ k ∧ k ≤ 6) (w : World) : Calls Tryz.prog 19 #[.int .i64 k] w fun e w' => e = .returned (.string (wordM k)) ∧ Below w.heap.size w w' := by
  have hkk : k = 1 ∨ k = 2 ∨ k = 3 ∨ k = 4 ∨ k = 5 ∨ k = 6 := by omega
  clear hk
  rcases hkk with rfl | rfl | rfl | rfl | rfl | rfl
  all_goals
    go_enter Tryz.func19, Tryz.ntmps19
    go_wp2
    go_ret
    exact ⟨rfl, (Below.refl _ _).alloc (Nat.le_refl _) _⟩
theorem Meet.start {S : DS} {P l : List PF} {rs : List (Int × Int × Int)} {si : Int} (h : Meet S P l rs si) : Meet S.on P l rs (if (!S.runs) = true then 0 else si) := by
  have hr : S.on.runs = true := rfl
  have hc : cnt S.on (if (!S.runs) = true then 0 else si) = cnt S si := by
    unfold cnt
    rw [if_pos hr]
    cases S.runs <;> simp
  refine ⟨h.perm, h.rise, h.nod, h.fok, h.fits, h.quota, by rw [hc]; exact h.stops, by rw [hc]; exact h.ahead, h.least, h.inr, ?_, h.len⟩
  have := h.since
  show 0 ≤ _ ∧ _ ≤ (S.steps : Int)
  split
  · omega
  · exact this
theorem Meet.plan {S : DS} {P l : List PF} {rs : List (Int × Int × Int)} {si : Int} (h : Meet S P l rs si) (ll : List (Int × Int × Int)) (hin : ∀ s, s ∈ ll → inI s.1 ∧ inI s.2.1 ∧ inI s.2.2) : Meet { S with stops := planP ll } P l (planP ll) 0 := by
  have hc : cnt { S with stops := planP ll } 0 = 0 := by unfold cnt; split <;> rfl
  have hl : ∀ s, s ∈ planP ll → 1 ≤ s.1 := fun s hs => by simpa using (List.mem_filter.1 hs).2
  refine ⟨h.perm, h.rise, h.nod, h.fok, h.fits, h.quota, ?_, ?_, hl, fun s hs => hin s (List.mem_filter.1 hs).1, ⟨Int.le_refl _, by show (0 : Int) ≤ (S.steps : Int); omega⟩, h.len⟩
  · rw [hc]
    show planP ll = stopR (planP ll) 0
    cases planP ll with
    | nil => rfl
    | cons x r =>
      obtain ⟨a, y, z⟩ := x
      simp only [stopR]
      rw [show a - 0 = a by omega]
  · rw [hc]
    intro a y z r e
    have := hl (a, y, z) (by rw [e]; exact List.mem_cons_self ..)
    simp only at this
    omega
theorem Meet.new {q : Nat} (h1 : 1 ≤ q) (h2 : q ≤ 1048576) : Meet ⟨q, 0, true, []⟩ [] [] [] 0 :=
  ⟨List.Perm.refl _, List.Pairwise.nil, List.Pairwise.nil, (fun p hp => by cases hp), (by simp [usedP]), ⟨h1, h2⟩, rfl, (fun a y z r e => by cases e), (fun s hs => by cases hs), (fun s hs => by cases hs), ⟨Int.le_refl _, Int.le_refl _⟩, Nat.le_refl _⟩
/-- Many blocks are kept at once. -/
theorem Dk.keepL {A : Whys} {w0 w w' : World} {d : Nat} {S : DS} {P : List PF} {K : List (Nat × Obj)} (h : Dk A w0 d S P K w) (hb : Below w.heap.size w w') (Kn : List (Nat × Obj)) (hn : ∀ x, x ∈ Kn → w.heap.size ≤ x.1 ∧ w'.heap[x.1]? = some x.2) : Dk A w0 d S P (Kn ++ K) w' := by
  obtain ⟨m, sv, clk, F, hD, rfl, hb0, he, hK⟩ := h
  refine ⟨m, sv, clk, F, hD.below hb, rfl, hb0.trans (hb.mono hb0.size), he.below (hb.mono hb0.size), fun x hx => ?_⟩
  rcases List.mem_append.1 hx with hx | hx
  · exact ⟨(hn x hx).2, hD.far (hn x hx).1⟩
  · exact ⟨by rw [hb.block _ (lt_of_heap (hK x hx).1)]; exact (hK x hx).1, (hK x hx).2⟩
/-- Fewer are kept. -/
theorem Dk.fewer {A : Whys} {w0 w : World} {d : Nat} {S : DS} {P : List PF} {K K' : List (Nat × Obj)} (h : Dk A w0 d S P K w) (hs : ∀ x, x ∈ K' → x ∈ K) : Dk A w0 d S P K' w := by
  obtain ⟨m, sv, clk, F, hD, rfl, hb0, he, hK⟩ := h
  exact ⟨m, sv, clk, F, hD, rfl, hb0, he, fun x hx => hK x (hs x hx)⟩
/-- A block that is kept is written over: the disk and the others stay. -/
theorem Dk.over {A : Whys} {w0 w w' : World} {d : Nat} {S : DS} {P : List PF} {K K' : List (Nat × Obj)} (h : Dk A w0 d S P K w) {g : Nat} {o : Obj} (hg : (g, o) ∈ K) (hg0 : w0.heap.size ≤ g) (hz : w.heap.size ≤ w'.heap.size) (hos : w'.os = w.os ∧ w'.tape = w.tape ∧ w'.output = w.output) (hs : ∀ b, b ≠ g → b < w.heap.size → w'.heap[b]? = w.heap[b]?) (hK' : ∀ x, x ∈ K' → x ∈ K ∧ x.1 ≠ g) : Dk A w0 d S P K' w' := by
  obtain ⟨m, sv, clk, F, hD, rfl, hb0, he, hK⟩ := h
  have hb : Below w0.heap.size w w' := ⟨hos.1, hos.2.1, hos.2.2, hz, fun b hb => hs b (by omega) (Nat.lt_of_lt_of_le hb hb0.size)⟩
  refine ⟨m, sv, clk, F, hD.same hz (fun b hm => hs b (fun e => (hK _ hg).2 (e ▸ hm)) (hD.lt hm)), rfl, hb0.trans hb, he.below hb, fun x hx => ?_⟩
  obtain ⟨h1, h2⟩ := hK' x hx
  exact ⟨by rw [hs _ h2 (lt_of_heap (hK x h1).1)]; exact (hK x h1).1, (hK x h1).2⟩
end Go.Proofs.YtgafomknpdnfcaaGreatDoor
