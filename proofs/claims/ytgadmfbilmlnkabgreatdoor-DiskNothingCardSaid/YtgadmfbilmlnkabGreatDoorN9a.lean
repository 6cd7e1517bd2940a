/- A disk that New did not make: nil, or zero. What each call answers. -/
import Derived.Test.YtgadmfbilmlnkabGreatDoorD9fc
import Derived.Test.YtgadmfbilmlnkabGreatDoorD9zc
import Derived.Test.YtgadmfbilmlnkabGreatDoorD9xa
import Derived.Deep.QuietTactic
import Derived.BigQuiet
namespace Go.Proofs.YtgadmfbilmlnkabGreatDoor
open Go.RowKit Go.Lib
open Go.RowKit Go.MapKept

abbrev zeroO : Obj := .cells #[.int .i64 0, .int .i64 0, .int .i64 0, .bool false, .slice none 0 0, .map none] 28 (0, 0)
/-- Nil, or zero. -/
def Noth (p : Value) (W : World) : Prop := p = .pointer none ∨ ∃ z, p = .pointer (some ⟨z, 0, none⟩) ∧ W.heap[z]? = some zeroO
theorem Noth.on {p : Value} {W W' : World} (h : Noth p W) (hb : Below W.heap.size W W') : Noth p W' := by
  rcases h with h | ⟨z, h, hz⟩
  · exact .inl h
  · exact .inr ⟨z, h, by rw [hb.block _ (lt_of_heap hz)]; exact hz⟩
theorem Noth.ptr {p : Value} {W : World} (h : Noth p W) : ∃ a, p = .pointer a := by
  rcases h with h | ⟨z, h, _⟩
  · exact ⟨_, h⟩
  · exact ⟨_, h⟩
theorem zero_cells {z : Nat} {W : World} (hz : W.heap[z]? = some zeroO) : W.cell? ⟨z, 0, none⟩ = some (.int .i64 0) ∧ W.cell? ⟨z, 1, none⟩ = some (.int .i64 0) ∧ W.cell? ⟨z, 2, none⟩ = some (.int .i64 0) ∧ W.cell? ⟨z, 3, none⟩ = some (.bool false) ∧ W.cell? ⟨z, 4, none⟩ = some (.slice none 0 0) ∧ W.cell? ⟨z, 5, none⟩ = some (.map none) :=
  ⟨cell_of hz 0, cell_of hz 1, cell_of hz 2, cell_of hz 3, cell_of hz 4, cell_of hz 5⟩
theorem Quota_0 {p : Value} {w : World} (h : Noth p w) : Calls Tryz.prog 29 #[p] w fun e w' => e = .returned (.int .i64 0) ∧ w' = w := by
  rcases h with rfl | ⟨z, rfl, hz⟩
  all_goals try (obtain ⟨c0, c1, c2, c3, c4, c5⟩ := zero_cells hz; clear hz)
  all_goals
    go_enter Tryz.func29, Tryz.ntmps29
    go_wp2
    go_ret
    exact ⟨rfl, rfl⟩
theorem Used_0 {p : Value} {w : World} (h : Noth p w) : Calls Tryz.prog 14 #[p] w fun e w' => e = .returned (.int .i64 0) ∧ w' = w := by
  rcases h with rfl | ⟨z, rfl, hz⟩
  all_goals try (obtain ⟨c0, c1, c2, c3, c4, c5⟩ := zero_cells hz; clear hz)
  all_goals
    go_enter Tryz.func14, Tryz.ntmps14
    go_wp2
    go_ret
    exact ⟨rfl, rfl⟩
theorem Steps_0 {p : Value} {w : World} (h : Noth p w) : Calls Tryz.prog 15 #[p] w fun e w' => e = .returned (.int .i64 0) ∧ w' = w := by
  rcases h with rfl | ⟨z, rfl, hz⟩
  all_goals try (obtain ⟨c0, c1, c2, c3, c4, c5⟩ := zero_cells hz; clear hz)
  all_goals
    go_enter Tryz.func15, Tryz.ntmps15
    go_wp2
    go_ret
    exact ⟨rfl, rfl⟩
theorem Down_0 {p : Value} {w : World} (h : Noth p w) : Calls Tryz.prog 30 #[p] w fun e w' => e = .returned (.bool true) ∧ w' = w := by
  rcases h with rfl | ⟨z, rfl, hz⟩
  all_goals try (obtain ⟨c0, c1, c2, c3, c4, c5⟩ := zero_cells hz; clear hz)
  all_goals
    go_enter Tryz.func30, Tryz.ntmps30
    go_wp2
    go_ret
    exact ⟨rfl, rfl⟩
theorem run_look0 (n : ByteArray) (w : World) : (Instr.lookup 26 (.map none) (.string n) false).run Tryz.prog w = .ok (.pointer none) w := by
  have hz : (zeroValue 78).run Tryz.prog w = .ok (.pointer none) w := by kernel_rfl
  have hc := run_checkKey (P := Tryz.prog) (w := w) Tryz.underlying9 (keyS n) true 9999
  have hk := run_findKey (P := Tryz.prog) (w := w) Tryz.underlying9 (show Instr.findNow .string (.string n) [] 0 = some none from rfl)
  simp [Instr.lookup, run_underlying Tryz.underlying26, hc, hk, hz, Sem.run_bind, Result.andThen]
set_option maxRecDepth 20000 in
theorem find_0 {p : Value} {w : World} (h : Noth p w) (n : ByteArray) : Calls Tryz.prog 64 #[p, .string n] w fun e w' => e = .returned (.pointer none) ∧ w' = w := by
  rcases h with rfl | ⟨z, rfl, hz⟩
  all_goals have hl := run_look0 n w
  all_goals try (obtain ⟨c0, c1, c2, c3, c4, c5⟩ := zero_cells hz; clear hz)
  all_goals
    go_enter Tryz.func64, Tryz.ntmps64
    go_wp2
    go_ret
    exact ⟨rfl, rfl⟩
theorem isMade_0 {p : Value} {w : World} (h : Noth p w) : Calls Tryz.prog 56 #[p] w fun e w' => e = .returned (.bool false) ∧ w' = w := by
  have hQ := Lib.hid (Quota_0 h)
  clear h
  go_enter Tryz.func56, Tryz.ntmps56
  go_wp2_with (go_at_call 29; refine hQ.out.mono ?_; rintro e w' ⟨rfl, rfl⟩)
  go_ret
  exact ⟨rfl, rfl⟩
theorem Start_0 {p : Value} {w : World} (h : Noth p w) : Calls Tryz.prog 23 #[p] w fun e w' => e = .returned (.tuple #[]) ∧ w' = w := by
  have hQ := Lib.hid (isMade_0 h)
  clear h
  go_enter Tryz.func23, Tryz.ntmps23
  go_wp2_with (go_at_call 56; refine hQ.out.mono ?_; rintro e w' ⟨rfl, rfl⟩)
  first | refine bodyPost_end (results_none rfl _ _ _) rfl ?_ | refine bodyPost_ret (results_none rfl _ _ _) rfl ?_
  exact ⟨rfl, rfl⟩
theorem Plan_0 {p : Value} {w : World} (h : Noth p w) (s : Value) : Calls Tryz.prog 21 #[p, s] w fun e w' => e = .returned (.tuple #[]) ∧ w' = w := by
  have hQ := Lib.hid (isMade_0 h)
  clear h
  go_enter Tryz.func21, Tryz.ntmps21
  go_wp2_with (go_at_call 56; refine hQ.out.mono ?_; rintro e w' ⟨rfl, rfl⟩)
  first | refine bodyPost_end (results_none rfl _ _ _) rfl ?_ | refine bodyPost_ret (results_none rfl _ _ _) rfl ?_
  exact ⟨rfl, rfl⟩
theorem Peek_0 {p : Value} {w : World} (h : Noth p w) (n : ByteArray) : Calls Tryz.prog 58 #[p, .string n] w fun e w' => e = .returned (.tuple #[.string ⟨#[]⟩, .bool false]) ∧ w' = w := by
  have hQ := Lib.hid (find_0 h n)
  clear h
  go_enter Tryz.func58, Tryz.ntmps58
  go_wp2_with (go_at_call 64; refine hQ.out.mono ?_; rintro e w2 ⟨rfl, hw2⟩; subst w2)
  go_ret2
  exact ⟨rfl, rfl⟩
theorem Size_0 {p : Value} {w : World} (h : Noth p w) (n : ByteArray) : Calls Tryz.prog 60 #[p, .string n] w fun e w' => e = .returned (.int .i64 (-1)) ∧ w' = w := by
  have hQ := Lib.hid (find_0 h n)
  clear h
  go_enter Tryz.func60, Tryz.ntmps60
  go_wp2_with (go_at_call 64; refine hQ.out.mono ?_; rintro e w2 ⟨rfl, hw2⟩; subst w2)
  go_ret
  exact ⟨rfl, rfl⟩
theorem operate_0 {A : Whys} {B : Nat} {p : Value} {w : World} (h : Noth p w) (he : Env A B w) (op name : ByteArray) (code fv gv : Value) :
    Calls Tryz.prog 39 #[p, .string op, .string name, code, fv, gv] w fun e w' => e = .returned (failV w.heap.size) ∧ w' = w.alloc (failObj A op name 0 93) := by
  have hD := Lib.hid (Down_0 h)
  have hF := Lib.hid (fail_any A B op name 0 93 w he)
  clear h he
  go_enter Tryz.func39, Tryz.ntmps39
  go_wp2_with (first | (go_at_call 30; refine hD.out.mono ?_; rintro e w' ⟨rfl, rfl⟩) | (go_at_call 33; refine hF.out.mono ?_; rintro e w' ⟨rfl, rfl⟩))
  go_ret
  exact ⟨rfl, rfl⟩
theorem look_0 {p : Value} {w : World} (h : Noth p w) (n : ByteArray) (hns : n.size ≤ 140737488355328) :
    Calls Tryz.prog 40 #[p, .string n] w fun e w' => ∃ c, e = .returned (.tuple #[.pointer none, .int .i64 c]) ∧ w' = w ∧ (c = 90 ∨ c = 91) := by
  have HF := Lib.hid (find_0 h n)
  have HN := Lib.hid (isName_any n w hns)
  clear h hns
  obtain ⟨q, hq⟩ : ∃ q, isNm n = q := ⟨_, rfl⟩
  rw [hq] at HN
  clear hq
  cases q
  · go_enter Tryz.func40, Tryz.ntmps40
    go_wp2_with (first | (go_at_call 34; refine HN.out.mono ?_; rintro e w2 ⟨rfl, hw2⟩; subst w2) | (go_at_call 64; refine HF.out.mono ?_; rintro e w3 ⟨rfl, hw3⟩; subst w3))
    go_ret2
    exact ⟨90, rfl, rfl, .inl rfl⟩
  · go_enter Tryz.func40, Tryz.ntmps40
    go_wp2_with (first | (go_at_call 34; refine HN.out.mono ?_; rintro e w2 ⟨rfl, hw2⟩; subst w2) | (go_at_call 64; refine HF.out.mono ?_; rintro e w3 ⟨rfl, hw3⟩; subst w3))
    go_ret2
    exact ⟨91, rfl, rfl, .inr rfl⟩
end Go.Proofs.YtgadmfbilmlnkabGreatDoor

/- A disk that New did not make: its operations. -/
namespace Go.Proofs.YtgadmfbilmlnkabGreatDoor
open Go.RowKit Go.Lib

theorem drewN0 {B : Nat} {a w : World} (h : Below B a w) (n : Nat) : Below B a (w.drewN n) := ⟨h.os, h.tape, h.output, h.size, h.block⟩
theorem below_box {a w : World} (h : Below a.heap.size a w) (o : Obj) : Below a.heap.size a (w.alloc o) := h.alloc h.size o
/-- The answer of a disk that has stopped for ever. -/
def FailIs (A : Whys) (w : World) (op name : ByteArray) (r : Value) (w' : World) : Prop := ∃ f, r = failV f ∧ w'.heap[f]? = some (failObj A op name 0 93) ∧ Below w.heap.size w w'
theorem FailIs.up {A : Whys} {w w1 w' : World} {op name : ByteArray} {r : Value} (h : FailIs A w1 op name r w') (hb : Below w.heap.size w w1) : FailIs A w op name r w' := by
  obtain ⟨f, h1, h2, h3⟩ := h
  exact ⟨f, h1, h2, hb.trans (h3.mono hb.size)⟩
theorem operateF {A : Whys} {B : Nat} {p : Value} {w : World} (h : Noth p w) (he : Env A B w) (op name : ByteArray) (W : World) (hb : Below w.heap.size w W) (code fv gv : Value) :
    Calls Tryz.prog 39 #[p, .string op, .string name, code, fv, gv] W fun e w' => ∃ r, e = .returned r ∧ FailIs A W op name r w' := by
  refine (operate_0 (h.on hb) (he.below (hb.mono he.hi)) op name code fv gv).mono ?_
  rintro e w' ⟨rfl, rfl⟩
  exact ⟨_, rfl, _, rfl, heap_alloc_new _ _, (Below.refl _ _).alloc (Nat.le_refl _) _⟩
set_option maxHeartbeats 2000000 in
theorem Append_0 {A : Whys} {B : Nat} {p : Value} {w : World} (h : Noth p w) (he : Env A B w) (n s : ByteArray) (hns : n.size ≤ 140737488355328) :
    Calls Tryz.prog 11 #[p, .string n, .string s] w fun e w' => ∃ r, e = .returned r ∧ FailIs A w sApp n r w' := by
  obtain ⟨pa, rfl⟩ := h.ptr
  obtain ⟨hb, c0, c1, c2⟩ := box3_facts w (.pointer pa) (.string n) (.string s) 24 9 9
  generalize hWB : box3 w (.pointer pa) (.string n) (.string s) 24 9 9 = W1 at *
  have HWB : Hid (((w.alloc (.cells #[.pointer pa] 24)).alloc (.cells #[.string n] 9)).alloc (.cells #[.string s] 9) = W1) := Lib.hid hWB
  have HO := Lib.hid (operateF h he sApp n)
  have HN := Lib.hid (fun W => isName_any n W hns)
  have HQ := Lib.hid (fun W (hb : Below w.heap.size w W) => Quota_0 (h.on hb))
  have HU := Lib.hid (fun W (hb : Below w.heap.size w W) => Used_0 (h.on hb))
  have HB := Lib.hid hb
  clear h he hns hb hWB
  obtain ⟨q, hq⟩ : ∃ q, isNm n = q := ⟨_, rfl⟩
  rw [hq] at HN
  clear hq
  cases q
  · go_enter Tryz.func11, Tryz.ntmps11
    go_upto_region 1 with fail
    rw [HWB.out]
    go_wp2_with (first | (go_at_call 34; refine (HN.out _).mono ?_; rintro e w2 ⟨rfl, hw2⟩; subst w2) | (go_at_call 39; refine (HO.out _ HB.out _ _ _).mono ?_; rintro e w3 ⟨r, rfl, hf⟩; have HR := Lib.hid hf; clear hf))
    go_ret
    exact ⟨r, rfl, HR.out.up HB.out⟩
  · by_cases hs : (0 : Int) < (s.size : Int)
    all_goals
      go_enter Tryz.func11, Tryz.ntmps11
      go_upto_region 1 with fail
      rw [HWB.out]
      go_upto_region 4 with (go_at_call 34; refine (HN.out _).mono ?_; rintro e w2 ⟨rfl, hw2⟩; subst w2)
      go_quiet ((first | (go_at_call 29; exact Calls.quiet_of_same (HQ.out _ (drewN0 HB.out _))) | (go_at_call 14; exact Calls.quiet_of_same (HU.out _ (drewN0 HB.out _)))))
      go_wp2_with (go_at_call 39; refine (HO.out _ (drewN0 HB.out _) _ _ _).mono ?_; rintro e w3 ⟨r, rfl, hf⟩; have HR := Lib.hid hf; clear hf)
      go_ret
      exact ⟨r, rfl, HR.out.up (drewN0 HB.out _)⟩
set_option maxHeartbeats 2000000 in
theorem Sync_0 {A : Whys} {B : Nat} {p : Value} {w : World} (h : Noth p w) (he : Env A B w) (n : ByteArray) (hns : n.size ≤ 140737488355328) :
    Calls Tryz.prog 50 #[p, .string n] w fun e w' => ∃ r, e = .returned r ∧ FailIs A w sSync n r w' := by
  have HO := Lib.hid (operateF h he sSync n)
  have HL := Lib.hid (look_0 h n hns)
  have HB := Lib.hid (Below.refl w.heap.size w)
  clear h he hns
  go_enter Tryz.func50, Tryz.ntmps50
  go_wp2_with (first | (go_at_call 40; refine HL.out.mono ?_; rintro e w2 ⟨cc, rfl, hw2, hcc⟩; subst w2) | (go_at_call 72; refine (allOr_any _ _ _ _ rfl).mono ?_; rintro e w3 ⟨rfl, hw3⟩; subst w3) | (go_at_call 39; refine (HO.out _ (below_box (below_box HB.out _) _) _ _ _).mono ?_; rintro e w4 ⟨r, rfl, hf⟩; have HR := Lib.hid hf; clear hf))
  go_ret
  exact ⟨r, rfl, HR.out.up (below_box (below_box HB.out _) _)⟩
set_option maxHeartbeats 2000000 in
theorem Read_0 {A : Whys} {B : Nat} {p : Value} {w : World} (h : Noth p w) (he : Env A B w) (n : ByteArray) (hns : n.size ≤ 140737488355328) :
    Calls Tryz.prog 12 #[p, .string n] w fun e w' => ∃ r, e = .returned (.tuple #[.string ⟨#[]⟩, r]) ∧ FailIs A w sRead n r w' := by
  have HO := Lib.hid (operateF h he sRead n)
  have HB := Lib.hid (Below.refl w.heap.size w)
  obtain ⟨W1, hW1⟩ : ∃ W1, w.alloc (.cells #[.string ⟨#[]⟩] 9) = W1 := ⟨_, rfl⟩
  have hb1 : Below w.heap.size w W1 := by rw [← hW1]; exact below_box HB.out _
  have ho1 : W1.heap[w.heap.size]? = some (.cells #[.string ⟨#[]⟩] 9 (0, 0)) := by rw [← hW1]; exact heap_alloc_new _ _
  have HL := Lib.hid (look_0 (h.on hb1) n hns)
  have HC : Hid (∀ X, Below W1.heap.size W1 X → X.cell? ⟨w.heap.size, 0, none⟩ = some (.string ⟨#[]⟩)) := Lib.hid (fun X hX => by
    have h2 : X.heap[w.heap.size]? = some (.cells #[.string ⟨#[]⟩] 9 (0, 0)) := by rw [hX.block _ (lt_of_heap ho1)]; exact ho1
    exact cell_of h2 0)
  have HB1 := Lib.hid hb1
  have HBR := Lib.hid (Below.refl W1.heap.size W1)
  have HW := Lib.hid hW1
  clear h he hns hb1 ho1 hW1
  go_enter Tryz.func12, Tryz.ntmps12
  go_upto_region 2 with fail
  rw [HW.out]
  go_upto_region 5 with (first | (go_at_call 40; refine HL.out.mono ?_; rintro e w2 ⟨cc, rfl, hw2, hcc⟩; subst w2) | (go_at_call 39; refine (HO.out _ (below_box HB1.out _) _ _ _).mono ?_; rintro e w4 ⟨r, rfl, hf⟩; have HR := Lib.hid hf; clear hf))
  have cx := HC.out w4 (by
    obtain ⟨f, h1, h2, h3⟩ := HR.out
    have h4 := below_box HBR.out (.cells #[.pointer none] 78)
    exact h4.trans (h3.mono h4.size))
  go_wp2_with fail
  go_ret2
  exact ⟨r, rfl, HR.out.up (below_box HB1.out _)⟩
end Go.Proofs.YtgadmfbilmlnkabGreatDoor

/- A disk that New did not make: the operations whose regions draw. -/
namespace Go.Proofs.YtgadmfbilmlnkabGreatDoor
open Go.RowKit Go.Lib

/-- What is held while a region draws: a box with the disk, and the blocks. -/
def Hel (p : Value) (b : Nat) (W1 X : World) : Prop := X.cell? ⟨b, 0, none⟩ = some p ∧ Below W1.heap.size W1 X
def Hel2 (p : Value) (n : ByteArray) (b : Nat) (W1 X : World) : Prop := X.cell? ⟨b, 0, none⟩ = some p ∧ X.cell? ⟨b + 1, 0, none⟩ = some (.string n) ∧ Below W1.heap.size W1 X
theorem hel_any {p : Value} {b : Nat} {W1 X : World} (c : W1.cell? ⟨b, 0, none⟩ = some p) (h : Below W1.heap.size W1 X) : X.cell? ⟨b, 0, none⟩ = some p ∧ Below W1.heap.size W1 X :=
  ⟨by rw [h.cell (World.block_lt_of_cell? _ _ c)]; exact c, h⟩
theorem hel2_any {p : Value} {n : ByteArray} {b : Nat} {W1 X : World} (c : W1.cell? ⟨b, 0, none⟩ = some p) (c2 : W1.cell? ⟨b + 1, 0, none⟩ = some (.string n)) (h : Below W1.heap.size W1 X) : X.cell? ⟨b, 0, none⟩ = some p ∧ X.cell? ⟨b + 1, 0, none⟩ = some (.string n) ∧ Below W1.heap.size W1 X :=
  ⟨by rw [h.cell (World.block_lt_of_cell? _ _ c)]; exact c, by rw [h.cell (World.block_lt_of_cell? _ _ c2)]; exact c2, h⟩
set_option maxHeartbeats 4000000 in
theorem Remove_0 {A : Whys} {B : Nat} {p : Value} {w : World} (h : Noth p w) (he : Env A B w) (n : ByteArray) (hns : n.size ≤ 140737488355328) :
    Calls Tryz.prog 52 #[p, .string n] w fun e w' => ∃ r, e = .returned r ∧ FailIs A w sRemove n r w' := by
  obtain ⟨pa, rfl⟩ := h.ptr
  obtain ⟨hb1, cA, cB, hz1⟩ := box2_facts w (.pointer pa) (.string n) 24 9
  generalize hWB : box2 w (.pointer pa) (.string n) 24 9 = W1 at *
  have HWB : Hid ((w.alloc (.cells #[.pointer pa] 24)).alloc (.cells #[.string n] 9) = W1) := Lib.hid hWB
  have HL := Lib.hid (look_0 (h.on hb1) n hns)
  have HS : Hid (∀ X, Below W1.heap.size W1 X → X.cell? ⟨w.heap.size, 0, none⟩ = some (.pointer pa) ∧ X.cell? ⟨w.heap.size + 1, 0, none⟩ = some (.string n) ∧ Below W1.heap.size W1 X) := Lib.hid (fun X hX => hel2_any cA cB hX)
  have hSt := HS.out _ (Below.refl W1.heap.size W1).drew
  have HAl : Hid (∀ X wn wc, (X.cell? ⟨w.heap.size, 0, none⟩ = some (.pointer pa) ∧ X.cell? ⟨w.heap.size + 1, 0, none⟩ = some (.string n) ∧ Below W1.heap.size W1 X) → Calls Tryz.prog 72 #[.func (.func wn) #[] wc] X fun e w' => ∃ g, e = .returned (.func (.func 86) #[] #[.pointer (some ⟨g, 0, none⟩)]) ∧ X.cell? ⟨w.heap.size, 0, none⟩ = some (.pointer pa) ∧ (w'.cell? ⟨w.heap.size, 0, none⟩ = some (.pointer pa) ∧ w'.cell? ⟨w.heap.size + 1, 0, none⟩ = some (.string n) ∧ Below W1.heap.size W1 w')) := Lib.hid (fun X wn wc hX => (allOr_any _ X wn wc rfl).mono (by
    rintro e w' ⟨rfl, rfl⟩
    exact ⟨_, rfl, hX.1, HS.out _ (hX.2.2.alloc hX.2.2.size _)⟩))
  have HO : Hid (∀ X code fv gv, (X.cell? ⟨w.heap.size, 0, none⟩ = some (.pointer pa) ∧ X.cell? ⟨w.heap.size + 1, 0, none⟩ = some (.string n) ∧ Below W1.heap.size W1 X) → Calls Tryz.prog 39 #[.pointer pa, .string sRemove, .string n, code, fv, gv] X fun e w' => ∃ r, e = .returned r ∧ FailIs A w sRemove n r w' ∧ (w'.cell? ⟨w.heap.size, 0, none⟩ = some (.pointer pa) ∧ w'.cell? ⟨w.heap.size + 1, 0, none⟩ = some (.string n) ∧ Below W1.heap.size W1 w')) := Lib.hid (fun X code fv gv hX => (operateF h he sRemove n X (hb1.trans (hX.2.2.mono hb1.size)) code fv gv).mono (by
    rintro e w' ⟨r, rfl, hf⟩
    refine ⟨r, rfl, hf.up (hb1.trans (hX.2.2.mono hb1.size)), HS.out _ ?_⟩
    obtain ⟨f, _, _, h3⟩ := hf
    exact hX.2.2.trans (h3.mono hX.2.2.size)))
  clear h he hns hb1 hz1 hWB HS
  go_enter Tryz.func52, Tryz.ntmps52
  go_upto_region 1 with fail
  rw [HWB.out]
  go_upto_region 3 with (go_at_call 40; refine HL.out.mono ?_; rintro e w2 ⟨cc, rfl, hw2, hcc⟩; subst w2)
  go_region_held3 (fun X => X.cell? ⟨w.heap.size, 0, none⟩ = some (.pointer pa) ∧ X.cell? ⟨w.heap.size + 1, 0, none⟩ = some (.string n) ∧ Below W1.heap.size W1 X) (first | exact hSt | assumption) (first | (go_at_call 72; refine (HAl.out _ _ _ ?_).mono ?_; assumption; rintro e w6 ⟨g6, rfl, _, hs6⟩) | (go_at_call 39; refine (HO.out _ _ _ _ ?_).mono ?_; assumption; rintro e w7 ⟨r, rfl, hf, hs7⟩))
  go_wp2_with fail
  go_ret
  exact ⟨r, rfl, hf⟩
set_option maxHeartbeats 4000000 in
theorem Rename_0 {A : Whys} {B : Nat} {p : Value} {w : World} (h : Noth p w) (he : Env A B w) (n t : ByteArray) (hns : n.size ≤ 140737488355328) (hts : t.size ≤ 140737488355328) :
    Calls Tryz.prog 51 #[p, .string n, .string t] w fun e w' => ∃ r, e = .returned r ∧ FailIs A w sRename n r w' := by
  obtain ⟨pa, rfl⟩ := h.ptr
  obtain ⟨hb1, cA, cB, cC⟩ := box3_facts w (.pointer pa) (.string n) (.string t) 24 9 9
  generalize hWB : box3 w (.pointer pa) (.string n) (.string t) 24 9 9 = W1 at *
  have HWB : Hid (((w.alloc (.cells #[.pointer pa] 24)).alloc (.cells #[.string n] 9)).alloc (.cells #[.string t] 9) = W1) := Lib.hid hWB
  have HL := Lib.hid (look_0 (h.on hb1) n hns)
  have HS : Hid (∀ X, Below W1.heap.size W1 X → X.cell? ⟨w.heap.size, 0, none⟩ = some (.pointer pa) ∧ X.cell? ⟨w.heap.size + 1, 0, none⟩ = some (.string n) ∧ Below W1.heap.size W1 X) := Lib.hid (fun X hX => hel2_any cA cB hX)
  have hSt := HS.out _ (Below.refl W1.heap.size W1).drew
  have HAl : Hid (∀ X wn wc, (X.cell? ⟨w.heap.size, 0, none⟩ = some (.pointer pa) ∧ X.cell? ⟨w.heap.size + 1, 0, none⟩ = some (.string n) ∧ Below W1.heap.size W1 X) → Calls Tryz.prog 72 #[.func (.func wn) #[] wc] X fun e w' => ∃ g, e = .returned (.func (.func 86) #[] #[.pointer (some ⟨g, 0, none⟩)]) ∧ X.cell? ⟨w.heap.size, 0, none⟩ = some (.pointer pa) ∧ (w'.cell? ⟨w.heap.size, 0, none⟩ = some (.pointer pa) ∧ w'.cell? ⟨w.heap.size + 1, 0, none⟩ = some (.string n) ∧ Below W1.heap.size W1 w')) := Lib.hid (fun X wn wc hX => (allOr_any _ X wn wc rfl).mono (by
    rintro e w' ⟨rfl, rfl⟩
    exact ⟨_, rfl, hX.1, HS.out _ (hX.2.2.alloc hX.2.2.size _)⟩))
  have HO : Hid (∀ X code fv gv, (X.cell? ⟨w.heap.size, 0, none⟩ = some (.pointer pa) ∧ X.cell? ⟨w.heap.size + 1, 0, none⟩ = some (.string n) ∧ Below W1.heap.size W1 X) → Calls Tryz.prog 39 #[.pointer pa, .string sRename, .string n, code, fv, gv] X fun e w' => ∃ r, e = .returned r ∧ FailIs A w sRename n r w' ∧ (w'.cell? ⟨w.heap.size, 0, none⟩ = some (.pointer pa) ∧ w'.cell? ⟨w.heap.size + 1, 0, none⟩ = some (.string n) ∧ Below W1.heap.size W1 w')) := Lib.hid (fun X code fv gv hX => (operateF h he sRename n X (hb1.trans (hX.2.2.mono hb1.size)) code fv gv).mono (by
    rintro e w' ⟨r, rfl, hf⟩
    refine ⟨r, rfl, hf.up (hb1.trans (hX.2.2.mono hb1.size)), HS.out _ ?_⟩
    obtain ⟨f, _, _, h3⟩ := hf
    exact hX.2.2.trans (h3.mono hX.2.2.size)))
  have HN := Lib.hid (isName_any t W1 hts)
  clear h he hns hts hb1 hWB HS
  obtain ⟨q, hq⟩ : ∃ q, isNm t = q := ⟨_, rfl⟩
  rw [hq] at HN
  clear hq
  cases q
  all_goals
    go_enter Tryz.func51, Tryz.ntmps51
    go_upto_region 1 with fail
    rw [HWB.out]
    go_upto_region 5 with (first | (go_at_call 34; refine HN.out.mono ?_; rintro e w3 ⟨rfl, hw3⟩; subst w3) | (go_at_call 40; refine HL.out.mono ?_; rintro e w2 ⟨cc, rfl, hw2, hcc⟩; subst w2))
    go_region_held3 (fun X => X.cell? ⟨w.heap.size, 0, none⟩ = some (.pointer pa) ∧ X.cell? ⟨w.heap.size + 1, 0, none⟩ = some (.string n) ∧ Below W1.heap.size W1 X) (first | exact hSt | assumption) (first | (go_at_call 72; refine (HAl.out _ _ _ ?_).mono ?_; assumption; rintro e w6 ⟨g6, rfl, _, hs6⟩) | (go_at_call 39; refine (HO.out _ _ _ _ ?_).mono ?_; assumption; rintro e w7 ⟨r, rfl, hf, hs7⟩))
    go_wp2_with fail
    go_ret
    exact ⟨r, rfl, hf⟩
set_option maxHeartbeats 4000000 in
theorem Truncate_0 {A : Whys} {B : Nat} {p : Value} {w : World} (h : Noth p w) (he : Env A B w) (n : ByteArray) (k : Int) (hns : n.size ≤ 140737488355328) :
    Calls Tryz.prog 53 #[p, .string n, .int .i64 k] w fun e w' => ∃ r, e = .returned r ∧ FailIs A w sTrunc n r w' := by
  obtain ⟨pa, rfl⟩ := h.ptr
  obtain ⟨hb1, cA, cB, hz1⟩ := box2_facts w (.pointer pa) (.int .i64 k) 24 3
  generalize hWB : box2 w (.pointer pa) (.int .i64 k) 24 3 = W1 at *
  have HWB : Hid ((w.alloc (.cells #[.pointer pa] 24)).alloc (.cells #[.int .i64 k] 3) = W1) := Lib.hid hWB
  have HL := Lib.hid (look_0 (h.on hb1) n hns)
  have HS : Hid (∀ X, Below W1.heap.size W1 X → X.cell? ⟨w.heap.size, 0, none⟩ = some (.pointer pa) ∧ Below W1.heap.size W1 X) := Lib.hid (fun X hX => hel_any cA hX)
  have HB1 := Lib.hid (Below.refl W1.heap.size W1)
  have HAl : Hid (∀ X wn wc, (X.cell? ⟨w.heap.size, 0, none⟩ = some (.pointer pa) ∧ Below W1.heap.size W1 X) → Calls Tryz.prog 72 #[.func (.func wn) #[] wc] X fun e w' => ∃ g, e = .returned (.func (.func 86) #[] #[.pointer (some ⟨g, 0, none⟩)]) ∧ (w'.cell? ⟨w.heap.size, 0, none⟩ = some (.pointer pa) ∧ Below W1.heap.size W1 w')) := Lib.hid (fun X wn wc hX => (allOr_any _ X wn wc rfl).mono (by
    rintro e w' ⟨rfl, rfl⟩
    exact ⟨_, rfl, HS.out _ (hX.2.alloc hX.2.size _)⟩))
  have HO : Hid (∀ X code fv gv, (X.cell? ⟨w.heap.size, 0, none⟩ = some (.pointer pa) ∧ Below W1.heap.size W1 X) → Calls Tryz.prog 39 #[.pointer pa, .string sTrunc, .string n, code, fv, gv] X fun e w' => ∃ r, e = .returned r ∧ FailIs A w sTrunc n r w' ∧ (w'.cell? ⟨w.heap.size, 0, none⟩ = some (.pointer pa) ∧ Below W1.heap.size W1 w')) := Lib.hid (fun X code fv gv hX => (operateF h he sTrunc n X (hb1.trans (hX.2.mono hb1.size)) code fv gv).mono (by
    rintro e w' ⟨r, rfl, hf⟩
    refine ⟨r, rfl, hf.up (hb1.trans (hX.2.mono hb1.size)), HS.out _ ?_⟩
    obtain ⟨f, _, _, h3⟩ := hf
    exact hX.2.trans (h3.mono hX.2.size)))
  clear h he hns hb1 hz1 hWB
  go_enter Tryz.func53, Tryz.ntmps53
  go_upto_region 1 with fail
  rw [HWB.out]
  go_upto_region 2 with (go_at_call 40; refine HL.out.mono ?_; rintro e w2 ⟨cc, rfl, hw2, hcc⟩; subst w2)
  rcases hcc with rfl | rfl
  all_goals
    go_quiet (fail)
    go_upto_region 5 with fail
    go_region_held3 (fun X => X.cell? ⟨w.heap.size, 0, none⟩ = some (.pointer pa) ∧ Below W1.heap.size W1 X) (first | exact HS.out _ (drewN0 (below_box HB1.out _) _).drew | exact HS.out _ (drewN0 (below_box HB1.out _) _) | assumption) (first | (go_at_call 72; refine (HAl.out _ _ _ ?_).mono ?_; assumption; rintro e w6 ⟨g6, rfl, hs6⟩) | (go_at_call 39; refine (HO.out _ _ _ _ ?_).mono ?_; assumption; rintro e w7 ⟨r, rfl, hf, hs7⟩))
    go_wp2_with fail
    go_ret
    exact ⟨r, rfl, hf⟩
end Go.Proofs.YtgadmfbilmlnkabGreatDoor
