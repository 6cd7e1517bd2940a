/- postbaglaw9's does, words; the document's disk of quota 0; Names: of a disk that New did not make. -/
import Derived.Test.YtgadmfbilmlnkabGreatDoorN9a
import Derived.Test.YtgadmfbilmlnkabGreatDoorD9fd
namespace Go.Proofs.YtgadmfbilmlnkabGreatDoor
open Go.RowKit Go.Lib

/-- The operations' names. -/
def wordOf (k : Int) : ByteArray := if k = 1 then sApp else if k = 2 then sSync else if k = 3 then sRead else if k = 4 then sRename else if k = 5 then sRemove else sTrunc
set_option maxHeartbeats 4000000 in
theorem does_0 {A : Whys} {B : Nat} {p : Value} {w : World} (h : Noth p w) (he : Env A B w) (q : ActR) (hk : 1 ≤ q.kind ∧ q.kind ≤ 6) (hns : q.name.size ≤ 140737488355328) (hts : q.dest.size ≤ 140737488355328) :
    Calls Tryz.prog 17 #[p, .agg q.cells] w fun e w' => ∃ r, e = .returned (.tuple #[.string ⟨#[]⟩, r]) ∧ FailIs A w (wordOf q.kind) q.name r w' := by
  obtain ⟨kind, on, name, dest, data, n, sa, sn, sc⟩ := q
  simp only [ActR.cells] at *
  have hbx : Below w.heap.size w (w.alloc (.cells #[.int .i64 kind, .int .i64 on, .string name, .string dest, .string data, .int .i64 n, .slice sa sn sc] 35)) := (Below.refl _ _).alloc (Nat.le_refl _) _
  have hob := heap_alloc_new w (.cells #[.int .i64 kind, .int .i64 on, .string name, .string dest, .string data, .int .i64 n, .slice sa sn sc] 35)
  obtain ⟨W, hW⟩ : ∃ W, w.alloc (.cells #[.int .i64 kind, .int .i64 on, .string name, .string dest, .string data, .int .i64 n, .slice sa sn sc] 35) = W := ⟨_, rfl⟩
  rw [hW] at hbx hob
  have c0 := cell_of hob 0
  have c2 := cell_of hob 2
  have c3 := cell_of hob 3
  have c4 := cell_of hob 4
  have c5 := cell_of hob 5
  simp only [List.getElem?_toArray, List.getElem?_cons_zero, List.getElem?_cons_succ] at c0 c2 c3 c4 c5
  have hN := h.on hbx
  have hE := he.below (hbx.mono he.hi)
  have HW := Lib.hid hW
  have HX := Lib.hid hbx
  obtain ⟨hk1, hk6⟩ := hk
  have hkk : kind = 1 ∨ kind = 2 ∨ kind = 3 ∨ kind = 4 ∨ kind = 5 ∨ kind = 6 := by omega
  clear hk1 hk6
  rcases hkk with rfl | rfl | rfl | rfl | rfl | rfl
  · have HC := Lib.hid (Append_0 hN hE name data hns)
    clear h he hns hts hbx hob hN hE hW
    go_enter Tryz.func17, Tryz.ntmps17
    go_upto_region 1 with fail
    rw [HW.out]
    go_wp2_with (go_at_call 11; refine HC.out.mono ?_; rintro e w2 ⟨r, rfl, hf⟩; have HE := Lib.hid hf; clear hf)
    go_ret2
    exact ⟨r, rfl, HE.out.up HX.out⟩
  · have HC := Lib.hid (Sync_0 hN hE name hns)
    clear h he hns hts hbx hob hN hE hW
    go_enter Tryz.func17, Tryz.ntmps17
    go_upto_region 1 with fail
    rw [HW.out]
    go_wp2_with (go_at_call 50; refine HC.out.mono ?_; rintro e w2 ⟨r, rfl, hf⟩; have HE := Lib.hid hf; clear hf)
    go_ret2
    exact ⟨r, rfl, HE.out.up HX.out⟩
  · have HC := Lib.hid (Read_0 hN hE name hns)
    clear h he hns hts hbx hob hN hE hW
    go_enter Tryz.func17, Tryz.ntmps17
    go_upto_region 1 with fail
    rw [HW.out]
    go_wp2_with (go_at_call 12; refine HC.out.mono ?_; rintro e w2 ⟨r, rfl, hf⟩; have HE := Lib.hid hf; clear hf)
    go_ret2
    exact ⟨r, rfl, HE.out.up HX.out⟩
  · have HC := Lib.hid (Rename_0 hN hE name dest hns hts)
    clear h he hns hts hbx hob hN hE hW
    go_enter Tryz.func17, Tryz.ntmps17
    go_upto_region 1 with fail
    rw [HW.out]
    go_wp2_with (go_at_call 51; refine HC.out.mono ?_; rintro e w2 ⟨r, rfl, hf⟩; have HE := Lib.hid hf; clear hf)
    go_ret2
    exact ⟨r, rfl, HE.out.up HX.out⟩
  · have HC := Lib.hid (Remove_0 hN hE name hns)
    clear h he hns hts hbx hob hN hE hW
    go_enter Tryz.func17, Tryz.ntmps17
    go_upto_region 1 with fail
    rw [HW.out]
    go_wp2_with (go_at_call 52; refine HC.out.mono ?_; rintro e w2 ⟨r, rfl, hf⟩; have HE := Lib.hid hf; clear hf)
    go_ret2
    exact ⟨r, rfl, HE.out.up HX.out⟩
  · have HC := Lib.hid (Truncate_0 hN hE name n hns)
    clear h he hns hts hbx hob hN hE hW
    go_enter Tryz.func17, Tryz.ntmps17
    go_upto_region 1 with fail
    rw [HW.out]
    go_wp2_with (go_at_call 53; refine HC.out.mono ?_; rintro e w2 ⟨r, rfl, hf⟩; have HE := Lib.hid hf; clear hf)
    go_ret2
    exact ⟨r, rfl, HE.out.up HX.out⟩
theorem rIsDown_0 (q : Int) (hq : q = 0) (w : World) : Calls Tryz.prog 31 #[refD q] w fun e w' => e = .returned (.bool true) ∧ Below w.heap.size w w' := by
  subst hq
  unfold refD
  go_enter Tryz.func31, Tryz.ntmps31
  go_wp2
  go_ret
  exact ⟨rfl, (Below.refl _ _).alloc (Nat.le_refl _) _⟩
theorem heap_second (w : World) (a b : Obj) : ((w.alloc a).alloc b).heap[w.heap.size + 1]? = some b := by
  have := heap_alloc_new (w.alloc a) b
  simpa using this
theorem res4 {P : Program} {fn : Func} {p u v x : Tmp} {ty : TypeId} (h : fn.results = #[.cell p ty, .tmp u, .tmp v, .tmp x]) (tmps : Array Value) (w : World) (g : Nat) (t : TypeId) (cs : Array Value) (fr : Nat × Nat) (d : TypeDesc)
    (hp : tmps.getD p undef = .pointer (some ⟨g, 0, none⟩)) (hg : w.heap[g]? = some (.cells cs t fr))
    (hu : P.underlying ty = some d) (hd : (match d with | .struct _ | .array _ _ => true | _ => false) = true) (hi : (P.info? ty).map (·.size) = some cs.size) :
    (results fn tmps).run P w = .ok (.tuple #[.agg cs, tmps.getD u undef, tmps.getD v undef, tmps.getD x undef]) w := by
  have hp' : tmps[p]?.getD undef = .pointer (some ⟨g, 0, none⟩) := by simpa using hp
  simp [results, h, hp', asAddr, Result.andThen, run_loadVar_row w g t ty cs fr d hg hu hd hi]
abbrev ref0 : Array Value := #[.slice none 0 0, .int .i64 0, .int .i64 0, .slice none 0 0, .int .i64 0, .bool false]
theorem rPlan_0 (s : Value) (w : World) : Calls Tryz.prog 22 #[refD 0, s] w fun e w' => e = .returned (refD 0) ∧ Below w.heap.size w w' := by
  unfold refD
  go_enter Tryz.func22, Tryz.ntmps22
  go_wp2
  refine bodyPost_ret (results_cell_row rfl _ _ (w.heap.size + 1) 31 ref0 (0, 0) _ rfl (heap_second w _ _) Tryz.underlying31 rfl Tryz.sizeRefD) rfl ?_
  exact ⟨rfl, below_box (below_box (Below.refl _ _) _) _⟩
theorem rStart_0 (w : World) : Calls Tryz.prog 24 #[refD 0] w fun e w' => e = .returned (refD 0) ∧ Below w.heap.size w w' := by
  unfold refD
  go_enter Tryz.func24, Tryz.ntmps24
  go_wp2
  refine bodyPost_ret (results_cell_row rfl _ _ (w.heap.size + 1) 31 ref0 (0, 0) _ rfl (heap_second w _ _) Tryz.underlying31 rfl Tryz.sizeRefD) rfl ?_
  exact ⟨rfl, below_box (below_box (Below.refl _ _) _) _⟩
theorem words_0 (k : Int) (hk : 1 ≤ k ∧ k ≤ 6) (w : World) : Calls Tryz.prog 19 #[.int .i64 k] w fun e w' => e = .returned (.string (wordOf k)) ∧ Below w.heap.size w w' := by
  have hkk : k = 1 ∨ k = 2 ∨ k = 3 ∨ k = 4 ∨ k = 5 ∨ k = 6 := by omega
  clear hk
  rcases hkk with rfl | rfl | rfl | rfl | rfl | rfl
  all_goals
    go_enter Tryz.func19, Tryz.ntmps19
    go_wp2
    go_ret
    exact ⟨rfl, below_box (Below.refl _ _) _⟩
theorem len_nilMap (w : World) : (Builtin.len_ #[26] 3 #[.map none]).run Tryz.prog w = .ok (.int .i64 0) w := by kernel_rfl
set_option maxHeartbeats 2000000 in
theorem Names_0 {p : Value} {w : World} (h : Noth p w) : Calls Tryz.prog 25 #[p] w fun e w' => ∃ la lc, e = .returned (.slice la 0 lc) ∧ Below w.heap.size w w' := by
  rcases h with rfl | ⟨z, rfl, hz⟩
  · go_enter Tryz.func25, Tryz.ntmps25
    go_wp2
    go_ret
    exact ⟨none, 0, rfl, Below.refl _ _⟩
  · obtain ⟨N, hN⟩ : ∃ N : Nat, N = 0 := ⟨0, rfl⟩
    have hlen : (Builtin.len_ #[26] 3 #[.map none]).run Tryz.prog w = .ok (.int .i64 (N : Int)) w := by rw [hN]; exact len_nilMap w
    obtain ⟨i0, hi, hz0, hz1, hz2⟩ := info_parts' Tryz.infoStr
    obtain ⟨W1, hmk, hrow1, hgr1⟩ := run_make_own (P := Tryz.prog) w w.heap.size 64 9 i0 _ 1 Tryz.underlying64 hi hz0 hz1 .i64 .i64 N (by rw [hz2]; omega) (by unfold maxLen; omega) (Nat.le_refl _)
    have hb1 : Below w.heap.size w W1 := (Below.refl _ _).grown hgr1 (Nat.le_refl _) (fun k hk => by cases hk)
    have c5 := cell_of hz 5
    have hz' : W1.heap[z]? = some zeroO := by rw [hb1.block _ (lt_of_heap hz)]; exact hz
    have c51 := cell_of hz' 5
    simp only [List.getElem?_toArray, List.getElem?_cons_zero, List.getElem?_cons_succ] at c5 c51
    have hrg := run_range_nilMap (P := Tryz.prog) W1 26 _ _ Tryz.underlying26
    have hnx := run_next_nilMap (P := Tryz.prog) W1 0 0 0 #[]
    have HS := Lib.hid (fun W => Tryz.slices_Sort_string_none (some ⟨w.heap.size, 0, none⟩) N W)
    have HB1 := Lib.hid hb1
    clear hi hz0 hz1 hz2 hrow1 hgr1 hz hz' hN hb1
    go_enter Tryz.func25, Tryz.ntmps25
    go_wp2
    refine wp_loop_rounds 1 ?_
    rw [rounds_succ]
    go_wp2_with (go_at_call 57; refine (HS.out _).mono ?_; rintro e w4 ⟨rfl, hw4⟩; subst w4)
    go_ret
    exact ⟨_, _, rfl, below_box HB1.out _⟩
end Go.Proofs.YtgadmfbilmlnkabGreatDoor

/- The document's Do on its disk of quota 0. -/
namespace Go.Proofs.YtgadmfbilmlnkabGreatDoor
open Go.RowKit Go.Lib

theorem below_setR {B : Nat} {a w : World} (h : Below B a w) {R : Nat} (hR : B ≤ R) (cs : Array Value) : Below B a (w.setRow R cs) :=
  h.trans ⟨rfl, rfl, rfl, by simp [World.setRow], fun k hk => setRow_other w R k cs (by omega)⟩
set_option maxHeartbeats 2000000 in
theorem rDo_0 (k : Int) (a b c : ByteArray) (n : Int) (w : World) :
    Calls Tryz.prog 16 #[refD 0, .agg #[.int .i64 k, .string a, .string b, .string c, .int .i64 n]] w fun e w' => e = .returned (.tuple #[refD 0, .string ⟨#[]⟩, .int .i64 93, .int .i64 0]) ∧ Below w.heap.size w w' := by
  obtain ⟨W3, hW3⟩ : ∃ W3, ((w.alloc (.cells #[.slice none 0 0, .int .i64 0, .int .i64 0, .slice none 0 0, .int .i64 0, .bool false] 31)).alloc (.cells #[.int .i64 k, .string a, .string b, .string c, .int .i64 n] 54)).alloc (.cells #[.slice none 0 0, .int .i64 0, .int .i64 0, .slice none 0 0, .int .i64 0, .bool false] 31) = W3 := ⟨_, rfl⟩
  have hb3 : Below w.heap.size w W3 := by rw [← hW3]; exact below_box (below_box (below_box (Below.refl _ _) _) _) _
  have ho0 : W3.heap[w.heap.size]? = some (refO 0) := by
    rw [← hW3, heap_alloc_old _ _ (by simp; omega), heap_alloc_old _ _ (by simp)]
    exact heap_alloc_new _ _
  have ho2 : W3.heap[w.heap.size + 1 + 1]? = some (refO 0) := by
    rw [← hW3]
    have := heap_alloc_new ((w.alloc (.cells #[.slice none 0 0, .int .i64 0, .int .i64 0, .slice none 0 0, .int .i64 0, .bool false] 31)).alloc (.cells #[.int .i64 k, .string a, .string b, .string c, .int .i64 n] 54)) (refO 0)
    simpa using this
  have HD := Lib.hid (fun W => rIsDown_0 0 rfl W)
  have HX := Lib.hid (box_ref ho0)
  have HR : Hid (∀ W, Below W3.heap.size W3 W → W.heap[w.heap.size + 1 + 1]? = some (refO 0)) := Lib.hid (fun W hW => by rw [hW.block _ (lt_of_heap ho2)]; exact ho2)
  have HE : Hid (∀ W, Below W3.heap.size W3 W → Below w.heap.size w W) := Lib.hid (fun W hW => hb3.trans (hW.mono hb3.size))
  have HW := Lib.hid hW3
  obtain ⟨x0, x1, x2, x3, x4, x5⟩ := HX.out W3 (Below.refl _ _)
  clear hW3 hb3 ho0 ho2
  unfold refD at *
  go_enter Tryz.func16, Tryz.ntmps16
  go_upto_region 1 with fail
  rw [HW.out]
  go_upto_region 2 with (go_at_call 31; refine (HD.out _).mono ?_; rintro e w4 ⟨rfl, hb4⟩; have HB4 := Lib.hid hb4; clear hb4)
  clear x0 x1 x2 x3 x4 x5
  obtain ⟨x0, x1, x2, x3, x4, x5⟩ := HX.out w4 HB4.out
  have HR4 := Lib.hid (HR.out w4 HB4.out)
  go_wp2_with (refine wpList_store_row rfl 31 _ _ rfl (w.heap.size + 1 + 1) ref0 rfl rfl 31 _ HR4.out Tryz.sizeRefD rfl (by simp [Value.oneCell']) ?_)
  refine bodyPost_ret (res4 rfl _ _ (w.heap.size + 1 + 1) 31 ref0 (0, 0) _ rfl (setRow_heap _ _ _ _ _ _ HR4.out) Tryz.underlying31 rfl Tryz.sizeRefD) rfl ?_
  exact ⟨rfl, below_setR (HE.out _ HB4.out) (by omega) _⟩
end Go.Proofs.YtgadmfbilmlnkabGreatDoor
