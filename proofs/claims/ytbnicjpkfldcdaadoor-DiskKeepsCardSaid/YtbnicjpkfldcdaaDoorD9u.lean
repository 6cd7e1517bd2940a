/- disk: look, allOrNothing, Sync. -/
import Derived.Test.YtbnicjpkfldcdaaDoorD9s
namespace Go.Proofs.YtbnicjpkfldcdaaDoor
open Go.RowKit Go.Lib

theorem look_bad {d : Nat} (n : ByteArray) (w : World) (hns : n.size ≤ 140737488355328) (hn : isNm n = false) :
    Calls Tryd.prog 40 #[.pointer (some ⟨d, 0, none⟩), .string n] w fun e w' => e = .returned (.tuple #[.pointer none, .int .i64 90]) ∧ w' = w := by
  have HN := Lib.hid (isName_any n w hns)
  rw [hn] at HN
  clear hn
  go_enter Tryd.func40, Tryd.ntmps40
  go_wp2_with (go_at_call 33; refine HN.out.mono ?_; rintro e w2 ⟨rfl, rfl⟩)
  go_ret2
  exact ⟨rfl, rfl⟩
theorem look_no {B d m clk : Nat} {sv : Value} {S : DS} {F : List FE} {w : World} (h : DiskAt B d m clk sv S F w) (n : ByteArray) (hns : n.size ≤ 140737488355328) (hn : isNm n = true) (hno : ∀ g, g ∈ F → g.name ≠ n) :
    Calls Tryd.prog 40 #[.pointer (some ⟨d, 0, none⟩), .string n] w fun e w' => e = .returned (.tuple #[.pointer none, .int .i64 91]) ∧ w' = w := by
  have HN := Lib.hid (isName_any n w hns)
  rw [hn] at HN
  have HF := Lib.hid (find_no h n hno)
  clear hn h hno
  go_enter Tryd.func40, Tryd.ntmps40
  go_wp2_with (first | (go_at_call 33; refine HN.out.mono ?_; rintro e w2 ⟨rfl, rfl⟩) | (go_at_call 32; refine HF.out.mono ?_; rintro e w2 ⟨rfl, rfl⟩))
  go_ret2
  exact ⟨rfl, rfl⟩
theorem look_hit {B d m clk : Nat} {sv : Value} {S : DS} {F1 F2 : List FE} {f : FE} {w : World} (h : DiskAt B d m clk sv S (F1 ++ f :: F2) w) (n : ByteArray) (hns : n.size ≤ 140737488355328) (hn : isNm n = true) (hf : f.name = n) :
    Calls Tryd.prog 40 #[.pointer (some ⟨d, 0, none⟩), .string n] w fun e w' => e = .returned (.tuple #[.pointer (some ⟨f.blk, 0, none⟩), .int .i64 0]) ∧ w' = w := by
  have HN := Lib.hid (isName_any n w hns)
  rw [hn] at HN
  have HF := Lib.hid (find_hit h n hf (by rw [← hf]; exact (names_tail h.names).1))
  clear hn h hf
  go_enter Tryd.func40, Tryd.ntmps40
  go_wp2_with (first | (go_at_call 33; refine HN.out.mono ?_; rintro e w2 ⟨rfl, rfl⟩) | (go_at_call 32; refine HF.out.mono ?_; rintro e w2 ⟨rfl, rfl⟩))
  go_ret2
  exact ⟨rfl, rfl⟩
def lookC (P : List PF) (n : ByteArray) : Int := if isNm n = true then (if hasP n P = true then 0 else 91) else 90
/-- What look answers, in one. -/
theorem look_all {B d m clk : Nat} {sv : Value} {S : DS} {F : List FE} {w : World} (h : DiskAt B d m clk sv S F w) (n : ByteArray) (hns : n.size ≤ 140737488355328) :
    ∃ pv c, (∀ W, DiskAt B d m clk sv S F W → Calls Tryd.prog 40 #[.pointer (some ⟨d, 0, none⟩), .string n] W fun e w' => e = .returned (.tuple #[.pointer pv, .int .i64 c]) ∧ w' = W) ∧ c = lookC (F.map FE.pl) n ∧
      ((c ≠ 0 ∧ pv = none) ∨ (c = 0 ∧ isNm n = true ∧ ∃ F1 f F2, F = F1 ++ f :: F2 ∧ f.name = n ∧ pv = some ⟨f.blk, 0, none⟩)) := by
  cases hn : isNm n with
  | false => exact ⟨none, 90, fun W _ => look_bad n W hns hn, by unfold lookC; rw [hn]; rfl, .inl ⟨by decide, rfl⟩⟩
  | true =>
    rcases fe_split n F with ⟨F1, f, F2, rfl, hf, _⟩ | hno
    · exact ⟨_, 0, fun W hW => look_hit hW n hns hn hf, by unfold lookC; rw [hn, hasP_hit hf]; rfl, .inr ⟨rfl, rfl, F1, f, F2, rfl, hf, rfl⟩⟩
    · exact ⟨none, 91, fun W hW => look_no hW n hns hn hno, by unfold lookC; rw [hn, hasP_no hno]; rfl, .inl ⟨by decide, rfl⟩⟩
theorem allOr_any (fv : Value) (w : World) (wn : Nat) (wc : Array Value) (hf : fv = .func (.func wn) #[] wc) :
    Calls Tryd.prog 45 #[fv] w fun e w' => e = .returned (.func (.func 57) #[] #[.pointer (some ⟨w.heap.size, 0, none⟩)]) ∧ w' = w.alloc (.cells #[fv] 1) := by
  subst hf
  go_enter Tryd.func45, Tryd.ntmps45
  go_wp2
  go_ret
  exact ⟨rfl, rfl⟩
theorem isFn_70 : IsFn 57 := isFn_of Tryd.func57 (by kernel_rfl) (by kernel_rfl)
theorem allOr1_any {B d m clk : Nat} {sv : Value} {S : DS} {F : List FE} {w : World} (h : DiskAt B d m clk sv S F w) (k wn : Nat) (wc : Array Value) (c0 : w.cell? ⟨k, 0, none⟩ = some (.func (.func wn) #[] wc)) (hwn : IsFn wn) (G : List PF) (hW : Calls Tryd.prog wn wc w fun e W' => e = .returned (.tuple #[]) ∧ Did B d m sv S F w G W') (y : Int) :
    Calls Tryd.prog 57 #[.int .i64 y, .pointer (some ⟨k, 0, none⟩)] w fun e w' => e = .returned (.tuple #[]) ∧ Did B d m sv S F w (if 1 ≤ y then G else F.map FE.pl) w' := by
  have hcf := hwn wc
  by_cases hy : 1 ≤ y
  · rw [if_pos hy]
    have HW := Lib.hid hW
    clear hW h
    go_enter Tryd.func57, Tryd.ntmps57
    go_wp2_with fail
    refine HW.out.mono ?_
    rintro e w2 ⟨rfl, hD⟩
    have HD := Lib.hid hD
    clear hD
    go_wp2_with fail
    first | refine bodyPost_end (results_none rfl _ _ _) rfl ?_ | refine bodyPost_ret (results_none rfl _ _ _) rfl ?_
    exact ⟨rfl, HD.out⟩
  · rw [if_neg hy]
    have HR := Lib.hid (Did.refl h)
    have hy2 : y < 1 := by omega
    clear hW h
    go_enter Tryd.func57, Tryd.ntmps57
    go_wp2_with fail
    first | refine bodyPost_end (results_none rfl _ _ _) rfl ?_ | refine bodyPost_ret (results_none rfl _ _ _) rfl ?_
    exact ⟨rfl, HR.out⟩
theorem isFn_42 : IsFn 44 := isFn_of Tryd.func44 (by kernel_rfl) (by kernel_rfl)
theorem Did.drewR {B d m : Nat} {sv : Value} {S : DS} {F : List FE} {w w' : World} {G : List PF} (h : Did B d m sv S F w G w') : Did B d m sv S F w G w'.drew := by
  obtain ⟨clk, F', hD, hG, hS, hM⟩ := h
  exact ⟨clk, F', hD.drew, hG, hS.drew, hM⟩
def syncP (p : PF) : PF := { p with dur := p.data.length }
set_option maxHeartbeats 2000000 in
theorem Sync1_any {B d m clk : Nat} {sv : Value} {S : DS} {F1 F2 : List FE} {f : FE} {w : World} (h : DiskAt B d m clk sv S (F1 ++ f :: F2) w) (k : Nat) (c0 : w.cell? ⟨k, 0, none⟩ = some (.pointer (some ⟨f.blk, 0, none⟩))) :
    Calls Tryd.prog 44 #[.pointer (some ⟨k, 0, none⟩)] w fun e w' => e = .returned (.tuple #[]) ∧ Did B d m sv S (F1 ++ f :: F2) w (modP f.name syncP ((F1 ++ f :: F2).map FE.pl)) w' := by
  obtain ⟨a, c, _, ⟨b0, b1, bz⟩⟩ := h.fileC (f := f) (by simp)
  obtain ⟨hD, hS, hfp⟩ := sync_world h
  have HE : Hid (Did B d m sv S (F1 ++ f :: F2) w (modP f.name syncP ((F1 ++ f :: F2).map FE.pl)) (w.setCell ⟨f.blk, 1, none⟩ (.int .i64 (f.data.length : Int)))) := Lib.hid ⟨clk, _, hD, modP_hit rfl h.names rfl, hS, fun b hb => .inl (by rw [hfp] at hb; exact hb)⟩
  clear h hD hS hfp
  go_enter Tryd.func44, Tryd.ntmps44
  go_region
  first | refine bodyPost_end (results_none rfl _ _ _) rfl ?_ | refine bodyPost_ret (results_none rfl _ _ _) rfl ?_
  exact ⟨rfl, HE.out.drewR⟩
def sSync : ByteArray := ⟨#[115, 121, 110, 99]⟩
theorem DiskAt.far {B d m clk : Nat} {sv : Value} {S : DS} {F : List FE} {w : World} (h : DiskAt B d m clk sv S F w) {k : Nat} (hk : w.heap.size ≤ k) : k ∉ fpOf d m sv F := fun e => by have := h.lt e; omega
theorem box1_cell {w w' : World} {v : Value} {t : TypeId} (hb : Below (w.heap.size + 1) (w.alloc (.cells #[v] t)) w') : w'.cell? ⟨w.heap.size, 0, none⟩ = some v := by
  have h1 : w'.heap[w.heap.size]? = some (.cells #[v] t (0, 0)) := by
    rw [hb.block _ (by omega)]; exact heap_alloc_new _ _
  exact cell_of h1 0
set_option maxHeartbeats 4000000 in
theorem Sync_any {A : Whys} {B d m clk : Nat} {sv : Value} {S : DS} {F : List FE} {w : World} (h : DiskAt B d m clk sv S F w) (he : Env A B w) (hok : S.ok) (hn : S.steps < 1000000000) (n : ByteArray) (hns : n.size ≤ 140737488355328) :
    Calls Tryd.prog 22 #[.pointer (some ⟨d, 0, none⟩), .string n] w fun e w' => After A B d m sv S F sSync n (lookC (F.map FE.pl) n) (modP n syncP (F.map FE.pl)) (fun y => if 1 ≤ y then modP n syncP (F.map FE.pl) else F.map FE.pl) w e w' := by
  obtain ⟨pv, c, hlook, hc, hcase⟩ := look_all h n hns
  have HL := Lib.hid (hlook w h)
  rw [← hc]
  obtain ⟨W1, hW1⟩ : ∃ W1, w.alloc (.cells #[.pointer pv] 67) = W1 := ⟨_, rfl⟩
  have hb1 : Below w.heap.size w W1 := by rw [← hW1]; exact (Below.refl _ _).alloc (Nat.le_refl _) _
  have hz1 : W1.heap.size = w.heap.size + 1 := by rw [← hW1]; simp
  have HAl := Lib.hid (allOr_any (.func (.func 44) #[] #[.pointer (some ⟨w.heap.size, 0, none⟩)]) W1 _ _ rfl)
  obtain ⟨W2, hW2⟩ : ∃ W2, W1.alloc (.cells #[.func (.func 44) #[] #[.pointer (some ⟨w.heap.size, 0, none⟩)]] 1) = W2 := ⟨_, rfl⟩
  have hb2 : Below W1.heap.size W1 W2 := by rw [← hW2]; exact (Below.refl _ _).alloc (Nat.le_refl _) _
  have hbb : Below w.heap.size w W2 := hb1.trans (hb2.mono (by omega))
  have cA : W2.cell? ⟨w.heap.size, 0, none⟩ = some (.pointer pv) := box1_cell (by rw [hW1]; exact hb2.mono (by omega))
  have cB : W2.cell? ⟨W1.heap.size, 0, none⟩ = some (.func (.func 44) #[] #[.pointer (some ⟨w.heap.size, 0, none⟩)]) := box1_cell (by rw [hW2]; exact Below.refl _ _)
  have hD2 := h.below hbb
  have hE2 := he.below (hbb.mono h.size)
  have hoA : w.heap.size ∉ fpOf d m sv F := h.far (Nat.le_refl _)
  have hoB : W1.heap.size ∉ fpOf d m sv F := h.far (by omega)
  have hlA := World.block_lt_of_cell? W2 _ cA
  have hlB := World.block_lt_of_cell? W2 _ cB
  have HO : Hid (Calls Tryd.prog 39 #[.pointer (some ⟨d, 0, none⟩), .string sSync, .string n, .int .i64 c, .func (.func 44) #[] #[.pointer (some ⟨w.heap.size, 0, none⟩)], .func (.func 57) #[] #[.pointer (some ⟨W1.heap.size, 0, none⟩)]] W2 fun e w' => After A B d m sv S F sSync n c (modP n syncP (F.map FE.pl)) (fun y => if 1 ≤ y then modP n syncP (F.map FE.pl) else F.map FE.pl) W2 e w') := Lib.hid (by
    rcases hcase with ⟨hc0, _⟩ | ⟨rfl, _, F1, f, F2, rfl, rfl, rfl⟩
    · exact operate_after hD2 hE2 hok hn sSync n c _ _ _ _ isFn_42 isFn_70 _ _ (fun e => absurd e hc0) (fun e => absurd e hc0)
    · refine operate_after hD2 hE2 hok hn sSync f.name 0 _ _ _ _ isFn_42 isFn_70 _ _ (fun _ _ _ W hW hS => ?_) (fun _ _ y W sv' _ hW hS hM => ?_)
      · exact Sync1_any hW _ (by rw [hS.cell hlA hoA]; exact cA)
      · exact allOr1_any hW _ _ _ (by rw [hS.cell hlB hoB]; exact cB) isFn_42 _ (Sync1_any hW _ (by rw [hS.cell hlA hoA]; exact cA)) y)
  have HA := Lib.hid (fun e w' (hc : After A B d m sv S F sSync n c (modP n syncP (F.map FE.pl)) (fun y => if 1 ≤ y then modP n syncP (F.map FE.pl) else F.map FE.pl) W2 e w') => After.ahead hbb hc)
  have HW1 := Lib.hid hW1
  have HW2 := Lib.hid hW2
  clear h he hok hn hns hlook hc hcase hb1 hz1 hb2 hbb cA cB hD2 hE2 hoA hoB hlA hlB hW1 hW2
  go_enter Tryd.func22, Tryd.ntmps22
  go_upto_region 2 with (go_at_call 40; refine HL.out.mono ?_; rintro e w2 ⟨rfl, hw2⟩; subst w2)
  rw [HW1.out]
  go_wp2_with (first | (go_at_call 45; refine HAl.out.mono ?_; rintro e w3 ⟨rfl, hw3⟩; rw [HW2.out] at hw3; subst w3) | (go_at_call 39; refine HO.out.mono ?_; rintro e w4 ⟨r, sv', clk', F', rfl, hA⟩; have HR := Lib.hid hA; clear hA))
  go_ret
  exact HA.out _ _ ⟨r, sv', clk', F', rfl, HR.out⟩
end Go.Proofs.YtbnicjpkfldcdaaDoor

/- disk: Remove. -/
namespace Go.Proofs.YtbnicjpkfldcdaaDoor
open Go.RowKit Go.Lib

theorem drop_any {B d m clk : Nat} {sv : Value} {S : DS} {F : List FE} {w : World} (h : DiskAt B d m clk sv S F w) (n : ByteArray) :
    Calls Tryd.prog 49 #[.pointer (some ⟨d, 0, none⟩), .string n] w fun e w' => e = .returned (.tuple #[]) ∧ Did B d m sv S F w (dropP n (F.map FE.pl)) w' := by
  rcases fe_split n F with ⟨F1, f, F2, rfl, hn, _⟩ | hno
  · refine (drop_hit h n hn).mono ?_
    rintro e w' ⟨rfl, hD, hS⟩
    exact ⟨rfl, clk, F1 ++ F2, hD, (dropP_hit hn h.names).symm, hS, fun b hb => .inl (fp_drop.subset hb)⟩
  · refine (drop_no h n hno).mono ?_
    rintro e w' ⟨rfl, rfl⟩
    exact ⟨rfl, by rw [dropP_no hno]; exact Did.refl h⟩
theorem isFn_47 : IsFn 48 := isFn_of Tryd.func48 (by kernel_rfl) (by kernel_rfl)
theorem Remove1_any {B d m clk : Nat} {sv : Value} {S : DS} {F : List FE} {w : World} (h : DiskAt B d m clk sv S F w) (k0 k1 : Nat) (n : ByteArray) (c0 : w.cell? ⟨k0, 0, none⟩ = some (.pointer (some ⟨d, 0, none⟩))) (c1 : w.cell? ⟨k1, 0, none⟩ = some (.string n)) :
    Calls Tryd.prog 48 #[.pointer (some ⟨k0, 0, none⟩), .pointer (some ⟨k1, 0, none⟩)] w fun e w' => e = .returned (.tuple #[]) ∧ Did B d m sv S F w (dropP n (F.map FE.pl)) w' := by
  have hG := Lib.hid (drop_any h n)
  clear h
  go_enter Tryd.func48, Tryd.ntmps48
  go_wp2_with (go_at_call 49; refine hG.out.mono ?_; rintro e w' ⟨rfl, hD⟩; have HD := Lib.hid hD; clear hD)
  first | refine bodyPost_end (results_none rfl _ _ _) rfl ?_ | refine bodyPost_ret (results_none rfl _ _ _) rfl ?_
  exact ⟨rfl, HD.out⟩
def sRemove : ByteArray := ⟨#[114, 101, 109, 111, 118, 101]⟩
abbrev box2 (w : World) (a b : Value) (ta tb : TypeId) : World := (w.alloc (.cells #[a] ta)).alloc (.cells #[b] tb)
theorem box2_facts (w : World) (a b : Value) (ta tb : TypeId) : Below w.heap.size w (box2 w a b ta tb) ∧ (box2 w a b ta tb).cell? ⟨w.heap.size, 0, none⟩ = some a ∧ (box2 w a b ta tb).cell? ⟨w.heap.size + 1, 0, none⟩ = some b ∧ (box2 w a b ta tb).heap.size = w.heap.size + 1 + 1 := by
  refine ⟨((Below.refl _ _).alloc (Nat.le_refl _) _).alloc (by simp) _, ?_, ?_, by simp⟩
  · have h1 : (box2 w a b ta tb).heap[w.heap.size]? = some (.cells #[a] ta (0, 0)) := by
      rw [Below.heap_alloc _ _ _ (by simp)]; exact heap_alloc_new _ _
    exact cell_of h1 0
  · have h1 : (box2 w a b ta tb).heap[w.heap.size + 1]? = some (.cells #[b] tb (0, 0)) := by
      have := heap_alloc_new (w.alloc (.cells #[a] ta)) (.cells #[b] tb)
      have e : (w.alloc (.cells #[a] ta)).heap.size = w.heap.size + 1 := by simp
      rw [e] at this; exact this
    exact cell_of h1 0
/-- A cell behind a draw and one more block. -/
theorem cell_on {W : World} {k : Nat} {v : Value} (h : W.cell? ⟨k, 0, none⟩ = some v) (o : Obj) : (W.drew.alloc o).cell? ⟨k, 0, none⟩ = some v := by
  rw [World.cell?_of_block (Below.heap_alloc W.drew o k (World.block_lt_of_cell? W _ h))]
  exact h
set_option maxHeartbeats 4000000 in
theorem Remove_any {A : Whys} {B d m clk : Nat} {sv : Value} {S : DS} {F : List FE} {w : World} (h : DiskAt B d m clk sv S F w) (he : Env A B w) (hok : S.ok) (hn : S.steps < 1000000000) (n : ByteArray) (hns : n.size ≤ 140737488355328) :
    Calls Tryd.prog 24 #[.pointer (some ⟨d, 0, none⟩), .string n] w fun e w' => After A B d m sv S F sRemove n (lookC (F.map FE.pl) n) (dropP n (F.map FE.pl)) (fun y => if 1 ≤ y then dropP n (F.map FE.pl) else F.map FE.pl) w e w' := by
  obtain ⟨pv, c, hlook, hc, hcase⟩ := look_all h n hns
  rw [← hc]
  obtain ⟨hb1, cA, cB, hz1⟩ := box2_facts w (.pointer (some ⟨d, 0, none⟩)) (.string n) 24 9
  obtain ⟨W1, hW1⟩ : ∃ W1, (w.alloc (.cells #[.pointer (some ⟨d, 0, none⟩)] 24)).alloc (.cells #[.string n] 9) = W1 := ⟨_, rfl⟩
  change Below w.heap.size w ((w.alloc (.cells #[.pointer (some ⟨d, 0, none⟩)] 24)).alloc (.cells #[.string n] 9)) at hb1
  simp only [box2] at cA cB hz1
  rw [hW1] at hb1 cA cB hz1
  have HL := Lib.hid (hlook W1 (h.below hb1))
  have HAl := Lib.hid (allOr_any (.func (.func 48) #[] #[.pointer (some ⟨w.heap.size, 0, none⟩), .pointer (some ⟨w.heap.size + 1, 0, none⟩)]) W1.drew _ _ rfl)
  obtain ⟨W2, hW2⟩ : ∃ W2, W1.drew.alloc (.cells #[.func (.func 48) #[] #[.pointer (some ⟨w.heap.size, 0, none⟩), .pointer (some ⟨w.heap.size + 1, 0, none⟩)]] 1) = W2 := ⟨_, rfl⟩
  have hb2 : Below W1.heap.size W1 W2 := by rw [← hW2]; exact (Below.refl _ _).drew.alloc (Nat.le_refl _) _
  have hbb : Below w.heap.size w W2 := hb1.trans (hb2.mono (by omega))
  have cA2 : W2.cell? ⟨w.heap.size, 0, none⟩ = some (.pointer (some ⟨d, 0, none⟩)) := by rw [← hW2]; exact cell_on cA _
  have cB2 : W2.cell? ⟨w.heap.size + 1, 0, none⟩ = some (.string n) := by rw [← hW2]; exact cell_on cB _
  have cC2 : W2.cell? ⟨W1.heap.size, 0, none⟩ = some (.func (.func 48) #[] #[.pointer (some ⟨w.heap.size, 0, none⟩), .pointer (some ⟨w.heap.size + 1, 0, none⟩)]) := box1_cell (w := W1.drew) (by rw [hW2]; exact Below.refl _ _)
  have hD2 := h.below hbb
  have hE2 := he.below (hbb.mono h.size)
  have hoA : w.heap.size ∉ fpOf d m sv F := h.far (Nat.le_refl _)
  have hoB : w.heap.size + 1 ∉ fpOf d m sv F := h.far (by omega)
  have hoC : W1.heap.size ∉ fpOf d m sv F := h.far (by omega)
  have hlA := World.block_lt_of_cell? W2 _ cA2
  have hlB := World.block_lt_of_cell? W2 _ cB2
  have hlC := World.block_lt_of_cell? W2 _ cC2
  have HO : Hid (Calls Tryd.prog 39 #[.pointer (some ⟨d, 0, none⟩), .string sRemove, .string n, .int .i64 c, .func (.func 48) #[] #[.pointer (some ⟨w.heap.size, 0, none⟩), .pointer (some ⟨w.heap.size + 1, 0, none⟩)], .func (.func 57) #[] #[.pointer (some ⟨W1.heap.size, 0, none⟩)]] W2 fun e w' => After A B d m sv S F sRemove n c (dropP n (F.map FE.pl)) (fun y => if 1 ≤ y then dropP n (F.map FE.pl) else F.map FE.pl) W2 e w') := Lib.hid (by
    refine operate_after hD2 hE2 hok hn sRemove n c _ _ _ _ isFn_47 isFn_70 _ _ (fun _ _ _ W hW hS => ?_) (fun _ _ y W sv' _ hW hS hM => ?_)
    · exact Remove1_any hW _ _ n (by rw [hS.cell hlA hoA]; exact cA2) (by rw [hS.cell hlB hoB]; exact cB2)
    · exact allOr1_any hW _ _ _ (by rw [hS.cell hlC hoC]; exact cC2) isFn_47 _ (Remove1_any hW _ _ n (by rw [hS.cell hlA hoA]; exact cA2) (by rw [hS.cell hlB hoB]; exact cB2)) y)
  have HA := Lib.hid (fun e w' (hc : After A B d m sv S F sRemove n c (dropP n (F.map FE.pl)) (fun y => if 1 ≤ y then dropP n (F.map FE.pl) else F.map FE.pl) W2 e w') => After.ahead hbb hc)
  have HW1 := Lib.hid hW1
  have HW2 := Lib.hid hW2
  have cAd : W1.drew.cell? ⟨w.heap.size, 0, none⟩ = some (.pointer (some ⟨d, 0, none⟩)) := cA
  have cBd : W1.drew.cell? ⟨w.heap.size + 1, 0, none⟩ = some (.string n) := cB
  clear h he hok hn hns hlook hc hcase hb1 hz1 hb2 hbb cC2 hD2 hE2 hoA hoB hoC hlA hlB hlC hW1 hW2
  go_enter Tryd.func24, Tryd.ntmps24
  go_upto_region 1 with fail
  rw [HW1.out]
  go_wp2_with (go_at_call 40; refine HL.out.mono ?_; rintro e w2 ⟨rfl, hw2⟩; subst w2)
  --R Remove--
  refine wp_region_N 6 (fun X => X = W1.drew ∨ X = W2) (by kernel_rfl) ?_
  refine wpAnyN_take (i := 0) (oi := { dst := some 15, op := Go.Op.load 24 (Go.Operand.tmp 2), type := 24, pos := "operate.go:77", after := #[], guard := none }) (oL := { dst := some 21, op := Go.Op.call { callee := Go.Callee.value (Go.Operand.func 39), args := #[Go.Operand.tmp 15, Go.Operand.const (Go.Value.string { data := #[114, 101, 109, 111, 118, 101] }), Go.Operand.tmp 16, Go.Operand.tmp 17, Go.Operand.tmp 18, Go.Operand.tmp 20], argTypes := #[24, 9, 9, 51, 1, 75] }, type := 26, pos := "operate.go:77", after := #[{ on := 0, ground := Go.Ground.data }, { on := 1, ground := Go.Ground.data }, { on := 2, ground := Go.Ground.data }, { on := 3, ground := Go.Ground.data }, { on := 5, ground := Go.Ground.data }, { on := 5, ground := Go.Ground.chain }], guard := none }) (v := .pointer (some ⟨d, 0, none⟩)) rfl rfl (by kernel_rfl) (by kernel_rfl) (by kernel_rfl) (by kernel_rfl) (fun _ _ _ h => h) (Or.inl ⟨by kernel_rfl, ?_⟩) (.inl rfl) ?_
  · (intro X hX; rcases hX with rfl | rfl <;> (go_simp; try (with_reducible rfl)))
  (try simp only [Act.put, List.setIfInBounds_toArray, List.set_cons_zero, List.set_cons_succ])
  refine wpAnyN_take (i := 1) (oi := { dst := some 16, op := Go.Op.load 9 (Go.Operand.tmp 3), type := 9, pos := "operate.go:77", after := #[], guard := none }) (oL := { dst := some 21, op := Go.Op.call { callee := Go.Callee.value (Go.Operand.func 39), args := #[Go.Operand.tmp 15, Go.Operand.const (Go.Value.string { data := #[114, 101, 109, 111, 118, 101] }), Go.Operand.tmp 16, Go.Operand.tmp 17, Go.Operand.tmp 18, Go.Operand.tmp 20], argTypes := #[24, 9, 9, 51, 1, 75] }, type := 26, pos := "operate.go:77", after := #[{ on := 0, ground := Go.Ground.data }, { on := 1, ground := Go.Ground.data }, { on := 2, ground := Go.Ground.data }, { on := 3, ground := Go.Ground.data }, { on := 5, ground := Go.Ground.data }, { on := 5, ground := Go.Ground.chain }], guard := none }) (v := .string n) rfl rfl (by kernel_rfl) (by kernel_rfl) (by kernel_rfl) (by kernel_rfl) (fun _ _ _ h => h) (Or.inl ⟨by kernel_rfl, ?_⟩) (.inl rfl) ?_
  · (intro X hX; rcases hX with rfl | rfl <;> (go_simp; try (with_reducible rfl)))
  (try simp only [Act.put, List.setIfInBounds_toArray, List.set_cons_zero, List.set_cons_succ])
  refine wpAnyN_take (i := 2) (oi := { dst := some 17, op := Go.Op.move (Go.Operand.tmp 6), type := 51, pos := "operate.go:77", after := #[], guard := none }) (oL := { dst := some 21, op := Go.Op.call { callee := Go.Callee.value (Go.Operand.func 39), args := #[Go.Operand.tmp 15, Go.Operand.const (Go.Value.string { data := #[114, 101, 109, 111, 118, 101] }), Go.Operand.tmp 16, Go.Operand.tmp 17, Go.Operand.tmp 18, Go.Operand.tmp 20], argTypes := #[24, 9, 9, 51, 1, 75] }, type := 26, pos := "operate.go:77", after := #[{ on := 0, ground := Go.Ground.data }, { on := 1, ground := Go.Ground.data }, { on := 2, ground := Go.Ground.data }, { on := 3, ground := Go.Ground.data }, { on := 5, ground := Go.Ground.data }, { on := 5, ground := Go.Ground.chain }], guard := none }) (v := .int .i64 c) rfl rfl (by kernel_rfl) (by kernel_rfl) (by kernel_rfl) (by kernel_rfl) (fun _ _ _ h => h) (Or.inl ⟨by kernel_rfl, ?_⟩) (.inl rfl) ?_
  · (intro X hX; rcases hX with rfl | rfl <;> (go_simp; try (with_reducible rfl)))
  (try simp only [Act.put, List.setIfInBounds_toArray, List.set_cons_zero, List.set_cons_succ])
  refine wpAnyN_take (i := 3) (oi := { dst := some 18, op := Go.Op.move (Go.Operand.tmp 7), type := 1, pos := "operate.go:77", after := #[], guard := none }) (oL := { dst := some 21, op := Go.Op.call { callee := Go.Callee.value (Go.Operand.func 39), args := #[Go.Operand.tmp 15, Go.Operand.const (Go.Value.string { data := #[114, 101, 109, 111, 118, 101] }), Go.Operand.tmp 16, Go.Operand.tmp 17, Go.Operand.tmp 18, Go.Operand.tmp 20], argTypes := #[24, 9, 9, 51, 1, 75] }, type := 26, pos := "operate.go:77", after := #[{ on := 0, ground := Go.Ground.data }, { on := 1, ground := Go.Ground.data }, { on := 2, ground := Go.Ground.data }, { on := 3, ground := Go.Ground.data }, { on := 5, ground := Go.Ground.data }, { on := 5, ground := Go.Ground.chain }], guard := none }) (v := .func (.func 48) #[] #[.pointer (some ⟨w.heap.size, 0, none⟩), .pointer (some ⟨w.heap.size + 1, 0, none⟩)]) rfl rfl (by kernel_rfl) (by kernel_rfl) (by kernel_rfl) (by kernel_rfl) (fun _ _ _ h => h) (Or.inl ⟨by kernel_rfl, ?_⟩) (.inl rfl) ?_
  · (intro X hX; rcases hX with rfl | rfl <;> (go_simp; try (with_reducible rfl)))
  (try simp only [Act.put, List.setIfInBounds_toArray, List.set_cons_zero, List.set_cons_succ])
  refine wpAnyN_take (i := 4) (oi := { dst := some 19, op := Go.Op.move (Go.Operand.tmp 7), type := 1, pos := "operate.go:77", after := #[], guard := none }) (oL := { dst := some 21, op := Go.Op.call { callee := Go.Callee.value (Go.Operand.func 39), args := #[Go.Operand.tmp 15, Go.Operand.const (Go.Value.string { data := #[114, 101, 109, 111, 118, 101] }), Go.Operand.tmp 16, Go.Operand.tmp 17, Go.Operand.tmp 18, Go.Operand.tmp 20], argTypes := #[24, 9, 9, 51, 1, 75] }, type := 26, pos := "operate.go:77", after := #[{ on := 0, ground := Go.Ground.data }, { on := 1, ground := Go.Ground.data }, { on := 2, ground := Go.Ground.data }, { on := 3, ground := Go.Ground.data }, { on := 5, ground := Go.Ground.data }, { on := 5, ground := Go.Ground.chain }], guard := none }) (v := .func (.func 48) #[] #[.pointer (some ⟨w.heap.size, 0, none⟩), .pointer (some ⟨w.heap.size + 1, 0, none⟩)]) rfl rfl (by kernel_rfl) (by kernel_rfl) (by kernel_rfl) (by kernel_rfl) (fun _ _ _ h => h) (Or.inl ⟨by kernel_rfl, ?_⟩) (.inl rfl) ?_
  · (intro X hX; rcases hX with rfl | rfl <;> (go_simp; try (with_reducible rfl)))
  (try simp only [Act.put, List.setIfInBounds_toArray, List.set_cons_zero, List.set_cons_succ])
  refine wpAnyN_one (i := 5) (o := { dst := some 20, op := Go.Op.call { callee := Go.Callee.value (Go.Operand.func 45), args := #[Go.Operand.tmp 19], argTypes := #[1] }, type := 75, pos := "operate.go:77", after := #[{ on := 4, ground := Go.Ground.data }], guard := none }) (by kernel_rfl) rfl (fun K hK => ?_)
  go_simp
  refine HAl.out.mono ?_
  rintro e w3 ⟨rfl, hw3⟩
  rw [HW2.out] at hw3
  subst w3
  refine hK.out _ _ (fun _ => (.inr rfl)) ?_
  clear hK K
  (try simp only [Act.put, List.setIfInBounds_toArray, List.set_cons_zero, List.set_cons_succ])
  refine wpAnyN_one (i := 6) (o := { dst := some 21, op := Go.Op.call { callee := Go.Callee.value (Go.Operand.func 39), args := #[Go.Operand.tmp 15, Go.Operand.const (Go.Value.string { data := #[114, 101, 109, 111, 118, 101] }), Go.Operand.tmp 16, Go.Operand.tmp 17, Go.Operand.tmp 18, Go.Operand.tmp 20], argTypes := #[24, 9, 9, 51, 1, 75] }, type := 26, pos := "operate.go:77", after := #[{ on := 0, ground := Go.Ground.data }, { on := 1, ground := Go.Ground.data }, { on := 2, ground := Go.Ground.data }, { on := 3, ground := Go.Ground.data }, { on := 5, ground := Go.Ground.data }, { on := 5, ground := Go.Ground.chain }], guard := none }) (by kernel_rfl) rfl (fun K hK => ?_)
  go_simp
  refine HO.out.mono ?_
  rintro e w4 ⟨r, sv', clk', F', rfl, hA⟩
  have HR := Lib.hid hA
  clear hA
  refine hK.out _ _ (fun e => absurd (e.symm.trans (by kernel_rfl) : false = true) Bool.false_ne_true) ?_
  clear hK K
  (try simp only [Act.put, List.setIfInBounds_toArray, List.set_cons_zero, List.set_cons_succ])
  refine wpAnyN_of_H (S' := fun _ => True) _ _ _ _ (by kernel_rfl) ?_
  refine wpAnyH_take (i := 7) (oi := { dst := some 4, op := Go.Op.assign (Go.Operand.tmp 21), type := 26, pos := "operate.go:77", after := #[{ on := 6, ground := Go.Ground.data }, { on := 6, ground := Go.Ground.chain }, { on := 0, ground := Go.Ground.phase }, { on := 1, ground := Go.Ground.phase }, { on := 2, ground := Go.Ground.phase }, { on := 3, ground := Go.Ground.phase }, { on := 4, ground := Go.Ground.phase }, { on := 5, ground := Go.Ground.phase }, { on := 6, ground := Go.Ground.phase }], guard := none }) (v := r) rfl (by kernel_rfl) (by kernel_rfl) (by kernel_rfl) (fun _ _ _ h => h) (Or.inl ⟨by kernel_rfl, ?_⟩) trivial ?_
  · (intro X hX; go_simp; try (with_reducible rfl))
  (try simp only [Act.put, List.setIfInBounds_toArray, List.set_cons_zero, List.set_cons_succ])
  refine wpAnyH_done (by kernel_rfl) ?_ _
  --E Remove--
  go_wp2_with fail
  go_ret
  exact HA.out _ _ ⟨r, sv', clk', F', rfl, HR.out⟩
end Go.Proofs.YtbnicjpkfldcdaaDoor
