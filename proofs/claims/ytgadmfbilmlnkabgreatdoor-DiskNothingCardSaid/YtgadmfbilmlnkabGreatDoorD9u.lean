/- disk: look, allOrNothing, Sync. -/
import Derived.Test.YtgadmfbilmlnkabGreatDoorD9t
namespace Go.Proofs.YtgadmfbilmlnkabGreatDoor
open Go.RowKit Go.Lib

theorem look_bad {d : Nat} (n : ByteArray) (w : World) (hns : n.size ≤ 140737488355328) (hn : isNm n = false) :
    Calls Tryz.prog 40 #[.pointer (some ⟨d, 0, none⟩), .string n] w fun e w' => e = .returned (.tuple #[.pointer none, .int .i64 90]) ∧ w' = w := by
  have HN := Lib.hid (isName_any n w hns)
  rw [hn] at HN
  clear hn
  go_enter Tryz.func40, Tryz.ntmps40
  go_wp2_with (go_at_call 34; refine HN.out.mono ?_; rintro e w2 ⟨rfl, rfl⟩)
  go_ret2
  exact ⟨rfl, rfl⟩
theorem look_no {B d m clk : Nat} {sv : Value} {S : DS} {F : List FE} {w : World} (h : DiskAt B d m clk sv S F w) (n : ByteArray) (hns : n.size ≤ 140737488355328) (hn : isNm n = true) (hno : ∀ g, g ∈ F → g.name ≠ n) :
    Calls Tryz.prog 40 #[.pointer (some ⟨d, 0, none⟩), .string n] w fun e w' => e = .returned (.tuple #[.pointer none, .int .i64 91]) ∧ w' = w := by
  have HN := Lib.hid (isName_any n w hns)
  rw [hn] at HN
  have HF := Lib.hid (find_no h n hno)
  clear hn h hno
  go_enter Tryz.func40, Tryz.ntmps40
  go_wp2_with (first | (go_at_call 34; refine HN.out.mono ?_; rintro e w2 ⟨rfl, rfl⟩) | (go_at_call 64; refine HF.out.mono ?_; rintro e w2 ⟨rfl, rfl⟩))
  go_ret2
  exact ⟨rfl, rfl⟩
theorem look_hit {B d m clk : Nat} {sv : Value} {S : DS} {F1 F2 : List FE} {f : FE} {w : World} (h : DiskAt B d m clk sv S (F1 ++ f :: F2) w) (n : ByteArray) (hns : n.size ≤ 140737488355328) (hn : isNm n = true) (hf : f.name = n) :
    Calls Tryz.prog 40 #[.pointer (some ⟨d, 0, none⟩), .string n] w fun e w' => e = .returned (.tuple #[.pointer (some ⟨f.blk, 0, none⟩), .int .i64 0]) ∧ w' = w := by
  have HN := Lib.hid (isName_any n w hns)
  rw [hn] at HN
  have HF := Lib.hid (find_hit h n hf (by rw [← hf]; exact (names_tail h.names).1))
  clear hn h hf
  go_enter Tryz.func40, Tryz.ntmps40
  go_wp2_with (first | (go_at_call 34; refine HN.out.mono ?_; rintro e w2 ⟨rfl, rfl⟩) | (go_at_call 64; refine HF.out.mono ?_; rintro e w2 ⟨rfl, rfl⟩))
  go_ret2
  exact ⟨rfl, rfl⟩
def lookC (P : List PF) (n : ByteArray) : Int := if isNm n = true then (if hasP n P = true then 0 else 91) else 90
/-- What look answers, in one. -/
theorem look_all {B d m clk : Nat} {sv : Value} {S : DS} {F : List FE} {w : World} (h : DiskAt B d m clk sv S F w) (n : ByteArray) (hns : n.size ≤ 140737488355328) :
    ∃ pv c, (∀ W, DiskAt B d m clk sv S F W → Calls Tryz.prog 40 #[.pointer (some ⟨d, 0, none⟩), .string n] W fun e w' => e = .returned (.tuple #[.pointer pv, .int .i64 c]) ∧ w' = W) ∧ c = lookC (F.map FE.pl) n ∧
      ((c ≠ 0 ∧ pv = none) ∨ (c = 0 ∧ isNm n = true ∧ ∃ F1 f F2, F = F1 ++ f :: F2 ∧ f.name = n ∧ pv = some ⟨f.blk, 0, none⟩)) := by
  cases hn : isNm n with
  | false => exact ⟨none, 90, fun W _ => look_bad n W hns hn, by unfold lookC; rw [hn]; rfl, .inl ⟨by decide, rfl⟩⟩
  | true =>
    rcases fe_split n F with ⟨F1, f, F2, rfl, hf, _⟩ | hno
    · exact ⟨_, 0, fun W hW => look_hit hW n hns hn hf, by unfold lookC; rw [hn, hasP_hit hf]; rfl, .inr ⟨rfl, rfl, F1, f, F2, rfl, hf, rfl⟩⟩
    · exact ⟨none, 91, fun W hW => look_no hW n hns hn hno, by unfold lookC; rw [hn, hasP_no hno]; rfl, .inl ⟨by decide, rfl⟩⟩
theorem allOr_any (fv : Value) (w : World) (wn : Nat) (wc : Array Value) (hf : fv = .func (.func wn) #[] wc) :
    Calls Tryz.prog 72 #[fv] w fun e w' => e = .returned (.func (.func 86) #[] #[.pointer (some ⟨w.heap.size, 0, none⟩)]) ∧ w' = w.alloc (.cells #[fv] 1) := by
  subst hf
  go_enter Tryz.func72, Tryz.ntmps72
  go_wp2
  go_ret
  exact ⟨rfl, rfl⟩
theorem isFn_70 : IsFn 86 := isFn_of Tryz.func86 (by kernel_rfl) (by kernel_rfl)
theorem allOr1_any {B d m clk : Nat} {sv : Value} {S : DS} {F : List FE} {w : World} (h : DiskAt B d m clk sv S F w) (k wn : Nat) (wc : Array Value) (c0 : w.cell? ⟨k, 0, none⟩ = some (.func (.func wn) #[] wc)) (hwn : IsFn wn) (G : List PF) (hW : Calls Tryz.prog wn wc w fun e W' => e = .returned (.tuple #[]) ∧ Did B d m sv S F w G W') (y : Int) :
    Calls Tryz.prog 86 #[.int .i64 y, .pointer (some ⟨k, 0, none⟩)] w fun e w' => e = .returned (.tuple #[]) ∧ Did B d m sv S F w (if 1 ≤ y then G else F.map FE.pl) w' := by
  have hcf := hwn wc
  by_cases hy : 1 ≤ y
  · rw [if_pos hy]
    have HW := Lib.hid hW
    clear hW h
    go_enter Tryz.func86, Tryz.ntmps86
    go_wp2_with fail
    refine HW.out.mono ?_
    rintro e w2 ⟨rfl, hD⟩
    have HD := Lib.hid hD
    clear hD
    go_wp2_with fail
    first | refine bodyPost_end (results_none rfl _ _ _) rfl ?_ | refine bodyPost_ret (results_none rfl _ _ _) rfl ?_
    exact ⟨rfl, HD.out⟩
  · rw [if_neg hy]
    have HR := Lib.hid (Did.refl h)
    have hy2 : y < 1 := by omega
    clear hW h
    go_enter Tryz.func86, Tryz.ntmps86
    go_wp2_with fail
    first | refine bodyPost_end (results_none rfl _ _ _) rfl ?_ | refine bodyPost_ret (results_none rfl _ _ _) rfl ?_
    exact ⟨rfl, HR.out⟩
theorem isFn_42 : IsFn 71 := isFn_of Tryz.func71 (by kernel_rfl) (by kernel_rfl)
theorem Did.drewR {B d m : Nat} {sv : Value} {S : DS} {F : List FE} {w w' : World} {G : List PF} (h : Did B d m sv S F w G w') : Did B d m sv S F w G w'.drew := by
  obtain ⟨clk, F', hD, hG, hS, hM⟩ := h
  exact ⟨clk, F', hD.drew, hG, hS.drew, hM⟩
def syncP (p : PF) : PF := { p with dur := p.data.length }
set_option maxHeartbeats 2000000 in
theorem Sync1_any {B d m clk : Nat} {sv : Value} {S : DS} {F1 F2 : List FE} {f : FE} {w : World} (h : DiskAt B d m clk sv S (F1 ++ f :: F2) w) (k : Nat) (c0 : w.cell? ⟨k, 0, none⟩ = some (.pointer (some ⟨f.blk, 0, none⟩))) :
    Calls Tryz.prog 71 #[.pointer (some ⟨k, 0, none⟩)] w fun e w' => e = .returned (.tuple #[]) ∧ Did B d m sv S (F1 ++ f :: F2) w (modP f.name syncP ((F1 ++ f :: F2).map FE.pl)) w' := by
  obtain ⟨a, c, _, ⟨b0, b1, bz⟩⟩ := h.fileC (f := f) (by simp)
  obtain ⟨hD, hS, hfp⟩ := sync_world h
  have HE : Hid (Did B d m sv S (F1 ++ f :: F2) w (modP f.name syncP ((F1 ++ f :: F2).map FE.pl)) (w.setCell ⟨f.blk, 1, none⟩ (.int .i64 (f.data.length : Int)))) := Lib.hid ⟨clk, _, hD, modP_hit rfl h.names rfl, hS, fun b hb => .inl (by rw [hfp] at hb; exact hb)⟩
  clear h hD hS hfp
  go_enter Tryz.func71, Tryz.ntmps71
  go_region
  first | refine bodyPost_end (results_none rfl _ _ _) rfl ?_ | refine bodyPost_ret (results_none rfl _ _ _) rfl ?_
  exact ⟨rfl, HE.out.drewR⟩
def sSync : ByteArray := ⟨#[115, 121, 110, 99]⟩
theorem DiskAt.far {B d m clk : Nat} {sv : Value} {S : DS} {F : List FE} {w : World} (h : DiskAt B d m clk sv S F w) {k : Nat} (hk : w.heap.size ≤ k) : k ∉ fpOf d m sv F := fun e => by have := h.lt e; omega
theorem box1_cell {w w' : World} {v : Value} {t : TypeId} (hb : Below (w.heap.size + 1) (w.alloc (.cells #[v] t)) w') : w'.cell? ⟨w.heap.size, 0, none⟩ = some v := by
  have h1 : w'.heap[w.heap.size]? = some (.cells #[v] t (0, 0)) := by
    rw [hb.block _ (by omega)]; exact heap_alloc_new _ _
  exact cell_of h1 0
set_option maxHeartbeats 4000000 in
theorem Sync_any {A : Whys} {B d m clk : Nat} {sv : Value} {S : DS} {F : List FE} {w : World} (h : DiskAt B d m clk sv S F w) (he : Env A B w) (hok : S.ok) (hn : S.steps < 1000000000) (n : ByteArray) (hns : n.size ≤ 140737488355328) :
    Calls Tryz.prog 50 #[.pointer (some ⟨d, 0, none⟩), .string n] w fun e w' => After A B d m sv S F sSync n (lookC (F.map FE.pl) n) (modP n syncP (F.map FE.pl)) (fun y => if 1 ≤ y then modP n syncP (F.map FE.pl) else F.map FE.pl) w e w' := by
  obtain ⟨pv, c, hlook, hc, hcase⟩ := look_all h n hns
  have HL := Lib.hid (hlook w h)
  rw [← hc]
  obtain ⟨W1, hW1⟩ : ∃ W1, w.alloc (.cells #[.pointer pv] 78) = W1 := ⟨_, rfl⟩
  have hb1 : Below w.heap.size w W1 := by rw [← hW1]; exact (Below.refl _ _).alloc (Nat.le_refl _) _
  have hz1 : W1.heap.size = w.heap.size + 1 := by rw [← hW1]; simp
  have HAl := Lib.hid (allOr_any (.func (.func 71) #[] #[.pointer (some ⟨w.heap.size, 0, none⟩)]) W1 _ _ rfl)
  obtain ⟨W2, hW2⟩ : ∃ W2, W1.alloc (.cells #[.func (.func 71) #[] #[.pointer (some ⟨w.heap.size, 0, none⟩)]] 1) = W2 := ⟨_, rfl⟩
  have hb2 : Below W1.heap.size W1 W2 := by rw [← hW2]; exact (Below.refl _ _).alloc (Nat.le_refl _) _
  have hbb : Below w.heap.size w W2 := hb1.trans (hb2.mono (by omega))
  have cA : W2.cell? ⟨w.heap.size, 0, none⟩ = some (.pointer pv) := box1_cell (by rw [hW1]; exact hb2.mono (by omega))
  have cB : W2.cell? ⟨W1.heap.size, 0, none⟩ = some (.func (.func 71) #[] #[.pointer (some ⟨w.heap.size, 0, none⟩)]) := box1_cell (by rw [hW2]; exact Below.refl _ _)
  have hD2 := h.below hbb
  have hE2 := he.below (hbb.mono h.size)
  have hoA : w.heap.size ∉ fpOf d m sv F := h.far (Nat.le_refl _)
  have hoB : W1.heap.size ∉ fpOf d m sv F := h.far (by omega)
  have hlA := World.block_lt_of_cell? W2 _ cA
  have hlB := World.block_lt_of_cell? W2 _ cB
  have HO : Hid (Calls Tryz.prog 39 #[.pointer (some ⟨d, 0, none⟩), .string sSync, .string n, .int .i64 c, .func (.func 71) #[] #[.pointer (some ⟨w.heap.size, 0, none⟩)], .func (.func 86) #[] #[.pointer (some ⟨W1.heap.size, 0, none⟩)]] W2 fun e w' => After A B d m sv S F sSync n c (modP n syncP (F.map FE.pl)) (fun y => if 1 ≤ y then modP n syncP (F.map FE.pl) else F.map FE.pl) W2 e w') := Lib.hid (by
    rcases hcase with ⟨hc0, _⟩ | ⟨rfl, _, F1, f, F2, rfl, rfl, rfl⟩
    · exact operate_after hD2 hE2 hok hn sSync n c _ _ _ _ isFn_42 isFn_70 _ _ (fun e => absurd e hc0) (fun e => absurd e hc0)
    · refine operate_after hD2 hE2 hok hn sSync f.name 0 _ _ _ _ isFn_42 isFn_70 _ _ (fun _ _ _ W hW hS => ?_) (fun _ _ y W sv' _ hW hS hM => ?_)
      · exact Sync1_any hW _ (by rw [hS.cell hlA hoA]; exact cA)
      · exact allOr1_any hW _ _ _ (by rw [hS.cell hlB hoB]; exact cB) isFn_42 _ (Sync1_any hW _ (by rw [hS.cell hlA hoA]; exact cA)) y)
  have HA := Lib.hid (fun e w' (hc : After A B d m sv S F sSync n c (modP n syncP (F.map FE.pl)) (fun y => if 1 ≤ y then modP n syncP (F.map FE.pl) else F.map FE.pl) W2 e w') => After.ahead hbb hc)
  have HW1 := Lib.hid hW1
  have HW2 := Lib.hid hW2
  clear h he hok hn hns hlook hc hcase hb1 hz1 hb2 hbb cA cB hD2 hE2 hoA hoB hlA hlB hW1 hW2
  go_enter Tryz.func50, Tryz.ntmps50
  go_upto_region 2 with (go_at_call 40; refine HL.out.mono ?_; rintro e w2 ⟨rfl, hw2⟩; subst w2)
  rw [HW1.out]
  go_wp2_with (first | (go_at_call 72; refine HAl.out.mono ?_; rintro e w3 ⟨rfl, hw3⟩; rw [HW2.out] at hw3; subst w3) | (go_at_call 39; refine HO.out.mono ?_; rintro e w4 ⟨r, sv', clk', F', rfl, hA⟩; have HR := Lib.hid hA; clear hA))
  go_ret
  exact HA.out _ _ ⟨r, sv', clk', F', rfl, HR.out⟩
end Go.Proofs.YtgadmfbilmlnkabGreatDoor
