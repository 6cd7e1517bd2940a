/- disk: Read, Size, Peek. -/
import Derived.Test.YtgadmfbilmlnkabGreatDoorD9w
namespace Go.Proofs.YtgadmfbilmlnkabGreatDoor
open Go.RowKit Go.Lib

def dataP (n : ByteArray) (P : List PF) : List UInt8 := match P.find? (fun p => decide (p.name = n)) with | none => [] | some p => p.data
def readT (S : DS) (P : List PF) (n : ByteArray) : ByteArray := if S.runs = true ∧ S.due = none ∧ lookC P n = 0 then Proofs.YtgadmfbilmlnkabGreatDoor.S (dataP n P) else ⟨#[]⟩
theorem isFn_51 : IsFn 41 := isFn_of Tryz.func41 (by kernel_rfl) (by kernel_rfl)
theorem isFn_52 : IsFn 42 := isFn_of Tryz.func42 (by kernel_rfl) (by kernel_rfl)
theorem Read2_any (y : Int) (w : World) : Calls Tryz.prog 42 #[.int .i64 y] w fun e w' => e = .returned (.tuple #[]) ∧ w' = w := by
  go_enter Tryz.func42, Tryz.ntmps42
  go_wp2
  first | refine bodyPost_end (results_none rfl _ _ _) rfl ?_ | refine bodyPost_ret (results_none rfl _ _ _) rfl ?_
  exact ⟨rfl, rfl⟩
theorem conv_nil (w : World) : (convert 81 9 (.slice none 0 0)).run Tryz.prog w = .ok (.string ⟨#[]⟩) w := by kernel_rfl
/-- string(f.data). -/
theorem back_own {w : World} {B : Nat} {v : Value} {l : List UInt8} (h : w.ownsRow B 5 1 v l.length (bc l)) : (convert 81 9 v).run Tryz.prog w = .ok (.string (S l)) w := by
  rcases h.2 with ⟨rfl, h0⟩ | ⟨g, cap, cur, rfl, _, hg, hnc, _, _, htake⟩
  · have : l = [] := List.eq_nil_of_length_eq_zero h0
    subst this
    exact conv_nil w
  · refine back_row w 81 9 5 g l.length cap l rfl Tryz.underlying81 Tryz.underlying5 Tryz.underlying9 (fun j hj => ?_)
    have := h.cells (g := g) rfl j (.int .u8 ((bt l j).toNat : Int)) (by simp [bc, bt, hj])
    have e : (⟨g, 0, none⟩ : Addr).add j = ⟨g, j, none⟩ := by
      unfold Addr.add; split
      · rename_i h; rw [h]
      · simp
    rw [e] at this
    exact this
theorem Read1_any {B d m clk : Nat} {sv : Value} {S : DS} {F1 F2 : List FE} {f : FE} {w : World} (h : DiskAt B d m clk sv S (F1 ++ f :: F2) w) (k0 k1 : Nat) (t : ByteArray) (c0 : w.cell? ⟨k0, 0, none⟩ = some (.pointer (some ⟨f.blk, 0, none⟩))) (c1 : w.cell? ⟨k1, 0, none⟩ = some (.string t)) (z1 : w.frozen? ⟨k1, 0, none⟩ = false) :
    Calls Tryz.prog 41 #[.pointer (some ⟨k0, 0, none⟩), .pointer (some ⟨k1, 0, none⟩)] w fun e w' => e = .returned (.tuple #[]) ∧ w' = w.setCell ⟨k1, 0, none⟩ (.string (Proofs.YtgadmfbilmlnkabGreatDoor.S f.data)) := by
  obtain ⟨a, c, hsh, ⟨b0, b1, bz⟩⟩ := h.fileC (f := f) (by simp)
  have hcv := back_own (h.files f (by simp)).row
  rw [hsh] at hcv
  clear h hsh
  go_enter Tryz.func41, Tryz.ntmps41
  go_wp2
  first | refine bodyPost_end (results_none rfl _ _ _) rfl ?_ | refine bodyPost_ret (results_none rfl _ _ _) rfl ?_
  exact ⟨rfl, rfl⟩
def sRead : ByteArray := ⟨#[114, 101, 97, 100]⟩
/-- Behind a Read. -/
def AfterRead (A : Whys) (B d m : Nat) (sv : Value) (S : DS) (F : List FE) (n : ByteArray) (w : World) (e : Ending) (w' : World) : Prop :=
  ∃ r, e = .returned (.tuple #[.string (readT S (F.map FE.pl) n), r]) ∧ After A B d m sv S F sRead n (lookC (F.map FE.pl) n) (F.map FE.pl) (fun _ => F.map FE.pl) w (.returned r) w'
theorem Size_no {B d m clk : Nat} {sv : Value} {S : DS} {F : List FE} {w : World} (h : DiskAt B d m clk sv S F w) (n : ByteArray) (hno : ∀ g, g ∈ F → g.name ≠ n) :
    Calls Tryz.prog 60 #[.pointer (some ⟨d, 0, none⟩), .string n] w fun e w' => e = .returned (.int .i64 (-1)) ∧ w' = w := by
  have HF := Lib.hid (find_no h n hno)
  clear h hno
  go_enter Tryz.func60, Tryz.ntmps60
  go_wp2_with (go_at_call 64; refine HF.out.mono ?_; rintro e w2 ⟨rfl, rfl⟩)
  go_ret
  exact ⟨rfl, rfl⟩
theorem Size_hit {B d m clk : Nat} {sv : Value} {S : DS} {F1 F2 : List FE} {f : FE} {w : World} (h : DiskAt B d m clk sv S (F1 ++ f :: F2) w) (n : ByteArray) (hn : f.name = n) :
    Calls Tryz.prog 60 #[.pointer (some ⟨d, 0, none⟩), .string n] w fun e w' => e = .returned (.int .i64 (f.data.length : Int)) ∧ w' = w := by
  have HF := Lib.hid (find_hit h n hn (by rw [← hn]; exact (names_tail h.names).1))
  obtain ⟨a, c, hsh, ⟨b0, b1, bz⟩⟩ := h.fileC (f := f) (by simp)
  clear h hn hsh
  go_enter Tryz.func60, Tryz.ntmps60
  go_wp2_with (go_at_call 64; refine HF.out.mono ?_; rintro e w2 ⟨rfl, rfl⟩)
  go_ret
  exact ⟨rfl, rfl⟩
def sizeP (n : ByteArray) (P : List PF) : Int := match P.find? (fun p => decide (p.name = n)) with | none => -1 | some p => p.data.length
theorem find_none {F : List FE} {n : ByteArray} (h : ∀ g, g ∈ F → g.name ≠ n) : (F.map FE.pl).find? (fun p => decide (p.name = n)) = none := by
  rw [List.find?_eq_none]
  intro p hp
  obtain ⟨g, hg, rfl⟩ := List.mem_map.1 hp
  simp [FE.pl, h g hg]
theorem Size_any {B d m clk : Nat} {sv : Value} {S : DS} {F : List FE} {w : World} (h : DiskAt B d m clk sv S F w) (n : ByteArray) :
    Calls Tryz.prog 60 #[.pointer (some ⟨d, 0, none⟩), .string n] w fun e w' => e = .returned (.int .i64 (sizeP n (F.map FE.pl))) ∧ w' = w := by
  rcases fe_split n F with ⟨F1, f, F2, rfl, hn, h1⟩ | hno
  · have : sizeP n ((F1 ++ f :: F2).map FE.pl) = (f.data.length : Int) := by unfold sizeP; rw [find_pl hn h1]; rfl
    rw [this]; exact Size_hit h n hn
  · have : sizeP n (F.map FE.pl) = -1 := by unfold sizeP; rw [find_none hno]
    rw [this]; exact Size_no h n hno
theorem dataP_hit {F1 F2 : List FE} {f : FE} {n : ByteArray} (hn : f.name = n) (h1 : ∀ g, g ∈ F1 → g.name ≠ n) : dataP n ((F1 ++ f :: F2).map FE.pl) = f.data := by
  unfold dataP; rw [find_pl hn h1]; rfl
set_option maxHeartbeats 4000000 in
theorem Read_any {A : Whys} {B d m clk : Nat} {sv : Value} {S : DS} {F : List FE} {w : World} (h : DiskAt B d m clk sv S F w) (he : Env A B w) (hok : S.ok) (hn : S.steps < 1000000000) (n : ByteArray) (hns : n.size ≤ 140737488355328) :
    Calls Tryz.prog 12 #[.pointer (some ⟨d, 0, none⟩), .string n] w fun e w' => AfterRead A B d m sv S F n w e w' := by
  obtain ⟨pv, c, hlook, hc, hcase⟩ := look_all h n hns
  obtain ⟨hb1, cA, cB, hz1⟩ := box2_facts w (.string ⟨#[]⟩) (.pointer pv) 9 78
  obtain ⟨W0, hW0⟩ : ∃ W0, w.alloc (.cells #[.string ⟨#[]⟩] 9) = W0 := ⟨_, rfl⟩
  obtain ⟨W1, hW1⟩ : ∃ W1, (w.alloc (.cells #[.string ⟨#[]⟩] 9)).alloc (.cells #[.pointer pv] 78) = W1 := ⟨_, rfl⟩
  simp only [box2] at hb1 cA cB hz1
  rw [hW1] at hb1 cA cB hz1
  have hb0 : Below w.heap.size w W0 := by rw [← hW0]; exact (Below.refl _ _).alloc (Nat.le_refl _) _
  have HL := Lib.hid (hlook W0 (h.below hb0))
  have hD1 := h.below hb1
  have hE1 := he.below (hb1.mono h.size)
  have hoA : w.heap.size ∉ fpOf d m sv F := h.far (Nat.le_refl _)
  have hoB : w.heap.size + 1 ∉ fpOf d m sv F := h.far (by omega)
  have hlA := World.block_lt_of_cell? W1 _ cA
  have hlB := World.block_lt_of_cell? W1 _ cB
  have zA : W1.frozen? ⟨w.heap.size, 0, none⟩ = false := by
    have h1 : W1.heap[w.heap.size]? = some (.cells #[.string ⟨#[]⟩] 9 (0, 0)) := by
      rw [← hW1, Below.heap_alloc _ _ _ (by simp)]; exact heap_alloc_new _ _
    exact frozen_of h1 0
  have HO : Hid (Calls Tryz.prog 39 #[.pointer (some ⟨d, 0, none⟩), .string sRead, .string n, .int .i64 c, .func (.func 41) #[] #[.pointer (some ⟨w.heap.size + 1, 0, none⟩), .pointer (some ⟨w.heap.size, 0, none⟩)], .func (.func 42) #[] #[]] W1 fun e w' => ∃ r, e = .returned r ∧ After A B d m sv S F sRead n c (F.map FE.pl) (fun _ => F.map FE.pl) w (.returned r) w' ∧ w'.cell? ⟨w.heap.size, 0, none⟩ = some (.string (readT S (F.map FE.pl) n))) := Lib.hid (by
    by_cases hok1 : S.runs = true ∧ S.due = none ∧ c = 0
    · obtain ⟨hr, hdue, hc0⟩ := hok1
      have ht : readT S (F.map FE.pl) n = Proofs.YtgadmfbilmlnkabGreatDoor.S (dataP n (F.map FE.pl)) := by unfold readT; rw [if_pos ⟨hr, hdue, by rw [← hc]; exact hc0⟩]
      rcases hcase with ⟨hne, _⟩ | ⟨_, _, F1, f, F2, rfl, hfn, rfl⟩
      · exact absurd hc0 hne
      · rw [ht, dataP_hit hfn (by rw [← hfn]; exact (names_tail h.names).1)]
        subst hc0
        refine (operate_whole hD1 hr hok hn hdue sRead n _ _ _ _ (fun W W' => W' = W.setCell ⟨w.heap.size, 0, none⟩ (.string (Proofs.YtgadmfbilmlnkabGreatDoor.S f.data))) isFn_51 (fun W hW hS => Read1_any hW _ _ ⟨#[]⟩ (by rw [hS.cell hlB hoB]; exact cB) (by rw [hS.cell hlA hoA]; exact cA) (by rw [hS.frozen hlA hoA]; exact zA))).mono ?_
        rintro e w' ⟨rfl, W, hW, hS, rfl⟩
        have hWc : W.cell? ⟨w.heap.size, 0, none⟩ = some (.string ⟨#[]⟩) := by rw [hS.cell hlA hoA]; exact cA
        refine ⟨.nilIface, rfl, ⟨.nilIface, sv, clk, _, rfl, ?_, ?_, ?_, fun b hb => .inl hb, .inl ⟨?_, rfl⟩⟩, ?_⟩
        · have en : S.next = S.step.tick := by unfold DS.next; rw [if_pos hr, hdue]
          rw [en]
          exact hW.setCell (p := ⟨w.heap.size, 0, none⟩) hoA _
        · unfold nextF; rw [if_pos hr, hdue, if_pos rfl]
        · exact Stays.setCell (p := ⟨w.heap.size, 0, none⟩) ((Stays.ofBelow hb1).trans hS (fun b hb => .inl hb)) (.inr (Nat.le_refl _)) _
        · unfold errC; rw [if_pos hr, hdue]
        · exact World.cell?_setCell_same' _ _ _ (by rw [hWc]; rfl)
    · have ht : readT S (F.map FE.pl) n = ⟨#[]⟩ := by unfold readT; rw [if_neg (by rw [← hc]; exact hok1)]
      rw [ht]
      refine (operate_after hD1 hE1 hok hn sRead n c _ _ _ _ isFn_51 isFn_52 (F.map FE.pl) (fun _ => F.map FE.pl) (fun a1 a2 a3 => absurd ⟨a2, a3, a1⟩ hok1) (fun _ _ y W sv' _ hW hS hM => ?_)).mono ?_
      · refine (Read2_any y W).mono ?_
        rintro e w' ⟨rfl, rfl⟩
        exact ⟨rfl, Did.refl hW⟩
      · rintro e w' ⟨r, sv', clk', F', rfl, hA⟩
        refine ⟨r, rfl, After.ahead hb1 ⟨r, sv', clk', F', rfl, hA⟩, ?_⟩
        rw [hA.2.2.1.cell hlA hoA]; exact cA)
  have HZ0 : Hid (W0.heap.size = w.heap.size + 1) := Lib.hid (by rw [← hW0]; simp)
  have HW0 := Lib.hid hW0
  have HW1 := Lib.hid hW1
  have HA : Hid (∀ r w', After A B d m sv S F sRead n c (F.map FE.pl) (fun _ => F.map FE.pl) w (.returned r) w' → AfterRead A B d m sv S F n w (.returned (.tuple #[.string (readT S (F.map FE.pl) n), r])) w') := Lib.hid (fun r w' hA => ⟨r, rfl, by rw [← hc]; exact hA⟩)
  clear h he hok hn hns hlook hc hcase hb1 hz1 cA cB hD1 hE1 hoA hoB hlA hlB zA hW0 hW1 hb0
  go_enter Tryz.func12, Tryz.ntmps12
  go_upto_region 2 with fail
  rw [HW0.out]
  go_upto_region 3 with (go_at_call 40; refine HL.out.mono ?_; rintro e w2 ⟨rfl, hw2⟩; subst w2)
  have HW1' : Hid (W0.alloc (.cells #[.pointer pv] 78) = W1) := Lib.hid (by rw [← HW0.out]; exact HW1.out)
  rw [HW1'.out, HZ0.out]
  go_wp2_with (go_at_call 39; refine HO.out.mono ?_; rintro e w4 ⟨r, rfl, hA, ct⟩; have HR := Lib.hid hA; clear hA)
  go_ret2
  exact HA.out _ _ HR.out
end Go.Proofs.YtgadmfbilmlnkabGreatDoor
