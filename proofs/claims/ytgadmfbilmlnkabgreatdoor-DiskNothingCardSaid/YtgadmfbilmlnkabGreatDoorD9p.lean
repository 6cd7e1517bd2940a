/- disk: tear, the loop. -/
import Derived.Test.YtgadmfbilmlnkabGreatDoorD9o
namespace Go.Proofs.YtgadmfbilmlnkabGreatDoor
open Go.RowKit Go.Lib
open Go.ChangeMaps (setBlock)

theorem wr64 (k : Int) (h1 : -9223372036854775808 ≤ k) (h2 : k ≤ 9223372036854775807) : IntKind.i64.wrap k = k := by simp [IntKind.wrap, IntKind.bits, IntKind.signed]; omega
theorem cut_any {B d m clk : Nat} {sv : Value} {S : DS} {F1 F2 : List FE} {f : FE} {w : World} (h : DiskAt B d m clk sv S (F1 ++ f :: F2) w) (k : Nat) (hk : k ≤ f.data.length) (q : Int) (hq : q = (k : Int)) :
    Calls Tryz.prog 78 #[.pointer (some ⟨d, 0, none⟩), .pointer (some ⟨f.blk, 0, none⟩), .int .i64 q] w fun e w' => e = .returned (.tuple #[]) ∧ ∃ v, DiskAt B d m clk sv S (F1 ++ f.cutTo k v :: F2) w' ∧ Stays (fpOf d m sv (F1 ++ f :: F2)) w w' ∧
      ∀ b, b ∈ fpOf d m sv (F1 ++ f.cutTo k v :: F2) → b ∈ fpOf d m sv (F1 ++ f :: F2) ∨ w.heap.size ≤ b := by
  subst hq
  by_cases hl : k < f.data.length
  · exact cut_part h k hl
  · have e : k = f.data.length := by omega
    subst e
    have hd := (h.files f (by simp)).dur
    have ef : f.cutTo f.data.length f.row = f := by
      unfold FE.cutTo
      rw [List.take_of_length_le (Nat.le_refl _), Nat.min_eq_left hd]
    refine (cut_whole h).mono ?_
    rintro e w' ⟨rfl, rfl⟩
    exact ⟨rfl, f.row, by rw [ef]; exact h, Stays.refl _ _, fun b hb => by rw [ef] at hb; exact .inl hb⟩
theorem Tearing.step {B d m clk r : Nat} {sv : Value} {S : DS} {F : List FE} {rest : Int} {w : World} {seen : Array Nat} {F1 F2 : List FE} {f : FE} {X X1 : World} (h : Tearing B d m clk r sv S F rest w seen (F1 ++ f :: F2) X) (hX1 : X1 = X ∨ X1 = X.drew) :
    DiskAt B d m clk sv S (F1 ++ f :: F2) (putObj X1 r (.mapIter (some m) clk (seen.push f.born) clk)) ∧ (Instr.entry (.pointer (some ⟨r, 0, none⟩))).run Tryz.prog (putObj X1 r (.mapIter (some m) clk (seen.push f.born) clk)) = .ok (.tuple #[.string f.name, .pointer (some ⟨f.blk, 0, none⟩)]) (putObj X1 r (.mapIter (some m) clk (seen.push f.born) clk)) := by
  have hz : X1.heap.size = X.heap.size := by rcases hX1 with rfl | rfl <;> rfl
  have hh : ∀ b : Nat, X1.heap[b]? = X.heap[b]? := by rcases hX1 with rfl | rfl <;> exact fun _ => rfl
  have hrl : r < X.heap.size := lt_of_heap h.iter
  have hD : DiskAt B d m clk sv S (F1 ++ f :: F2) (putObj X1 r (.mapIter (some m) clk (seen.push f.born) clk)) := h.disk.same (by rw [putObj_size]; omega) (fun b hb => by rw [putObj_ne (b := b) _ (fun e => h.out (by rw [← e]; exact hb)), hh])
  refine ⟨hD, ?_⟩
  have := run_entry_at (P := Tryz.prog) (putObj X1 r (.mapIter (some m) clk (seen.push f.born) clk)) r m clk seen ((F1 ++ f :: F2).map FE.entry).toArray clk f.entry (putObj_at _ (by omega)) hD.map (by simp) (by
    have hb := h.disk.borns
    simpa [FE.entry, Function.comp_def] using hb)
  exact this
set_option maxHeartbeats 4000000 in
theorem tear_any {B d m clk : Nat} {sv : Value} {S : DS} {F : List FE} {w : World} (h : DiskAt B d m clk sv S F w) (rest : Int) (hr1 : -9223372036854775808 ≤ rest) (hr2 : rest ≤ 9223372036854775807) :
    Calls Tryz.prog 67 #[.pointer (some ⟨d, 0, none⟩), .int .i64 rest] w fun e w' => e = .returned (.tuple #[]) ∧ Did B d m sv { S with runs := false } F w ((F.map FE.pl).map (tornP rest)) w' := by
  have c5 := h.cells.c5
  have hrg := run_rangeM h.map
  have hbn := h.borns
  have HN := Lib.hid hbn
  have hT0 : Tearing B d m clk w.heap.size sv S F rest w #[] F (w.alloc (.mapIter (some m) clk #[] clk)) := ⟨h.alloc _, heap_alloc_new w _, rfl, by simp, fun e => Nat.lt_irrefl _ (h.lt e), Nat.le_refl _, (Stays.refl _ _).alloc _, fun b hb => .inl hb⟩
  have HT0 := Lib.hid hT0
  clear h hbn hT0
  generalize w.heap.size = r at *
  go_enter Tryz.func67, Tryz.ntmps67
  go_wp2
  go_loopg [5] (F.countP (fun g => !(#[] : Array Nat).contains g.born)) (fun gg _ wr => ∃ (seen : Array Nat) (F' : List FE) (X : World), X = wr ∧ F.countP (fun g => !seen.contains g.born) ≤ gg ∧ Tearing B d m clk r sv S F rest w seen F' X)
  case atStart => exact ⟨#[], F, _, rfl, Nat.le_refl _, HT0.out⟩
  case round =>
    obtain ⟨seen, F', X, hX, hgg, hT⟩ := hrel
    subst hX
    have c3 := hT.disk.cells.c3
    have f3 := hT.disk.cells.f3
    rcases run_next_at (P := Tryz.prog) X 0 r m clk clk seen (F'.map FE.entry).toArray clk hT.iter hT.disk.map (by
      intro x hx
      simp only [List.mem_map] at hx
      obtain ⟨f, hf, rfl⟩ := hx
      exact hT.disk.born f hf) (Nat.le_refl _) with ⟨h0, hnx⟩ | ⟨e, he, w1, hw1, hnx⟩
    · have HE := Lib.hid (hT.end h0)
      clear hT h0
      go_wp2
      first | refine bodyPost_end (results_none rfl _ _ _) rfl ?_ | refine bodyPost_ret (results_none rfl _ _ _) rfl ?_
      exact ⟨rfl, HE.out⟩
    · obtain ⟨F1, f, F2, rfl, rfl, hun⟩ := leftOf_mem he
      obtain ⟨hDY, hent⟩ := hT.step hw1
      obtain ⟨Y, hY⟩ : ∃ Y, Y = putObj w1 r (.mapIter (some m) clk (seen.push f.born) clk) := ⟨_, rfl⟩
      have hn2 : (Instr.next (.pointer (some ⟨r, 0, none⟩)) false 0).run Tryz.prog X = .ok (.tuple #[.bool true, .string f.name, .pointer (some ⟨f.blk, 0, none⟩)]) Y := by rw [hY]; exact hnx
      rw [← hY] at hDY hent
      obtain ⟨a, c, _, ⟨c0, c1, _⟩⟩ := hDY.fileC (f := f) (by simp)
      have hd := (hDY.files f (by simp)).dur
      have hub : f.data.length ≤ 1048576 := by
        have h1 := hDY.fits
        have h2 := hDY.quota
        rw [usedF_mid] at h1
        omega
      obtain ⟨l1, l2, l3⟩ := leftP_le rest f.pl hd
      have HW := Lib.hid (fun W => within_any rest ((f.data.length : Int) - (f.dur : Int)) W hr1 hr2 (by omega) (by omega))
      have HC := Lib.hid (fun W (hW : DiskAt B d m clk sv S (F1 ++ f :: F2) W) => cut_any hW (leftP rest f.pl) l1 _ l3.symm)
      obtain ⟨hq0, hq1⟩ := wth_bd rest ((f.data.length : Int) - (f.dur : Int)) (by omega)
      have HTo := Lib.hid (fun X2 f1 hn hbo hdat hlen hD hS hfp => hT.torn (X2 := X2) hw1 hun HN.out f1 hn hbo hdat hlen hD hS hfp)
      have HDY := Lib.hid hDY
      have HY := Lib.hid hY
      have HL : Hid ((f.data.take (leftP rest f.pl)).length = leftP rest f.pl) := Lib.hid (by rw [List.length_take]; exact Nat.min_eq_left l1)
      have hdz : (f.dur : Int) ≤ (f.data.length : Int) := by omega
      clear hT hun hnx hDY hY he l1 l2 l3 c5 hrg
      change Hid (∀ W, Calls _ _ _ W _) at HW
      change Hid (∀ W (_ : DiskAt B d m clk sv S (F1 ++ f :: F2) W), Calls Tryz.prog 78 #[_, _, .int .i64 ((f.dur : Int) + wth rest ((f.data.length : Int) - (f.dur : Int)))] W _) at HC
      generalize wth rest ((f.data.length : Int) - (f.dur : Int)) = q at *
      have hwr : IntKind.i64.wrap ((f.dur : Int) + q) = (f.dur : Int) + q := wr64 _ (by omega) (by omega)
      go_wp2
      go_region
      go_wp2_with fail
      go_region_with (first | (go_at_call 38; refine (HW.out _).mono ?_; rintro e w3 ⟨rfl, rfl⟩) | (go_at_call 78; refine (HC.out _ HDY.out.drew.drew).mono ?_; rintro e X2 ⟨rfl, v, hD2, hS2, hM2⟩))
      all_goals
        obtain ⟨a2, c2, _, ⟨d0, d1, dz⟩⟩ := hD2.fileC (f := f.cutTo (leftP rest f.pl) v) (by simp)
        have hSY : Stays (fpOf d m sv (F1 ++ f :: F2)) Y X2 := ((Stays.refl _ Y).drew.drew).trans hS2 (fun b hb => .inl hb)
        have hR := HTo.out X2 (f.cutTo (leftP rest f.pl) v) rfl rfl rfl HL.out hD2 (by rw [← HY.out]; exact hSY) (fun b hb => by
          rcases hM2 b hb with e | e
          · exact .inl e
          · exact .inr (by have : Y.drew.drew.heap.size = w1.heap.size := by rw [HY.out]; exact putObj_size _
                           omega))
        have HR := Lib.hid hR
        have hn3 : (f.cutTo (leftP rest f.pl) v).blk = f.blk := rfl
        rw [hn3] at d0 d1 dz
        clear hD2 hS2 hM2 hSY hR HTo hn3
        go_wp2_with fail
        go_roundg (F.countP (fun g => !(seen.push f.born).contains g.born))
        case rel => exact ⟨_, _, _, rfl, Nat.le_refl _, HR.out.1⟩
        case measure => exact Nat.lt_of_lt_of_le HR.out.2 hgg
end Go.Proofs.YtgadmfbilmlnkabGreatDoor
