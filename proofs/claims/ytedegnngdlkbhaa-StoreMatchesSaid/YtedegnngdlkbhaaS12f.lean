/- store: begun. -/
import Derived.Test.YtedegnngdlkbhaaS12e
namespace Go.Proofs.Ytedegnngdlkbhaa
open Go.RowKit

theorem get_bt (s : ByteArray) (k : Nat) (h : k < s.size) : (s[k]'h) = bt (L s) k := by
  rw [bt_getElem (L s) k h]; rfl
theorem take_bt (l : List UInt8) (k : Nat) (hk : k < l.length) : l.take (k + 1) = l.take k ++ [bt l k] := take_snoc l k hk
theorem ltr_le (l : List UInt8) (k : Nat) : (ltr (l.take k)).length ≤ (ltr l).length := by
  have h : ltr l = ltr (l.take k) ++ ltr (l.drop k) := by unfold ltr; rw [← List.filter_append, List.take_append_drop]
  rw [h, List.length_append]; omega

set_option maxHeartbeats 1000000 in
set_option maxRecDepth 100000 in
theorem begun_any (s : ByteArray) (m n : Nat) (w : World) (hn : n = m / 64 + 1) (hnn : n ≤ 1099511627776) (hm : m = (ltr (L s)).length) (hs : s.size ≤ 1099511627776) :
    Calls Try.prog 10 #[.string s, .int .i64 (m : Int)] w fun e w' => ∃ P T Bp Ba ah, e = .returned (.pointer (some ⟨P, 0, none⟩)) ∧ Below w.heap.size w w' ∧ w.heap.size ≤ P ∧ w.heap.size ≤ T ∧ Wk w' P T Bp Ba n ah (L s) (fun j => j == 0) 0 0 := by
  have hmf : ∀ (fn : Fn) (first cap : Array Value) (w : World), (Instr.makeFunc fn first cap).run Try.prog w = .ok (.func fn first cap) w := fun _ _ _ _ => rfl
  have HNo := Lib.hid (fun W (h : W.heap[w.heap.size]? = some (.cells #[.int .i64 (m : Int)] 3 (0, 0))) => none_any w.heap.size m n W hn hnn (cell_of_one h))
  have HN := Lib.hid hn
  have HM := Lib.hid hm
  clear hn hm
  go_enter Try.func10, Try.ntmps10
  have h0 : (w.alloc (.cells #[.int .i64 (m : Int)] 3)).heap[w.heap.size]? = some (.cells #[.int .i64 (m : Int)] 3 (0, 0)) := heap_alloc_new _ _
  go_wp2_with fail
  refine (HNo.out _ h0).mono ?_
  rintro e w1 ⟨rfl, hw1⟩
  have e1 : (w.alloc (.cells #[.int .i64 (m : Int)] 3)).heap.size = w.heap.size + 1 := by simp
  rw [e1]
  have g0 : w1.heap[w.heap.size]? = some (.cells #[.int .i64 (m : Int)] 3 (0, 0)) := by
    rw [hw1, Below.heap_alloc _ _ _ (by simp)]; exact heap_alloc_new _ _
  have g1 : w1.heap[w.heap.size + 1]? = some (zrow n) := by
    rw [hw1, ← e1]; exact heap_alloc_new _ _
  have s1 : w1.heap.size = w.heap.size + 2 := by rw [hw1]; simp
  have b1 : Below w.heap.size w w1 := by rw [hw1]; exact ((Below.refl _ _).alloc (Nat.le_refl _) _).alloc (by simp) _
  clear hw1 h0 e1
  obtain ⟨Z, hZ⟩ : ∃ Z, Z = wzc := ⟨_, rfl⟩
  have hzz : (zeroValue 36).run Try.prog w1 = .ok (.agg Z) w1 := by rw [hZ]; exact wz_zero w1
  have hzs : Z.size = 261 := by rw [hZ]; simp [wzc]
  have hzn : ¬ Z = #[] := by intro e; rw [e] at hzs; cases hzs
  have HZ := Lib.hid hZ
  clear hZ
  go_wp2_with fail
  have h2 : (w1.alloc (.cells (Z.setIfInBounds 258 (.slice (some ⟨w.heap.size + 1, 0, none⟩) n n)) 36)).heap[w.heap.size]? = some (.cells #[.int .i64 (m : Int)] 3 (0, 0)) := by
    rw [Below.heap_alloc _ _ _ (by omega)]; exact g0
  refine (HNo.out _ h2).mono ?_
  rintro e w2 ⟨rfl, hw2⟩
  have e2 : (w1.alloc (.cells (Z.setIfInBounds 258 (.slice (some ⟨w.heap.size + 1, 0, none⟩) n n)) 36)).heap.size = w.heap.size + 3 := by simp [s1]
  rw [e2]
  have k0 : w2.heap[w.heap.size]? = some (.cells #[.int .i64 (m : Int)] 3 (0, 0)) := by rw [hw2, Below.heap_alloc _ _ _ (by omega)]; exact h2
  have k1 : w2.heap[w.heap.size + 1]? = some (zrow n) := by rw [hw2, Below.heap_alloc _ _ _ (by omega), Below.heap_alloc _ _ _ (by omega)]; exact g1
  have k2 : w2.heap[w.heap.size + 2]? = some (.cells (Z.setIfInBounds 258 (.slice (some ⟨w.heap.size + 1, 0, none⟩) n n)) 36 (0, 0)) := by
    rw [hw2, Below.heap_alloc _ _ _ (by omega), ← s1]; exact heap_alloc_new _ _
  have k3 : w2.heap[w.heap.size + 3]? = some (zrow n) := by rw [hw2, ← e2]; exact heap_alloc_new _ _
  have s2 : w2.heap.size = w.heap.size + 4 := by rw [hw2]; simp [s1]
  have b2 : Below w.heap.size w w2 := by rw [hw2]; exact (b1.alloc (by omega) _).alloc (by omega) _
  clear hw2 h2 e2 g0 g1 s1 b1 hzz
  go_wp2_with fail
  refine (HNo.out _ k0).mono ?_
  rintro e w3 ⟨rfl, hw3⟩
  rw [s2]
  have q0 : w3.heap[w.heap.size]? = some (.cells #[.int .i64 (m : Int)] 3 (0, 0)) := by rw [hw3, Below.heap_alloc _ _ _ (by omega)]; exact k0
  have q1 : w3.heap[w.heap.size + 1]? = some (zrow n) := by rw [hw3, Below.heap_alloc _ _ _ (by omega)]; exact k1
  have q2 : w3.heap[w.heap.size + 2]? = some (.cells (Z.setIfInBounds 258 (.slice (some ⟨w.heap.size + 1, 0, none⟩) n n)) 36 (0, 0)) := by rw [hw3, Below.heap_alloc _ _ _ (by omega)]; exact k2
  have q3 : w3.heap[w.heap.size + 3]? = some (zrow n) := by rw [hw3, Below.heap_alloc _ _ _ (by omega)]; exact k3
  have q4 : w3.heap[w.heap.size + 4]? = some (zrow n) := by rw [hw3, ← s2]; exact heap_alloc_new _ _
  have s3 : w3.heap.size = w.heap.size + 5 := by rw [hw3]; simp [s2]
  have b3 : Below w.heap.size w w3 := by rw [hw3]; exact b2.alloc (by omega) _
  clear hw3 k0 k1 k2 k3 s2 b2
  have wk0 : WkB w3 (w.heap.size + 2) (fun _ => .slice none 0 0) (.slice none 0 0) (.slice none 0 0) (.slice (some ⟨w.heap.size + 1, 0, none⟩) n n) 0 0 := by
    have hc : ∀ i, w3.cell? ⟨w.heap.size + 2, i, none⟩ = (Z.setIfInBounds 258 (.slice (some ⟨w.heap.size + 1, 0, none⟩) n n))[i]? := fun i => cell_of_row w3 _ i _ _ _ q2
    have hz : ∀ i, i ≠ 258 → (Z.setIfInBounds 258 (.slice (some ⟨w.heap.size + 1, 0, none⟩) n n))[i]? = wzc[i]? := fun i hi => by
      rw [Array.getElem?_setIfInBounds, if_neg (by omega), HZ.out]
    refine ⟨fun c hcc => ?_, ?_, ?_, ?_, ?_, ?_, fun i _ => frozen_of_row w3 _ i _ _ q2⟩
    · rw [hc, hz _ (by omega)]; unfold wzc; rw [Array.getElem?_append_left (by rw [Array.size_replicate]; omega), Array.getElem?_replicate, if_pos (by omega)]
    · rw [hc, hz _ (by omega)]; rfl
    · rw [hc, hz _ (by omega)]; rfl
    · rw [hc, Array.getElem?_setIfInBounds]; simp [hzs]
    · rw [hc, hz _ (by omega)]; rfl
    · rw [hc, hz _ (by omega)]; rfl
  have f256 := wk0.free 256 (by omega)
  have f257 := wk0.free 257 (by omega)
  have r256 := wk0.c256
  have r257 := wk0.c257
  have bg0 : Bg w.heap.size m n (fun _ => none) [] ((w3.setCell ⟨w.heap.size + 2, 256, none⟩ (.slice (some ⟨w.heap.size + 3, 0, none⟩) n n)).setCell ⟨w.heap.size + 2, 257, none⟩ (.slice (some ⟨w.heap.size + 4, 0, none⟩) n n)) := by
    have o : ∀ b, b ≠ w.heap.size + 2 → ((w3.setCell ⟨w.heap.size + 2, 256, none⟩ (.slice (some ⟨w.heap.size + 3, 0, none⟩) n n)).setCell ⟨w.heap.size + 2, 257, none⟩ (.slice (some ⟨w.heap.size + 4, 0, none⟩) n n)).heap[b]? = w3.heap[b]? := fun b hb => (set_other _ _ _ _ b hb).trans (set_other _ _ _ _ b hb)
    have z : ∀ f : Nat → Bool, (∀ j, f j = false) → ∀ B, B ≠ w.heap.size + 2 → w3.heap[B]? = some (zrow n) → PlR ((w3.setCell ⟨w.heap.size + 2, 256, none⟩ (.slice (some ⟨w.heap.size + 3, 0, none⟩) n n)).setCell ⟨w.heap.size + 2, 257, none⟩ (.slice (some ⟨w.heap.size + 4, 0, none⟩) n n)) B n f := fun f hf B hB e =>
      ((PlR.zrow e).same (o B hB)).congr (fun j => (hf j).symm)
    refine ⟨⟨?_, z _ (fun _ => rfl) _ (by omega) q3, z _ (fun _ => rfl) _ (by omega) q4, z _ (fun _ => rfl) _ (by omega) q1, fun c hc B hB => (by cases hB), fun c hc _ j => (by simp [hasL, ltr]), by omega, by omega, by omega, by omega, by omega⟩, (o _ (by omega)).trans q0, fun c hc B hB => (by cases hB), by simp [World.setCell, s3]⟩
    refine (wk0.put (ah' := fun _ => .slice none 0 0) (vp' := .slice (some ⟨w.heap.size + 3, 0, none⟩) n n) (va' := .slice none 0 0) (vt' := .slice (some ⟨w.heap.size + 1, 0, none⟩) n n) (fr' := 0) (tt' := 0) 256 _ (by omega) (fun c hc => by rw [if_neg (by omega)]) rfl rfl rfl rfl rfl).put 257 _ (by omega) (fun c hc => by rw [if_neg (by omega)]; rfl) rfl rfl rfl rfl rfl
  have bb0 : Below w.heap.size w ((w3.setCell ⟨w.heap.size + 2, 256, none⟩ (.slice (some ⟨w.heap.size + 3, 0, none⟩) n n)).setCell ⟨w.heap.size + 2, 257, none⟩ (.slice (some ⟨w.heap.size + 4, 0, none⟩) n n)) := (b3.setCell (by simp) _).setCell (by simp) _
  have HB0 := Lib.hid bg0
  have HBB := Lib.hid bb0
  clear bg0 bb0 q0 q1 q2 q3 q4 b3 wk0
  go_wp2_with fail
  clear f256 f257 r256 r257
  generalize (w3.setCell ⟨w.heap.size + 2, 256, none⟩ (.slice (some ⟨w.heap.size + 3, 0, none⟩) n n)).setCell ⟨w.heap.size + 2, 257, none⟩ (.slice (some ⟨w.heap.size + 4, 0, none⟩) n n) = w4 at HB0 HBB ⊢
  obtain ⟨H, hH⟩ : ∃ H, H = w.heap.size := ⟨_, rfl⟩
  rw [← hH] at HB0 HBB HNo ⊢
  have HH := Lib.hid hH
  clear hH s3 hzs hzn HZ
  go_loopw [7, 29] (fun pv iv wr => ∃ (k : Nat) (ah : Nat → Option Nat), k ≤ s.size ∧ iv = .int .i64 (k : Int) ∧ pv = .int .i64 (((ltr ((L s).take k)).length : Nat) : Int) ∧ Bg H m n ah ((L s).take k) wr ∧ Below H w wr) (fun _ iv _ => s.size - (intOf iv).toNat)
  case atStart => exact ⟨0, _, Nat.zero_le _, rfl, rfl, HB0.out, HBB.out⟩
  case round =>
    clear HB0 HBB
    obtain ⟨k, ah, hk, rfl, rfl, hg, hb⟩ := hrel
    have hpl := ltr_le (L s) k
    rw [← HM.out] at hpl
    have hpn : (ltr ((L s).take k)).length / 64 < n := by rw [HN.out]; omega
    have hp2 : (ltr ((L s).take k)).length < 4611686018427387904 := by have := HN.out; omega
    have HG := Lib.hid hg
    have HB := Lib.hid hb
    clear hb
    have c256 := hg.wk.blk.c256
    have c257 := hg.wk.blk.c257
    have c258 := hg.wk.blk.c258
    simp only [sl] at c256 c257 c258
    by_cases hlt : k < s.size
    · have ea := get_bt s k hlt
      have hc8 := bt_lt (L s) k
      have HT := Lib.hid (take_bt (L s) k hlt)
      have hAdd := Lib.hid (fun B f X (hX : PlR X B n f) => add_any B n n _ f X hX hpn hp2)
      generalize hcc : bt (L s) k = c at *
      clear hcc
      obtain ⟨q, hq⟩ : ∃ q, q = (L s).take k := ⟨_, rfl⟩
      rw [← hq] at HG HT hAdd hpl hpn hp2 ⊢
      have HQ := Lib.hid hq
      clear hq
      by_cases h42 : c = 42
      · subst h42
        go_wp2_with fail
        refine (hAdd.out _ _ _ HG.out.wk.any).mono ?_
        rintro e w5 ⟨rfl, hw5⟩
        have o5 : ∀ b, b ≠ H + 4 → w5.heap[b]? = wr.heap[b]? := fun b hb => by rw [hw5]; exact set_other _ _ _ _ b hb
        have b5 : Below H w w5 := by rw [hw5]; exact (HB.out.setCell (by simp) _).drew
        have P5 := HG.out.wk.pas.same (o5 _ (by omega))
        have d256 := (HG.out.wk.blk.same (o5 _ (by omega))).c256
        simp only [sl] at d256
        have HW5 := Lib.hid hw5
        clear c256 c257 c258 hw5 o5
        go_wp2_with fail
        refine (hAdd.out _ _ _ P5).mono ?_
        rintro e w6 ⟨rfl, hw6⟩
        have G6 : Bg H m n ah (q ++ [42]) w6 := by rw [hw6, HW5.out]; exact HG.out.star hpn
        have b6 : Below H w w6 := by rw [hw6]; exact (b5.setCell (by simp) _).drew
        have HG6 := Lib.hid (And.intro G6 b6)
        clear G6 b6 hw6 b5 P5 d256 hg
        go_wp2
        go_roundw
        case rel =>
          refine ⟨k + 1, ah, by omega, by push_cast; rfl, ?_, ?_, HG6.out.2⟩
          · rw [HT.out, ltr_snoc]; rfl
          · rw [HT.out]; exact HG6.out.1
        case measure => simp [intOf]; omega
      · by_cases h37 : c = 37
        · subst h37
          go_wp2_with fail
          refine (hAdd.out _ _ _ HG.out.wk.pas).mono ?_
          rintro e w6 ⟨rfl, hw6⟩
          have G6 : Bg H m n ah (q ++ [37]) w6 := by rw [hw6]; exact HG.out.pct hpn
          have b6 : Below H w w6 := by rw [hw6]; exact (HB.out.setCell (by simp) _).drew
          have HG6 := Lib.hid (And.intro G6 b6)
          clear G6 b6 hw6 c256 c257 c258 hg
          go_wp2
          go_roundw
          case rel =>
            refine ⟨k + 1, ah, by omega, by push_cast; rfl, ?_, ?_, HG6.out.2⟩
            · rw [HT.out, ltr_snoc]; rfl
            · rw [HT.out]; exact HG6.out.1
          case measure => simp [intOf]; omega
        · have t42 : (((c.toNat : Nat) : Int) == 42) = false := by rw [beq_eq_false_iff_ne]; intro e; exact h42 (UInt8.toNat_inj.1 (by show c.toNat = 42; omega))
          have t37 : (((c.toNat : Nat) : Int) == 37) = false := by rw [beq_eq_false_iff_ne]; intro e; exact h37 (UInt8.toNat_inj.1 (by show c.toNat = 37; omega))
          have hwc : isW c = false := by unfold isW; simp [h42, h37]
          have HWC := Lib.hid hwc
          clear hwc h42 h37
          have q31 : ∀ (w : World) (a : Option Addr) (n c n' c' : Nat), (binOp .eql 31 (.slice a n c) (.slice none n' c')).run Try.prog w = .ok (.bool a.isNone) w := fun w a n c n' c' => Lib.run_eql_slice_nil w _ _ a n c n' c' Try.underlying31
          have hc8I : (c.toNat : Int) < 256 := by omega
          have cc := hg.wk.blk.ahd c.toNat hc8
          cases hah : ah c.toNat with
          | some B =>
            rw [hah] at cc
            simp only [sl] at cc
            have PB := (HG.out.wk.ahs c.toNat hc8 B hah).1
            rw [UInt8.ofNat_toNat] at PB
            have HAH := Lib.hid hah
            clear hah
            go_wp2_with fail
            refine (hAdd.out _ _ _ PB).mono ?_
            rintro e w6 ⟨rfl, hw6⟩
            have G6 : Bg H m n ah (q ++ [c]) w6 := by rw [hw6]; exact HG.out.letter hpn c HWC.out B HAH.out
            have b6 : Below H w w6 := by rw [hw6]; exact (HB.out.setCell (by have := (HG.out.hi c.toNat hc8 B HAH.out).1; simp; omega) _).drew
            have HG6 := Lib.hid (And.intro G6 b6)
            clear G6 b6 hw6 c256 c257 c258 cc PB hg
            have hp3 : (((ltr q).length : Nat) : Int) + 1 ≤ 4611686018427387904 := by omega
            go_wp2
            go_roundw
            case rel =>
              refine ⟨k + 1, ah, by omega, by push_cast; rfl, ?_, ?_, HG6.out.2⟩
              · rw [HT.out, ltr_snoc, HWC.out]; simp
              · rw [HT.out]; exact HG6.out.1
            case measure => simp [intOf]; omega
          | none =>
            rw [hah] at cc
            simp only [sl] at cc
            have cf := hg.wk.blk.free c.toNat (by omega)
            have hG5 := Lib.hid (HG.out.grow c hah).drew
            clear hah
            have HBX := Lib.hid HG.out.box
            have hsz := HG.out.size
            have ca : (wr.alloc (zrow n)).cell? ⟨H + 2, c.toNat, none⟩ = some (.slice none 0 0) := by rw [World.cell?_of_block (w := wr) (Below.heap_alloc _ _ _ (by show H + 2 < _; omega))]; exact cc
            have cfa : (wr.alloc (zrow n)).frozen? ⟨H + 2, c.toNat, none⟩ = false := by rw [World.frozen?_of_block (w := wr) (Below.heap_alloc _ _ _ (by show H + 2 < _; omega))]; exact cf
            go_upto_region 15 with fail
            go_region_with (refine (HNo.out _ (by exact HBX.out)).mono ?_; rintro e w5 ⟨rfl, rfl⟩)
            have HbY := Lib.hid (show Below H w ((wr.alloc (zrow n)).setCell ⟨H + 2, c.toNat, none⟩ (.slice (some ⟨wr.heap.size, 0, none⟩) n n)).drew from ((HB.out.alloc (by omega) _).setCell (by simp) _).drew)
            generalize ((wr.alloc (zrow n)).setCell ⟨H + 2, c.toNat, none⟩ (.slice (some ⟨wr.heap.size, 0, none⟩) n n)).drew = Y at hG5 HbY ⊢
            have cY := hG5.out.wk.blk.ahd c.toNat hc8
            simp only [if_true, sl] at cY
            have PB := (hG5.out.wk.ahs c.toNat hc8 wr.heap.size (by simp)).1
            rw [UInt8.ofNat_toNat] at PB
            clear cc cf ca cfa c256 c257 c258 hg
            go_wp2_with fail
            refine (hAdd.out _ _ _ PB).mono ?_
            rintro e w6 ⟨rfl, hw6⟩
            have G6 := hG5.out.letter hpn c HWC.out wr.heap.size (by simp)
            rw [← hw6] at G6
            have b6 : Below H w w6 := by rw [hw6]; exact (HbY.out.setCell (by simp; omega) _).drew
            have HG6 := Lib.hid (And.intro G6 b6)
            clear G6 b6 hw6 cY PB
            have hp3 : (((ltr q).length : Nat) : Int) + 1 ≤ 4611686018427387904 := by omega
            go_wp2
            go_roundw
            case rel =>
              refine ⟨k + 1, fun x => if x = c.toNat then some wr.heap.size else ah x, by omega, by push_cast; rfl, ?_, ?_, HG6.out.2⟩
              rotate_left
              · rw [HT.out]; exact HG6.out.1
              · rw [HT.out, ltr_snoc, HWC.out]; simp
            case measure => simp [intOf]; omega
    · have hke : k = s.size := by omega
      have hA0 : Calls Try.prog 21 #[.slice (some ⟨H + 1, 0, none⟩) n n, .int .i64 0] wr fun e w' => e = .returned (.tuple #[]) ∧ w' = (wr.setCell ⟨H + 1, 0, none⟩ (.int .u64 ((wd (fun j => false || j == 0) 0 : Nat) : Int))).drew :=
        add_any (H + 1) n n 0 _ wr HG.out.wk.att (by have := HN.out; omega) (by omega)
      have HA0 := Lib.hid hA0
      have HKE := Lib.hid hke
      clear hA0 hke
      go_wp2_with fail
      refine HA0.out.mono ?_
      rintro e w6 ⟨rfl, hw6⟩
      have hall : (L s).take k = L s := List.take_of_length_le (by rw [L_length, HKE.out]; omega)
      have hg6 := HG.out.wk
      rw [hall] at hg6
      have hw7 : Wk w6 (H + 2) (H + 1) (H + 3) (H + 4) n ah (L s) (fun j => j == 0) 0 0 := by
        rw [hw6]
        refine ((hg6.turn (g := fun j => false || j == 0) 0 (by have := HN.out; omega) _ rfl (fun i _ hi => ?_)).drew).congr (fun i _ => wd_congr _ _ _ (fun b _ => by simp))
        exact add_words (fun _ => false) 0 i hi
      have b6 : Below H w w6 := by rw [hw6]; exact (HB.out.setCell (by simp) _).drew
      have hfin : Hid (Wk w6 (H + 2) (H + 1) (H + 3) (H + 4) n ah (L s) (fun j => j == 0) 0 0 ∧ Below H w w6) := Lib.hid ⟨hw7, b6⟩
      clear hw7 b6 hw6 hg6 hg c256 c257 c258
      go_wp2
      go_ret
      rw [← HH.out]
      exact ⟨H + 2, H + 1, H + 3, H + 4, ah, rfl, hfin.out.2, by omega, by omega, hfin.out.1⟩

end Go.Proofs.Ytedegnngdlkbhaa
