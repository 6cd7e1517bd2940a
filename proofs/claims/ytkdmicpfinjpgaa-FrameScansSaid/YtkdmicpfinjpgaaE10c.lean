/- frame: the reference's Laid. -/
import Derived.Test.YtkdmicpfinjpgaaE10a
namespace Go.Proofs.Ytkdmicpfinjpgaa
open Go.RowKit

theorem b3a {w w2 w3 : World} {o : Obj} (h2 : Below (w.alloc o).drew.heap.size (w.alloc o).drew w2) (h3 : Below w2.heap.size w2 w3) : Below w.heap.size w w3 := by
  have q : Below w.heap.size w (w.alloc o).drew := ((Below.refl _ _).alloc (Nat.le_refl _) _).drew
  have q2 := q.trans (h2.mono q.size)
  exact q2.trans (h3.mono q2.size)
theorem b3b {w w2 w3 : World} {o : Obj} (h2 : Below w.drew.heap.size w.drew w2) (h3 : Below (w2.alloc o).heap.size (w2.alloc o) w3) : Below w.heap.size w w3 := by
  have q : Below w.heap.size w w.drew := (Below.refl _ _).drew
  have q2 := q.trans (h2.mono q.size)
  have q3 : Below w.heap.size w (w2.alloc o) := q2.alloc q2.size _
  exact q3.trans (h3.mono q3.size)
theorem b3c {w w2 w3 : World} (o : Obj) (h2 : Below w.drew.heap.size w.drew w2) (h3 : Below w2.heap.size w2 w3) : Below w.heap.size w (w3.alloc o) := by
  have q : Below w.heap.size w w.drew := (Below.refl _ _).drew
  have q2 := q.trans (h2.mono q.size)
  have q3 := q2.trans (h3.mono q2.size)
  exact q3.alloc q3.size _
theorem b45 {w w3 w5 w7 : World} (h3 : Below w.heap.size w w3) (h5 : Below w3.heap.size w3 w5) (h7 : Below w5.heap.size w5 w7) : Below w.heap.size w w7 := by
  have q := h3.trans (h5.mono h3.size)
  exact q.trans (h7.mono q.size)
theorem keepsA {W Y : World} {o : Obj} (h : Below (W.alloc o).heap.size (W.alloc o) Y) : Y.heap[W.heap.size]? = some o := keeps h (heap_alloc_last W o)
theorem keepsD {W Y : World} {o : Obj} (h : Below (W.heap.size + 1) (W.alloc o) Y) : Y.heap[W.heap.size]? = some o := by rw [h.block _ (Nat.lt_succ_self _)]; exact heap_alloc_last W o
set_option maxHeartbeats 2000000 in
theorem Laid_any (k n : Nat) (s : ByteArray) (w : World) (hk : k < 256) (hn : n < 4294967296) (hs : s.size ≤ 2097152) :
    Calls Try.prog 17 #[.int .i64 183, .int .i64 (k : Int), .int .i64 (n : Int), .int .i64 (s.size : Int), .string s] w fun e w' => e = .returned (.string (S (frm k n (L s)))) ∧ Below w.heap.size w w' := by
  have hkb : (k : Int) % 256 = k := by omega
  have hcs : #[Value.int .u8 183, .int .u8 (k : Int)] = (bc [183, u8 k]).toArray := by
    simp only [bc, List.map_cons, List.map_nil, u8_toNat]
    rw [Nat.mod_eq_of_lt hk]
    rfl
  have hcA : ∀ (X : World) (b : Nat), X.heap[b]? = some (.cells #[.int .u8 183, .int .u8 (k : Int)] 5) → (convert 56 9 (.slice (some ⟨b, 0, none⟩) 2 2)).run Try.prog X = .ok (.string (S [183, u8 k])) X := fun X b h => conv_at X b [183, u8 k] _ 2 hcs rfl h
  have h1 : ∀ W : World, (convert 56 9 (.slice (some ⟨W.heap.size, 0, none⟩) 2 2)).run Try.prog (W.alloc (.cells #[.int .u8 183, .int .u8 (k : Int)] 5)) = .ok (.string (S [183, u8 k])) (W.alloc (.cells #[.int .u8 183, .int .u8 (k : Int)] 5)) := fun W => hcA _ _ (heap_alloc_last W _)
  have h2 : ∀ W : World, (convert 56 9 (.slice (some ⟨W.heap.size, 0, none⟩) 2 2)).run Try.prog (W.alloc (.cells #[.int .u8 183, .int .u8 (k : Int)] 5)).drew = .ok (.string (S [183, u8 k])) (W.alloc (.cells #[.int .u8 183, .int .u8 (k : Int)] 5)).drew := fun W => hcA _ _ (heap_alloc_last W _)
  have HCA := Lib.hid hcA
  have HKP : Hid (∀ (W Y : World), Below (W.alloc (.cells #[.int .u8 183, .int .u8 (k : Int)] 5)).drew.heap.size (W.alloc (.cells #[.int .u8 183, .int .u8 (k : Int)] 5)).drew Y → Y.heap[W.heap.size]? = some (.cells #[.int .u8 183, .int .u8 (k : Int)] 5)) := Lib.hid (fun W Y h => keeps h (heap_alloc_last W _))
  have HKQ : Hid (∀ (W Y : World), Below (W.alloc (.cells #[.int .u8 183, .int .u8 (k : Int)] 5)).heap.size (W.alloc (.cells #[.int .u8 183, .int .u8 (k : Int)] 5)) Y → Y.heap[W.heap.size]? = some (.cells #[.int .u8 183, .int .u8 (k : Int)] 5)) := Lib.hid (fun W Y h => keeps h (heap_alloc_last W _))
  have z0 : (S [183, u8 k]).size = 2 := rfl
  have z1 : (S (be4 n)).size = 4 := rfl
  have z2 : (S (be4 s.size)).size = 4 := rfl
  have z3 : (S [183, u8 k] ++ S (be4 n)).size = 6 := by rw [ByteArray.size_append]; rfl
  have z4 : S [183, u8 k] ++ S (be4 n) ++ S (be4 s.size) = S (hdr k n s.size) := by rw [S_append, S_append]; rfl
  have hw1 : IntKind.u8.wrap 183 = 183 := by decide
  have hw2 : IntKind.u8.wrap (k : Int) = (k : Int) := by rw [IntKind.wrap_u8']; exact hkb
  have HF1 := Lib.hid (fun W => four_any n W hn)
  have HF2 := Lib.hid (fun W => four_any s.size W (by omega))
  clear hcA hcs
  have HS1 : Hid (∀ W : World, Calls Try.prog 30 #[.string (S (hdr k n s.size))] W fun e w' => e = .returned (.int .i64 (crc (hdr k n s.size) : Nat)) ∧ W = w') := Lib.hid (fun W => by
    have := refSum_any (S (hdr k n s.size)) W (by rw [S_size]; simp [hdr_length])
    rwa [L_S] at this)
  have HF3 := Lib.hid (fun W => four_any (crc (hdr k n s.size)) W (crc_lt _))
  have HS2 : Hid (∀ W : World, Calls Try.prog 30 #[.string (S (frmA k n (L s)))] W fun e w' => e = .returned (.int .i64 (crc (frmA k n (L s)) : Nat)) ∧ W = w') := Lib.hid (fun W => by
    have := refSum_any (S (frmA k n (L s))) W (by rw [S_size, frmA_length, L_length]; omega)
    rwa [L_S] at this)
  have HF4 := Lib.hid (fun W => four_any (crc (frmA k n (L s))) W (crc_lt _))
  have y0 : (S (hdr k n s.size)).size = 10 := rfl
  have y1 : (S (be4 (crc (hdr k n s.size)))).size = 4 := rfl
  have y2 : S (hdr k n s.size) ++ S (be4 (crc (hdr k n s.size))) = S (frm14 k n s.size) := by rw [S_append, L_S]; rfl
  have y3 : (S (frm14 k n s.size)).size = 14 := rfl
  have y4 : S (frm14 k n s.size) ++ s = S (frmA k n (L s)) := by rw [S_append]; unfold frmA; rw [L_length]
  have y5 : (S (frmA k n (L s))).size = 14 + s.size := by rw [S_size, frmA_length, L_length]
  have y6 : (S (be4 (crc (frmA k n (L s))))).size = 4 := rfl
  have y7 : S (frmA k n (L s)) ++ S (be4 (crc (frmA k n (L s)))) = S (frm k n (L s)) := by rw [S_append, L_S]; rfl
  go_enter Try.func17, Try.ntmps17
  go_wp2
  go_region_with (first | (go_at_call 29; with_reducible refine (HF1.out _).mono ?_; rintro e w2 ⟨rfl, hb2⟩; (try (have hh2 := HKP.out _ _ hb2; have hq2 := HCA.out _ _ hh2))) | (go_at_call 29; with_reducible refine (HF2.out _).mono ?_; rintro e w3 ⟨rfl, hb3⟩; (try (have hh3 := keeps hb3 hh2; have hq3 := HCA.out _ _ hh3)); (try (have hh4 := HKQ.out _ _ hb3; have hq4 := HCA.out _ _ hh4))))
  all_goals (simp only [Exit.then])
  all_goals
    clear h1 h2 HCA HKP HKQ HF1 HF2 z0 z1 z2 z3 z4
    (first
      | (have hb9 := b3a hb2 hb3)
      | (have hb9 := b3b hb2 hb3)
      | (have hb9 := b3c (.cells #[.int .u8 183, .int .u8 (k : Int)] 5) hb2 hb3))
    go_wp2_with (first | (go_at_call 30; (first | with_reducible refine (HS1.out _).mono ?_ | with_reducible refine (HS2.out _).mono ?_); rintro e w4 ⟨rfl, rfl⟩) | (go_at_call 29; with_reducible refine (HF3.out _).mono ?_; rintro e w5 ⟨rfl, hb5⟩) | (go_at_call 29; with_reducible refine (HF4.out _).mono ?_; rintro e w7 ⟨rfl, hb7⟩))
    go_ret
    exact ⟨rfl, b45 hb9 hb5 hb7⟩
end Go.Proofs.Ytkdmicpfinjpgaa
