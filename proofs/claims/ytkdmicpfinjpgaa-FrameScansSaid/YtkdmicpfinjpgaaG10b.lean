/- frame: the reference's one. -/
import Derived.Test.YtkdmicpfinjpgaaG10a
namespace Go.Proofs.Ytkdmicpfinjpgaa
open Go.RowKit

/-- What one has made when it has read a frame's fields. -/
structure Dq (w : World) (k n a : Int) (b : ByteArray) (X : World) : Prop where
  below : Below w.heap.size w X
  out : X.heap[w.heap.size]? = some (.cells #[.int .i64 0, .int .i64 0, .int .i64 0, .string ⟨#[]⟩] 47)
  fr : X.heap[w.heap.size + 1]? = some (.cells #[.int .i64 k, .int .i64 n, .int .i64 a, .string b] 47)
theorem Dq.late (w : World) (k n a : Int) (b : ByteArray) (m : Nat) : Dq w k n a b (((w.alloc (.cells #[.int .i64 0, .int .i64 0, .int .i64 0, .string ⟨#[]⟩] 47)).drewN m).alloc (.cells #[.int .i64 k, .int .i64 n, .int .i64 a, .string b] 47)) := by
  refine ⟨(below_drewN ((Below.refl _ _).alloc (Nat.le_refl _) _) m).alloc (by simp [World.drewN]) _, ?_, ?_⟩
  · show ((w.heap.push _).push _)[w.heap.size]? = _
    simp [Array.getElem?_push]
  · have e : w.heap.size + 1 = ((w.alloc (.cells #[.int .i64 0, .int .i64 0, .int .i64 0, .string ⟨#[]⟩] 47)).drewN m).heap.size := by simp
    rw [e]
    exact heap_alloc_last _ _
theorem Dq.early (w : World) (k n a : Int) (b : ByteArray) (m : Nat) : Dq w k n a b (((((((w.alloc (.cells #[.int .i64 0, .int .i64 0, .int .i64 0, .string ⟨#[]⟩] 47)).alloc (.cells #[.int .i64 0, .int .i64 0, .int .i64 0, .string ⟨#[]⟩] 47)).drewN m).setCell ⟨w.heap.size + 1, 0, none⟩ (.int .i64 k)).setCell ⟨w.heap.size + 1, 1, none⟩ (.int .i64 n)).setCell ⟨w.heap.size + 1, 2, none⟩ (.int .i64 a)).setCell ⟨w.heap.size + 1, 3, none⟩ (.string b)) := by
  have e : ((w.alloc (.cells #[.int .i64 0, .int .i64 0, .int .i64 0, .string ⟨#[]⟩] 47)).alloc (.cells #[.int .i64 0, .int .i64 0, .int .i64 0, .string ⟨#[]⟩] 47)).drewN m = ((w.alloc (.cells #[.int .i64 0, .int .i64 0, .int .i64 0, .string ⟨#[]⟩] 47)).drewN m).alloc (.cells #[.int .i64 0, .int .i64 0, .int .i64 0, .string ⟨#[]⟩] 47) := rfl
  have hsz : w.heap.size + 1 = ((w.alloc (.cells #[.int .i64 0, .int .i64 0, .int .i64 0, .string ⟨#[]⟩] 47)).drewN m).heap.size := by simp
  rw [e, World.setCell_alloc_at _ _ _ _ _ hsz, World.setCell_alloc_at _ _ _ _ _ hsz, World.setCell_alloc_at _ _ _ _ _ hsz, World.setCell_alloc_at _ _ _ _ _ hsz]
  exact Dq.late w k n a b m
theorem Dq.early2 (w : World) (k n a : Int) (b : ByteArray) (m m' : Nat) : Dq w k n a b ((((((((w.alloc (.cells #[.int .i64 0, .int .i64 0, .int .i64 0, .string ⟨#[]⟩] 47)).drewN m).alloc (.cells #[.int .i64 0, .int .i64 0, .int .i64 0, .string ⟨#[]⟩] 47)).drewN m').setCell ⟨w.heap.size + 1, 0, none⟩ (.int .i64 k)).setCell ⟨w.heap.size + 1, 1, none⟩ (.int .i64 n)).setCell ⟨w.heap.size + 1, 2, none⟩ (.int .i64 a)).setCell ⟨w.heap.size + 1, 3, none⟩ (.string b)) := by
  have e : (((w.alloc (.cells #[.int .i64 0, .int .i64 0, .int .i64 0, .string ⟨#[]⟩] 47)).drewN m).alloc (.cells #[.int .i64 0, .int .i64 0, .int .i64 0, .string ⟨#[]⟩] 47)).drewN m' = ((w.alloc (.cells #[.int .i64 0, .int .i64 0, .int .i64 0, .string ⟨#[]⟩] 47)).alloc (.cells #[.int .i64 0, .int .i64 0, .int .i64 0, .string ⟨#[]⟩] 47)).drewN (m + m') := by rw [← World.drewN_drewN]; rfl
  rw [e]
  exact Dq.early w k n a b (m + m')
theorem Dq.on {w : World} {k n a : Int} {b : ByteArray} {X Y : World} (h : Dq w k n a b X) (hb : Below X.heap.size X Y) : Dq w k n a b Y := ⟨h.below.trans (hb.mono h.below.size), keeps hb h.out, keeps hb h.fr⟩
theorem Dq.cells {w : World} {k n a : Int} {b : ByteArray} {X : World} (h : Dq w k n a b X) :
    X.cell? ⟨w.heap.size + 1, 0, none⟩ = some (.int .i64 k) ∧ X.cell? ⟨w.heap.size + 1, 1, none⟩ = some (.int .i64 n) ∧ X.cell? ⟨w.heap.size + 1, 2, none⟩ = some (.int .i64 a) ∧ X.cell? ⟨w.heap.size + 1, 3, none⟩ = some (.string b) ∧
    X.frozen? ⟨w.heap.size + 1, 3, none⟩ = false ∧
    X.cell? ⟨w.heap.size, 0, none⟩ = some (.int .i64 0) ∧ X.cell? ⟨w.heap.size, 1, none⟩ = some (.int .i64 0) ∧ X.cell? ⟨w.heap.size, 2, none⟩ = some (.int .i64 0) ∧ X.cell? ⟨w.heap.size, 3, none⟩ = some (.string ⟨#[]⟩) ∧
    X.frozen? ⟨w.heap.size, 0, none⟩ = false ∧ X.frozen? ⟨w.heap.size, 1, none⟩ = false ∧ X.frozen? ⟨w.heap.size, 2, none⟩ = false ∧ X.frozen? ⟨w.heap.size, 3, none⟩ = false := by
  refine ⟨cell_of_row _ _ 0 _ _ _ h.fr, cell_of_row _ _ 1 _ _ _ h.fr, cell_of_row _ _ 2 _ _ _ h.fr, cell_of_row _ _ 3 _ _ _ h.fr, frozen_of_row _ _ 3 _ _ h.fr, cell_of_row _ _ 0 _ _ _ h.out, cell_of_row _ _ 1 _ _ _ h.out, cell_of_row _ _ 2 _ _ _ h.out, cell_of_row _ _ 3 _ _ _ h.out, frozen_of_row _ _ 0 _ _ h.out, frozen_of_row _ _ 1 _ _ h.out, frozen_of_row _ _ 2 _ _ h.out, frozen_of_row _ _ 3 _ _ h.out⟩
/-- The reference's test of a frame, and ours. -/
theorem ref_isF (s : ByteArray) (i n : Nat) (hn : w4 (L s) (i + 6) = n) :
    isF ((L s).drop i) ↔ encE ((bt (L s) (i + 1)).toNat : Int) (w4 (L s) (i + 2) : Nat) (L (s.extract (i + 14) (i + 14 + n))) = 0 ∧ encS ((bt (L s) (i + 1)).toNat : Int) (w4 (L s) (i + 2) : Nat) (L (s.extract (i + 14) (i + 14 + n))) = s.extract i (i + 18 + n) := by
  have hbod : L (s.extract (i + 14) (i + 14 + n)) = bodyF ((L s).drop i) := by
    rw [L_extract]; unfold bodyF; rw [w4_drop, hn, List.drop_drop, List.drop_take]; congr 1; omega
  have hall : L (s.extract i (i + 18 + n)) = ((L s).drop i).take (n + 18) := by
    rw [L_extract, List.drop_take]; congr 1; omega
  rw [hbod]
  have ek : (bt ((L s).drop i) 1).toNat = (bt (L s) (i + 1)).toNat := by rw [bt_drop]
  have en : w4 ((L s).drop i) 2 = w4 (L s) (i + 2) := by rw [w4_drop]
  constructor
  · intro h
    have ho := isF_ok h
    have ht := isF_take h
    rw [ek, en] at ho ht
    rw [w4_drop, hn] at ht
    have h0 : encE ((bt (L s) (i + 1)).toNat : Int) (w4 (L s) (i + 2) : Nat) (bodyF ((L s).drop i)) = 0 := encE_ok.2 ⟨by omega, by omega, by simpa using ho⟩
    refine ⟨h0, ?_⟩
    unfold encS
    rw [if_pos h0]
    simp only [Int.toNat_natCast]
    rw [← ht, ← hall]; rfl
  · rintro ⟨h0, h1⟩
    have ho := (encE_ok.1 h0).2.2
    unfold encS at h1
    rw [if_pos h0] at h1
    simp only [Int.toNat_natCast] at h1 ho
    have h2 : frm (bt (L s) (i + 1)).toNat (w4 (L s) (i + 2)) (bodyF ((L s).drop i)) = ((L s).drop i).take (n + 18) := by rw [← hall, ← h1]; rfl
    have h3 := isF_frm ho (((L s).drop i).drop (n + 18))
    rw [h2, List.take_append_drop] at h3
    exact h3
theorem body_ext (s : ByteArray) (i n : Nat) (hn : w4 (L s) (i + 6) = n) : L (s.extract (i + 14) (i + 14 + n)) = bodyF ((L s).drop i) := by
  rw [L_extract]; unfold bodyF; rw [w4_drop, hn, List.drop_drop, List.drop_take]; congr 1; omega
theorem value_at (s : ByteArray) (i : Nat) (j : Int) (w : World) (hj : j = (i : Int)) (hi : i + 4 ≤ s.size) (hs : s.size ≤ 140737488355328) :
    Calls Try.prog 35 #[.string s, .int .i64 j] w fun e w' => e = .returned (.int .i64 (w4 (L s) i : Nat)) ∧ ∃ n, w' = w.drewN n := by
  subst hj; exact value_any s i w hi hs
def oneV (l : List UInt8) (i : Nat) : Value := if isF (l.drop i) then frV (frAt l i).kind (frAt l i).num i (S (frAt l i).body) else frV 0 0 0 ⟨#[]⟩
def oneN (l : List UInt8) (i : Nat) : Nat := if isF (l.drop i) then (frAt l i).ends else 0
set_option maxHeartbeats 4000000 in
theorem one_any (s : ByteArray) (i : Nat) (w : World) (hi : i ≤ s.size) (hs : s.size ≤ 140737488355328) :
    Calls Try.prog 27 #[.string s, .int .i64 (i : Int)] w fun e w' => e = .returned (.tuple #[oneV (L s) i, .int .i64 (oneN (L s) i : Nat)]) ∧ Below w.heap.size w w' := by
  generalize hR : Value.tuple #[oneV (L s) i, .int .i64 (oneN (L s) i : Nat)] = R
  have HR := Lib.hid hR
  clear hR
  have HNo : Hid (¬ isF ((L s).drop i) → Value.tuple #[frV 0 0 0 ⟨#[]⟩, .int .i64 0] = R) := Lib.hid (fun h => by rw [← HR.out]; unfold oneV oneN; rw [if_neg h, if_neg h]; rfl)
  by_cases h1 : s.size < i + 18
  · have hn : ¬ isF ((L s).drop i) := fun h => by have := h.1; rw [List.length_drop, L_length] at this; omega
    have HN := Lib.hid hn
    clear hn
    have h1i : (s.size : Int) < (i : Int) + 18 := by omega
    go_enter Try.func27, Try.ntmps27
    go_wp2
    refine bodyPost_ret (v := .tuple #[frV 0 0 0 ⟨#[]⟩, .int .i64 0]) ((res2 rfl _ _ w.heap.size 47 #[.int .i64 0, .int .i64 0, .int .i64 0, .string ⟨#[]⟩] (0, 0) _ rfl (heap_alloc_last w _) Try.underlying47 rfl frame_size).trans rfl) rfl ?_
    exact ⟨by rw [HNo.out HN.out], (Below.refl _ _).alloc (Nat.le_refl _) _⟩
  · have h1i : ¬ (s.size : Int) < (i : Int) + 18 := by omega
    have HV := Lib.hid (fun w => value_at s (i + 6) ((i : Int) + 6) w (by omega) (by omega) hs)
    have HV2 := Lib.hid (fun w => value_at s (i + 2) ((i : Int) + 2) w (by omega) (by omega) hs)
    have HRef := Lib.hid (ref_isF s i)
    obtain ⟨n, hn⟩ : ∃ n, n = w4 (L s) (i + 6) := ⟨_, rfl⟩
    have hnl : n < 4294967296 := by rw [hn]; exact w4_lt _ _
    rw [← hn] at HV
    have HW := Lib.hid hn
    clear hn
    by_cases h2 : 2097152 < n ∨ s.size < i + 18 + n
    · have hn : ¬ isF ((L s).drop i) := fun h => by
        have q1 := h.2.2.2.2.2.1; have q2 := h.2.2.2.2.2.2.1
        rw [w4_drop, ← HW.out] at q1 q2
        rw [List.length_drop, L_length] at q2
        omega
      have HN := Lib.hid hn
      clear hn
      go_enter Try.func27, Try.ntmps27
      go_wp2_with fail
      refine (HV.out _).mono ?_
      rintro e w2 ⟨rfl, n2, rfl⟩
      have hX : Below w.heap.size w ((w.alloc (.cells #[.int .i64 0, .int .i64 0, .int .i64 0, .string ⟨#[]⟩] 47)).drewN n2) := below_drewN ((Below.refl _ _).alloc (Nat.le_refl _) _) n2
      have hO : ((w.alloc (.cells #[.int .i64 0, .int .i64 0, .int .i64 0, .string ⟨#[]⟩] 47)).drewN n2).heap[w.heap.size]? = some (.cells #[.int .i64 0, .int .i64 0, .int .i64 0, .string ⟨#[]⟩] 47) := heap_alloc_last w _
      generalize (w.alloc (.cells #[.int .i64 0, .int .i64 0, .int .i64 0, .string ⟨#[]⟩] 47)).drewN n2 = X at hX hO ⊢
      have c0 : X.cell? ⟨w.heap.size, 0, none⟩ = some (.int .i64 0) := cell_of_row _ _ 0 _ _ _ hO
      have c1 : X.cell? ⟨w.heap.size, 1, none⟩ = some (.int .i64 0) := cell_of_row _ _ 1 _ _ _ hO
      have c2 : X.cell? ⟨w.heap.size, 2, none⟩ = some (.int .i64 0) := cell_of_row _ _ 2 _ _ _ hO
      have c3 : X.cell? ⟨w.heap.size, 3, none⟩ = some (.string ⟨#[]⟩) := cell_of_row _ _ 3 _ _ _ hO
      have f0 := frozen_of_row _ _ 0 _ _ hO
      have f1 := frozen_of_row _ _ 1 _ _ hO
      have f2 := frozen_of_row _ _ 2 _ _ hO
      have f3 := frozen_of_row _ _ 3 _ _ hO
      have HX := Lib.hid hX
      have HO := Lib.hid hO
      clear hX hO
      by_cases h3 : 2097152 < n
      · have h3i : (2097152 : Int) < (n : Int) := by omega
        go_wp2
        refine bodyPost_ret (v := .tuple #[frV 0 0 0 ⟨#[]⟩, .int .i64 0]) ((res2 rfl _ _ w.heap.size 47 #[.int .i64 0, .int .i64 0, .int .i64 0, .string ⟨#[]⟩] (0, 0) _ rfl (put4 HO.out rfl) Try.underlying47 rfl frame_size).trans rfl) rfl ?_
        exact ⟨by rw [HNo.out HN.out], put4_below HX.out⟩
      · have h3i : ¬ (2097152 : Int) < (n : Int) := by omega
        have h4i : (s.size : Int) < (i : Int) + 18 + (n : Int) := by omega
        clear h2
        go_wp2
        refine bodyPost_ret (v := .tuple #[frV 0 0 0 ⟨#[]⟩, .int .i64 0]) ((res2 rfl _ _ w.heap.size 47 #[.int .i64 0, .int .i64 0, .int .i64 0, .string ⟨#[]⟩] (0, 0) _ rfl (put4 HO.out rfl) Try.underlying47 rfl frame_size).trans rfl) rfl ?_
        exact ⟨by rw [HNo.out HN.out], put4_below HX.out⟩
    · have h3i : ¬ (2097152 : Int) < (n : Int) := by omega
      have h4i : ¬ (s.size : Int) < (i : Int) + 18 + (n : Int) := by omega
      have b1 : i + 1 < s.size := by omega
      have k1 : (i : Int) + 1 < (s.size : Int) := by omega
      have z1 : (0 : Int) ≤ (i : Int) + 1 := by omega
      have n1 : ((i : Int) + 1).toNat = i + 1 := by omega
      have v1 : IntKind.i64.wrap ((i : Int) + 1) = (i : Int) + 1 := by rw [IntKind.wrap_i64]; omega
      have v2 : IntKind.i64.wrap ((i : Int) + 2) = (i : Int) + 2 := by rw [IntKind.wrap_i64]; omega
      have v14 : IntKind.i64.wrap ((i : Int) + 14) = (i : Int) + 14 := by rw [IntKind.wrap_i64]; omega
      have v15 : IntKind.i64.wrap ((i : Int) + 14 + (n : Int)) = (i : Int) + 14 + (n : Int) := by rw [IntKind.wrap_i64]; omega
      have n14 : ((i : Int) + 14).toNat = i + 14 := by omega
      have n15 : ((i : Int) + 14 + (n : Int)).toNat = i + 14 + n := by omega
      have l14 : (0 : Int) ≤ (i : Int) + 14 := by omega
      have l15 : (i : Int) + 14 ≤ (i : Int) + 14 + (n : Int) := by omega
      have l16 : (i : Int) + 14 + (n : Int) ≤ (s.size : Int) := by omega
      have hbt := s[i + 1].toNat_lt
      have v16 : IntKind.i64.wrap (s[i + 1].toNat : Int) = (s[i + 1].toNat : Int) := by rw [IntKind.wrap_i64]; omega
      go_enter Try.func27, Try.ntmps27
      go_wp2_with fail
      refine (HV.out _).mono ?_
      rintro e w2 ⟨rfl, n2, rfl⟩
      go_wp2_with fail
      rename_i K hK
      have tail : ∀ X, Dq w (s[i + 1].toNat : Int) (w4 (L s) (i + 2) : Nat) (i : Int) (s.extract (i + 14) (i + 14 + n)) X → K { tmps := #[.string s, .int .i64 (i : Int), undef, undef, .pointer (some ⟨w.heap.size, 0, none⟩), .int .i64 0, .int .i64 (n : Int), .pointer (some ⟨w.heap.size + 1, 0, none⟩), undef, undef, .int .i64 (i : Int), .int .i64 ((i : Int) + 18), .string s, .int .i64 (s.size : Int), .bool false, undef, .string s, .int .i64 (i : Int), .int .i64 ((i : Int) + 6), .int .i64 (n : Int), .int .i64 (n : Int), .bool (decide ((2097152 : Int) < (n : Int))), .bool (decide ((2097152 : Int) < (n : Int))), .int .i64 (i : Int), .int .i64 ((i : Int) + 18), .int .i64 (n : Int), .int .i64 ((i : Int) + 18 + (n : Int)), .string s, .int .i64 (s.size : Int), .bool (decide ((s.size : Int) < (i : Int) + 18 + (n : Int))), .bool (decide ((2097152 : Int) < (n : Int)) || decide ((s.size : Int) < (i : Int) + 18 + (n : Int))), undef, .string s, .int .i64 (i : Int), .int .i64 ((i : Int) + 1), .int .u8 (s[i + 1].toNat : Int), .int .i64 (s[i + 1].toNat : Int), .string s, .int .i64 (i : Int), .int .i64 ((i : Int) + 2), .int .i64 (w4 (L s) (i + 2) : Nat), .int .i64 (i : Int), .string s, .int .i64 (i : Int), .int .i64 ((i : Int) + 14), .int .i64 (i : Int), .int .i64 ((i : Int) + 14), .int .i64 (n : Int), .int .i64 ((i : Int) + 14 + (n : Int)), .string (s.extract (i + 14) (i + 14 + n)), .agg #[.int .i64 (s[i + 1].toNat : Int), .int .i64 (w4 (L s) (i + 2) : Nat), .int .i64 (i : Int), .string (s.extract (i + 14) (i + 14 + n))], undef, undef, undef, undef, undef, undef, undef, undef, undef, undef, undef, undef, undef, undef, undef, undef, undef, undef, undef, undef, undef, undef, undef, undef, undef, undef, undef, undef, undef], defers := [] } X := by
        intro X hX
        have hbs : bt (L s) (i + 1) = s[i + 1] := (bt_getElem (L s) (i + 1) (by rw [L_length]; omega)).trans rfl
        have hrf := HRef.out n HW.out.symm
        rw [hbs] at hrf
        have HF := Lib.hid hrf
        have HBS := Lib.hid hbs
        obtain ⟨c0, c1, c2, c3, f3, d0, d1, d2, d3, g0, g1, g2, g3⟩ := hX.cells
        have HX := Lib.hid hX
        clear hrf hbs hX
        go_wp2_with fail
        refine (refEncode_any _ _ _ _).mono ?_
        rintro e w6 ⟨rfl, hb6⟩
        have hY := HX.out.on hb6
        clear c0 c1 c2 c3 f3 d0 d1 d2 d3 g0 g1 g2 g3
        obtain ⟨c0, c1, c2, c3, f3, d0, d1, d2, d3, g0, g1, g2, g3⟩ := hY.cells
        have HZ := Lib.hid hY
        clear hb6 hY HX
        generalize encE (s[i + 1].toNat : Int) (w4 (L s) (i + 2) : Nat) (L (s.extract (i + 14) (i + 14 + n))) = ee at *
        generalize encS (s[i + 1].toNat : Int) (w4 (L s) (i + 2) : Nat) (L (s.extract (i + 14) (i + 14 + n))) = es at *
        have r1 : (i : Int) ≤ (i : Int) + 18 + (n : Int) := by omega
        have r2 : (i : Int) + 18 + (n : Int) ≤ (s.size : Int) := by omega
        have r3 : ((i : Int) + 18 + (n : Int)).toNat = i + 18 + n := by omega
        by_cases t0 : ee = 0
        · by_cases t1 : es = s.extract i (i + 18 + n)
          · have hF := HF.out.2 ⟨t0, t1⟩
            have HFF := Lib.hid hF
            have u0 : (ee != 0) = false := by rw [t0]; rfl
            have u1 : (es.toList == (s.extract i (i + 18 + n)).toList) = true := by rw [t1]; simp
            have u2 : (es.toList != (s.extract i (i + 18 + n)).toList) = false := by rw [t1]; simp
            clear t1 hF
            subst t0
            go_wp2_with fail
            refine bodyPost_ret (v := .tuple #[frV s[i + 1].toNat (w4 (L s) (i + 2)) i (s.extract (i + 14) (i + 14 + n)), .int .i64 ((i : Int) + 18 + (n : Int))]) ((res2 rfl _ _ w.heap.size 47 #[.int .i64 (s[i + 1].toNat : Int), .int .i64 (w4 (L s) (i + 2) : Nat), .int .i64 (i : Int), .string (s.extract (i + 14) (i + 14 + n))] (0, 0) _ rfl (put4 HZ.out.out rfl) Try.underlying47 rfl frame_size).trans rfl) rfl ?_
            refine ⟨?_, put4_below HZ.out.below⟩
            rw [← HR.out]
            unfold oneV oneN
            rw [if_pos HFF.out, if_pos HFF.out]
            have q1 := body_ext s i n HW.out.symm
            have q2 := bodyF_length HFF.out
            rw [w4_drop, ← HW.out] at q2
            have q3 : (frAt (L s) i).body = bodyF ((L s).drop i) := rfl
            have q4 : (frAt (L s) i).kind = s[i + 1].toNat := by show (bt (L s) (i + 1)).toNat = _; rw [HBS.out]
            have q5 : (frAt (L s) i).num = w4 (L s) (i + 2) := rfl
            have q6 : (((frAt (L s) i).ends : Nat) : Int) = (i : Int) + 18 + (n : Int) := by unfold Fr.ends; rw [q3, q2]; show ((i + n + 18 : Nat) : Int) = _; omega
            rw [q6, q4, q5, q3, ← q1]; rfl
          · have u1 : (es.toList == (s.extract i (i + 18 + n)).toList) = false := by
              rw [beq_eq_false_iff_ne, toList_L, toList_L]; intro h; exact t1 (by rw [← S_L es, h]; rfl)
            have HFF : Hid (¬ isF ((L s).drop i)) := Lib.hid (fun h => t1 (HF.out.1 h).2)
            subst t0
            clear t1
            go_wp2_with fail
            refine bodyPost_ret (v := .tuple #[frV 0 0 0 ⟨#[]⟩, .int .i64 0]) ((res2 rfl _ _ w.heap.size 47 #[.int .i64 0, .int .i64 0, .int .i64 0, .string ⟨#[]⟩] (0, 0) _ rfl (put4 HZ.out.out rfl) Try.underlying47 rfl frame_size).trans rfl) rfl ?_
            exact ⟨by rw [HNo.out HFF.out], put4_below HZ.out.below⟩
        · have HFF : Hid (¬ isF ((L s).drop i)) := Lib.hid (fun h => t0 (HF.out.1 h).1)
          have u0 : (ee != 0) = true := bne_iff_ne.2 t0
          go_wp2_with fail
          refine bodyPost_ret (v := .tuple #[frV 0 0 0 ⟨#[]⟩, .int .i64 0]) ((res2 rfl _ _ w.heap.size 47 #[.int .i64 0, .int .i64 0, .int .i64 0, .string ⟨#[]⟩] (0, 0) _ rfl (put4 HZ.out.out rfl) Try.underlying47 rfl frame_size).trans rfl) rfl ?_
          exact ⟨by rw [HNo.out HFF.out], put4_below HZ.out.below⟩
      clear hK
      go_region_with (go_at_call 35; refine (HV2.out _).mono ?_; rintro e w3 ⟨rfl, n3, rfl⟩)
      all_goals (simp only [Exit.then]; first | with_reducible exact tail _ (Dq.late _ _ _ _ _ _) | with_reducible exact tail _ (Dq.early2 _ _ _ _ _ _ _) | with_reducible exact tail _ (Dq.early _ _ _ _ _ _))
end Go.Proofs.Ytkdmicpfinjpgaa
