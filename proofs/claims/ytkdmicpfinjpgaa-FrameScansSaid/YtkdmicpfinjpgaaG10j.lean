/- The statement FrameScans: the walk. -/
import Derived.Test.YtkdmicpfinjpgaaG10i
namespace Go.Proofs.Ytkdmicpfinjpgaa
open Go.RowKit

theorem turn_int (x y : Int) (k n : Nat) (w : World) (hx : x = (k : Int)) (hy : y = (n : Int)) (hk : k < 2 * n) (hn : n ≤ 1000) :
    Calls Try.prog 6 #[.int .i64 x, .int .i64 y] w fun e w' => e = .returned (.int .i64 (turnN k n : Nat)) ∧ w = w' := by
  subst hx; subst hy; exact turn_any k n w hk hn
theorem heap2 (w : World) (a b : Obj) : ((w.alloc a).alloc b).heap[w.heap.size]? = some a ∧ ((w.alloc a).alloc b).heap[w.heap.size + 1]? = some b ∧ ((w.alloc a).alloc b).heap.size = w.heap.size + 2 ∧ Below w.heap.size w ((w.alloc a).alloc b) := by
  have key : ((w.alloc a).alloc b).heap = (w.heap.push a).push b := rfl
  refine ⟨?_, ?_, by simp, ((Below.refl _ _).alloc (Nat.le_refl _) _).alloc (by simp) _⟩
  · rw [key]; simp only [Array.getElem?_push, Array.size_push]; repeat (first | rw [if_pos trivial] | rw [if_pos rfl] | rw [if_neg (by omega)])
  · rw [key]; simp only [Array.getElem?_push, Array.size_push]; repeat (first | rw [if_pos trivial] | rw [if_pos rfl] | rw [if_neg (by omega)])
/-- What the region of the two calls needs. -/
structure RQ (bits bi bw bp gi cnt cp t1 qa : Nat) (vW vP : Value) (W5 : World) : Prop where
  g : ∀ X st, (X.cell? ⟨bits, 0, none⟩ = some (.slice (some ⟨gi, 0, none⟩) cnt cp) ∧ X.cell? ⟨bi, 0, none⟩ = some (.int .i64 (t1 : Int)) ∧ X.cell? ⟨bw, 0, none⟩ = some vW ∧ X.cell? ⟨bp, 0, none⟩ = some vP ∧ X.cell? ⟨gi, t1, none⟩ = some (.func (.func 25) #[] #[.pointer (some ⟨qa, 0, none⟩)]) ∧ Below W5.heap.size W5 X) → Calls Try.prog 15 #[.func (.func 25) #[] #[.pointer (some ⟨qa, 0, none⟩)], vW, vP, .int .i64 st] X fun e w' => e = .returned (.bool true) ∧ (w'.cell? ⟨bits, 0, none⟩ = some (.slice (some ⟨gi, 0, none⟩) cnt cp) ∧ w'.cell? ⟨bi, 0, none⟩ = some (.int .i64 (t1 : Int)) ∧ w'.cell? ⟨bw, 0, none⟩ = some vW ∧ w'.cell? ⟨bp, 0, none⟩ = some vP ∧ w'.cell? ⟨gi, t1, none⟩ = some (.func (.func 25) #[] #[.pointer (some ⟨qa, 0, none⟩)]) ∧ Below W5.heap.size W5 w')
  sd : (W5.drew.cell? ⟨bits, 0, none⟩ = some (.slice (some ⟨gi, 0, none⟩) cnt cp) ∧ W5.drew.cell? ⟨bi, 0, none⟩ = some (.int .i64 (t1 : Int)) ∧ W5.drew.cell? ⟨bw, 0, none⟩ = some vW ∧ W5.drew.cell? ⟨bp, 0, none⟩ = some vP ∧ W5.drew.cell? ⟨gi, t1, none⟩ = some (.func (.func 25) #[] #[.pointer (some ⟨qa, 0, none⟩)]) ∧ Below W5.heap.size W5 W5.drew)
theorem RQ.mk' {bits bi bw bp gi cnt cp t1 qa : Nat} {A : ByteArray} {vW vP : Value} {W5 : World} (h : (W5.cell? ⟨bits, 0, none⟩ = some (.slice (some ⟨gi, 0, none⟩) cnt cp) ∧ W5.cell? ⟨bi, 0, none⟩ = some (.int .i64 (t1 : Int)) ∧ W5.cell? ⟨bw, 0, none⟩ = some vW ∧ W5.cell? ⟨bp, 0, none⟩ = some vP ∧ W5.cell? ⟨gi, t1, none⟩ = some (.func (.func 25) #[] #[.pointer (some ⟨qa, 0, none⟩)]) ∧ Below W5.heap.size W5 W5)) (hsz : A.size ≤ 4195304)
    (l1 : bits < W5.heap.size) (l2 : bi < W5.heap.size) (l3 : bw < W5.heap.size) (l4 : bp < W5.heap.size) (l5 : gi < W5.heap.size) (l6 : qa < W5.heap.size) (hq : W5.cell? ⟨qa, 0, none⟩ = some (.string A)) (hS : Wp vW vP (scan (L A) 0 0) W5) :
    RQ bits bi bw bp gi cnt cp t1 qa vW vP W5 := by
  have key : ∀ X, Below W5.heap.size W5 X → (X.cell? ⟨bits, 0, none⟩ = some (.slice (some ⟨gi, 0, none⟩) cnt cp) ∧ X.cell? ⟨bi, 0, none⟩ = some (.int .i64 (t1 : Int)) ∧ X.cell? ⟨bw, 0, none⟩ = some vW ∧ X.cell? ⟨bp, 0, none⟩ = some vP ∧ X.cell? ⟨gi, t1, none⟩ = some (.func (.func 25) #[] #[.pointer (some ⟨qa, 0, none⟩)]) ∧ Below W5.heap.size W5 X) := fun X hX => by
    obtain ⟨a1, a2, a3, a4, a5, _⟩ := h
    exact ⟨(hX.cell (p := ⟨bits, 0, none⟩) l1).trans a1, (hX.cell (p := ⟨bi, 0, none⟩) l2).trans a2, (hX.cell (p := ⟨bw, 0, none⟩) l3).trans a3, (hX.cell (p := ⟨bp, 0, none⟩) l4).trans a4, (hX.cell (p := ⟨gi, t1, none⟩) l5).trans a5, hX⟩
  refine ⟨fun X st hX => ?_, key _ (Below.refl _ _).drew⟩
  have hb := hX.2.2.2.2.2
  refine (goes_any A ⟨qa, 0, none⟩ vW vP st X (by omega) ((hb.cell (p := ⟨qa, 0, none⟩) l6).trans hq) (Nat.lt_of_lt_of_le l6 hb.size) (hS.on hb)).mono ?_
  rintro e w' ⟨rfl, hw⟩
  exact ⟨rfl, key _ (hb.trans (hw.mono hb.size))⟩
set_option maxRecDepth 100000 in
set_option maxHeartbeats 8000000 in
theorem FrameScans_walk (v : Value) (ss : List ByteArray) (stop : Int) (w : World) (h : Strs w v ss) (hz : ∀ i, i < ss.length → (ss.getD i ByteArray.empty).size ≤ 140737488355328) :
    Calls Try.prog 4 #[v, .int .i64 stop] w fun e w' => e = .returned (.bool true) ∧ Below w.heap.size w w' := by
  have hmf : ∀ (fn : Fn) (first cap : Array Value) (w : World), (Instr.makeFunc fn first cap).run Try.prog w = .ok (.func fn first cap) w := fun _ _ _ _ => rfl
  have hnf : ∀ (k : Fn) (a b : Array Value) (w : World), Sem.run Try.prog (binOp BinOp.eql 39 (Value.func k a b) Value.nilFunc) w = .ok (.bool false) w := fun _ _ _ _ => by kernel_rfl
  rcases h with ⟨rfl, ao, cap, rfl⟩ | ⟨b0, off, cap, rfl, hl, h1, h2⟩
  · go_enter Try.func4, Try.ntmps4
    go_wp2
    refine wp_loop_rounds 1 ?_
    rw [rounds_succ]
    go_wp2
    refine wp_loop_rounds 1 ?_
    rw [rounds_succ]
    go_wp2
    refine wp_loop_rounds 1 ?_
    rw [rounds_succ]
    go_wp2_with fail
    refine (known_any _).mono ?_
    rintro e w2 ⟨rfl, hb2⟩
    go_wp2_with fail
    go_ret
    have q := (Below.refl w.heap.size w).alloc (Nat.le_refl _) (.cells #[.slice none 0 0] 37)
    exact ⟨rfl, q.trans (hb2.mono q.size)⟩
  · have H1 := Lib.hid h1
    have H2 := Lib.hid h2
    have HZ := Lib.hid hz
    clear h1 h2 hz
    go_enter Try.func4, Try.ntmps4
    go_wp2
    go_loopw [5, 6] (fun n i wr => ∃ k : Nat, k ≤ ss.length ∧ k ≤ 40 ∧ i = .int .i64 k ∧ sumTo ss k ≤ 4195304 ∧ n = .int .i64 (sumTo ss k : Nat) ∧ w = wr) (fun _ i _ => ss.length - (intOf i).toNat)
    case atStart => exact ⟨0, Nat.zero_le _, by omega, rfl, by simp [sumTo], rfl, rfl⟩
    case round =>
      obtain ⟨k, hk, hk40, rfl, hs, rfl, rfl⟩ := hrel
      by_cases hlt : k < ss.length
      · have hc := H2.out k hlt
        have hzk := HZ.out k hlt
        have hsu := sumTo_succ ss k hlt
        generalize ss.getD k ByteArray.empty = s at *
        by_cases hbig : 4195304 < sumTo ss (k + 1)
        · have hb2 : (4195304 : Int) < (sumTo ss k : Int) + (s.size : Int) := by omega
          clear hsu hbig
          generalize sumTo ss k = m at *
          go_wp2
          go_ret
          exact ⟨rfl, Below.refl _ _⟩
        · have hb2 : ¬ (4195304 : Int) < (sumTo ss k : Int) + (s.size : Int) := by omega
          have HS : Hid ((sumTo ss (k + 1) : Int) = (sumTo ss k : Int) + (s.size : Int)) := Lib.hid (by omega)
          have HB := Lib.hid hbig
          clear hsu hbig
          generalize sumTo ss k = m at *
          by_cases h40 : k < 40
          · have h40' : ¬ (40 : Int) ≤ (k : Int) := by omega
            go_wp2
            go_roundw
            case rel => exact ⟨k + 1, by omega, by omega, by go_num, by have := HB.out; omega, by rw [HS.out], trivial⟩
            case measure => simp [intOf]; omega
          · have h40' : (40 : Int) ≤ (k : Int) := by omega
            go_wp2
            go_ret
            exact ⟨rfl, Below.refl _ _⟩
      · obtain rfl : k = ss.length := by omega
        have hsz := Lib.hid (fun j (hj : j < ss.length) => Nat.le_trans (size_le ss j hj) (by rw [← sumTo_all ss ss.length (Nat.le_refl _)]; exact hs))
        clear hs HZ hlt hk
        go_wp2
        go_loopw [8] (fun i wr => ∃ (qs : List Nat) (x : Value), qs.length ≤ ss.length ∧ i = .int .i64 qs.length ∧ IT w.heap.size x qs ss w wr) (fun i _ => ss.length - (intOf i).toNat)
        case atStart => exact ⟨[], .slice none 0 0, Nat.zero_le _, rfl, heap_alloc_last _ _, OwnF.nil ((Below.refl _ _).alloc (Nat.le_refl _) _) (by simp), fun t ht => by simp at ht⟩
        case round =>
          obtain ⟨qs, x, hk, rfl, hI⟩ := hrel
          by_cases hlt : qs.length < ss.length
          · have hc1 := (hI.row.below.cell (p := ⟨b0, off + qs.length, none⟩) H1.out).trans (H2.out _ hlt)
            obtain ⟨a, ha⟩ : ∃ a, a = ss.getD qs.length ByteArray.empty := ⟨_, rfl⟩
            rw [← ha] at hc1
            have HA := Lib.hid ha.symm
            have HI := Lib.hid hI
            have hcv : wr.cell? ⟨w.heap.size, 0, none⟩ = some x := cell_of_row _ _ 0 _ _ _ hI.hv
            have hlen : (qs.map fnOf).length + 1 ≤ 1000000 := by simp; omega
            have hown1 := hI.row.alloc (.cells #[.string a] 9)
            have hwl : w.heap.size < wr.heap.size := (Array.getElem?_eq_some_iff.1 hI.hv).1
            have HS1 : Hid (wr.heap.size + 1 = (wr.alloc (.cells #[.string a] 9)).heap.size) := Lib.hid (by simp)
            clear ha hI
            go_wp2_with fail
            refine (Scan_any a _).mono ?_
            rintro e w1 ⟨rfl, rfl⟩
            go_wp2_with (at_builtin; go_loud (refine appFn rfl _ _ rfl (fnOf wr.heap.size) rfl hown1 _ HS1.out rfl rfl hlen ?_; intro v3 w3 hown3 hkeep _; obtain ⟨g3, cp3, rfl, _⟩ := hown3.cells (by simp); have hst := HI.out.step a HA.out hown3 hkeep; have c5 := cell_of_row _ _ 0 _ _ _ hst.2; have f5 := frozen_of_row _ _ 0 _ _ hst.2; have HST := Lib.hid hst.1; clear hst hkeep hown3))
            go_roundw
            case rel => exact ⟨qs ++ [wr.heap.size], .slice (some ⟨g3, 0, none⟩) (qs.length + 1) cp3, by simp; omega, by simp, by have := HST.out; simp only [List.length_append, List.length_map, List.length_cons, List.length_nil, Nat.zero_add] at this; exact this⟩
            case measure => simp [intOf]; omega
          · have hql : qs.length = ss.length := by omega
            have HI := Lib.hid hI
            have HQL := Lib.hid hql
            have hba := hI.row.below
            have hHB := Lib.hid hba
            have hlw : w.heap.size < wr.heap.size := (Array.getElem?_eq_some_iff.1 hI.hv).1
            clear hI hk hba hql
            obtain ⟨wa, hwa⟩ : ∃ wa, wa = wr := ⟨_, rfl⟩
            go_wp2
            subst hwa
            go_loopw [10] (fun i wr => ∃ k : Nat, k ≤ 2 * ss.length ∧ i = .int .i64 k ∧ Below wa.heap.size wa wr) (fun i _ => 2 * ss.length - (intOf i).toNat)
            case atStart => exact ⟨0, Nat.zero_le _, rfl, Below.refl _ _⟩
            case round =>
              obtain ⟨k, hk, rfl, hbw⟩ := hrel
              have hbw0 := hHB.out.trans (hbw.mono hHB.out.size)
              by_cases hlt2 : k < 2 * ss.length
              · have ht1 := turnN_lt k ss.length hlt2
                have ht2 := turnN_lt ((k + 1) % (2 * ss.length)) ss.length (Nat.mod_lt _ (by omega))
                have hT1 := Lib.hid (fun W => turn_int (k : Int) (ss.length : Int) k ss.length W rfl rfl hlt2 (by omega))
                have hT2 := Lib.hid (fun W x (hx : x = (((k + 1) % (2 * ss.length) : Nat) : Int)) => turn_int x (ss.length : Int) ((k + 1) % (2 * ss.length)) ss.length W hx rfl (Nat.mod_lt _ (by omega)) (by omega))
                generalize turnN k ss.length = t1 at *
                generalize turnN ((k + 1) % (2 * ss.length)) ss.length = t2 at *
                have hcA := (hbw0.cell (p := ⟨b0, off + t1, none⟩) H1.out).trans (H2.out t1 ht1)
                have hcB := (hbw0.cell (p := ⟨b0, off + t2, none⟩) H1.out).trans (H2.out t2 ht2)
                have hsA := hsz.out t1 ht1
                have hsB := hsz.out t2 ht2
                obtain ⟨A, hA⟩ : ∃ A, A = ss.getD t1 ByteArray.empty := ⟨_, rfl⟩
                obtain ⟨B, hB⟩ : ∃ B, B = ss.getD t2 ByteArray.empty := ⟨_, rfl⟩
                rw [← hA] at hcA hsA
                rw [← hB] at hcB hsB
                have HA := Lib.hid hA
                have HB := Lib.hid hB
                clear hA hB
                have hm0 : (2 * (ss.length : Int)) ≠ 0 := by omega
                have hm1 : (0 : Int) < 2 * (ss.length : Int) := by omega
                have e0 : Hid (((k : Int) + 1) % (2 * (ss.length : Int)) = (((k + 1) % (2 * ss.length) : Nat) : Int)) := Lib.hid (by push_cast; rfl)
                go_wp2_with fail
                refine (hT1.out _).mono ?_
                rintro e w1 ⟨rfl, rfl⟩
                have hw1b : b0 < wr.heap.size := Nat.lt_of_lt_of_le H1.out hbw0.size
                obtain ⟨hi2, hj2, hs2, q2⟩ := heap2 wr (.cells #[.int .i64 (t1 : Int)] 3) (.cells #[.int .i64 (t2 : Int)] 3)
                have hcA2 := (q2.cell (p := ⟨b0, off + t1, none⟩) hw1b).trans hcA
                have hcB2 := (q2.cell (p := ⟨b0, off + t2, none⟩) hw1b).trans hcB
                go_wp2_with fail
                refine (hT2.out _ _ e0.out).mono ?_
                rintro e w2 ⟨rfl, hw2⟩
                rw [← hw2]
                clear hw2
                go_wp2_with fail
                generalize ((wr.alloc (.cells #[.int .i64 (t1 : Int)] 3)).alloc (.cells #[.int .i64 (t2 : Int)] 3)) = W2 at *
                have hci : W2.cell? ⟨wr.heap.size, 0, none⟩ = some (.int .i64 (t1 : Int)) := cell_of_row _ _ 0 _ _ _ hi2
                have hcj : W2.cell? ⟨wr.heap.size + 1, 0, none⟩ = some (.int .i64 (t2 : Int)) := cell_of_row _ _ 0 _ _ _ hj2
                have hs2' := hbw.size
                have p2 := hbw.trans (q2.mono hs2')
                have HP2 := Lib.hid p2
                have HW1 := Lib.hid hw1b
                have HS2 := Lib.hid hs2
                have HI2 := Lib.hid hi2
                have HJ2 := Lib.hid hj2
                have HBw := Lib.hid hbw
                have HLw := Lib.hid hlw
                clear p2 hi2 hj2 hcA hcB hbw0 hT1 hT2 q2 e0 hbw hlw hs2 hs2' hw1b
                refine (refScan_any A _ (by omega)).mono ?_
                rintro e w3 ⟨vW, vP, rfl, hoW, hb3⟩
                obtain ⟨aW, cW, rfl⟩ := hoW.shape3
                obtain ⟨aP, cP, rfl⟩ := hoW.shape4
                rw [List.length_map] at hoW ⊢
                have HOW := Lib.hid hoW.wp
                have HB3 := Lib.hid hb3
                clear hoW hb3 hci
                have hlA := scan_len (L A)
                rw [L_length] at hlA
                obtain ⟨MA, hMA⟩ : ∃ MA, MA = (scan (L A) 0 0).length := ⟨_, rfl⟩
                rw [← hMA] at HOW hlA ⊢
                have HMA := Lib.hid hMA
                clear hMA
                obtain ⟨hw3, hp3, hs3, q3⟩ := heap2 w3 (.cells #[.slice aW MA cW] 41) (.cells #[.slice aP MA cP] 42)
                have q3' : Below W2.heap.size W2 (((w3.alloc (.cells #[.slice aW MA cW] 41)).alloc (.cells #[.slice aP MA cP] 42))) := HB3.out.trans (q3.mono HB3.out.size)
                have hcB3 := (q3'.cell (p := ⟨b0, off + t2, none⟩) (by show b0 < _; have := HW1.out; have := HS2.out; omega)).trans hcB2
                have hcj3 := (q3'.cell (p := ⟨wr.heap.size + 1, 0, none⟩) (by show wr.heap.size + 1 < _; have := HS2.out; omega)).trans hcj
                clear hcB2 hcj hcA2
                go_wp2_with fail
                generalize ((w3.alloc (.cells #[.slice aW MA cW] 41)).alloc (.cells #[.slice aP MA cP] 42)) = W3 at *
                have HQ3 := Lib.hid q3'
                have HW3 := Lib.hid hw3
                have HPl3 := Lib.hid hp3
                have HS3 := Lib.hid hs3
                have HOW3 := Lib.hid (HOW.out.on q3)
                clear q3' hw3 hp3 hs3 q3 HOW
                refine (refScan_any B _ (by omega)).mono ?_
                rintro e w4 ⟨vX, vM, rfl, hoX, hb4⟩
                obtain ⟨aX, cX, rfl⟩ := hoX.shape3
                obtain ⟨aM, cM, rfl⟩ := hoX.shape4
                rw [List.length_map] at hoX ⊢
                have HOX := Lib.hid hoX.wp
                have HB4 := Lib.hid hb4
                clear hoX hb4
                obtain ⟨MB, hMB⟩ : ∃ MB, MB = (scan (L B) 0 0).length := ⟨_, rfl⟩
                rw [← hMB] at HOX ⊢
                have HMB := Lib.hid hMB
                clear hMB
                obtain ⟨hx5, hm5, hs5, q5⟩ := heap2 w4 (.cells #[.slice aX MB cX] 41) (.cells #[.slice aM MB cM] 42)
                have q5' : Below W3.heap.size W3 (((w4.alloc (.cells #[.slice aX MB cX] 41)).alloc (.cells #[.slice aM MB cM] 42))) := HB4.out.trans (q5.mono HB4.out.size)
                clear hcB3 hcj3
                go_wp2_with fail
                generalize ((w4.alloc (.cells #[.slice aX MB cX] 41)).alloc (.cells #[.slice aM MB cM] 42)) = W5 at *
                have HOX5 := HOX.out.on q5
                have HOW5 := HOW3.out.on q5'
                have s3 := HS3.out
                have s2 := HS2.out
                have z3 := HB3.out.size
                have z4 := HB4.out.size
                have zw := HBw.out.size
                have zlw := HLw.out
                have r3 : Below wa.heap.size wa W3 := HP2.out.trans (HQ3.out.mono HP2.out.size)
                have r5 : Below wa.heap.size wa W5 := r3.trans (q5'.mono r3.size)
                have hqm : (qs.map fnOf).length = ss.length := by rw [List.length_map]; exact HQL.out
                obtain ⟨gi, cp, rfl, hgi, hfs⟩ := HI.out.row.cells (by omega)
                rw [hqm] at HI
                have hits : W5.cell? ⟨w.heap.size, 0, none⟩ = some (.slice (some ⟨gi, 0, none⟩) ss.length cp) := (r5.cell (p := ⟨w.heap.size, 0, none⟩) zlw).trans (cell_of_row _ _ 0 _ _ _ HI.out.hv)
                have hfn : ∀ t, t < ss.length → W5.cell? ⟨gi, t, none⟩ = some (fnOf (qs.getD t 0)) := fun t ht => by
                  rw [r5.cell (p := ⟨gi, t, none⟩) hgi, hfs t (by omega)]
                  have : t < qs.length := by have := HQL.out; omega
                  simp [this]
                have hql2 : ∀ t, t < ss.length → qs.getD t 0 < wa.heap.size := fun t ht => (Array.getElem?_eq_some_iff.1 (HI.out.hq t (by have := HQL.out; omega))).1
                have hqc : ∀ t, t < ss.length → W5.cell? ⟨qs.getD t 0, 0, none⟩ = some (.string (ss.getD t ByteArray.empty)) := fun t ht => by
                  rw [r5.cell (p := ⟨qs.getD t 0, 0, none⟩) (hql2 t ht)]; exact cell_of_row _ _ 0 _ _ _ (HI.out.hq t (by have := HQL.out; omega))
                have hci5 : W5.cell? ⟨wr.heap.size, 0, none⟩ = some (.int .i64 (t1 : Int)) := by
                  rw [q5'.cell (p := ⟨wr.heap.size, 0, none⟩) (by show wr.heap.size < _; omega), HQ3.out.cell (p := ⟨wr.heap.size, 0, none⟩) (by show wr.heap.size < _; omega)]; exact cell_of_row _ _ 0 _ _ _ HI2.out
                have hcj5 : W5.cell? ⟨wr.heap.size + 1, 0, none⟩ = some (.int .i64 (t2 : Int)) := by
                  rw [q5'.cell (p := ⟨wr.heap.size + 1, 0, none⟩) (by show wr.heap.size + 1 < _; omega), HQ3.out.cell (p := ⟨wr.heap.size + 1, 0, none⟩) (by show wr.heap.size + 1 < _; omega)]; exact cell_of_row _ _ 0 _ _ _ HJ2.out
                have hcw5 : W5.cell? ⟨w3.heap.size, 0, none⟩ = some (.slice aW MA cW) := by
                  rw [q5'.cell (p := ⟨w3.heap.size, 0, none⟩) (by show w3.heap.size < _; omega)]; exact cell_of_row _ _ 0 _ _ _ HW3.out
                have hcp5 : W5.cell? ⟨w3.heap.size + 1, 0, none⟩ = some (.slice aP MA cP) := by
                  rw [q5'.cell (p := ⟨w3.heap.size + 1, 0, none⟩) (by show w3.heap.size + 1 < _; omega)]; exact cell_of_row _ _ 0 _ _ _ HPl3.out
                have hcx5 : W5.cell? ⟨w4.heap.size, 0, none⟩ = some (.slice aX MB cX) := cell_of_row _ _ 0 _ _ _ hx5
                have hcm5 : W5.cell? ⟨w4.heap.size + 1, 0, none⟩ = some (.slice aM MB cM) := cell_of_row _ _ 0 _ _ _ hm5
                have hqa : W5.cell? ⟨qs.getD t1 0, 0, none⟩ = some (.string A) := by rw [hqc t1 ht1, ← HA.out]
                have ql1 := hql2 t1 ht1
                have zr5 := r5.size
                have HRQ : RQ w.heap.size wr.heap.size w3.heap.size (w3.heap.size + 1) gi ss.length cp t1 (qs.getD t1 0) (.slice aW MA cW) (.slice aP MA cP) W5 :=
                  RQ.mk' ⟨hits, hci5, hcw5, hcp5, hfn t1 ht1, Below.refl _ _⟩ hsA (by omega) (by omega) (by omega) (by omega) (by omega) (by omega) hqa HOW5
                have HFw : Fw w.heap.size wr.heap.size (wr.heap.size + 1) w3.heap.size (w3.heap.size + 1) w4.heap.size (w4.heap.size + 1) gi ss.length cp t1 t2 (fun t => ⟨qs.getD t 0, 0, none⟩) (fun t => ss.getD t ByteArray.empty) (.slice aW MA cW) (.slice aP MA cP) (.slice aX MB cX) (.slice aM MB cM) W5 :=
                  ⟨hits, hci5, hcj5, hcw5, hcp5, hcx5, hcm5, hfn, hqc, ⟨by omega, by omega, by omega, by omega, by omega, by omega, by omega, by omega, fun t ht => by have := hql2 t ht; show qs.getD t 0 < _; omega⟩,
                   by have := HOW5; rw [HA.out] at this; exact this, by have := HOX5; rw [HB.out] at this; exact this⟩
                obtain ⟨qa, hqa2⟩ : ∃ qa, qa = qs.getD t1 0 := ⟨_, rfl⟩
                rw [← hqa2] at HRQ
                have HQA := Lib.hid hqa2
                have HR5 := Lib.hid r5
                have i0 : (0 : Int) ≤ (t1 : Int) := by omega
                have i1 : (t1 : Int) < (ss.length : Int) := by omega
                clear hqa2 hits hfn hqa hqc hql2 hci5 hcj5 hcw5 hcp5 hcx5 hcm5 r5 r3 q5' q5 hx5 hm5 hs5 HOW5 HOX5 s2 s3 z3 z4 zw zr5 ql1 hqm hfs
                first | (go_region_held3 (fun X => (X.cell? ⟨w.heap.size, 0, none⟩ = some (.slice (some ⟨gi, 0, none⟩) ss.length cp) ∧ X.cell? ⟨wr.heap.size, 0, none⟩ = some (.int .i64 (t1 : Int)) ∧ X.cell? ⟨w3.heap.size, 0, none⟩ = some (.slice aW MA cW) ∧ X.cell? ⟨w3.heap.size + 1, 0, none⟩ = some (.slice aP MA cP) ∧ X.cell? ⟨gi, t1, none⟩ = some (.func (.func 25) #[] #[.pointer (some ⟨qa, 0, none⟩)]) ∧ Below W5.heap.size W5 X)) (first | exact HRQ.sd | assumption) (first | (go_at_call 15; refine (HRQ.g _ _ ?_).mono ?_; assumption; rintro e w6 ⟨rfl, hs6⟩))) | fail
                simp only [Exit.then]
                obtain ⟨a1, a2, a3, _, a5, hb6⟩ := hs6
                have r6 : Below wa.heap.size wa w6 := HR5.out.trans (hb6.mono HR5.out.size)
                have HFw6 := HFw.on hb6
                obtain ⟨hn7, hr7, hs7, q7⟩ := heap2 w6 (.cells #[.int .i64 0] 3) (.cells #[.bool true] 4)
                obtain ⟨l1, l2, l3, l4, l5, _, _, l8, _⟩ := HFw6.bl
                have d1 := (q7.cell (p := ⟨w.heap.size, 0, none⟩) l1).trans a1
                have d2 := (q7.cell (p := ⟨wr.heap.size, 0, none⟩) l2).trans a2
                have d4 := (q7.cell (p := ⟨gi, t1, none⟩) l8).trans a5
                have hls : Ls w6.heap.size 0 (((w6.alloc (.cells #[.int .i64 0] 3)).alloc (.cells #[.bool true] 4))) := ⟨cell_of_row _ _ 0 _ _ _ hn7, cell_of_row _ _ 0 _ _ _ hr7, frozen_of_row _ _ 0 _ _ hn7, frozen_of_row _ _ 0 _ _ hr7⟩
                have HIn := Lib.hid (inner_any w6.heap.size w6 _ rfl HFw6 q7 ht1 ht2 (fun t ht => Nat.le_trans (hsz.out t ht) (by omega)) hls (by rw [hs7]; omega))
                rw [← HQA.out, ← HA.out, ← HMA.out] at HIn
                have H6 := Lib.hid r6
                have HA3 := Lib.hid a3
                have HL4 := Lib.hid l4
                clear r6 HFw6 hls q7 hn7 hr7 hs7 l1 l2 l3 l4 l5 l8 a1 a2 a3 a5 hb6 HRQ HFw HR5
                go_wp2_with fail
                refine HIn.out.mono ?_
                rintro e w8 ⟨rfl, hls8, hb8⟩
                have c0 := hls8.c0
                have c1 := hls8.c1
                have c3 : w8.cell? ⟨w3.heap.size, 0, none⟩ = some (.slice aW MA cW) := by rw [hb8.cell (p := ⟨w3.heap.size, 0, none⟩) HL4.out]; exact HA3.out
                have H8 : Hid (Below wa.heap.size wa w8) := Lib.hid (H6.out.trans (hb8.mono H6.out.size))
                clear hls8 hb8 HIn d1 d2 d4
                go_wp2_with fail
                go_roundw
                case rel => exact ⟨k + 1, by omega, by go_num, H8.out⟩
                case measure => simp [intOf]; omega
              · have hdi : ¬ (k : Int) < 2 * (ss.length : Int) := by omega
                have HB0 := Lib.hid hbw0
                clear hbw hbw0
                go_wp2_with fail
                refine (known_any _).mono ?_
                rintro e w2 ⟨rfl, hb2⟩
                go_wp2_with fail
                go_ret
                exact ⟨rfl, HB0.out.trans (hb2.mono HB0.out.size)⟩
end Go.Proofs.Ytkdmicpfinjpgaa
