/- moment: ReadHeader. -/
import Derived.Test.YtckdmbeokajdjaaGreatDoorDv
namespace Go.Proofs.YtckdmbeokajdjaaGreatDoor
open Go.RowKit

def hc1 (l : List UInt8) : Cur := wkC (stp l)
def hc2 (l : List UInt8) : Cur := dyC (hc1 l)
def hc3 (l : List UInt8) : Cur := clC (hc2 l)
def rhB (l : List UInt8) : Bool := wkB (stp l) && dyB (hc1 l) && clB (hc2 l) && znB (hc3 l) && decide ((znC (hc3 l)).k = 0)
def rhV (l : List UInt8) (nz : Int) : Value := judV (rhB l) (dyY (hc1 l)) (dyM (hc1 l)) (dyD (hc1 l)) (clH (hc2 l)) (clN (hc2 l)) (clS (hc2 l) 0) (znZ (hc3 l) nz 0)
def rhE (l : List UInt8) : Int := judE (rhB l) (dyY (hc1 l)) (dyM (hc1 l)) (dyD (hc1 l))
structure RHF (w : World) (s : ByteArray) (c0 c1 c2 c3 c4 : Cur) (b1 b2 b3 b4 : Bool) (yv mv dv hv nv sv zv er r0 r1 r2 r3 r4 r5 r6 : Int) (RB : Bool) : Prop where
  wk : ∀ W, Env W → Cuc (w.heap.size + 1) s c0 W → Calls Tryz.prog 26 #[.pointer (some ⟨w.heap.size + 1, 0, none⟩)] W fun e w' => e = .returned (.bool b1) ∧ Only (w.heap.size + 1) W w' ∧ Cuc (w.heap.size + 1) s c1 w'
  dy : ∀ bm W, Env W → Cuc (w.heap.size + 1) s c1 W → Bx bm 0 0 0 0 0 0 0 W → w.heap.size + 1 < bm → Calls Tryz.prog 27 #[.pointer (some ⟨w.heap.size + 1, 0, none⟩), .pointer (some ⟨bm, 0, none⟩)] W fun e w' => e = .returned (.bool b2) ∧ Below (w.heap.size + 1) W w' ∧ Cuc (w.heap.size + 1) s c2 w' ∧ Bx bm yv mv dv 0 0 0 0 w'
  cl : ∀ bm W, Cuc (w.heap.size + 1) s c2 W → Bx bm yv mv dv 0 0 0 0 W → w.heap.size + 1 < bm → Calls Tryz.prog 28 #[.pointer (some ⟨w.heap.size + 1, 0, none⟩), .pointer (some ⟨bm, 0, none⟩)] W fun e w' => e = .returned (.bool b3) ∧ Below (w.heap.size + 1) W w' ∧ Cuc (w.heap.size + 1) s c3 w' ∧ Bx bm yv mv dv hv nv sv 0 w'
  zn : ∀ bm W, Cuc (w.heap.size + 1) s c3 W → Bx bm yv mv dv hv nv sv 0 W → w.heap.size + 1 < bm → Calls Tryz.prog 29 #[.pointer (some ⟨w.heap.size + 1, 0, none⟩), .pointer (some ⟨bm, 0, none⟩)] W fun e w' => e = .returned (.bool b4) ∧ Below (w.heap.size + 1) W w' ∧ Cuc (w.heap.size + 1) s c4 w' ∧ ∃ z', Bx bm yv mv dv hv nv sv z' w' ∧ (b4 = true → z' = zv)
  jd : ∀ y' m' d' h' n' s' z' f, f = RB → (f = true → y' = yv ∧ m' = mv ∧ d' = dv ∧ h' = hv ∧ n' = nv ∧ s' = sv ∧ z' = zv) → ∀ W, Env W → Calls Tryz.prog 24 #[mom y' m' d' h' n' s' z', .bool f] W fun e w' => e = .returned (.tuple #[mom r0 r1 r2 r3 r4 r5 r6, .int .i64 er]) ∧ Below W.heap.size W w'
theorem cu_new (w : World) (s : ByteArray) (x : Obj) : Cu (w.heap.size + 1) s 0 0 ⟨#[]⟩ ((w.alloc x).alloc (.cells #[.string s, .int .i64 0, .int .i64 0, .string ⟨#[]⟩] 48)) := ⟨heap_alloc2_new w x (.cells #[.string s, .int .i64 0, .int .i64 0, .string ⟨#[]⟩] 48)⟩
set_option maxRecDepth 100000 in
set_option maxHeartbeats 4000000 in
theorem momReadHeader_go (s : ByteArray) (nz : Int) (w : World) (he : Env w) (hs : s.size ≤ 140737488355328)
    (hN : (hc3 (L s)).k = 1 → ∀ W, Calls Tryz.prog 54 #[.string (S (hc3 (L s)).p)] W fun e w' => e = .returned (.int .i64 nz) ∧ Below W.heap.size W w') :
    Calls Tryz.prog 8 #[.string s] w fun e w' => e = .returned (.tuple #[rhV (L s) nz, .int .i64 (rhE (L s))]) ∧ Below w.heap.size w w' := by
  have hO0 := he.over
  have q0 := below2 w (.cells #[.int .i64 0, .int .i64 0, .int .i64 0, .int .i64 0, .int .i64 0, .int .i64 0, .int .i64 0] 23) (.cells #[.string s, .int .i64 0, .int .i64 0, .string ⟨#[]⟩] 48)
  have hg0 : ((w.alloc (.cells #[.int .i64 0, .int .i64 0, .int .i64 0, .int .i64 0, .int .i64 0, .int .i64 0, .int .i64 0] 23)).alloc (.cells #[.string s, .int .i64 0, .int .i64 0, .string ⟨#[]⟩] 48)).heap[w.heap.size]? = some (.cells #[.int .i64 0, .int .i64 0, .int .i64 0, .int .i64 0, .int .i64 0, .int .i64 0, .int .i64 0] 23 (0, 0)) := (heap_alloc_old (w.alloc (.cells #[.int .i64 0, .int .i64 0, .int .i64 0, .int .i64 0, .int .i64 0, .int .i64 0, .int .i64 0] 23)) (.cells #[.string s, .int .i64 0, .int .i64 0, .string ⟨#[]⟩] 48) (by simp)).trans (heap_alloc_new w (.cells #[.int .i64 0, .int .i64 0, .int .i64 0, .int .i64 0, .int .i64 0, .int .i64 0, .int .i64 0] 23))
  have hST := step_any (w.heap.size + 1) s 0 0 ⟨#[]⟩ _ hs (cu_new w s (.cells #[.int .i64 0, .int .i64 0, .int .i64 0, .int .i64 0, .int .i64 0, .int .i64 0, .int .i64 0] 23)) (Nat.zero_le _)
  rw [List.drop_zero] at hST
  have HW := Lib.hid (fun W hW hx => weekday_any (w.heap.size + 1) s (stp (L s)) W hW (hO0.mono (by omega)) hs hx)
  have HD := Lib.hid (fun bm W hW hx hm hlt => hday_any (w.heap.size + 1) bm s (hc1 (L s)) 0 0 0 0 0 0 0 W hW (hO0.mono (by omega)) hs hx hm hlt)
  have HC := Lib.hid (fun bm W hx hm hlt => hclock_any (w.heap.size + 1) bm s (hc2 (L s)) (dyY (hc1 (L s))) (dyM (hc1 (L s))) (dyD (hc1 (L s))) 0 0 0 0 W hs hx hm hlt)
  have HZ := Lib.hid (fun bm W hx hm hlt => hzone_any (w.heap.size + 1) bm s (hc3 (L s)) (dyY (hc1 (L s))) (dyM (hc1 (L s))) (dyD (hc1 (L s))) (clH (hc2 (L s))) (clN (hc2 (L s))) (clS (hc2 (L s)) 0) 0 nz W hs hx hm hlt hN)
  obtain ⟨r0, r1, r2, r3, r4, r5, r6, hr⟩ := judV_shape (rhB (L s)) (dyY (hc1 (L s))) (dyM (hc1 (L s))) (dyD (hc1 (L s))) (clH (hc2 (L s))) (clN (hc2 (L s))) (clS (hc2 (L s)) 0) (znZ (hc3 (L s)) nz 0)
  have HJJ : Hid (∀ y' m' d' h' n' s' z' f, f = rhB (L s) → (f = true → y' = dyY (hc1 (L s)) ∧ m' = dyM (hc1 (L s)) ∧ d' = dyD (hc1 (L s)) ∧ h' = clH (hc2 (L s)) ∧ n' = clN (hc2 (L s)) ∧ s' = clS (hc2 (L s)) 0 ∧ z' = znZ (hc3 (L s)) nz 0) → ∀ W, Env W → Calls Tryz.prog 24 #[mom y' m' d' h' n' s' z', .bool f] W fun e w' => e = .returned (.tuple #[mom r0 r1 r2 r3 r4 r5 r6, .int .i64 (rhE (L s))]) ∧ Below W.heap.size W w') := Lib.hid (fun y' m' d' h' n' s' z' f hf hv W hW => by
    have hj1 : judV f y' m' d' h' n' s' z' = mom r0 r1 r2 r3 r4 r5 r6 ∧ judE f y' m' d' = rhE (L s) := by
      unfold rhE
      rw [← hr, ← hf]
      cases ht : f with
      | false => exact ⟨rfl, rfl⟩
      | true =>
        obtain ⟨rfl, rfl, rfl, rfl, rfl, rfl, rfl⟩ := hv ht
        exact ⟨rfl, rfl⟩
    have := judge_any f y' m' d' h' n' s' z' W hW
    rw [hj1.1, hj1.2] at this
    exact this)
  have hrv : rhV (L s) nz = mom r0 r1 r2 r3 r4 r5 r6 := hr
  rw [hrv]
  have HF : Hid (rhB (L s) = (wkB (stp (L s)) && dyB (hc1 (L s)) && clB (hc2 (L s)) && znB (hc3 (L s)) && decide ((znC (hc3 (L s))).k = 0))) := Lib.hid rfl
  have E1 : Hid (wkC (stp (L s)) = hc1 (L s)) := Lib.hid rfl
  have E2 : Hid (dyC (hc1 (L s)) = hc2 (L s)) := Lib.hid rfl
  have E3 : Hid (clC (hc2 (L s)) = hc3 (L s)) := Lib.hid rfl
  clear hr hrv
  have HST := Lib.hid hST
  have HG := Lib.hid hg0
  have HQ := Lib.hid q0
  have HE := Lib.hid he
  have HO := Lib.hid hO0
  have RF : RHF w s (stp (L s)) (hc1 (L s)) (hc2 (L s)) (hc3 (L s)) (znC (hc3 (L s))) (wkB (stp (L s))) (dyB (hc1 (L s))) (clB (hc2 (L s))) (znB (hc3 (L s))) (dyY (hc1 (L s))) (dyM (hc1 (L s))) (dyD (hc1 (L s))) (clH (hc2 (L s))) (clN (hc2 (L s))) (clS (hc2 (L s)) 0) (znZ (hc3 (L s)) nz 0) (rhE (L s)) r0 r1 r2 r3 r4 r5 r6 (rhB (L s)) := ⟨HW.out, HD.out, HC.out, HZ.out, HJJ.out⟩
  clear HW HD HC HZ HJJ
  generalize rhE (L s) = er at *
  generalize stp (L s) = c0 at *
  generalize hc1 (L s) = c1 at *
  generalize hc2 (L s) = c2 at *
  generalize hc3 (L s) = c3 at *
  generalize rhB (L s) = RB at *
  generalize wkB c0 = b1 at *
  generalize dyB c1 = b2 at *
  generalize clB c2 = b3 at *
  generalize znB c3 = b4 at *
  generalize znC c3 = c4 at *
  generalize znZ c3 nz 0 = zv at *
  generalize dyY c1 = yv at *
  generalize dyM c1 = mv at *
  generalize dyD c1 = dv at *
  generalize clH c2 = hv at *
  generalize clN c2 = nv at *
  generalize clS c2 0 = sv at *
  clear hST hg0 q0 he hN hO0 E1 E2 E3
  unfold mom
  go_enter Tryz.func8, Tryz.ntmps8
  go_wp2_with fail
  refine HST.out.mono ?_
  rintro e w1 ⟨rfl, ho1, hx1⟩
  have hbs : w.heap.size + 1 ≤ ((w.alloc (.cells #[.int .i64 0, .int .i64 0, .int .i64 0, .int .i64 0, .int .i64 0, .int .i64 0, .int .i64 0] 23)).alloc (.cells #[.string s, .int .i64 0, .int .i64 0, .string ⟨#[]⟩] 48)).heap.size := by simp
  have hg1 : w1.heap[w.heap.size]? = some (.cells #[.int .i64 0, .int .i64 0, .int .i64 0, .int .i64 0, .int .i64 0, .int .i64 0, .int .i64 0] 23 (0, 0)) := by rw [ho1.block _ (by simp; omega) (by omega)]; exact HG.out
  have q1 : Below w.heap.size w w1 := HQ.out.trans ((ho1.below hbs).mono (by omega))
  have hlt1 := hx1.lt
  have hm2 : Bx w1.heap.size 0 0 0 0 0 0 0 (w1.alloc (.cells #[.int .i64 0, .int .i64 0, .int .i64 0, .int .i64 0, .int .i64 0, .int .i64 0, .int .i64 0] 23)) := ⟨heap_alloc_new w1 _⟩
  have hx2 := hx1.on ((Below.refl _ _).alloc (Nat.le_refl _) (.cells #[.int .i64 0, .int .i64 0, .int .i64 0, .int .i64 0, .int .i64 0, .int .i64 0, .int .i64 0] 23))
  have hg2 : (w1.alloc (.cells #[.int .i64 0, .int .i64 0, .int .i64 0, .int .i64 0, .int .i64 0, .int .i64 0, .int .i64 0] 23)).heap[w.heap.size]? = some (.cells #[.int .i64 0, .int .i64 0, .int .i64 0, .int .i64 0, .int .i64 0, .int .i64 0, .int .i64 0] 23 (0, 0)) := (heap_alloc_old w1 (.cells #[.int .i64 0, .int .i64 0, .int .i64 0, .int .i64 0, .int .i64 0, .int .i64 0, .int .i64 0] 23) (by omega)).trans hg1
  have q2 : Below w.heap.size w (w1.alloc (.cells #[.int .i64 0, .int .i64 0, .int .i64 0, .int .i64 0, .int .i64 0, .int .i64 0, .int .i64 0] 23)) := q1.alloc (by omega) _
  have he2 := HE.out.on q2
  generalize hbm : w1.heap.size = bm at *
  clear hx1 hg1 q1 ho1 HST HG HQ hbs
  go_wp2_with fail
  refine (RF.wk _ he2 hx2).mono ?_
  rintro e w3 ⟨rfl, ho3, hx3⟩
  have hm3 := hm2.only ho3 (by omega)
  have q3 := q2.trans ((ho3.below (Nat.le_of_lt hx2.lt)).mono (by omega))
  have hg3 : w3.heap[w.heap.size]? = some (.cells #[.int .i64 0, .int .i64 0, .int .i64 0, .int .i64 0, .int .i64 0, .int .i64 0, .int .i64 0] 23 (0, 0)) := by rw [ho3.block _ (Array.getElem?_eq_some_iff.1 hg2).1 (by omega)]; exact hg2
  have he3 := HE.out.on q3
  clear hx2 hm2 hg2 q2 he2 ho3 hbm
  cases b1 with
  | false =>
    have HJ := Lib.hid (RF.jd 0 0 0 0 0 0 0 false (by rw [HF.out]; simp) (fun h => by cases h))
    unfold mom at HJ
    obtain ⟨k0, k1, k2, k3, k4, k5, k6⟩ := hm3.cells
    have HE9 := Lib.hid he3
    have HG9 := Lib.hid hg3
    have Q9 := Lib.hid q3
    clear RF hx3 hm3 hg3 q3 he3
    go_wp2_with fail
    refine (HJ.out _ HE9.out).mono ?_
    rintro e w9 ⟨rfl, hb9⟩
    have HG5 : Hid (w9.heap[w.heap.size]? = some (.cells #[.int .i64 0, .int .i64 0, .int .i64 0, .int .i64 0, .int .i64 0, .int .i64 0, .int .i64 0] 23 (0, 0))) := Lib.hid (by rw [hb9.block _ (Array.getElem?_eq_some_iff.1 HG9.out).1]; exact HG9.out)
    have Q5 := Lib.hid (Q9.out.trans (hb9.mono Q9.out.size))
    clear hb9 HG9 Q9 HJ HE9 k0 k1 k2 k3 k4 k5 k6
    go_wp2_with (refine wpList_store_row rfl 23 _ _ rfl w.heap.size #[.int .i64 r0, .int .i64 r1, .int .i64 r2, .int .i64 r3, .int .i64 r4, .int .i64 r5, .int .i64 r6] rfl rfl 23 _ HG5.out Tryz.sizeMom rfl (mom_one _ _ _ _ _ _ _) ?_)
    exact bodyPost_ret (v := .tuple #[mom r0 r1 r2 r3 r4 r5 r6, .int .i64 er]) (res2 Tryz.results8 _ _ w.heap.size 23 #[.int .i64 r0, .int .i64 r1, .int .i64 r2, .int .i64 r3, .int .i64 r4, .int .i64 r5, .int .i64 r6] (0, 0) _ rfl (setRow_heap _ _ _ #[.int .i64 r0, .int .i64 r1, .int .i64 r2, .int .i64 r3, .int .i64 r4, .int .i64 r5, .int .i64 r6] _ _ HG5.out) Tryz.underlying23 rfl Tryz.sizeMom) rfl ⟨rfl, below_setRow Q5.out (Nat.le_refl _) _⟩
  | true =>
    go_wp2_with fail
    refine (RF.dy _ _ he3 hx3 hm3 hlt1).mono ?_
    rintro e w4 ⟨rfl, hb4, hx4, hm4⟩
    have q4 := q3.trans (hb4.mono (by omega))
    have hg4 : w4.heap[w.heap.size]? = some (.cells #[.int .i64 0, .int .i64 0, .int .i64 0, .int .i64 0, .int .i64 0, .int .i64 0, .int .i64 0] 23 (0, 0)) := by rw [hb4.block _ (by omega)]; exact hg3
    have he4 := HE.out.on q4
    clear hx3 hm3 hg3 q3 he3 hb4
    cases b2 with
    | false =>
      have HJ := Lib.hid (RF.jd yv mv dv 0 0 0 0 false (by rw [HF.out]; simp) (fun h => by cases h))
      unfold mom at HJ
      obtain ⟨k0, k1, k2, k3, k4, k5, k6⟩ := hm4.cells
      have HE9 := Lib.hid he4
      have HG9 := Lib.hid hg4
      have Q9 := Lib.hid q4
      clear RF hx4 hm4 hg4 q4 he4
      go_wp2_with fail
      refine (HJ.out _ HE9.out).mono ?_
      rintro e w9 ⟨rfl, hb9⟩
      have HG5 : Hid (w9.heap[w.heap.size]? = some (.cells #[.int .i64 0, .int .i64 0, .int .i64 0, .int .i64 0, .int .i64 0, .int .i64 0, .int .i64 0] 23 (0, 0))) := Lib.hid (by rw [hb9.block _ (Array.getElem?_eq_some_iff.1 HG9.out).1]; exact HG9.out)
      have Q5 := Lib.hid (Q9.out.trans (hb9.mono Q9.out.size))
      clear hb9 HG9 Q9 HJ HE9 k0 k1 k2 k3 k4 k5 k6
      go_wp2_with (refine wpList_store_row rfl 23 _ _ rfl w.heap.size #[.int .i64 r0, .int .i64 r1, .int .i64 r2, .int .i64 r3, .int .i64 r4, .int .i64 r5, .int .i64 r6] rfl rfl 23 _ HG5.out Tryz.sizeMom rfl (mom_one _ _ _ _ _ _ _) ?_)
      exact bodyPost_ret (v := .tuple #[mom r0 r1 r2 r3 r4 r5 r6, .int .i64 er]) (res2 Tryz.results8 _ _ w.heap.size 23 #[.int .i64 r0, .int .i64 r1, .int .i64 r2, .int .i64 r3, .int .i64 r4, .int .i64 r5, .int .i64 r6] (0, 0) _ rfl (setRow_heap _ _ _ #[.int .i64 r0, .int .i64 r1, .int .i64 r2, .int .i64 r3, .int .i64 r4, .int .i64 r5, .int .i64 r6] _ _ HG5.out) Tryz.underlying23 rfl Tryz.sizeMom) rfl ⟨rfl, below_setRow Q5.out (Nat.le_refl _) _⟩
    | true =>
      go_wp2_with fail
      refine (RF.cl _ _ hx4 hm4 hlt1).mono ?_
      rintro e w5 ⟨rfl, hb5, hx5, hm5⟩
      have q5 := q4.trans (hb5.mono (by omega))
      have hg5 : w5.heap[w.heap.size]? = some (.cells #[.int .i64 0, .int .i64 0, .int .i64 0, .int .i64 0, .int .i64 0, .int .i64 0, .int .i64 0] 23 (0, 0)) := by rw [hb5.block _ (by omega)]; exact hg4
      have he5 := HE.out.on q5
      clear hx4 hm4 hg4 q4 he4 hb5
      cases b3 with
      | false =>
        have HJ := Lib.hid (RF.jd yv mv dv hv nv sv 0 false (by rw [HF.out]; simp) (fun h => by cases h))
        unfold mom at HJ
        obtain ⟨k0, k1, k2, k3, k4, k5, k6⟩ := hm5.cells
        have HE9 := Lib.hid he5
        have HG9 := Lib.hid hg5
        have Q9 := Lib.hid q5
        clear RF hx5 hm5 hg5 q5 he5
        go_wp2_with fail
        refine (HJ.out _ HE9.out).mono ?_
        rintro e w9 ⟨rfl, hb9⟩
        have HG5 : Hid (w9.heap[w.heap.size]? = some (.cells #[.int .i64 0, .int .i64 0, .int .i64 0, .int .i64 0, .int .i64 0, .int .i64 0, .int .i64 0] 23 (0, 0))) := Lib.hid (by rw [hb9.block _ (Array.getElem?_eq_some_iff.1 HG9.out).1]; exact HG9.out)
        have Q5 := Lib.hid (Q9.out.trans (hb9.mono Q9.out.size))
        clear hb9 HG9 Q9 HJ HE9 k0 k1 k2 k3 k4 k5 k6
        go_wp2_with (refine wpList_store_row rfl 23 _ _ rfl w.heap.size #[.int .i64 r0, .int .i64 r1, .int .i64 r2, .int .i64 r3, .int .i64 r4, .int .i64 r5, .int .i64 r6] rfl rfl 23 _ HG5.out Tryz.sizeMom rfl (mom_one _ _ _ _ _ _ _) ?_)
        exact bodyPost_ret (v := .tuple #[mom r0 r1 r2 r3 r4 r5 r6, .int .i64 er]) (res2 Tryz.results8 _ _ w.heap.size 23 #[.int .i64 r0, .int .i64 r1, .int .i64 r2, .int .i64 r3, .int .i64 r4, .int .i64 r5, .int .i64 r6] (0, 0) _ rfl (setRow_heap _ _ _ #[.int .i64 r0, .int .i64 r1, .int .i64 r2, .int .i64 r3, .int .i64 r4, .int .i64 r5, .int .i64 r6] _ _ HG5.out) Tryz.underlying23 rfl Tryz.sizeMom) rfl ⟨rfl, below_setRow Q5.out (Nat.le_refl _) _⟩
      | true =>
        go_wp2_with fail
        refine (RF.zn _ _ hx5 hm5 hlt1).mono ?_
        rintro e w6 ⟨rfl, hb6, hx6, z6, hm6, hz6⟩
        have q6 := q5.trans (hb6.mono (by omega))
        have hg6 : w6.heap[w.heap.size]? = some (.cells #[.int .i64 0, .int .i64 0, .int .i64 0, .int .i64 0, .int .i64 0, .int .i64 0, .int .i64 0] 23 (0, 0)) := by rw [hb6.block _ (by omega)]; exact hg5
        have he6 := HE.out.on q6
        clear hx5 hm5 hg5 q5 he5 hb6
        cases b4 with
        | false =>
          have HJ := Lib.hid (RF.jd yv mv dv hv nv sv z6 false (by rw [HF.out]; simp) (fun h => by cases h))
          unfold mom at HJ
          obtain ⟨k0, k1, k2, k3, k4, k5, k6⟩ := hm6.cells
          have HE9 := Lib.hid he6
          have HG9 := Lib.hid hg6
          have Q9 := Lib.hid q6
          clear RF hx6 hm6 hg6 q6 he6
          go_wp2_with fail
          refine (HJ.out _ HE9.out).mono ?_
          rintro e w9 ⟨rfl, hb9⟩
          have HG5 : Hid (w9.heap[w.heap.size]? = some (.cells #[.int .i64 0, .int .i64 0, .int .i64 0, .int .i64 0, .int .i64 0, .int .i64 0, .int .i64 0] 23 (0, 0))) := Lib.hid (by rw [hb9.block _ (Array.getElem?_eq_some_iff.1 HG9.out).1]; exact HG9.out)
          have Q5 := Lib.hid (Q9.out.trans (hb9.mono Q9.out.size))
          clear hb9 HG9 Q9 HJ HE9 k0 k1 k2 k3 k4 k5 k6
          go_wp2_with (refine wpList_store_row rfl 23 _ _ rfl w.heap.size #[.int .i64 r0, .int .i64 r1, .int .i64 r2, .int .i64 r3, .int .i64 r4, .int .i64 r5, .int .i64 r6] rfl rfl 23 _ HG5.out Tryz.sizeMom rfl (mom_one _ _ _ _ _ _ _) ?_)
          exact bodyPost_ret (v := .tuple #[mom r0 r1 r2 r3 r4 r5 r6, .int .i64 er]) (res2 Tryz.results8 _ _ w.heap.size 23 #[.int .i64 r0, .int .i64 r1, .int .i64 r2, .int .i64 r3, .int .i64 r4, .int .i64 r5, .int .i64 r6] (0, 0) _ rfl (setRow_heap _ _ _ #[.int .i64 r0, .int .i64 r1, .int .i64 r2, .int .i64 r3, .int .i64 r4, .int .i64 r5, .int .i64 r6] _ _ HG5.out) Tryz.underlying23 rfl Tryz.sizeMom) rfl ⟨rfl, below_setRow Q5.out (Nat.le_refl _) _⟩
        | true =>
          obtain rfl := hz6 rfl
          obtain ⟨i6, _, _, _, hc6⟩ := hx6
          obtain ⟨d0, d1, d2, d3⟩ := hc6.cells
          by_cases hk0 : c4.k = 0
          · have t6 : ((c4.k : Int) == 0) = true := by rw [beq_iff_eq]; omega
            have HJ := Lib.hid (RF.jd yv mv dv hv nv sv z6 true (by rw [HF.out, decide_eq_true hk0]; rfl) (fun _ => ⟨rfl, rfl, rfl, rfl, rfl, rfl, rfl⟩))
            unfold mom at HJ
            obtain ⟨k0, k1, k2, k3, k4, k5, k6⟩ := hm6.cells
            have HE9 := Lib.hid he6
            have HG9 := Lib.hid hg6
            have Q9 := Lib.hid q6
            clear RF hc6 hm6 hg6 q6 he6
            go_wp2_with fail
            refine (HJ.out _ HE9.out).mono ?_
            rintro e w9 ⟨rfl, hb9⟩
            have HG5 : Hid (w9.heap[w.heap.size]? = some (.cells #[.int .i64 0, .int .i64 0, .int .i64 0, .int .i64 0, .int .i64 0, .int .i64 0, .int .i64 0] 23 (0, 0))) := Lib.hid (by rw [hb9.block _ (Array.getElem?_eq_some_iff.1 HG9.out).1]; exact HG9.out)
            have Q5 := Lib.hid (Q9.out.trans (hb9.mono Q9.out.size))
            clear hb9 HG9 Q9 HJ HE9 k0 k1 k2 k3 k4 k5 k6
            go_wp2_with (refine wpList_store_row rfl 23 _ _ rfl w.heap.size #[.int .i64 r0, .int .i64 r1, .int .i64 r2, .int .i64 r3, .int .i64 r4, .int .i64 r5, .int .i64 r6] rfl rfl 23 _ HG5.out Tryz.sizeMom rfl (mom_one _ _ _ _ _ _ _) ?_)
            exact bodyPost_ret (v := .tuple #[mom r0 r1 r2 r3 r4 r5 r6, .int .i64 er]) (res2 Tryz.results8 _ _ w.heap.size 23 #[.int .i64 r0, .int .i64 r1, .int .i64 r2, .int .i64 r3, .int .i64 r4, .int .i64 r5, .int .i64 r6] (0, 0) _ rfl (setRow_heap _ _ _ #[.int .i64 r0, .int .i64 r1, .int .i64 r2, .int .i64 r3, .int .i64 r4, .int .i64 r5, .int .i64 r6] _ _ HG5.out) Tryz.underlying23 rfl Tryz.sizeMom) rfl ⟨rfl, below_setRow Q5.out (Nat.le_refl _) _⟩
          · have t6 : ((c4.k : Int) == 0) = false := by rw [beq_eq_false_iff_ne]; omega
            have HJ := Lib.hid (RF.jd yv mv dv hv nv sv z6 false (by rw [HF.out, decide_eq_false hk0]; rfl) (fun h => by cases h))
            unfold mom at HJ
            obtain ⟨k0, k1, k2, k3, k4, k5, k6⟩ := hm6.cells
            have HE9 := Lib.hid he6
            have HG9 := Lib.hid hg6
            have Q9 := Lib.hid q6
            clear RF hc6 hm6 hg6 q6 he6
            go_wp2_with fail
            refine (HJ.out _ HE9.out).mono ?_
            rintro e w9 ⟨rfl, hb9⟩
            have HG5 : Hid (w9.heap[w.heap.size]? = some (.cells #[.int .i64 0, .int .i64 0, .int .i64 0, .int .i64 0, .int .i64 0, .int .i64 0, .int .i64 0] 23 (0, 0))) := Lib.hid (by rw [hb9.block _ (Array.getElem?_eq_some_iff.1 HG9.out).1]; exact HG9.out)
            have Q5 := Lib.hid (Q9.out.trans (hb9.mono Q9.out.size))
            clear hb9 HG9 Q9 HJ HE9 k0 k1 k2 k3 k4 k5 k6
            go_wp2_with (refine wpList_store_row rfl 23 _ _ rfl w.heap.size #[.int .i64 r0, .int .i64 r1, .int .i64 r2, .int .i64 r3, .int .i64 r4, .int .i64 r5, .int .i64 r6] rfl rfl 23 _ HG5.out Tryz.sizeMom rfl (mom_one _ _ _ _ _ _ _) ?_)
            exact bodyPost_ret (v := .tuple #[mom r0 r1 r2 r3 r4 r5 r6, .int .i64 er]) (res2 Tryz.results8 _ _ w.heap.size 23 #[.int .i64 r0, .int .i64 r1, .int .i64 r2, .int .i64 r3, .int .i64 r4, .int .i64 r5, .int .i64 r6] (0, 0) _ rfl (setRow_heap _ _ _ #[.int .i64 r0, .int .i64 r1, .int .i64 r2, .int .i64 r3, .int .i64 r4, .int .i64 r5, .int .i64 r6] _ _ HG5.out) Tryz.underlying23 rfl Tryz.sizeMom) rfl ⟨rfl, below_setRow Q5.out (Nat.le_refl _) _⟩
end Go.Proofs.YtckdmbeokajdjaaGreatDoor
