/- moment: ReadDay, ReadInternal. -/
import Derived.Test.YtckdmbeokajdjaaGreatDoorDj
import Derived.Test.YtckdmbeokajdjaaGreatDoorSh
namespace Go.Proofs.YtckdmbeokajdjaaGreatDoor
open Go.RowKit

theorem judV_shape (f : Bool) (y m d h n s z : Int) : ∃ r0 r1 r2 r3 r4 r5 r6, judV f y m d h n s z = mom r0 r1 r2 r3 r4 r5 r6 := by
  unfold judV
  split
  · exact ⟨_, _, _, _, _, _, _, rfl⟩
  · exact ⟨_, _, _, _, _, _, _, rfl⟩
theorem judV_no (y m d h n s z y' m' d' h' n' s' z' : Int) : judV false y m d h n s z = judV false y' m' d' h' n' s' z' := rfl
theorem judE_no (y m d y' m' d' : Int) : judE false y m d = judE false y' m' d' := rfl
theorem bx_new2 (w : World) (x : Obj) : Bx (w.heap.size + 1) 0 0 0 0 0 0 0 ((w.alloc x).alloc (.cells #[.int .i64 0, .int .i64 0, .int .i64 0, .int .i64 0, .int .i64 0, .int .i64 0, .int .i64 0] 23)) := ⟨heap_alloc2_new w x (.cells #[.int .i64 0, .int .i64 0, .int .i64 0, .int .i64 0, .int .i64 0, .int .i64 0, .int .i64 0] 23)⟩

def riDay (l : List UInt8) : List UInt8 := Lib.trimPrefix (l.take 11) [32]
def riF (l : List UInt8) : Bool := tdB (riDay l) && tcB ((l.drop 12).take 8) && tzB (l.drop 21)
def riB (l : List UInt8) : Bool := decide (l.length = 26) && (bt l 11 == 32) && (bt l 20 == 32) && riF l
def riV (l : List UInt8) : Value := judV (riB l) (tdY (riDay l)) (tdM (riDay l)) (tdD (riDay l)) (tcH ((l.drop 12).take 8)) (tcN ((l.drop 12).take 8)) (tcS ((l.drop 12).take 8)) (tzV (l.drop 21))
def riE (l : List UInt8) : Int := judE (riB l) (tdY (riDay l)) (tdM (riDay l)) (tdD (riDay l))
theorem neq_test (c : UInt8) (k : UInt8) (n : Int) (h : (k.toNat : Int) = n) : ((c.toNat : Int) != n) = !(c == k) := by
  rw [← byte_test c k n h]; rfl
set_option maxRecDepth 100000 in
set_option maxHeartbeats 4000000 in
theorem momReadInternal_no (s : ByteArray) (w : World) (h : s.size ≠ 26 ∨ (s.size = 26 ∧ ((bt (L s) 11 == 32) = false ∨ (bt (L s) 11 == 32) = true ∧ (bt (L s) 20 == 32) = false))) :
    Calls Tryz.prog 7 #[.string s] w fun e w' => e = .returned (.tuple #[mom 0 0 0 0 0 0 0, .int .i64 20]) ∧ Below w.heap.size w w' := by
  have t1 := neq_test (bt (L s) 11) 32 32 rfl
  have t2 := neq_test (bt (L s) 20) 32 32 rfl
  have b1 : ∀ hh, (s[11]'hh) = bt (L s) 11 := fun hh => get_bt s 11 hh
  have b2 : ∀ hh, (s[20]'hh) = bt (L s) 20 := fun hh => get_bt s 20 hh
  generalize (bt (L s) 11 == 32) = p at *
  generalize (bt (L s) 20 == 32) = q at *
  generalize bt (L s) 11 = B1 at *
  generalize bt (L s) 20 = B2 at *
  rcases h with h | ⟨h, rfl | ⟨rfl, rfl⟩⟩
  · have t : ((s.size : Int) != 26) = true := by rw [bne_iff_ne]; omega
    go_enter Tryz.func7, Tryz.ntmps7
    go_wp2
    exact bodyPost_ret (v := .tuple #[mom 0 0 0 0 0 0 0, .int .i64 20]) (res2 Tryz.results7 _ _ w.heap.size 23 _ (0, 0) _ rfl (heap_alloc_new w _) Tryz.underlying23 rfl Tryz.sizeMom) rfl ⟨rfl, (Below.refl _ _).alloc (Nat.le_refl _) _⟩
  all_goals (
    simp only [Bool.not_false, Bool.not_true] at t1 t2
    go_enter Tryz.func7, Tryz.ntmps7
    go_wp2
    exact bodyPost_ret (v := .tuple #[mom 0 0 0 0 0 0 0, .int .i64 20]) (res2 Tryz.results7 _ _ w.heap.size 23 _ (0, 0) _ rfl (heap_alloc_new w _) Tryz.underlying23 rfl Tryz.sizeMom) rfl ⟨rfl, (Below.refl _ _).alloc (Nat.le_refl _) _⟩)

set_option maxRecDepth 100000 in
set_option maxHeartbeats 4000000 in
theorem momReadInternal_yes (s : ByteArray) (w : World) (he : Env w) (hs : s.size = 26) (p1 : (bt (L s) 11 == 32) = true) (p2 : (bt (L s) 20 == 32) = true) :
    Calls Tryz.prog 7 #[.string s] w fun e w' => e = .returned (.tuple #[riV (L s), .int .i64 (riE (L s))]) ∧ Below w.heap.size w w' := by
  have hlen : (L s).length = 26 := by rw [L_length]; exact hs
  have hF : riB (L s) = riF (L s) := by unfold riB; rw [hlen, p1, p2]; rfl
  have hFF : riF (L s) = (tdB (riDay (L s)) && tcB (((L s).drop 12).take 8) && tzB ((L s).drop 21)) := rfl
  have e1 : L (s.extract 0 11) = (L s).take 11 := by rw [extract_S, L_S, List.drop_zero]
  have e2 : L (s.extract 12 20) = ((L s).drop 12).take 8 := by rw [extract_S, L_S]
  have e3 : L (s.extract 21 26) = (L s).drop 21 := by rw [extract_S, L_S]; exact List.take_of_length_le (by rw [List.length_drop, hlen]; omega)
  have z2 : (s.extract 12 20).size = 8 := by rw [← L_length, e2, List.length_take, List.length_drop, hlen]; rfl
  have t1 := neq_test (bt (L s) 11) 32 32 rfl
  have t2 := neq_test (bt (L s) 20) 32 32 rfl
  have b1 : ∀ hh, (s[11]'hh) = bt (L s) 11 := fun hh => get_bt s 11 hh
  have b2 : ∀ hh, (s[20]'hh) = bt (L s) 20 := fun hh => get_bt s 20 hh
  rw [p1] at t1
  rw [p2] at t2
  simp only [Bool.not_true] at t1 t2
  have hTP := Lib.hid (fun W => Tryz.strings_TrimPrefix (s.extract 0 11) ⟨#[32]⟩ W)
  have hDs : (⟨(Lib.trimPrefix (s.extract 0 11).data.toList (⟨#[32]⟩ : ByteArray).data.toList).toArray⟩ : ByteArray) = S (riDay (L s)) := by
    unfold riDay
    rw [← e1]
    rfl
  rw [hDs] at hTP
  have hdz : (S (riDay (L s))).size ≤ 140737488355328 := by
    rw [S_size]
    have : (riDay (L s)).length ≤ 11 := by
      unfold riDay Lib.trimPrefix
      split
      · rw [List.length_drop, List.length_take]; omega
      · rw [List.length_take]; omega
    omega
  have hx0 := bx_new2 w (.cells #[.int .i64 0, .int .i64 0, .int .i64 0, .int .i64 0, .int .i64 0, .int .i64 0, .int .i64 0] 23)
  have hg0 := (heap_alloc_old (w.alloc (.cells #[.int .i64 0, .int .i64 0, .int .i64 0, .int .i64 0, .int .i64 0, .int .i64 0, .int .i64 0] 23)) (.cells #[.int .i64 0, .int .i64 0, .int .i64 0, .int .i64 0, .int .i64 0, .int .i64 0, .int .i64 0] 23) (by simp)).trans (heap_alloc_new w (.cells #[.int .i64 0, .int .i64 0, .int .i64 0, .int .i64 0, .int .i64 0, .int .i64 0, .int .i64 0] 23))
  have q0 := below2 w (.cells #[.int .i64 0, .int .i64 0, .int .i64 0, .int .i64 0, .int .i64 0, .int .i64 0, .int .i64 0] 23) (.cells #[.int .i64 0, .int .i64 0, .int .i64 0, .int .i64 0, .int .i64 0, .int .i64 0, .int .i64 0] 23)
  have hT := takeDay_any (S (riDay (L s))) (w.heap.size + 1) 0 0 0 0 0 0 0 _ (he.on q0) hdz hx0 (he.over.mono (by omega))
  rw [L_S] at hT
  have hC := fun y m d h n se z W hx => takeClock_any (s.extract 12 20) (w.heap.size + 1) y m d h n se z W z2 hx
  have hZ := fun y m d h n se z W hx => takeZone_any (s.extract 21 26) (w.heap.size + 1) y m d h n se z W hx
  rw [e2] at hC
  rw [e3] at hZ
  obtain ⟨r0, r1, r2, r3, r4, r5, r6, hr⟩ := judV_shape (riB (L s)) (tdY (riDay (L s))) (tdM (riDay (L s))) (tdD (riDay (L s))) (tcH (((L s).drop 12).take 8)) (tcN (((L s).drop 12).take 8)) (tcS (((L s).drop 12).take 8)) (tzV ((L s).drop 21))
  have HJJ : Hid (∀ y' m' d' h' n' s' z' f, f = riF (L s) → (f = true → y' = tdY (riDay (L s)) ∧ m' = tdM (riDay (L s)) ∧ d' = tdD (riDay (L s)) ∧ h' = tcH (((L s).drop 12).take 8) ∧ n' = tcN (((L s).drop 12).take 8) ∧ s' = tcS (((L s).drop 12).take 8) ∧ z' = tzV ((L s).drop 21)) → ∀ W, Env W → Calls Tryz.prog 24 #[mom y' m' d' h' n' s' z', .bool f] W fun e w' => e = .returned (.tuple #[mom r0 r1 r2 r3 r4 r5 r6, .int .i64 (riE (L s))]) ∧ Below W.heap.size W w') := Lib.hid (fun y' m' d' h' n' s' z' f hf hv W hW => by
    have hj1 : judV f y' m' d' h' n' s' z' = mom r0 r1 r2 r3 r4 r5 r6 ∧ judE f y' m' d' = riE (L s) := by
      unfold riE
      rw [← hr, hF, ← hf]
      cases ht : f with
      | false => exact ⟨rfl, rfl⟩
      | true =>
        obtain ⟨rfl, rfl, rfl, rfl, rfl, rfl, rfl⟩ := hv ht
        exact ⟨rfl, rfl⟩
    have := judge_any f y' m' d' h' n' s' z' W hW
    rw [hj1.1, hj1.2] at this
    exact this)
  have hrv : riV (L s) = mom r0 r1 r2 r3 r4 r5 r6 := hr
  rw [hrv]
  clear hr hrv
  have HFF := Lib.hid hFF
  have HT := Lib.hid hT
  have HG := Lib.hid hg0
  have HQ := Lib.hid q0
  have HE := Lib.hid he
  have HC := Lib.hid hC
  have HZ := Lib.hid hZ
  generalize riE (L s) = er at *
  clear hT hx0 hg0 q0 he hC hZ hF hFF e1 e2 e3 z2 hDs hdz p1 p2 hlen
  unfold mom at HJJ ⊢
  go_enter Tryz.func7, Tryz.ntmps7
  go_wp2_with (go_at_call 20; refine (hTP.out _).mono ?_; rintro e w' ⟨rfl, hw'⟩; subst w')
  refine HT.out.mono ?_
  rintro e w1 ⟨rfl, hbb, y', m', d', hx1, hval⟩
  have hg1 : w1.heap[w.heap.size]? = some (.cells #[.int .i64 0, .int .i64 0, .int .i64 0, .int .i64 0, .int .i64 0, .int .i64 0, .int .i64 0] 23 (0, 0)) := by rw [hbb.block _ (by omega)]; exact HG.out
  have q1 : Below w.heap.size w w1 := HQ.out.trans (hbb.mono (by omega))
  clear hbb HT HG HQ hTP
  cases hd : tdB (riDay (L s)) with
  | false =>
    rw [hd] at hval HFF
    clear hval
    have HJ := Lib.hid (HJJ.out y' m' d' 0 0 0 0 false (by rw [HFF.out]; simp) (fun h => by cases h))
    obtain ⟨c0, c1, c2, c3, c4, c5, c6⟩ := hx1.cells
    have he1 := Lib.hid (HE.out.on q1)
    have HG4 := Lib.hid hg1
    have Q4 := Lib.hid q1
    clear hx1 hg1 q1 HE HJJ
    go_wp2_with fail
    refine (HJ.out _ he1.out).mono ?_
    rintro e w5 ⟨rfl, hb5⟩
    have HG5 : Hid (w5.heap[w.heap.size]? = some (.cells #[.int .i64 0, .int .i64 0, .int .i64 0, .int .i64 0, .int .i64 0, .int .i64 0, .int .i64 0] 23 (0, 0))) := Lib.hid (by rw [hb5.block _ (Array.getElem?_eq_some_iff.1 HG4.out).1]; exact HG4.out)
    have Q5 := Lib.hid (Q4.out.trans (hb5.mono Q4.out.size))
    clear hb5 HG4 Q4 HJ he1 c0 c1 c2 c3 c4 c5 c6
    go_wp2_with (refine wpList_store_row rfl 23 _ _ rfl w.heap.size #[.int .i64 r0, .int .i64 r1, .int .i64 r2, .int .i64 r3, .int .i64 r4, .int .i64 r5, .int .i64 r6] rfl rfl 23 _ HG5.out Tryz.sizeMom rfl (mom_one _ _ _ _ _ _ _) ?_)
    exact bodyPost_ret (v := .tuple #[mom r0 r1 r2 r3 r4 r5 r6, .int .i64 er]) (res2 Tryz.results7 _ _ w.heap.size 23 #[.int .i64 r0, .int .i64 r1, .int .i64 r2, .int .i64 r3, .int .i64 r4, .int .i64 r5, .int .i64 r6] (0, 0) _ rfl (setRow_heap _ _ _ #[.int .i64 r0, .int .i64 r1, .int .i64 r2, .int .i64 r3, .int .i64 r4, .int .i64 r5, .int .i64 r6] _ _ HG5.out) Tryz.underlying23 rfl Tryz.sizeMom) rfl ⟨rfl, below_setRow Q5.out (Nat.le_refl _) _⟩

  | true =>
    rw [hd] at hval HFF
    obtain ⟨rfl, rfl, rfl⟩ := hval rfl
    go_wp2_with fail
    refine (HC.out _ _ _ _ _ _ _ _ hx1).mono ?_
    rintro e w2 ⟨rfl, hbb, hx2⟩
    have hg2 : w2.heap[w.heap.size]? = some (.cells #[.int .i64 0, .int .i64 0, .int .i64 0, .int .i64 0, .int .i64 0, .int .i64 0, .int .i64 0] 23 (0, 0)) := by rw [hbb.block _ (by omega)]; exact hg1
    have q2 : Below w.heap.size w w2 := q1.trans (hbb.mono (by omega))
    clear hbb hx1 hg1 q1 HC
    cases hc : tcB (((L s).drop 12).take 8) with
    | false =>
      rw [hc] at HFF
      have HJ := Lib.hid (HJJ.out (tdY (riDay (L s))) (tdM (riDay (L s))) (tdD (riDay (L s))) (tcH (((L s).drop 12).take 8)) (tcN (((L s).drop 12).take 8)) (tcS (((L s).drop 12).take 8)) 0 false (by rw [HFF.out]; simp) (fun h => by cases h))
      obtain ⟨c0, c1, c2, c3, c4, c5, c6⟩ := hx2.cells
      have he1 := Lib.hid (HE.out.on q2)
      have HG4 := Lib.hid hg2
      have Q4 := Lib.hid q2
      clear hx2 hg2 q2 HE HJJ
      go_wp2_with fail
      refine (HJ.out _ he1.out).mono ?_
      rintro e w5 ⟨rfl, hb5⟩
      have HG5 : Hid (w5.heap[w.heap.size]? = some (.cells #[.int .i64 0, .int .i64 0, .int .i64 0, .int .i64 0, .int .i64 0, .int .i64 0, .int .i64 0] 23 (0, 0))) := Lib.hid (by rw [hb5.block _ (Array.getElem?_eq_some_iff.1 HG4.out).1]; exact HG4.out)
      have Q5 := Lib.hid (Q4.out.trans (hb5.mono Q4.out.size))
      clear hb5 HG4 Q4 HJ he1 c0 c1 c2 c3 c4 c5 c6
      go_wp2_with (refine wpList_store_row rfl 23 _ _ rfl w.heap.size #[.int .i64 r0, .int .i64 r1, .int .i64 r2, .int .i64 r3, .int .i64 r4, .int .i64 r5, .int .i64 r6] rfl rfl 23 _ HG5.out Tryz.sizeMom rfl (mom_one _ _ _ _ _ _ _) ?_)
      exact bodyPost_ret (v := .tuple #[mom r0 r1 r2 r3 r4 r5 r6, .int .i64 er]) (res2 Tryz.results7 _ _ w.heap.size 23 #[.int .i64 r0, .int .i64 r1, .int .i64 r2, .int .i64 r3, .int .i64 r4, .int .i64 r5, .int .i64 r6] (0, 0) _ rfl (setRow_heap _ _ _ #[.int .i64 r0, .int .i64 r1, .int .i64 r2, .int .i64 r3, .int .i64 r4, .int .i64 r5, .int .i64 r6] _ _ HG5.out) Tryz.underlying23 rfl Tryz.sizeMom) rfl ⟨rfl, below_setRow Q5.out (Nat.le_refl _) _⟩

    | true =>
      rw [hc] at HFF
      go_wp2_with fail
      refine (HZ.out _ _ _ _ _ _ _ _ hx2).mono ?_
      rintro e w3 ⟨rfl, hbb, z', hx3, hzv⟩
      have hg3 : w3.heap[w.heap.size]? = some (.cells #[.int .i64 0, .int .i64 0, .int .i64 0, .int .i64 0, .int .i64 0, .int .i64 0, .int .i64 0] 23 (0, 0)) := by rw [hbb.block _ (by omega)]; exact hg2
      have q3 : Below w.heap.size w w3 := q2.trans (hbb.mono (by omega))
      clear hbb hx2 hg2 q2 HZ
      clear hd hc
      have HJ := Lib.hid (HJJ.out (tdY (riDay (L s))) (tdM (riDay (L s))) (tdD (riDay (L s))) (tcH (((L s).drop 12).take 8)) (tcN (((L s).drop 12).take 8)) (tcS (((L s).drop 12).take 8)) z' (tzB ((L s).drop 21)) (by rw [HFF.out]; simp) (fun h => ⟨rfl, rfl, rfl, rfl, rfl, rfl, hzv h⟩))
      clear hzv HFF
      generalize tzB ((L s).drop 21) = zb at *
      obtain ⟨c0, c1, c2, c3, c4, c5, c6⟩ := hx3.cells
      have he1 := Lib.hid (HE.out.on q3)
      have HG4 := Lib.hid hg3
      have Q4 := Lib.hid q3
      clear hx3 hg3 q3 HE HJJ
      go_wp2_with fail
      refine (HJ.out _ he1.out).mono ?_
      rintro e w5 ⟨rfl, hb5⟩
      have HG5 : Hid (w5.heap[w.heap.size]? = some (.cells #[.int .i64 0, .int .i64 0, .int .i64 0, .int .i64 0, .int .i64 0, .int .i64 0, .int .i64 0] 23 (0, 0))) := Lib.hid (by rw [hb5.block _ (Array.getElem?_eq_some_iff.1 HG4.out).1]; exact HG4.out)
      have Q5 := Lib.hid (Q4.out.trans (hb5.mono Q4.out.size))
      clear hb5 HG4 Q4 HJ he1 c0 c1 c2 c3 c4 c5 c6
      go_wp2_with (refine wpList_store_row rfl 23 _ _ rfl w.heap.size #[.int .i64 r0, .int .i64 r1, .int .i64 r2, .int .i64 r3, .int .i64 r4, .int .i64 r5, .int .i64 r6] rfl rfl 23 _ HG5.out Tryz.sizeMom rfl (mom_one _ _ _ _ _ _ _) ?_)
      exact bodyPost_ret (v := .tuple #[mom r0 r1 r2 r3 r4 r5 r6, .int .i64 er]) (res2 Tryz.results7 _ _ w.heap.size 23 #[.int .i64 r0, .int .i64 r1, .int .i64 r2, .int .i64 r3, .int .i64 r4, .int .i64 r5, .int .i64 r6] (0, 0) _ rfl (setRow_heap _ _ _ #[.int .i64 r0, .int .i64 r1, .int .i64 r2, .int .i64 r3, .int .i64 r4, .int .i64 r5, .int .i64 r6] _ _ HG5.out) Tryz.underlying23 rfl Tryz.sizeMom) rfl ⟨rfl, below_setRow Q5.out (Nat.le_refl _) _⟩

end Go.Proofs.YtckdmbeokajdjaaGreatDoor
