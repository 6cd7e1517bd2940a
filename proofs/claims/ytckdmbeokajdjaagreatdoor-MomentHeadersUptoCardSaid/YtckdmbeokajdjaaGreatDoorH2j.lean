/- The document's ReadHeader: letters. -/
import Derived.Test.YtckdmbeokajdjaaGreatDoorH2h
namespace Go.Proofs.YtckdmbeokajdjaaGreatDoor
open Go.RowKit

def zoT : List (List UInt8) := [[101, 115, 116], [101, 100, 116], [99, 115, 116], [99, 100, 116], [109, 115, 116], [109, 100, 116], [112, 115, 116], [112, 100, 116]]
def zoH : List Nat := [5, 4, 6, 5, 7, 6, 8, 7]
def zoI (t : List UInt8) : Int := if zoT.findIdx (fun n => n == t) < 8 then -60 * ((zoH.getD (zoT.findIdx (fun n => n == t)) 0 : Nat) : Int) else 0
theorem zones_map : zonesD = .map [(zK [67, 68, 84], zV (-300)), (zK [67, 83, 84], zV (-360)), (zK [69, 68, 84], zV (-240)), (zK [69, 83, 84], zV (-300)), (zK [77, 68, 84], zV (-360)), (zK [77, 83, 84], zV (-420)), (zK [80, 68, 84], zV (-420)), (zK [80, 83, 84], zV (-480))] := by kernel_rfl
theorem upper_lower : ∀ c : UInt8, Lib.upperB (sm c) = Lib.upperB c ∧ sm (Lib.upperB c) = sm c := by
  have h : ∀ c : Fin 256, Lib.upperB (sm (UInt8.ofNat c.val)) = Lib.upperB (UInt8.ofNat c.val) ∧ sm (Lib.upperB (UInt8.ofNat c.val)) = sm (UInt8.ofNat c.val) := by decide +kernel
  intro c
  have := h ⟨c.toNat, c.toNat_lt⟩
  simpa using this
theorem up_low (p : List UInt8) : Lib.toUpperA (lower p) = Lib.toUpperA p := by
  unfold Lib.toUpperA lower; rw [List.map_map]; apply List.map_congr_left; intro c _; exact (upper_lower c).1
theorem low_up (p : List UInt8) : lower (Lib.toUpperA p) = lower p := by
  unfold Lib.toUpperA lower; rw [List.map_map]; apply List.map_congr_left; intro c _; exact (upper_lower c).2
def nzU (u : List UInt8) : Int := if [67, 68, 84] == u then -300 else if [67, 83, 84] == u then -360 else if [69, 68, 84] == u then -240 else if [69, 83, 84] == u then -300 else if [77, 68, 84] == u then -360 else if [77, 83, 84] == u then -420 else if [80, 68, 84] == u then -420 else if [80, 83, 84] == u then -480 else 0
theorem nz_up (p : List UInt8) : nzI p = nzU (Lib.toUpperA p) := by
  unfold nzI nzU
  rw [zones_map]
  generalize Lib.toUpperA p = u
  simp only [DataW.atKey, List.find?, Lit.sameKey, zK, zV]
  cases h1 : ([67, 68, 84] == u) with
  | true => rfl
  | false =>
    cases h2 : ([67, 83, 84] == u) with
    | true => rfl
    | false =>
      cases h3 : ([69, 68, 84] == u) with
      | true => rfl
      | false =>
        cases h4 : ([69, 83, 84] == u) with
        | true => rfl
        | false =>
          cases h5 : ([77, 68, 84] == u) with
          | true => rfl
          | false =>
            cases h6 : ([77, 83, 84] == u) with
            | true => rfl
            | false =>
              cases h7 : ([80, 68, 84] == u) with
              | true => rfl
              | false =>
                cases h8 : ([80, 83, 84] == u) with
                | true => rfl
                | false => rfl
theorem nz_zo (p : List UInt8) : nzI p = zoI (lower p) := by
  rw [nz_up]
  by_cases h : lower p ∈ zoT
  · have hu := up_low p
    have key : ∀ t, t ∈ zoT → nzU (Lib.toUpperA t) = zoI t := by decide +kernel
    rw [← hu]; exact key _ h
  · have hz : zoI (lower p) = 0 := by
      unfold zoI
      have : ¬ zoT.findIdx (fun n => n == lower p) < 8 := by
        intro hlt
        have hx := List.findIdx_lt_length.1 (show zoT.findIdx (fun n => n == lower p) < zoT.length from hlt)
        obtain ⟨x, hx, e⟩ := hx
        have e' : x = lower p := by simpa using e
        exact h (e' ▸ hx)
      rw [if_neg this]
    rw [hz]
    have no : ∀ X : List UInt8, lower X ∈ zoT → (X == Lib.toUpperA p) = false := fun X hX => by
      rw [beq_eq_false_iff_ne]
      intro e
      apply h
      rw [← low_up p, ← e]; exact hX
    unfold nzU
    rw [no _ (by decide +kernel), no _ (by decide +kernel), no _ (by decide +kernel), no _ (by decide +kernel), no _ (by decide +kernel), no _ (by decide +kernel), no _ (by decide +kernel), no _ (by decide +kernel)]
    rfl
set_option maxRecDepth 100000 in
set_option maxHeartbeats 2000000 in
theorem rletters_any (s : ByteArray) (w : World) (hs : s.size ≤ 140737488355328) :
    Calls Tryz.prog 81 #[.string s] w fun e w' => e = .returned (.int .i64 (nzI (L s))) ∧ Below w.heap.size w w' := by
  rw [nz_zo]
  have hL := Lib.hid (fun W => rlower_any s W hs)
  obtain ⟨t, ht⟩ : ∃ t, t = lower (L s) := ⟨_, rfl⟩
  rw [← ht] at hL ⊢
  clear ht
  have HC : Hid (∀ W : World, W = (w.alloc (.cells #[.string ⟨#[101, 115, 116]⟩, .string ⟨#[101, 100, 116]⟩, .string ⟨#[99, 115, 116]⟩, .string ⟨#[99, 100, 116]⟩, .string ⟨#[109, 115, 116]⟩, .string ⟨#[109, 100, 116]⟩, .string ⟨#[112, 115, 116]⟩, .string ⟨#[112, 100, 116]⟩] 9)).alloc (.cells #[.int .i64 5, .int .i64 4, .int .i64 6, .int .i64 5, .int .i64 7, .int .i64 6, .int .i64 8, .int .i64 7] 3) →
      Below w.heap.size w W ∧ W.heap.size = w.heap.size + 2 ∧ ∀ k, k < 8 → W.cell? ⟨w.heap.size, k, none⟩ = some (.string (S (zoT.getD k []))) ∧ W.cell? ⟨w.heap.size + 1, k, none⟩ = some (.int .i64 ((zoH.getD k 0 : Nat) : Int))) := Lib.hid (fun W hW => by
    subst hW
    refine ⟨((Below.refl _ _).alloc (Nat.le_refl _) _).alloc (by simp) _, by simp, fun k hk => ?_⟩
    have g2 := heap_alloc2_new w (.cells #[.string ⟨#[101, 115, 116]⟩, .string ⟨#[101, 100, 116]⟩, .string ⟨#[99, 115, 116]⟩, .string ⟨#[99, 100, 116]⟩, .string ⟨#[109, 115, 116]⟩, .string ⟨#[109, 100, 116]⟩, .string ⟨#[112, 115, 116]⟩, .string ⟨#[112, 100, 116]⟩] 9) (.cells #[.int .i64 5, .int .i64 4, .int .i64 6, .int .i64 5, .int .i64 7, .int .i64 6, .int .i64 8, .int .i64 7] 3)
    have g1 := heap_alloc2_old w (.cells #[.string ⟨#[101, 115, 116]⟩, .string ⟨#[101, 100, 116]⟩, .string ⟨#[99, 115, 116]⟩, .string ⟨#[99, 100, 116]⟩, .string ⟨#[109, 115, 116]⟩, .string ⟨#[109, 100, 116]⟩, .string ⟨#[112, 115, 116]⟩, .string ⟨#[112, 100, 116]⟩] 9) (.cells #[.int .i64 5, .int .i64 4, .int .i64 6, .int .i64 5, .int .i64 7, .int .i64 6, .int .i64 8, .int .i64 7] 3)
    rw [cell_of_row _ _ k _ _ _ g1, cell_of_row _ _ k _ _ _ g2]
    have hall : ∀ k : Fin 8, (#[.string ⟨#[101, 115, 116]⟩, .string ⟨#[101, 100, 116]⟩, .string ⟨#[99, 115, 116]⟩, .string ⟨#[99, 100, 116]⟩, .string ⟨#[109, 115, 116]⟩, .string ⟨#[109, 100, 116]⟩, .string ⟨#[112, 115, 116]⟩, .string ⟨#[112, 100, 116]⟩] : Array Value)[k.val]? = some (.string (S (zoT.getD k.val []))) ∧ (#[.int .i64 5, .int .i64 4, .int .i64 6, .int .i64 5, .int .i64 7, .int .i64 6, .int .i64 8, .int .i64 7] : Array Value)[k.val]? = some (.int .i64 ((zoH.getD k.val 0 : Nat) : Int)) := by
      intro k
      match k with
      | 0 => exact ⟨rfl, rfl⟩
      | 1 => exact ⟨rfl, rfl⟩
      | 2 => exact ⟨rfl, rfl⟩
      | 3 => exact ⟨rfl, rfl⟩
      | 4 => exact ⟨rfl, rfl⟩
      | 5 => exact ⟨rfl, rfl⟩
      | 6 => exact ⟨rfl, rfl⟩
      | 7 => exact ⟨rfl, rfl⟩
    exact hall ⟨k, hk⟩)
  go_enter Tryz.func81, Tryz.ntmps81
  go_wp2_with fail
  have hc := HC.out _ rfl
  generalize (w.alloc (.cells #[.string ⟨#[101, 115, 116]⟩, .string ⟨#[101, 100, 116]⟩, .string ⟨#[99, 115, 116]⟩, .string ⟨#[99, 100, 116]⟩, .string ⟨#[109, 115, 116]⟩, .string ⟨#[109, 100, 116]⟩, .string ⟨#[112, 115, 116]⟩, .string ⟨#[112, 100, 116]⟩] 9)).alloc (.cells #[.int .i64 5, .int .i64 4, .int .i64 6, .int .i64 5, .int .i64 7, .int .i64 6, .int .i64 8, .int .i64 7] 3) = W2 at hc ⊢
  clear HC
  obtain ⟨hb0, hz0, hcc⟩ := hc
  refine (hL.out _).mono ?_
  rintro e w3 ⟨rfl, hb3⟩
  have HB := Lib.hid (hb0.trans (hb3.mono hb0.size))
  have HCC : Hid (∀ k, k < 8 → w3.cell? ⟨w.heap.size, k, none⟩ = some (.string (S (zoT.getD k []))) ∧ w3.cell? ⟨w.heap.size + 1, k, none⟩ = some (.int .i64 ((zoH.getD k 0 : Nat) : Int))) := Lib.hid (fun k hk => by
    rw [hb3.cell (p := ⟨w.heap.size, k, none⟩) (by show w.heap.size < _; omega), hb3.cell (p := ⟨w.heap.size + 1, k, none⟩) (by show w.heap.size + 1 < _; omega)]
    exact hcc k hk)
  clear hb0 hz0 hcc hb3
  go_wp2_with fail
  go_loopw [6] (fun v wr => ∃ k : Nat, k ≤ 8 ∧ v = .int .i64 (k : Int) ∧ (∀ j, j < k → (zoT.getD j [] == t) = false) ∧ wr = w3) (fun v _ => 8 - (intOf v).toNat)
  case atStart => exact ⟨0, Nat.zero_le _, rfl, fun j hj => by omega, rfl⟩
  case round =>
    obtain ⟨k, hk, rfl, hno, hwr⟩ := hrel
    obtain rfl : w3 = wr := hwr.symm
    have HNo := Lib.hid hno
    clear hno
    by_cases hlt : k < 8
    · obtain ⟨c1, c2⟩ := HCC.out k hlt
      have hltI : (k : Int) < 8 := by omega
      have tt : ((S (zoT.getD k [])).toList == (S t).toList) = (zoT.getD k [] == t) := by rw [toList_L, toList_L, L_S, L_S]
      obtain ⟨hv, hhv⟩ : ∃ hv, hv = zoH.getD k 0 := ⟨_, rfl⟩
      have hv8 : hv ≤ 8 := by
        rw [hhv]
        have : ∀ k : Fin 8, zoH.getD k.val 0 ≤ 8 := by decide
        exact this ⟨k, hlt⟩
      rw [← hhv] at c2
      have HV := Lib.hid hhv
      clear hhv
      cases hq : (zoT.getD k [] == t) with
      | true =>
        rw [hq] at tt
        have hix : zoT.findIdx (fun n => n == t) = k := by
          rw [List.findIdx_eq (show k < zoT.length from hlt)]
          refine ⟨?_, fun j hj => ?_⟩
          · rw [List.getD_eq_getElem?_getD, List.getElem?_eq_getElem (show k < zoT.length from hlt)] at hq; exact hq
          · have hj8 : j < zoT.length := by have : zoT.length = 8 := rfl; omega
            have := HNo.out j hj
            rw [List.getD_eq_getElem?_getD, List.getElem?_eq_getElem hj8] at this
            exact this
        have HR : Hid (zoI t = -60 * (hv : Int)) := Lib.hid (by unfold zoI; rw [hix, if_pos hlt, ← HV.out])
        generalize S (zoT.getD k []) = a at *
        clear hix hq
        go_wp2
        go_ret
        exact ⟨by rw [HR.out]; rfl, HB.out⟩
      | false =>
        rw [hq] at tt
        have HNo2 : Hid (∀ j, j < k + 1 → (zoT.getD j [] == t) = false) := Lib.hid (fun j hj => by
          rcases Nat.lt_or_ge j k with h | h
          · exact HNo.out j h
          · obtain rfl : j = k := by omega
            exact hq)
        generalize S (zoT.getD k []) = a at *
        clear hq
        go_wp2
        go_roundw
        case rel => exact ⟨k + 1, by omega, by push_cast; rfl, HNo2.out, by first | rfl | trivial⟩
        case measure => simp [intOf]; omega
    · obtain rfl : k = 8 := by omega
      have HR : Hid (zoI t = 0) := Lib.hid (by
        unfold zoI
        rw [if_neg]
        intro hx
        have hx8 : zoT.findIdx (fun n => n == t) < zoT.length := hx
        have h1 := List.findIdx_getElem (w := hx8)
        have h2 := HNo.out _ hx
        rw [List.getD_eq_getElem?_getD, List.getElem?_eq_getElem hx8] at h2
        rw [Option.getD_some] at h2
        simp only [h2] at h1
        cases h1)
      go_wp2
      go_ret
      exact ⟨by rw [HR.out]; rfl, HB.out⟩

end Go.Proofs.YtckdmbeokajdjaaGreatDoor

/- The document's ReadHeader: among the weekdays; zoned of any text; ending. -/
namespace Go.Proofs.YtckdmbeokajdjaaGreatDoor
open Go.RowKit

def wdsB : ByteArray := ⟨#[115, 117, 110, 109, 111, 110, 116, 117, 101, 119, 101, 100, 116, 104, 117, 102, 114, 105, 115, 97, 116]⟩
def wdI (l : List UInt8) : Int := if wdIx l < 7 then ((wdIx l : Nat) : Int) + 1 else 0
theorem wds_at (k : Nat) (h : k < 7) : L (wdsB.extract (3 * k) (3 * k + 3)) = lower (wdN k) := by
  have : ∀ k : Fin 7, L (wdsB.extract (3 * k.val) (3 * k.val + 3)) = lower (wdN k.val) := by decide +kernel
  exact this ⟨k, h⟩
theorem wds_test (l : List UInt8) (k : Nat) (h : k < 7) : ((wdsB.extract (3 * k) (3 * k + 3)).toList == (S (lower l)).toList) = same l (wdN k) := by
  rw [toList_L, toList_L, wds_at k h, L_S]
  unfold same
  rw [Bool.eq_iff_iff, beq_iff_eq, beq_iff_eq]
  exact eq_comm
set_option maxHeartbeats 1000000 in
theorem wamong_any (s : ByteArray) (w : World) (hs : s.size ≤ 140737488355328) :
    Calls Tryz.prog 61 #[.string wdsB, .string s] w fun e w' => e = .returned (.int .i64 (wdI (L s))) ∧ Below w.heap.size w w' := by
  have hL := Lib.hid (fun W => rlower_any s W hs)
  have HT := Lib.hid (fun k hk => wds_test (L s) k hk)
  have hsz : wdsB.size = 21 := rfl
  generalize S (lower (L s)) = t at *
  generalize wdsB = N at *
  go_enter Tryz.func61, Tryz.ntmps61
  go_wp2_with fail
  refine (hL.out _).mono ?_
  rintro e w1 ⟨rfl, hb1⟩
  go_wp2
  go_loop [6] (fun i => ∃ k : Nat, k ≤ 7 ∧ i = .int .i64 k ∧ ∀ j, j < k → same (L s) (wdT.getD j []) = false) (fun i => 7 - (intOf i).toNat)
  case atStart => exact ⟨0, Nat.zero_le _, rfl, fun j hj => by omega⟩
  case round =>
    obtain ⟨k, hk, rfl, hno⟩ := hrel
    have HP := Lib.hid hno
    clear hno
    by_cases hlt : k < 7
    · have ht := HT.out k hlt
      cases hsm : same (L s) (wdN k) with
      | true =>
        rw [hsm] at ht
        have hix : Hid (wdIx (L s) = k) := Lib.hid (findIdx_at wdT (L s) k (by show k < 7; omega) HP.out hsm)
        have HR : Hid (wdI (L s) = (k : Int) + 1) := Lib.hid (by unfold wdI; rw [hix.out, if_pos hlt])
        go_wp2
        go_ret
        exact ⟨ret_int HR.out.symm, hb1⟩
      | false =>
        rw [hsm] at ht
        go_wp2
        go_round
        case rel => exact ⟨k + 1, by omega, by go_num, fun j hj => by
          rcases Nat.lt_or_ge j k with h | h
          · exact HP.out j h
          · obtain rfl : j = k := by omega
            exact hsm⟩
        case measure => simp [intOf]; omega
    · obtain rfl : k = 7 := by omega
      have HR : Hid (wdI (L s) = 0) := Lib.hid (by
        have hix : wdIx (L s) = 7 := findIdx_none wdT (L s) HP.out
        unfold wdI; rw [hix]; rfl)
      go_wp2
      go_ret
      exact ⟨ret_int HR.out.symm, hb1⟩
theorem wdI_B (l : List UInt8) : (wdI l == 0) = !(wdB l) := by
  unfold wdI wdB
  by_cases h : wdIx l < 7
  · rw [if_pos h, decide_eq_true h]
    show _ = false
    rw [beq_eq_false_iff_ne]; omega
  · rw [if_neg h, decide_eq_false h]; rfl
set_option maxHeartbeats 400000 in
theorem zoned_no (s : ByteArray) (w : World) (hs : s.size ≠ 5) :
    Calls Tryz.prog 82 #[.string s] w fun e w' => e = .returned (.tuple #[.int .i64 0, .bool false]) ∧ w' = w := by
  have h5 : ((s.size : Int) != 5) = true := by rw [bne_iff_ne]; omega
  go_enter Tryz.func82, Tryz.ntmps82
  go_wp2
  go_ret2
  exact ⟨rfl, rfl⟩
theorem tzB_len (l : List UInt8) (h : l.length ≠ 5) : tzB l = false := by unfold tzB; rw [decide_eq_false h]; rfl

/-- A moment at a box, a zero one behind it. -/
structure EnM (A : Nat) (y m d h n s z : Int) (w0 X : World) : Prop where
  a : X.heap[A]? = some (.cells #[.int .i64 y, .int .i64 m, .int .i64 d, .int .i64 h, .int .i64 n, .int .i64 s, .int .i64 z] 23 (0, 0))
  r : X.heap[A + 1]? = some (.cells #[.int .i64 0, .int .i64 0, .int .i64 0, .int .i64 0, .int .i64 0, .int .i64 0, .int .i64 0] 23 (0, 0))
  b : Below A w0 X
theorem EnM.on {A : Nat} {y m d h n s z : Int} {w0 X X' : World} (k : EnM A y m d h n s z w0 X) (hb : Below X.heap.size X X') : EnM A y m d h n s z w0 X' := by
  have l1 := (Array.getElem?_eq_some_iff.1 k.a).1
  have l2 := (Array.getElem?_eq_some_iff.1 k.r).1
  exact ⟨by rw [hb.block _ l1]; exact k.a, by rw [hb.block _ l2]; exact k.r, k.b.trans (hb.mono (by omega))⟩
theorem EnM.cells {A : Nat} {y m d h n s z : Int} {w0 X : World} (k : EnM A y m d h n s z w0 X) : Cells7 A y m d h n s z X := by
  have c0 := cell_of_row X A 0 _ _ _ k.a
  have c1 := cell_of_row X A 1 _ _ _ k.a
  have c2 := cell_of_row X A 2 _ _ _ k.a
  have c3 := cell_of_row X A 3 _ _ _ k.a
  have c4 := cell_of_row X A 4 _ _ _ k.a
  have c5 := cell_of_row X A 5 _ _ _ k.a
  have c6 := cell_of_row X A 6 _ _ _ k.a
  exact ⟨c0, c1, c2, c3, c4, c5, c6⟩
theorem EnM.free {A : Nat} {y m d h n s z : Int} {w0 X : World} (k : EnM A y m d h n s z w0 X) (i : Nat) : X.frozen? ⟨A, i, none⟩ = false := frozen_of_row X _ i _ _ k.a
theorem EnM.put {A : Nat} {y m d h n s z y' m' d' h' n' s' z' : Int} {w0 X : World} (k : EnM A y m d h n s z w0 X) (i : Nat) (v : Value)
    (e : (#[.int .i64 y, .int .i64 m, .int .i64 d, .int .i64 h, .int .i64 n, .int .i64 s, .int .i64 z] : Array Value).setIfInBounds i v = #[.int .i64 y', .int .i64 m', .int .i64 d', .int .i64 h', .int .i64 n', .int .i64 s', .int .i64 z']) : EnM A y' m' d' h' n' s' z' w0 (X.setCell ⟨A, i, none⟩ v) := by
  refine ⟨?_, ?_, k.b.setCell (p := ⟨A, i, none⟩) (Nat.le_refl _) v⟩
  · rw [heap_setCell_same X A i _ 23 v k.a, e]
  · rw [Below.heap_setCell _ _ _ _ (by show A + 1 ≠ A; omega)]; exact k.r
theorem EnM.new (w : World) (y m d h n s z : Int) : EnM w.heap.size y m d h n s z w ((w.alloc (.cells #[.int .i64 y, .int .i64 m, .int .i64 d, .int .i64 h, .int .i64 n, .int .i64 s, .int .i64 z] 23)).alloc (.cells #[.int .i64 0, .int .i64 0, .int .i64 0, .int .i64 0, .int .i64 0, .int .i64 0, .int .i64 0] 23)) :=
  ⟨heap_alloc2_old w _ _, heap_alloc2_new w _ _, below2 w _ _⟩

end Go.Proofs.YtckdmbeokajdjaaGreatDoor
