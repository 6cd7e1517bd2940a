/- octet: appendRun, writeName. -/
import Derived.Test.YtbncaiocmklgnaaGreatDoorPn
namespace Go.Proofs.YtbncaiocmklgnaaGreatDoor
open Go.RowKit Go.Shelf

def runOf (run : List UInt8) : List UInt8 := if run = [] then [] else 38 :: (pack (pairs (S run)) nameL ++ [45])
def wnGo (l : List UInt8) : List (Nat × Nat) → Nat → List UInt8
  | [], fr => runOf (l.drop fr)
  | x :: rest, fr => if x.2 < 32 ∨ 126 < x.2 then wnGo l rest fr
    else runOf ((l.drop fr).take (x.1 - fr)) ++ ([UInt8.ofNat x.2] ++ ((if x.2 = 38 then [45] else []) ++ wnGo l rest (x.1 + 1)))
def writeName (l : List UInt8) : List UInt8 := wnGo l (runes (S l)) 0
theorem runOf_len (run : List UInt8) : (runOf run).length ≤ 8 * run.length + 3 := by
  unfold runOf
  split
  · simp
  · have h1 := pk_len_le (pairs (S run)) nameL
    have h2 := pairs_len (S run)
    rw [S_size] at h2
    simp only [List.length_cons, List.length_append]
    simp
    omega

set_option maxHeartbeats 1000000 in
theorem appendRun_any (run : ByteArray) (w : World) {B : Nat} {v : Value} {o : List UInt8} {W0 : World} (hown : Own B v o W0 w) (hr : run.size ≤ 100000) (hol : o.length ≤ 1000000000) :
    Calls Tryz.prog 145 #[v, .string run] w fun e w' => ∃ v', e = .returned v' ∧ Own B v' (o ++ runOf (L run)) W0 w' := by
  cases hem : run.toList.isEmpty with
  | true =>
    have HR : Hid (runOf (L run) = []) := Lib.hid (by
      rw [toList_L] at hem
      unfold runOf; rw [if_pos (by simpa using hem)])
    go_enter Tryz.func145, Tryz.ntmps145
    go_wp2
    go_ret
    exact ⟨_, rfl, by rw [HR.out, List.append_nil]; exact hown⟩
  | false =>
    have HR : Hid (runOf (L run) = 38 :: (pack (pairs run) nameL ++ [45])) := Lib.hid (by
      rw [toList_L] at hem
      unfold runOf; rw [if_neg (by simpa using hem)]; rfl)
    have hpl := pairs_len run
    have hsz : (S (pairs run)).size ≤ 1000000 := by rw [S_size]; omega
    have hpk := pk_len_le (pairs run) nameL
    have hl1 : o.length + 1 ≤ 140737488355328 := by omega
    have hl2 : (o ++ [38]).length + (pack (pairs run) nameL).length ≤ 140737488355328 := by rw [List.length_append]; simp; omega
    have hl3 : (o ++ [38] ++ pack (pairs run) nameL).length + 1 ≤ 140737488355328 := by rw [List.length_append, List.length_append]; simp; omega
    have HL2 := Lib.hid hl2
    have HL3 := Lib.hid hl3
    clear hl2 hl3 hpl hpk
    go_enter Tryz.func145, Tryz.ntmps145
    go_wp2_with (first | (at_builtin; refine app1 rfl (.tmp 8) _ rfl _ 38 hown rfl rfl rfl hl1 ?_; intro v1 w1 hown1) | (go_at_call 150; refine (writePairs_any run _ (by omega)).mono ?_; rintro e w2 ⟨rfl, hb2⟩) | (go_at_call 149; refine (pack_any (S (pairs run)) nameB _ hsz nameB_size).mono ?_; rintro e w3 ⟨v3, rfl, hown3⟩) | (at_builtin; refine appR rfl (.tmp 11) _ rfl ((hown1.on hb2).on hown3.below) hown3 rfl rfl HL2.out ?_; intro v4 w4 hown4) | (at_builtin; refine app1 rfl (.tmp 16) _ rfl _ 45 hown4 rfl rfl rfl HL3.out ?_; intro v5 w5 hown5))
    go_ret
    refine ⟨_, rfl, ?_⟩
    rw [HR.out]
    have e : o ++ 38 :: (pack (pairs run) nameL ++ [45]) = o ++ [38] ++ pack (L (S (pairs run))) (L nameB) ++ [45] := by rw [L_S, nameB_L]; simp
    rw [e]; exact hown5
set_option maxHeartbeats 1000000 in
set_option maxRecDepth 1000000 in
theorem writeName_any (s : ByteArray) (w : World) (hs : s.size ≤ 100000) :
    Calls Tryz.prog 134 #[.string s] w fun e w' => e = .returned (.string (S (writeName (L s)))) ∧ Below w.heap.size w w' := by
  go_enter Tryz.func134, Tryz.ntmps134
  go_wp2
  go_loopw [3, 4] (fun v fr wr => ∃ (pos f FR : Nat) (o : List UInt8), fr = .int .i64 FR ∧ wr.heap[w.heap.size]? = some (.stringIter s pos) ∧ Below w.heap.size w wr ∧ s.size ≤ pos + f ∧ o ++ wnGo (L s) (rn s f pos) FR = writeName (L s) ∧ pos ≤ s.size ∧ FR ≤ pos ∧ o.length ≤ 13 * FR ∧ Own (w.heap.size + 1) v o wr wr) (fun _ _ wr => s.size - wr.iterPos w.heap.size)
  case atStart =>
    refine ⟨0, s.size, 0, [], rfl, heap_alloc_new _ _, (Below.refl _ _).alloc (Nat.le_refl _) _, by omega, rfl, by omega, by omega, by simp, Own.nil (Below.refl _ _) ?_⟩
    show w.heap.size + 1 ≤ (w.alloc (.stringIter s 0)).heap.size
    simp
  case round =>
    obtain ⟨pos, f, FR, o, rfl, hit, hb, hf, hn, hpos, hfr, hol, hown⟩ := hrel
    by_cases hp : pos < s.size
    · have hnx : ∀ ty, (Instr.next (.pointer (some ⟨w.heap.size, 0, none⟩)) true ty).run Tryz.prog wr = _ := fun ty => Lib.run_next_any_at wr w.heap.size s pos ty hit hp
      obtain ⟨f', hrn, hf'⟩ := rn_step s f pos hp hf
      rw [hrn] at hn
      have hwd := dec_wd s pos hp
      have hle := dec_le s pos
      have hit2 := Lib.iterAt_heap wr w.heap.size s pos (pos + (Utf8.decode s pos).2) hit
      have hb2 := Lib.below_iterAt hb (Nat.le_refl _) s (pos + (Utf8.decode s pos).2)
      have hown2 : Own (w.heap.size + 1) _ o (wr.iterAt w.heap.size s (pos + (Utf8.decode s pos).2)) (wr.iterAt w.heap.size s (pos + (Utf8.decode s pos).2)) := ⟨ownsRow_iterAt hown.row (by omega) s _, Below.refl _ _, by rw [Lib.iterAt_size]; exact hown.base⟩
      have HM : Hid (wr.iterPos w.heap.size = pos) := Lib.hid (by simp [World.iterPos, hit])
      have HIT2 := Lib.hid hit2
      clear hrn hf hit hit2 hb hown
      generalize (Utf8.decode s pos).1 = r at *
      generalize (Utf8.decode s pos).2 = wd at *
      rw [wnGo] at hn
      simp only at hn
      by_cases h1 : (r : Int) < 32
      · rw [if_pos (by omega)] at hn
        have H := Lib.hid hn
        clear hn
        go_wp2
        go_roundw
        case rel => exact ⟨pos + wd, f', FR, o, rfl, HIT2.out, hb2, hf', H.out, by omega, by omega, hol, hown2⟩
        case measure => have h1 := HM.out; have h2 := HIT2.out; simp only [World.iterPos] at h1 ⊢; simp only [h2]; omega
      · by_cases h2 : (126 : Int) < (r : Int)
        · rw [if_pos (by omega)] at hn
          have H := Lib.hid hn
          clear hn
          go_wp2
          go_roundw
          case rel => exact ⟨pos + wd, f', FR, o, rfl, HIT2.out, hb2, hf', H.out, by omega, by omega, hol, hown2⟩
          case measure => have h1 := HM.out; have h2 := HIT2.out; simp only [World.iterPos] at h1 ⊢; simp only [h2]; omega
        · rw [if_neg (by omega)] at hn
          have hex := extract_S s FR pos
          have hrl := runOf_len (((L s).drop FR).take (pos - FR))
          have hpl : (((L s).drop FR).take (pos - FR)).length ≤ pos - FR := List.length_take_le _ _
          generalize ((L s).drop FR).take (pos - FR) = pc at *
          have hpc : (S pc).size ≤ 100000 := by rw [S_size]; omega
          have HB : Hid ((r : Int) = ((UInt8.ofNat r).toNat : Int)) := Lib.hid (by simp; omega)
          have hol1 : o.length ≤ 1000000000 := by omega
          have HL2 : Hid ((o ++ runOf pc).length + 1 ≤ 140737488355328) := Lib.hid (by rw [List.length_append]; omega)
          have HL3 : Hid ((o ++ runOf pc ++ [UInt8.ofNat r]).length + 1 ≤ 140737488355328) := Lib.hid (by rw [List.length_append, List.length_append]; simp; omega)
          have HLA : Hid ((o ++ runOf pc ++ [UInt8.ofNat r] ++ [45]).length ≤ 13 * (pos + 1)) := Lib.hid (by rw [List.length_append, List.length_append, List.length_append]; simp; omega)
          have HLB : Hid ((o ++ runOf pc ++ [UInt8.ofNat r]).length ≤ 13 * (pos + 1)) := Lib.hid (by rw [List.length_append, List.length_append]; simp; omega)
          clear hrl hpl
          by_cases h38 : r = 38
          · subst h38
            rw [if_pos rfl] at hn
            have H : Hid ((o ++ runOf pc ++ [UInt8.ofNat 38] ++ [45]) ++ wnGo (L s) (rn s f' (pos + wd)) (pos + 1) = writeName (L s)) := Lib.hid (by rw [← hn]; simp)
            clear hn
            go_wp2_with (first | (go_at_call 145; refine (appendRun_any (S pc) _ hown2 hpc hol1).mono ?_; rintro e w3 ⟨v3, rfl, hown3⟩) | (at_builtin; refine app1 rfl (.tmp 25) _ rfl _ (UInt8.ofNat 38) hown3 HB.out rfl rfl HL2.out ?_; intro v4 w4 hown4) | (at_builtin; refine app1 rfl (.tmp 32) _ rfl _ 45 hown4 rfl rfl rfl HL3.out ?_; intro v5 w5 hown5))
            have HIT4 : w5.heap[w.heap.size]? = some (.stringIter s (pos + wd)) := by rw [hown5.below.block _ (by omega)]; exact HIT2.out
            go_roundw
            case rel => exact ⟨pos + wd, f', pos + 1, _, by go_num, HIT4, hb2.trans (hown5.below.mono (by omega)), hf', H.out, by omega, by omega, HLA.out, hown5.self⟩
            case measure => have h1 := HM.out; simp only [World.iterPos] at h1 ⊢; simp only [HIT4]; omega
          · have n38 : ((r : Int) == 38) = false := by simp; omega
            rw [if_neg h38] at hn
            have H : Hid ((o ++ runOf pc ++ [UInt8.ofNat r]) ++ wnGo (L s) (rn s f' (pos + wd)) (pos + 1) = writeName (L s)) := Lib.hid (by rw [← hn]; simp)
            clear hn
            go_wp2_with (first | (go_at_call 145; refine (appendRun_any (S pc) _ hown2 hpc hol1).mono ?_; rintro e w3 ⟨v3, rfl, hown3⟩) | (at_builtin; refine app1 rfl (.tmp 25) _ rfl _ (UInt8.ofNat r) hown3 HB.out rfl rfl HL2.out ?_; intro v4 w4 hown4))
            have HIT4 : w4.heap[w.heap.size]? = some (.stringIter s (pos + wd)) := by rw [hown4.below.block _ (by omega)]; exact HIT2.out
            go_roundw
            case rel => exact ⟨pos + wd, f', pos + 1, _, by go_num, HIT4, hb2.trans (hown4.below.mono (by omega)), hf', H.out, by omega, by omega, HLB.out, hown4.self⟩
            case measure => have h1 := HM.out; simp only [World.iterPos] at h1 ⊢; simp only [HIT4]; omega
    · have hnx : ∀ ty, (Instr.next (.pointer (some ⟨w.heap.size, 0, none⟩)) true ty).run Tryz.prog wr = _ := fun ty => Lib.run_next_end_at wr w.heap.size s pos ty hit hp
      rw [rn_end s f pos hp, wnGo] at hn
      have hex := extract_S s FR s.size
      rw [List.take_of_length_le (by rw [List.length_drop, L_length]; omega)] at hex
      have hsz : (S ((L s).drop FR)).size ≤ 100000 := by rw [S_size, List.length_drop, L_length]; omega
      generalize (L s).drop FR = pc at *
      have hol1 : o.length ≤ 1000000000 := by omega
      have H := Lib.hid hn
      clear hit hn
      go_wp2_with (first | (go_at_call 145; refine (appendRun_any (S pc) _ hown hsz hol1).mono ?_; rintro e w3 ⟨v3, rfl, hown3⟩; have hcv := hown3.back))
      go_ret
      exact ⟨ret_str (congrArg S H.out), hb.trans (hown3.below.mono (by omega))⟩
end Go.Proofs.YtbncaiocmklgnaaGreatDoor
