/- octet: unitAt, readPairs, readRun. -/
import Derived.Test.YtclegocofiigiabDoorPo
namespace Go.Proofs.YtclegocofiigiabDoor
open Go.RowKit Go.Shelf

set_option maxHeartbeats 400000 in
theorem unitAt_any (s : ByteArray) (i : Nat) (w : World) (hs : s.size ≤ 1000000) (hi : i ≤ 2000000) :
    Calls Tryd.prog 86 #[.string s, .int .i64 i] w fun e w' => e = .returned (.int .i32 (unitN (L s) i : Nat)) ∧ ∃ n, w' = w.drewN n := by
  have HU : Hid (unitN (L s) i = if i + 1 < s.size then (bt (L s) i).toNat * 256 + (bt (L s) (i + 1)).toNat else 0) := Lib.hid rfl
  by_cases h : i + 1 < s.size
  · have hw1 : IntKind.i64.wrap ((i : Int) + 1) = ((i + 1 : Nat) : Int) := by rw [IntKind.wrap_i64]; omega
    have hi0 : i < s.size := by omega
    have HU2 : Hid ((unitN (L s) i : Int) = ((bt (L s) i).toNat : Int) * 256 + ((bt (L s) (i + 1)).toNat : Int)) := Lib.hid (by rw [HU.out, if_pos h]; omega)
    have hlt : (i : Int) + 1 < (s.size : Int) := by omega
    generalize i + 1 = i1 at *
    have ea := get_bt s i hi0
    have eb := get_bt s i1 h
    have c0 : (bt (L s) i).toNat < 256 := bt_lt _ _
    have c1 : (bt (L s) i1).toNat < 256 := bt_lt _ _
    have hor := i32_or8 (x := ((bt (L s) i).toNat : Int) * 256) (y := ((bt (L s) i1).toNat : Int)) (by omega) (by omega) (by omega) (by omega) (by omega)
    have hwr : IntKind.i32.wrap (((bt (L s) i).toNat : Int) * 256) = ((bt (L s) i).toNat : Int) * 256 := by rw [IntKind.wrap_i32]; omega
    clear HU
    go_enter Tryd.func86, Tryd.ntmps86
    go_wp2
    go_quiet (fail)
    go_wp2
    go_ret
    refine ⟨ret_int ?_, _, rfl⟩
    exact HU2.out.symm
  · go_enter Tryd.func86, Tryd.ntmps86
    go_wp2
    go_ret
    exact ⟨ret_int (by rw [HU.out, if_neg h]; rfl), 0, rfl⟩

theorem appendRune_any (r : Int) (w : World) {B : Nat} {v : Value} {o : List UInt8} {W0 : World} (hown : Own B v o W0 w) (hr0 : 0 ≤ r) (hr1 : r ≤ 2000000) (hol : o.length ≤ 1000000000) :
    Calls Tryd.prog 87 #[v, .int .i32 r] w fun e w' => ∃ v', e = .returned v' ∧ Own B v' (o ++ Lib.encodeRune r) W0 w' := by
  refine (Tryd.utf8_AppendRune_plain B v o.length (bc o) r (by omega) (by omega) w hown.row (by omega) hown.base).mono ?_
  rintro e w' ⟨v', rfl, hrow, ob, hg⟩
  have h1 := hg.size
  have h2 := hown.base
  have h3 : (w.alloc ob).heap.size = w.heap.size + 1 := by simp
  refine ⟨v', rfl, ?_, (hown.below.alloc hown.base ob).grown hg (by omega) (fun k hk => (hown.row.lt k hk).1), by omega⟩
  rw [List.length_append, bc_append, ← Lib.runeCells_length]
  have : bc (Lib.encodeRune r) = Lib.runeCells r := Lib.byteCells_encodeRune r
  rw [this]
  exact hrow

set_option maxHeartbeats 400000 in
set_option maxRecDepth 1000000 in
theorem readPairs_any (s : ByteArray) (w : World) (hs : s.size ≤ 1000000) :
    Calls Tryd.prog 80 #[.string s] w fun e w' => e = .returned (.string (S (readPairs (L s)))) ∧ Below w.heap.size w w' := by
  have hpl := rp_len (L s) (L s).length 0
  rw [L_length] at hpl
  change (readPairs (L s)).length ≤ _ at hpl
  go_enter Tryd.func80, Tryd.ntmps80
  go_wp2
  go_loopw [3, 4] (fun v i wr => ∃ (k f : Nat) (o : List UInt8), i = .int .i64 k ∧ k ≤ s.size ∧ s.size ≤ k + f ∧ o ++ rp (L s) f k = readPairs (L s) ∧ Own w.heap.size v o w wr) (fun _ i _ => s.size - (intOf i).toNat)
  case atStart => exact ⟨0, s.size, [], rfl, by omega, by omega, rfl, Own.nil (Below.refl _ _) (Nat.le_refl _)⟩
  case round =>
    obtain ⟨k, f, o, rfl, hk, hf, hn, hown⟩ := hrel
    have hol : o.length ≤ 4 * s.size := by
      have := congrArg List.length hn
      rw [List.length_append] at this
      omega
    by_cases hlt : k + 1 < s.size
    · obtain ⟨g, rfl⟩ : ∃ g, f = g + 1 := ⟨f - 1, by omega⟩
      have hu := unitN_lt (L s) k
      have hv := unitN_lt (L s) (k + 2)
      have hvp := unitN_pos (L s) (k + 2)
      rw [L_length] at hvp
      rw [rp, if_pos (show k + 1 < (L s).length from hlt)] at hn
      have hU := Lib.hid (fun W => unitAt_any s k W hs (by omega))
      have hV := Lib.hid (fun W (j : Int) (hj : j = ((k + 2 : Nat) : Int)) => (by rw [hj]; exact unitAt_any s (k + 2) W hs (by omega) : Calls Tryd.prog 86 #[.string s, .int .i64 j] W fun e w' => e = .returned (.int .i32 (unitN (L s) (k + 2) : Nat)) ∧ ∃ n, w' = W.drewN n))
      generalize unitN (L s) k = u at *
      generalize unitN (L s) (k + 2) = lo at *
      have hol1 : o.length ≤ 1000000000 := by omega
      cases hpb : pairB u lo with
      | true =>
        rw [hpb, if_pos rfl] at hn
        have hc : 55296 ≤ u ∧ u < 56320 ∧ 56320 ≤ lo ∧ lo < 57344 := by simpa [pairB] using hpb
        obtain ⟨c1, c2, c3, c4⟩ := hc
        have hk4 := hvp (by omega)
        clear hpb hvp
        have H : Hid ((o ++ Lib.encodeRune ((65536 + (u - 55296) * 1024 + (lo - 56320) : Nat) : Int)) ++ rp (L s) g (k + 4) = readPairs (L s)) := Lib.hid (by rw [← hn]; simp)
        clear hn
        obtain ⟨R, hR⟩ : ∃ R : Nat, R = 65536 + (u - 55296) * 1024 + (lo - 56320) := ⟨_, rfl⟩
        rw [← hR] at H
        have hR1 : (R : Int) ≤ 2000000 := by omega
        have HR0 : (65536 : Int) + ((u : Int) - 55296) * 1024 + ((lo : Int) - 56320) = (R : Int) := by omega
        have d1 : (55296 : Int) ≤ (u : Int) := by omega
        have d2 : (u : Int) < 56320 := by omega
        have d3 : (56320 : Int) ≤ (lo : Int) := by omega
        have d4 : (lo : Int) < 57344 := by omega
        have hR0 : 0 ≤ (R : Int) := by omega
        clear hR c1 c2 c3 c4 hu hv hpl hol
        generalize (u : Int) = x at *
        generalize (lo : Int) = y at *
        generalize (R : Int) = z at *
        have HR := Lib.hid HR0
        clear HR0
        go_wp2_with fail
        refine (hU.out _).mono ?_
        rintro e w1 ⟨rfl, n1, rfl⟩
        go_wp2_with fail
        refine (hV.out _ _ (by omega)).mono ?_
        rintro e w2 ⟨rfl, n2, rfl⟩
        go_wp2_with fail
        rw [HR.out]
        refine (appendRune_any z _ (hown.drewN _) hR0 hR1 hol1).mono ?_
        rintro e w3 ⟨v3, rfl, hown3⟩
        go_wp2
        go_roundw
        case rel => exact ⟨k + 4, g, o ++ Lib.encodeRune z, by go_num, by omega, by omega, H.out, hown3⟩
        case measure => simp [intOf]; omega
      | false =>
        rw [hpb, if_neg (by simp)] at hn
        have H : Hid ((o ++ Lib.encodeRune (u : Int)) ++ rp (L s) g (k + 2) = readPairs (L s)) := Lib.hid (by rw [← hn]; simp)
        clear hn hvp
        have hc : (u : Int) < 55296 ∨ (55296 ≤ (u : Int) ∧ 56320 ≤ (u : Int)) ∨ (55296 ≤ (u : Int) ∧ (u : Int) < 56320 ∧ (lo : Int) < 56320) ∨ (55296 ≤ (u : Int) ∧ (u : Int) < 56320 ∧ 56320 ≤ (lo : Int) ∧ 57344 ≤ (lo : Int)) := by
          have : ¬ (55296 ≤ u ∧ u < 56320 ∧ 56320 ≤ lo ∧ lo < 57344) := by simpa [pairB] using hpb
          omega
        have hR0 : 0 ≤ (u : Int) := by omega
        have hR1 : (u : Int) ≤ 2000000 := by omega
        clear hpb hu hv hpl hol
        generalize (u : Int) = x at *
        generalize (lo : Int) = y at *
        rcases hc with d | ⟨d, d'⟩ | ⟨d, d', d2⟩ | ⟨d, d', d2, d3⟩
        all_goals
          go_wp2_with fail
          refine (hU.out _).mono ?_
          rintro e w1 ⟨rfl, n1, rfl⟩
          go_wp2_with fail
          refine (hV.out _ _ (by omega)).mono ?_
          rintro e w2 ⟨rfl, n2, rfl⟩
          go_wp2_with fail
          refine (appendRune_any x _ (hown.drewN _) hR0 hR1 hol1).mono ?_
          rintro e w3 ⟨v3, rfl, hown3⟩
          go_wp2
          go_roundw
          case rel => exact ⟨k + 2, g, o ++ Lib.encodeRune x, by go_num, by omega, by omega, H.out, hown3⟩
          case measure => simp [intOf]; omega
    · have he : rp (L s) f k = [] := by
        cases f with
        | zero => rfl
        | succ f => rw [rp, if_neg (by rw [L_length]; exact hlt)]
      rw [he, List.append_nil] at hn
      subst hn
      have hcv := hown.back
      clear he
      go_wp2
      go_ret
      exact ⟨rfl, hown.below⟩

def readRun (run : List UInt8) : List UInt8 := if run = [] then [38] else readPairs (unpack run nameL)
theorem readRun_len (run : List UInt8) : (readRun run).length ≤ 4 * run.length + 1 := by
  unfold readRun
  split
  · simp
  · have h1 := rp_len (unpack run nameL) (unpack run nameL).length 0
    have h2 := up_len_le run nameL
    change (readPairs (unpack run nameL)).length ≤ _ at h1
    omega

set_option maxHeartbeats 400000 in
theorem readRun_any (run : ByteArray) (w : World) (hr : run.size ≤ 1000000) :
    Calls Tryd.prog 73 #[.string run] w fun e w' => e = .returned (.string (S (readRun (L run)))) ∧ Below w.heap.size w w' := by
  cases hem : run.toList.isEmpty with
  | true =>
    have HR : Hid (readRun (L run) = [38]) := Lib.hid (by
      rw [toList_L] at hem
      unfold readRun; rw [if_pos (by simpa using hem)])
    go_enter Tryd.func73, Tryd.ntmps73
    go_wp2
    go_ret
    exact ⟨ret_str (congrArg S HR.out.symm), Below.refl _ _⟩
  | false =>
    have HR : Hid (readRun (L run) = readPairs (unpack (L run) nameL)) := Lib.hid (by
      rw [toList_L] at hem
      unfold readRun; rw [if_neg (by simpa using hem)])
    have hle := up_len_le (L run) nameL
    rw [L_length] at hle
    have hsz : (S (unpack (L run) nameL)).size ≤ 1000000 := by rw [S_size]; omega
    go_enter Tryd.func73, Tryd.ntmps73
    go_wp2_with (first | (go_at_call 47; refine (unpack_any run nameB _ hr nameB_size).mono ?_; rintro e w1 ⟨rfl, hb1⟩) | (go_at_call 80; refine (readPairs_any (S (unpack (L run) nameL)) _ hsz).mono ?_; rintro e w2 ⟨rfl, hb2⟩))
    go_ret
    exact ⟨ret_str (congrArg S HR.out.symm), hb1.trans (hb2.mono hb1.size)⟩
end Go.Proofs.YtclegocofiigiabDoor
