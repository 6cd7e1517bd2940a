/- postbaglaw1: num, known. -/
import Derived.Test.YtclegocofiigiabDoorPs
namespace Go.Proofs.YtclegocofiigiabDoor
open Go.RowKit Go.Shelf

set_option maxHeartbeats 400000 in
theorem num_any (n : Int) (w : World) :
    Calls Tryd.prog 22 #[.int .i64 n] w fun e w' => e = .returned (.int .i64 n) ∧ w' = w := by
  go_enter Tryd.func22, Tryd.ntmps22
  go_wp2
  go_ret
  exact ⟨rfl, rfl⟩

theorem kv1 : fromBase64 [90, 109, 56, 61] = ([102, 111], 0) := by decide +kernel
theorem kv2 : wire [97, 240, 159, 152, 128, 98] = ([97, 38, 50, 68, 51, 101, 65, 65, 45, 98], 0) := by decide +kernel
theorem kv3 : fromWire [105, 110, 98, 111, 120, 47, 38, 65, 79, 107, 45] = ([73, 78, 66, 79, 88, 47, 195, 169], 0) := by decide +kernel
theorem kv4 : wire (List.replicate 198 255) = ([], 2) := by unfold wire; rw [if_pos (by rw [List.length_replicate]; decide)]
theorem kv5 : fromWire (List.replicate 4097 0) = ([], 2) := by unfold fromWire; rw [if_pos (by rw [List.length_replicate]; decide)]
theorem kv6 : base64 [102] = [90, 103, 61, 61] := by decide +kernel
theorem kv7 : loose64 [90, 109, 13, 10, 57, 118] = [102, 111, 111] := by decide +kernel
theorem kv8 : quoted [97, 61, 98, 32] = [97, 61, 51, 68, 98, 61, 50, 48] := by decide +kernel
theorem kv9 : fromQuoted [97, 61, 51, 100, 98, 32, 32] = [97, 61, 98] := by decide +kernel
theorem kv10 : lower [97, 66] = [97, 98] := by decide +kernel
theorem kv11 : same [65, 98] [97, 66] = true := by decide +kernel
theorem kv12 : whole [97, 13, 10] = true := by decide +kernel
theorem kv13 : whole [10] = false := by decide +kernel

/-- make([]byte, n). -/
theorem mkF {ops : Array Oper} {rest : List Oper} {o : Oper} {a : Act} {Q : Exit → Act → World → Prop} {w : World} (hg : o.guard = none) (l c : Operand) (hop : o.op = Op.makeSlice 44 l c)
    (C : Int) (n : Nat) (hC : C = (n : Int)) (hn : n ≤ 1099511627776) (hl : a.eval l = .int .i64 C) (hc : a.eval c = .int .i64 C)
    (hK : ∀ w', Own w.heap.size (.slice (some ⟨w.heap.size, 0, none⟩) n n) (List.replicate n 0) w w' → wpList Tryd.prog ops Q rest (a.put o.dst (.slice (some ⟨w.heap.size, 0, none⟩) n n)) w') :
    wpList Tryd.prog ops Q (o :: rest) a w := by
  obtain ⟨i0, hi, hz0, hz1, hz2⟩ := info_parts Tryd.infoByte
  refine wpList_make_full _ hg l c 44 hop w.heap.size 5 i0 (.int .u8 0) 1 Tryd.underlying44 hi hz0 hz1 .i64 .i64 C C n hl hc hC hC (by rw [hz2]; omega) (by unfold maxLen; omega) (Nat.le_refl _) ?_
  intro w' h1 h2
  refine hK w' ⟨?_, (Below.refl _ _).grown h2 (Nat.le_refl _) (fun k hk => by cases hk), h2.size⟩
  have e : (madeCells (Value.int .u8 0).cells (n * 1)).toList = bc (List.replicate n 0) := by
    rw [Nat.mul_one]
    rw [bc, List.map_replicate, List.eq_replicate_iff]
    refine ⟨by simp [madeCells], fun b hb => ?_⟩
    simp [madeCells, Value.cells, Nat.mod_one] at hb
    exact hb.2.symm
  rw [List.length_replicate, ← e]
  exact h1

set_option maxHeartbeats 1000000 in
set_option maxRecDepth 100000 in
theorem known_any (w : World) (he : Env w) :
    Calls Tryd.prog 15 #[] w fun e w' => e = .returned (.bool true) ∧ Below w.heap.size w w' := by
  have hSt : ∀ l : List UInt8, (S l).toList = l := fun l => toList_L (S l)
  go_enter Tryd.func15, Tryd.ntmps15
  go_wp2_with fail
  refine (FromBase64_any ⟨#[90, 109, 56, 61]⟩ _ (by decide) he).mono ?_
  rintro e w1 ⟨rfl, hb1⟩
  have he1 := he.on hb1
  rw [show L ⟨#[90, 109, 56, 61]⟩ = [90, 109, 56, 61] from rfl, kv1]
  go_wp2_with fail
  refine (Wire_any ⟨#[97, 240, 159, 152, 128, 98]⟩ _ he1).mono ?_
  rintro e w2 ⟨rfl, hb2⟩
  have he2 := he1.on hb2
  rw [show L ⟨#[97, 240, 159, 152, 128, 98]⟩ = [97, 240, 159, 152, 128, 98] from rfl, kv2]
  go_wp2_with fail
  refine (FromWire_any ⟨#[105, 110, 98, 111, 120, 47, 38, 65, 79, 107, 45]⟩ _ he2).mono ?_
  rintro e w3 ⟨rfl, hb3⟩
  have he3 := he2.on hb3
  rw [show L ⟨#[105, 110, 98, 111, 120, 47, 38, 65, 79, 107, 45]⟩ = [105, 110, 98, 111, 120, 47, 38, 65, 79, 107, 45] from rfl, kv3]
  have hbA : Below w.heap.size w w3 := (hb1.trans (hb2.mono hb1.size)).trans (hb3.mono (Nat.le_trans hb1.size hb2.size))
  clear hb1 hb2 hb3 he1 he2
  go_wp2_with (go_at_call 22; refine (num_any _ _).mono ?_; rintro e w' ⟨rfl, rfl⟩)
  go_loopw [7, 8] (fun v i wr => ∃ k : Nat, k ≤ 198 ∧ i = .int .i64 k ∧ Own w'.heap.size v (List.replicate k 255) w' wr) (fun _ i _ => 198 - (intOf i).toNat)
  case atStart => exact ⟨0, by omega, rfl, Own.nil (Below.refl _ _) (Nat.le_refl _)⟩
  case round =>
    obtain ⟨k, hk, rfl, hown⟩ := hrel
    by_cases hlt : k < 198
    · have hl1 : (List.replicate k (255 : UInt8)).length + 1 ≤ 140737488355328 := by rw [List.length_replicate]; omega
      have HL1 := Lib.hid hl1
      clear hl1
      go_wp2_with (at_builtin; refine app1 rfl _ _ rfl _ 255 hown rfl rfl rfl HL1.out ?_; intro v2 w2 hown2)
      go_roundw
      case rel => exact ⟨k + 1, by omega, by go_num, by rw [List.replicate_succ']; exact hown2⟩
      case measure => simp [intOf]; omega
    · have hk2 : k = 198 := by omega
      subst hk2
      have hcv := hown.back
      have heR := he3.on hown.below
      have hbB := hbA.trans (hown.below.mono hbA.size)
      generalize hbig : List.replicate 198 (255 : UInt8) = big at *
      have HBIG := Lib.hid hbig
      clear hbig
      have hWB := Lib.hid (Wire_any (S big) _ heR)
      go_wp2_with fail
      refine hWB.out.mono ?_
      rintro e w4 ⟨rfl, hb4⟩
      rw [L_S, ← HBIG.out, kv4]
      have he4 := heR.on hb4
      have hbC := hbB.trans (hb4.mono hbB.size)
      clear hbA hbB hb4 heR hcv hown hWB
      go_wp2_with (at_make; refine mkF rfl _ _ rfl _ 4097 rfl (by decide) rfl rfl ?_; intro w5 hown5; refine Hid.out ?_)
      refine Lib.hid ?_
      have hcv5 := hown5.back
      have he5 := he4.on hown5.below
      have hbD := hbC.trans (hown5.below.mono hbC.size)
      generalize hbig5 : List.replicate 4097 (0 : UInt8) = big5 at *
      have HBIG5 := Lib.hid hbig5
      clear hbig5
      have hWF := Lib.hid (FromWire_any (S big5) _ he5)
      go_wp2_with fail
      refine hWF.out.mono ?_
      rintro e w6 ⟨rfl, hb6⟩
      rw [L_S, ← HBIG5.out, kv5]
      have he6 := he5.on hb6
      have hbE := hbD.trans (hb6.mono hbD.size)
      clear hbC hbD hb6 he4 he5 hcv5 hown5 hWF he3 he
      go_wp2_with (first | (go_at_call 22; refine (num_any _ _).mono ?_; rintro e w' ⟨rfl, rfl⟩) | (go_at_call 23; refine Hid.out ?_))
      refine Lib.hid ?_
      refine (Base64_any ⟨#[102]⟩ _ (by decide)).mono ?_
      rintro e w7 ⟨rfl, hb7⟩
      rw [show L ⟨#[102]⟩ = [102] from rfl, kv6]
      have hbF := hbE.trans (hb7.mono hbE.size)
      have he7 := he6.on hb7
      clear hbE hb7 he6
      go_wp2_with fail
      refine (Loose64_any ⟨#[90, 109, 13, 10, 57, 118]⟩ _ (by decide) he7).mono ?_
      rintro e w8 ⟨rfl, hb8⟩
      rw [show L ⟨#[90, 109, 13, 10, 57, 118]⟩ = [90, 109, 13, 10, 57, 118] from rfl, kv7]
      have hbG := hbF.trans (hb8.mono hbF.size)
      clear hbF hb8 he7
      go_wp2_with fail
      refine (Quoted_any ⟨#[97, 61, 98, 32]⟩ _ (by decide)).mono ?_
      rintro e w9 ⟨rfl, hb9⟩
      rw [show L ⟨#[97, 61, 98, 32]⟩ = [97, 61, 98, 32] from rfl, kv8]
      have hbH := hbG.trans (hb9.mono hbG.size)
      clear hbG hb9
      go_wp2_with fail
      refine (FromQuoted_any ⟨#[97, 61, 51, 100, 98, 32, 32]⟩ _ (by decide)).mono ?_
      rintro e w10 ⟨rfl, hb10⟩
      rw [show L ⟨#[97, 61, 51, 100, 98, 32, 32]⟩ = [97, 61, 51, 100, 98, 32, 32] from rfl, kv9]
      have hbI := hbH.trans (hb10.mono hbH.size)
      clear hbH hb10
      go_wp2_with fail
      refine (Lower_any ⟨#[97, 66]⟩ _ (by decide)).mono ?_
      rintro e w11 ⟨rfl, hb11⟩
      rw [show L ⟨#[97, 66]⟩ = [97, 66] from rfl, kv10]
      have hbJ := hbI.trans (hb11.mono hbI.size)
      clear hbI hb11
      go_wp2_with fail
      refine (Same_any ⟨#[65, 98]⟩ ⟨#[97, 66]⟩ _ (by decide)).mono ?_
      rintro e w12 ⟨rfl, hb12⟩
      rw [show L ⟨#[65, 98]⟩ = [65, 98] from rfl, show L ⟨#[97, 66]⟩ = [97, 66] from rfl, kv11]
      have hbK := hbJ.trans (hb12.mono hbJ.size)
      clear hbJ hb12
      go_wp2_with fail
      refine (Whole_any ⟨#[97, 13, 10]⟩ _ (by decide)).mono ?_
      rintro e w13 ⟨rfl, rfl⟩
      rw [show L ⟨#[97, 13, 10]⟩ = [97, 13, 10] from rfl, kv12]
      go_wp2_with fail
      refine (Whole_any ⟨#[10]⟩ _ (by decide)).mono ?_
      rintro e w14 ⟨rfl, rfl⟩
      rw [show L ⟨#[10]⟩ = [10] from rfl, kv13]
      go_wp2
      go_ret
      exact ⟨rfl, hbK⟩
end Go.Proofs.YtclegocofiigiabDoor
