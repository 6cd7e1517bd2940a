/- lex: known. -/
import Derived.Test.YtliiapdakojomabDoorBp
import Derived.Test.YtliiapdakojomabDoorBr
namespace Go.Proofs.YtliiapdakojomabDoor
open Go.RowKit

theorem num_any (e : Int) (w : World) :
    Calls Tryd.prog 11 #[.int .i64 e] w fun x w' => x = .returned (.int .i64 e) ∧ w' = w := by
  go_enter Tryd.func11, Tryd.ntmps11
  go_wp2
  go_ret
  exact ⟨rfl, rfl⟩
theorem kWs_lies (w : World) (off : Nat) : off = w.heap.size → Lies (w.alloc (.cells #[.int .i64 1, .string ⟨#[97]⟩, .slice none 0 0, .bool false, .int .i64 3, .string ⟨#[120, 121]⟩, .slice none 0 0, .bool false] 33)) (fun g => g = w.heap.size) (some ⟨off, 0, none⟩) 2 2 kWs := by
  rintro rfl
  have hb := heap_alloc_new w (.cells #[.int .i64 1, .string ⟨#[97]⟩, .slice none 0 0, .bool false, .int .i64 3, .string ⟨#[120, 121]⟩, .slice none 0 0, .bool false] 33)
  refine Lies.row w.heap.size 0 2 kWs (fun _ => none) (fun _ => 0) (fun _ => 0) rfl (Array.getElem?_eq_some_iff.1 hb).1 (by decide) (fun i hi => ?_) (fun i hi => ?_)
  · match i, hi with
    | 0, _ => exact ⟨cell_of_row _ _ 0 _ _ _ hb, cell_of_row _ _ 1 _ _ _ hb, cell_of_row _ _ 2 _ _ _ hb, cell_of_row _ _ 3 _ _ _ hb⟩
    | 1, _ => exact ⟨cell_of_row _ _ 4 _ _ _ hb, cell_of_row _ _ 5 _ _ _ hb, cell_of_row _ _ 6 _ _ _ hb, cell_of_row _ _ 7 _ _ _ hb⟩
    | (i + 2), h => exact absurd (show i + 2 < 2 from h) (by omega)
  · match i, hi with
    | 0, _ => exact .nil
    | 1, _ => exact .nil
    | (i + 2), h => exact absurd (show i + 2 < 2 from h) (by omega)
theorem k3E : joinE kWs = 0 := by unfold joinE; rw [k3B]; rfl
theorem k3S : joinS kWs = [97, 32, 123, 50, 125] := by unfold joinS; rw [k3E, k3J]; rfl
theorem k3T : joinT kWs = [⟨#[120, 121]⟩] := by unfold joinT; rw [k3E, k3J]; rfl
theorem k4P : S (putL (L ⟨#[97, 32, 98]⟩)) = ⟨#[34, 97, 32, 98, 34]⟩ := by kernel_rfl
set_option maxRecDepth 100000 in
set_option maxHeartbeats 4000000 in
theorem known_any (w : World) (he : Env w) :
    Calls Tryd.prog 9 #[] w fun e w' => e = .returned (.bool true) ∧ Below w.heap.size w w' := by
  have HS1 := Lib.hid (Scan_any ⟨#[120, 32, 66, 79, 68, 89, 91, 97, 93, 60, 48, 62]⟩ (.slice none 0 0) [] w (.inl ⟨rfl, none, 0, rfl⟩) (by decide) (fun i hi => by simp at hi))
  rw [k1E, k1W] at HS1
  have HN := Lib.hid num_any
  have HE := Lib.hid he
  clear he
  go_enter Tryd.func9, Tryd.ntmps9
  go_upto_region 2 with (go_at_call 10; refine HS1.out.mono ?_; rintro e w1 ⟨a1, n1, c1, D1, rfl, hl1, hd1, hb1⟩)
  obtain ⟨g1, o1, rfl, hm1, va, vn, vc, ⟨p0, p1, p2, p3⟩, hk1⟩ := hl1.pick 2 (by decide)
  obtain ⟨g2, o2, hgo, hm2, wa, wn, wc', ⟨r0, r1, r2, r3⟩, hk2⟩ := hl1.pick 3 (by decide)
  obtain rfl := hl1.len
  obtain rfl := hk1.len
  injection hgo with hgo
  injection hgo with hg ho
  subst hg
  subst ho
  have HS2 := Lib.hid (Scan_any ⟨#[97, 32]⟩ (.slice none 0 0) [] w1 (.inl ⟨rfl, none, 0, rfl⟩) (by decide) (fun i hi => by simp at hi))
  rw [k2E] at HS2
  change w1.cell? ⟨g1, o1 + 8, none⟩ = some (.int .i64 5) at p0
  change w1.cell? ⟨g1, o1 + 8 + 2, none⟩ = some (.slice va 1 vc) at p2
  change w1.cell? ⟨g1, o1 + 8 + 3, none⟩ = some (.bool true) at p3
  change w1.cell? ⟨g1, o1 + 12 + 1, none⟩ = some (.string ⟨#[60, 48, 62]⟩) at r1
  clear p1 r0 r2 r3 hk1 hk2 hm1 hm2 hl1 hd1 HS1
  go_upto_region 3 with (go_at_call 10; refine HS2.out.mono ?_; rintro e w2 ⟨a2, n2, c2, D2, rfl, hl2, hd2, hb2⟩)
  replace p0 := cellB p0 hb2
  replace p2 := cellB p2 hb2
  replace p3 := cellB p3 hb2
  replace r1 := cellB r1 hb2
  have HB2 := Lib.hid (hb1.trans (hb2.mono hb1.size))
  clear hb1 hb2 hl2 hd2 HS2
  go_upto_region 5 with (go_at_call 11; refine (HN.out _ _).mono ?_; rintro e w' ⟨rfl, hw'⟩; rw [hw']; clear hw' w')
  have HP2 := Lib.hid HB2.out
  clear p0 p2 p3 r1
  have he2 : Env w2 := HE.out.on HB2.out
  have hA := (Below.refl w2.heap.size w2).alloc (Nat.le_refl _) (.cells #[.int .i64 1, .string ⟨#[97]⟩, .slice none 0 0, .bool false, .int .i64 3, .string ⟨#[120, 121]⟩, .slice none 0 0, .bool false] 33)
  have HJ := Lib.hid (Join_any kWs _ 2 2 _ _ (kWs_lies w2 _ rfl) (he2.on hA))
  rw [k3E, k3S, k3T] at HJ
  have HBA := Lib.hid hA
  clear hA he2
  go_upto_region 6 with (go_at_call 12; refine HJ.out.mono ?_; rintro e w3 ⟨vt, rfl, hs3, hb3⟩)
  have HB3 := Lib.hid (HB2.out.trans ((HBA.out.trans (hb3.mono HBA.out.size)).mono HB2.out.size))
  have hA4 := (Below.refl w3.heap.size w3).alloc (Nat.le_refl _) (.cells #[.string ⟨#[120, 121]⟩] 9)
  have h4 : Strs (w3.alloc (.cells #[.string ⟨#[120, 121]⟩] 9)) (.slice (some ⟨w3.heap.size, 0, none⟩) 1 1) [⟨#[120, 121]⟩] := by
    have hb := heap_alloc_new w3 (.cells #[.string ⟨#[120, 121]⟩] 9)
    refine .inr ⟨w3.heap.size, 0, 1, rfl, by decide, by decide, (Array.getElem?_eq_some_iff.1 hb).1, fun i hi => ?_⟩
    match i, hi with
    | 0, _ => exact cell_of_row _ _ 0 _ _ _ hb
    | (i + 1), h => exact absurd (show i + 1 < 1 from h) (by omega)
  have HT := Lib.hid (texts_any vt (.slice (some ⟨w3.heap.size, 0, none⟩) 1 1) _ _ _ (hs3.on hA4) h4)
  rw [decide_eq_true rfl] at HT
  have HB4 := Lib.hid (HB3.out.trans (hA4.mono HB3.out.size))
  have hq : (S [97, 32, 123, 50, 125]) = ⟨#[97, 32, 123, 50, 125]⟩ := rfl
  rw [hq]
  clear hs3 hb3 hA4 h4 HJ HBA HB2 HP2 HB3 hq
  go_wp2_with (first | (go_at_call 11; refine (HN.out _ _).mono ?_; rintro e w' ⟨rfl, hw'⟩; rw [hw']; clear hw' w') | (go_at_call 22; refine HT.out.mono ?_; rintro e w5 ⟨rfl, hb5⟩) | (go_at_call 15; refine Hid.out ?_))
  have HB5 := Lib.hid (HB4.out.trans (hb5.mono HB4.out.size))
  refine Lib.hid ((lPut_any ⟨#[97, 32, 98]⟩ _ (HE.out.on HB5.out) (by decide)).mono ?_)
  rintro e w6 ⟨rfl, hb6⟩
  rw [k4P]
  have HB6 := Lib.hid (HB5.out.trans (hb6.mono HB5.out.size))
  clear hb5 hb6 HB4 HB5 HT
  go_wp2_with fail
  go_ret
  exact ⟨rfl, HB6.out⟩
end Go.Proofs.YtliiapdakojomabDoor
