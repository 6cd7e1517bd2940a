/- The statement FrameBegins: the walk. -/
import Derived.Test.YtllpejkfbgpobaaF10p
import Derived.BigQuiet
namespace Go.Proofs.Ytllpejkfbgpobaa
open Go.RowKit

set_option maxHeartbeats 2000000 in
set_option maxRecDepth 100000 in
theorem FrameBegins_walk (s : ByteArray) (w : World) (hs : s.size ≤ 140737488355328) :
    Calls Try.prog 4 #[.string s] w fun e w' => e = .returned (.bool true) ∧ Below w.heap.size w w' := by
  by_cases g1 : (4195304 : Int) < s.size
  · go_enter Try.func4, Try.ntmps4
    go_wp2
    go_ret
    exact ⟨rfl, Below.refl _ _⟩
  obtain ⟨F, hF⟩ : ∃ F, F = scan (L s) 0 0 := ⟨_, rfl⟩
  have HF := Lib.hid hF
  have HT := Lib.hid (told_any s w (by omega))
  rw [← hF] at HT
  clear hF
  go_enter Try.func4, Try.ntmps4
  go_wp2_with fail
  refine HT.out.mono ?_
  rintro e w1 ⟨v3, v4, B, rfl, htwo, hb1, hB⟩
  have HB1 := Lib.hid hb1
  clear HT hb1 hB
  by_cases h0 : F = []
  · subst h0
    obtain ⟨a3, c3, rfl⟩ := htwo.shape3
    obtain ⟨a4, c4, rfl⟩ := htwo.shape4
    clear htwo
    go_wp2
    refine wp_loop_rounds 1 ?_
    rw [rounds_succ]
    go_wp2_with fail
    refine (known_any _).mono ?_
    rintro e w2 ⟨rfl, hb2⟩
    go_wp2_with fail
    go_ret
    exact ⟨rfl, HB1.out.trans (hb2.mono HB1.out.size)⟩
  · obtain ⟨g, h, c, d, rfl, rfl, lay⟩ := htwo.lay h0 (by simpa using h0)
    have HL := Lib.hid lay
    rw [List.length_map]
    clear htwo lay
    have hlen : F.length ≤ 4195304 := by
      have := scan_len (L s)
      rw [← HF.out, L_length] at this
      omega
    go_wp2
    go_loopw [5, 6] (fun v5 v6 wr => ∃ k : Nat, k ≤ F.length ∧ v6 = .int .i64 k ∧ v5 = .int .i64 (endsAt F k : Nat) ∧ Below w1.heap.size w1 wr) (fun _ i _ => F.length - (intOf i).toNat)
    case atStart => exact ⟨0, Nat.zero_le _, rfl, rfl, Below.refl _ _⟩
    case round =>
      obtain ⟨k, hk, rfl, rfl, hb⟩ := hrel
      by_cases hd : k < F.length
      · obtain ⟨f, hf⟩ : ∃ f, F[k]? = some f := ⟨_, List.getElem?_eq_getElem hd⟩
        have hf' := hf
        rw [HF.out] at hf'
        have hat := scan_at hf'
        rw [← HF.out] at hat
        obtain ⟨k1, k2, k3, k4⟩ := told_frame hf'
        have hls : (L s).length = s.size := rfl
        have lay := HL.out.on (hb.trans (Below.refl _ _).drew)
        have hsub : (f.body.length : Int) = ((S f.body).size : Int) := rfl
        have hes := endsAt_succ hf
        rw [← hat]
        have hSt : (wr.drew.cell? ⟨g, k * 4, none⟩ = some (.int .i64 (f.kind : Int)) ∧ wr.drew.cell? ⟨g, k * 4 + 1, none⟩ = some (.int .i64 (f.num : Int)) ∧ wr.drew.cell? ⟨g, k * 4 + 3, none⟩ = some (.string (S f.body))) ∧ Below w1.heap.size w1 wr.drew := ⟨⟨(lay.fr k f hf).1, (lay.fr k f hf).2.1, (lay.fr k f hf).2.2.2⟩, hb.drew⟩
        have HEnc : Hid (∀ X, (X.cell? ⟨g, k * 4, none⟩ = some (.int .i64 (f.kind : Int)) ∧ X.cell? ⟨g, k * 4 + 1, none⟩ = some (.int .i64 (f.num : Int)) ∧ X.cell? ⟨g, k * 4 + 3, none⟩ = some (.string (S f.body))) ∧ Below w1.heap.size w1 X → Calls Try.prog 12 #[.int .i64 (f.kind : Int), .int .i64 (f.num : Int), .string (S f.body)] X fun e X' => e = .returned (.tuple #[.string (S (frm f.kind f.num f.body)), .int .i64 0]) ∧ (X'.cell? ⟨g, k * 4, none⟩ = some (.int .i64 (f.kind : Int)) ∧ X'.cell? ⟨g, k * 4 + 1, none⟩ = some (.int .i64 (f.num : Int)) ∧ X'.cell? ⟨g, k * 4 + 3, none⟩ = some (.string (S f.body))) ∧ Below w1.heap.size w1 X') := Lib.hid (fun X hX => (Encode_ok f.kind f.num (S f.body) X k1).mono (by
          rintro e X' ⟨rfl, hb5⟩
          obtain ⟨⟨y0, y1, y3⟩, yb⟩ := hX
          have hg : g < X.heap.size := Nat.lt_of_lt_of_le HL.out.lt1 yb.size
          refine ⟨rfl, ⟨?_, ?_, ?_⟩, yb.trans (hb5.mono yb.size)⟩
          · rw [hb5.cell (p := ⟨g, k * 4, none⟩) hg]; exact y0
          · rw [hb5.cell (p := ⟨g, k * 4 + 1, none⟩) hg]; exact y1
          · rw [hb5.cell (p := ⟨g, k * 4 + 3, none⟩) hg]; exact y3))
        have HB := Lib.hid hb
        have hfz : (S (frm f.kind f.num f.body)).size = f.body.length + 18 := by rw [S_size, frm_length]
        have hex : s.extract f.at' f.ends = S (frm f.kind f.num f.body) := by
          have : L (s.extract f.at' f.ends) = frm f.kind f.num f.body := by rw [L_extract, List.drop_take, k3, Nat.add_sub_cancel_left, k2]
          exact (congrArg S this : S (L (s.extract f.at' f.ends)) = S (frm f.kind f.num f.body))
        have hbz : f.body.length ≤ 2097152 := k1.2.2.2
        have hnum := k1.2.2.1
        have HES := Lib.hid hes
        have HFK := Lib.hid hf
        have hEs : f.ends ≤ s.size := k4
        have hAE : f.at' + (f.body.length + 18) = f.ends := k3.symm
        have HCE : Hid (∀ X, Below w1.heap.size w1 X → X.cell? ⟨g, k * 4 + 2, none⟩ = some (.int .i64 (f.at' : Int)) ∧ X.cell? ⟨h, k, none⟩ = some (.int .i64 (f.ends : Int)) ∧ X.cell? ⟨g, k * 4 + 3, none⟩ = some (.string (S f.body)) ∧ X.cell? ⟨g, k * 4 + 1, none⟩ = some (.int .i64 (f.num : Int))) :=
          Lib.hid (fun X hX => ⟨((HL.out.on hX).fr k f hf).2.2.1, (HL.out.on hX).nu k f.ends (by simp [hf]), ((HL.out.on hX).fr k f hf).2.2.2, ((HL.out.on hX).fr k f hf).2.1⟩)
        have HPR : Hid (∀ j, k = j + 1 → ∃ p : Fr, f.num = p.num + 1 ∧ ∀ X, Below w1.heap.size w1 X → X.cell? ⟨g, j * 4 + 1, none⟩ = some (.int .i64 (p.num : Int))) := Lib.hid (fun j hj => by
          subst hj
          obtain ⟨p, hp⟩ : ∃ p, F[j]? = some p := ⟨_, List.getElem?_eq_getElem (by omega)⟩
          have hp' := hp
          rw [HF.out] at hp'
          exact ⟨p, ((scan_facts hf').2.2.2 _ (by omega) hp').2, fun X hX => ((HL.out.on hX).fr j _ hp).2.1⟩)
        rw [← hat] at *
        generalize S (frm f.kind f.num f.body) = fb at *
        generalize f.at' = A at *
        generalize f.ends = E at *
        clear hb lay k2 k3 k4 hls hsub hes hf hat hf'
        go_wp2
        go_region_held3 (fun X => (X.cell? ⟨g, k * 4, none⟩ = some (.int .i64 (f.kind : Int)) ∧ X.cell? ⟨g, k * 4 + 1, none⟩ = some (.int .i64 (f.num : Int)) ∧ X.cell? ⟨g, k * 4 + 3, none⟩ = some (.string (S f.body))) ∧ Below w1.heap.size w1 X) (first | exact hSt | assumption) (first | (go_at_call 12; refine (HEnc.out _ ?_).mono ?_; assumption; rintro e w5 ⟨rfl, hs5⟩))
        have yb := hs5.2
        clear hs5 hSt HEnc
        have hsb : (S f.body).size = f.body.length := rfl
        obtain ⟨e2, e3, e4, e5⟩ := HCE.out _ yb
        have HSz : Hid (∀ X, Calls Try.prog 13 #[.int .i64 (f.body.length : Int)] X fun e X' => e = .returned (.int .i64 ((f.body.length : Int) + 18)) ∧ X' = X) := Lib.hid (fun X => (Size_nat f.body.length X hbz).mono (by rintro e X' ⟨rfl, rfl⟩; exact ⟨rfl, rfl⟩))
        have HYB := Lib.hid yb
        clear yb
        have hAEi : (A : Int) + ((f.body.length : Int) + 18) = (E : Int) := by omega
        have hA1 : (A : Int) ≤ (E : Int) := by omega
        have hA2 : (E : Int) ≤ (s.size : Int) := by omega
        have hA3 : A ≤ E := by omega
        have hA4 : (0 : Int) ≤ (A : Int) := by omega
        have hA5 : (0 : Int) ≤ (E : Int) := by omega
        have hq1 : (fb.toList == fb.toList) = true := by simp
        have hq2 : (fb.toList != fb.toList) = false := by simp
        have hq3 : decide ((s.size : Int) < (E : Int)) = false := by simp; omega
        have hq4 : decide (s.size < E) = false := by simp; omega
        by_cases hk0 : k = 0
        · subst hk0
          simp only [Nat.zero_mul, Nat.zero_add] at e2 e3 e4 e5
          go_wp2
          go_big_quiet (first | (go_at_call 13; with_reducible exact Calls.quiet_of_same (HSz.out _)))
          go_wp2
          go_roundw
          case rel => exact ⟨1, by omega, rfl, by rw [HES.out], below_drewN HYB.out nq⟩
          case measure => simp [intOf]; omega
        · obtain ⟨j, rfl⟩ : ∃ j, k = j + 1 := ⟨k - 1, by omega⟩
          obtain ⟨p, hp1, hp2⟩ := HPR.out j rfl
          have e6 := hp2 _ HYB.out
          have hj0 : (0 : Int) < ((j + 1 : Nat) : Int) := by omega
          clear hp2
          go_wp2
          go_big_quiet (first | (go_at_call 13; with_reducible exact Calls.quiet_of_same (HSz.out _)))
          go_wp2
          go_roundw
          case rel => exact ⟨j + 1 + 1, by omega, by go_num, by rw [HES.out], below_drewN HYB.out nq⟩
          case measure => simp [intOf]; omega
      · obtain rfl : k = F.length := by omega
        have HB := Lib.hid hb
        clear hb
        generalize endsAt F F.length = E at *
        go_wp2_with fail
        refine (known_any _).mono ?_
        rintro e w2 ⟨rfl, hb2⟩
        go_wp2_with fail
        go_ret
        exact ⟨rfl, HB1.out.trans ((HB.out.trans (hb2.mono HB.out.size)).mono HB1.out.size)⟩
end Go.Proofs.Ytllpejkfbgpobaa
