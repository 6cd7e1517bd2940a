/- act. -/
import Derived.Test.YtiphbnmnoofpkaaN16e
namespace Go.Proofs.Ytiphbnmnoofpkaa
open Go.RowKit

theorem Try.sizeEvL (e : EV) : (Try.prog.info? 38).map (·.size) = some (evA e).toList.length := by kernel_rfl
set_option maxHeartbeats 1000000 in
set_option maxRecDepth 20000 in
theorem act_any {P : Nat} {V : PV} {fp : List Nat} {w : World} {N : Nat} (h : VW P V fp w) (hk : PVok V N) (hN : N + 301 ≤ 1000000) (s : ST) (ho : StOK w s) (hs : StShort s) (hlo : 0 < s.us.length → ∀ b, s.ev.vu.ownBlock = some b → b ∉ fp) (hmo : MksOut fp s.ev.vm s.ms) :
    Calls Try.prog 11 #[.pointer (some ⟨P, 0, none⟩), .agg (stL s).toArray] w fun e w' => ∃ tv T, e = .returned tv ∧ Told w' tv T (actT V s) ∧ VG P (actV V s) fp w w' := by
  obtain ⟨W1, hW1⟩ : ∃ W1, w.alloc (.cells (stL s).toArray 41) = W1 := ⟨_, rfl⟩
  have h1 : W1.heap[w.heap.size]? = some (.cells (stL s).toArray 41 (0, 0)) := by rw [← hW1]; exact heap_new _ _
  have hb1 : Below w.heap.size w W1 := by rw [← hW1]; exact (Below.refl _ _).alloc (Nat.le_refl _) _
  obtain ⟨c0, c20, c21, c22, c23, c24, cr⟩ := stL_at h1
  have HCr := Lib.hid cr
  have h1V := h.on hb1
  have ho1 := ho.on hb1
  have us300 := hs.us
  have ms300 := hs.ms
  have HHe : Hid (Calls Try.prog 19 #[.pointer (some ⟨P, 0, none⟩), .agg (evA s.ev).toList.toArray, .bool s.own] W1 fun r w' => r = .returned (.tuple #[]) ∧ VG P (hearP V (evP s) s.own) fp w w') := Lib.hid (by
    refine (Hear_any h1V hk s.ev s.own s.us s.ms (by omega) ⟨ho1.ev, ho1.mks, ho1.low, by omega, by omega⟩ ⟨fun h0 b e => ⟨ho1.ub h0 b e, hlo h0 b e⟩, hmo⟩).mono ?_
    rintro r w' ⟨rfl, fp', q1, q2⟩
    exact ⟨rfl, fp', q1, (FO.below hb1).trans q2⟩)
  have HTa : Hid (Calls Try.prog 17 #[.pointer (some ⟨P, 0, none⟩), .int .i64 s.wh, .int .i64 s.rc] W1 fun e w' => ∃ tv T, e = .returned tv ∧ Told w' tv T (takeT V s.wh s.rc) ∧ VG P (takeV V s.wh s.rc) fp w w') := Lib.hid (by
    refine (Take_any h1V hk (by omega) s.wh s.rc).mono ?_
    rintro r w' ⟨tv, T, rfl, ht, fp', q1, q2⟩
    exact ⟨tv, T, rfl, ht, fp', q1, (FO.below hb1).trans q2⟩)
  have HFi : Hid (Calls Try.prog 15 #[.pointer (some ⟨P, 0, none⟩), s.sv, .bool s.uid] W1 fun e w' => ∃ v' g e', e = .returned (.tuple #[v', .bool g, .int .i64 e']) ∧ VG P V fp w w') := Lib.hid (by
    have := hs.st
    refine (Find_any h1V hk (by omega) s.sv s.st ho1.st (by omega) s.uid).mono ?_
    rintro r w' ⟨v', rfl, hO⟩
    exact ⟨v', _, _, rfl, fp, h1V.on hO.below, FO.below (hb1.trans (hO.below.mono hb1.size))⟩)
  have HV1 : Hid (VG P V fp w W1) := Lib.hid ⟨fp, h1V, FO.below hb1⟩
  have HNo : Hid (∀ X, Told X (.slice none 0 0) [] []) := Lib.hid (fun X => ⟨World.ownsRow_nil _ _ _ _, fun t ht => (by cases ht), rfl⟩)
  unfold actV actT
  clear h h1 hb1 h1V ho ho1 hs hlo hmo hk cr us300 ms300
  by_cases k1 : s.kind = 1
  · have k2 : ¬ s.kind = 2 := by omega
    simp only [if_pos k1, if_neg k2]
    rw [k1] at c0
    clear k1 k2 HTa HFi HV1
    go_enter Try.func11, Try.ntmps11
    go_upto_region 1 with fail
    (try rw [hW1])
    clear hW1
    go_wp2_with (first | (refine wpList_load_mid rfl 38 _ rfl w.heap.size 2 rfl _ _ HCr.out Try.underlying38 rfl (Try.sizeEvL s.ev) ?_) | (go_at_call 19; refine HHe.out.mono ?_; rintro r w2 ⟨rfl, hv⟩; have HV := Lib.hid hv; clear hv))
    go_ret
    exact ⟨_, [], rfl, HNo.out _, HV.out⟩
  · by_cases k2 : s.kind = 2
    · simp only [if_neg k1, if_pos k2]
      rw [k2] at c0
      clear k1 k2 HHe HFi HV1
      go_enter Try.func11, Try.ntmps11
      go_upto_region 1 with fail
      (try rw [hW1])
      clear hW1
      go_wp2_with (go_at_call 17; refine HTa.out.mono ?_; rintro r w2 ⟨tv, T, rfl, hv⟩; have HV := Lib.hid hv; clear hv)
      go_ret
      exact ⟨_, _, rfl, HV.out⟩
    · simp only [if_neg k1, if_neg k2]
      have b1 : (s.kind == 1) = false := by simpa using k1
      have b2 : (s.kind == 2) = false := by simpa using k2
      by_cases k3 : s.kind = 3
      · have b3 : (s.kind == 3) = true := by simpa using k3
        clear k1 k2 k3 HHe HTa HV1
        generalize s.kind = kk at *
        go_enter Try.func11, Try.ntmps11
        go_upto_region 1 with fail
        (try rw [hW1])
        clear hW1
        go_wp2_with (go_at_call 15; refine HFi.out.mono ?_; rintro r w2 ⟨v2, g2, e2, rfl, hv⟩; have HV := Lib.hid hv; clear hv)
        go_ret
        exact ⟨_, [], rfl, HNo.out _, HV.out⟩
      · have b3 : (s.kind == 3) = false := by simpa using k3
        clear k1 k2 k3 HHe HTa HFi
        generalize s.kind = kk at *
        go_enter Try.func11, Try.ntmps11
        go_upto_region 1 with fail
        (try rw [hW1])
        clear hW1
        go_wp2_with fail
        go_ret
        exact ⟨_, [], rfl, HNo.out _, HV1.out⟩
end Go.Proofs.Ytiphbnmnoofpkaa
