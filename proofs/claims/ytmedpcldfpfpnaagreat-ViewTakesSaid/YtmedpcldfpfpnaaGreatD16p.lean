/- step: Take. -/
import Derived.Test.YtmedpcldfpfpnaaGreatD16l
namespace Go.Proofs.YtmedpcldfpfpnaaGreat
open Go.RowKit

variable {W w : World} {K : List (Nat × Obj)} {P Q D N : Nat} {V : PV}
set_option maxRecDepth 100000 in
set_option maxHeartbeats 16000000 in
theorem step_take (h : HH W K P Q D V V w) (hk : PVok V N) (hN : N + 301 ≤ 1000000) (s : ST) (ho : StOK W s) (hs : StShort s) (lk : Int) (k2 : s.kind = 2) (b2 : Bool) (q1 : ((lk.tdiv 2).tmod 2 == 0) = b2) (q0 : IntKind.i64.wrap (lk.tdiv 2) = lk.tdiv 2) :
    Calls Tryz.prog 13 #[.pointer (some ⟨P, 0, none⟩), .pointer (some ⟨Q, 0, none⟩), .pointer (some ⟨D, 0, none⟩), .agg (stL s).toArray, .int .i64 lk] w fun e w' => e = .returned (.bool true) ∧ HH W K P Q D (takeV V s.wh s.rc) (takeV V s.wh s.rc) w' := by
  obtain ⟨W1, hW1⟩ : ∃ W1, w.alloc (.cells (stL s).toArray 45) = W1 := ⟨_, rfl⟩
  have h1 : W1.heap[w.heap.size]? = some (.cells (stL s).toArray 45 (0, 0)) := by rw [← hW1]; exact heap_new _ _
  have hb1 : Below w.heap.size w W1 := by rw [← hW1]; exact (Below.refl _ _).alloc (Nat.le_refl _) _
  have h2 : HH W (SBx w.heap.size s :: K) P Q D V V W1 := h.add hb1 (Nat.le_refl _) h1
  obtain ⟨c0, c20, c21, c22, c23, c24, cr⟩ := stL_at h1
  rw [k2] at c0
  have hall := And.intro ho hs
  clear hall
  obtain ⟨V', hV'⟩ : ∃ V', takeV V s.wh s.rc = V' := ⟨_, rfl⟩
  obtain ⟨T', hT'⟩ : ∃ T', takeT V s.wh s.rc = T' := ⟨_, rfl⟩
  have hk' : PVok V' N := by rw [← hV']; exact takeV_ok hk _ _
  have HR : Hid (Calls Tryz.prog 27 #[.pointer (some ⟨Q, 0, none⟩), .int .i64 s.wh, .int .i64 s.rc] W1 fun r w' => ∃ tv, r = .returned tv ∧ HTr W (SBx w.heap.size s :: K) P Q D V V' tv T' w') := Lib.hid (by rw [← hV', ← hT']; exact rTake_H h2 hk (by omega) s.wh s.rc)
  have HV : Hid (∀ X tv, HTr W (SBx w.heap.size s :: K) P Q D V V' tv T' X → Calls Tryz.prog 28 #[.pointer (some ⟨P, 0, none⟩), .int .i64 s.wh, .int .i64 s.rc] X fun r w' => ∃ tv2, r = .returned tv2 ∧ HTT W (SBx w.heap.size s :: K) P Q D V' V' tv T' tv2 T' w') := Lib.hid (fun X tv q => by have := vTake_T q hk (by omega) s.wh s.rc; rw [hV', hT'] at this; exact this)
  have HTo : Hid (∀ X a b, HTT W (SBx w.heap.size s :: K) P Q D V' V' a T' b T' X → Calls Tryz.prog 29 #[b, a] X fun e w' => e = .returned (.bool true) ∧ HH W (SBx w.heap.size s :: K) P Q D V' V' w') := Lib.hid (fun X a b q => told_T q)
  have HSt : Hid (∀ X, HH W (SBx w.heap.size s :: K) P Q D V' V' X → Calls Tryz.prog 17 #[.pointer (some ⟨P, 0, none⟩), .pointer (some ⟨Q, 0, none⟩)] X fun e w' => e = .returned (.bool true) ∧ HH W K P Q D V' V' w') := Lib.hid (fun X q => (stands_H q hk' (by omega)).mono (fun _ _ ⟨p1, p2⟩ => ⟨p1, p2.drop⟩))
  have HCl : Hid (∀ X tv, HTr W (SBx w.heap.size s :: K) P Q D V V' tv T' X → X.cell? ⟨w.heap.size, 21, none⟩ = some (.int .i64 s.wh) ∧ X.cell? ⟨w.heap.size, 22, none⟩ = some (.int .i64 s.rc)) := Lib.hid (fun X tv q => by
    obtain ⟨T, fv, fr, vd, c, q⟩ := q
    have hb : X.heap[w.heap.size]? = some (.cells (stL s).toArray 45 (0, 0)) := HH.box ⟨fv, fr, vd, c, q.ho⟩
    exact ⟨(stL_at hb).2.2.1, (stL_at hb).2.2.2.1⟩)
  rw [hV']
  clear h h1 hb1 h2 hk hk' hN ho hs cr k2 hV' hT'
  go_enter Tryz.func13, Tryz.ntmps13
  go_upto_region 1 with fail
  (try rw [hW1])
  clear hW1
  go_upto_region 10 with (go_at_call 27; refine HR.out.mono ?_; rintro r w2 ⟨tv, rfl, hv⟩; have H2 := Lib.hid hv; clear hv)
  obtain ⟨d21, d22⟩ := HCl.out _ _ H2.out
  clear c0 c20 c21 c22 c23 c24 HR HCl
  go_upto_region 11 with (go_at_call 28; refine (HV.out _ _ H2.out).mono ?_; rintro r w3 ⟨tv3, rfl, hv⟩; have H3 := Lib.hid hv; clear hv)
  clear H2 HV d21 d22
  cases b2 with
  | true =>
    go_wp2_with fail
    go_ret
    exact ⟨rfl, H3.out.1.drop⟩
  | false =>
    go_wp2_with (first | (go_at_call 29; refine (HTo.out _ _ _ H3.out).mono ?_; rintro r w4 ⟨rfl, hv⟩; have H4 := Lib.hid hv; clear hv) | (go_at_call 17; refine (HSt.out _ H4.out).mono ?_; rintro r w7 ⟨rfl, hv⟩; have H7 := Lib.hid hv; clear hv))
    go_ret
    exact ⟨rfl, H7.out⟩
end Go.Proofs.YtmedpcldfpfpnaaGreat
