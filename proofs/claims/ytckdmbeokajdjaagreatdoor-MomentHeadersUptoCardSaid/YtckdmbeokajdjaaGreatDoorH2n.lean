/- The document's ReadHeader in whole. -/
import Derived.Test.YtckdmbeokajdjaaGreatDoorH2h
import Derived.Test.YtckdmbeokajdjaaGreatDoorH2m
import Derived.Test.YtckdmbeokajdjaaGreatDoorGa
namespace Go.Proofs.YtckdmbeokajdjaaGreatDoor
open Go.RowKit

theorem told_rh (l : List UInt8) (ps : List Pc) (y m d h n s z : Int) (hp : pcs l = some ps) (hval : sdB ps = true →
    y = fyI (tkL (ps.drop (wkI ps + 2)) 2).1.1 ∧ m = monI (tx ps (wkI ps + 1)) ∧ d = (shL (ps.drop (wkI ps)) 99).1.1 ∧ h = (shL (ps.drop (wkI ps + 3)) 23).1.1 ∧ n = (shL (ps.drop (wkI ps + 5)) 59).1.1 ∧ s = enS (ps.drop (wkI ps + 6)) ∧ z = enZ (ps.drop (wkI ps + 6))) :
    judV (sdB ps) y m d h n s z = rhV l (nzI (hc3 l).p) ∧ judE (sdB ps) y m d = rhE l := by
  obtain ⟨r1, r2, r3, r4, r5, r6, r7, r8⟩ := rh_some l ps hp
  obtain ⟨e1, e2⟩ := sd_eq ps
  unfold rhV rhE
  rw [r1, e1]
  cases hb : sdB ps with
  | false => exact ⟨rfl, rfl⟩
  | true =>
    obtain ⟨_, k1, k2, k3, k4, k5, k6, k7⟩ := e2 hb
    obtain ⟨h1, h2, h3, h4, h5, h6, h7⟩ := hval hb
    rw [r2, r3, r4, r5, r6, r7, r8, k1, k2, k3, k4, k5, k6, k7, h1, h2, h3, h4, h5, h6, h7]
    exact ⟨rfl, rfl⟩
theorem rhV_shape (l : List UInt8) (nz : Int) : ∃ r0 r1 r2 r3 r4 r5 r6, rhV l nz = mom r0 r1 r2 r3 r4 r5 r6 := judV_shape _ _ _ _ _ _ _ _

set_option maxRecDepth 100000 in
set_option maxHeartbeats 4000000 in
theorem refReadHeader_any (s : ByteArray) (w : World) (hs : s.size ≤ 1048576) :
    Calls Tryz.prog 12 #[.string s] w fun e w' => e = .returned (.tuple #[rhV (L s) (nzI (hc3 (L s)).p), .int .i64 (rhE (L s))]) ∧ Below w.heap.size w w' := by
  have H1 := Lib.hid (fun W => rpieces_any s W hs)
  have H2 := Lib.hid (fun v ps W (hv : PsAt W v ps) (hg : GdL (L s).length ps) => rsaid_any (L s).length v ps W hv hg (by rw [L_length]; omega))
  have H3 := Lib.hid (fun ps y m d h n s' z (hp : pcs (L s) = some ps) hval W => by
    have := told_any (sdB ps) y m d h n s' z W
    rw [(told_rh (L s) ps y m d h n s' z hp hval).1, (told_rh (L s) ps y m d h n s' z hp hval).2] at this
    exact this)
  have HN : Hid (pcs (L s) = none → rhV (L s) (nzI (hc3 (L s)).p) = mom 0 0 0 0 0 0 0 ∧ rhE (L s) = 20) := Lib.hid (fun h => by
    have := rh_none (L s) h
    unfold rhV rhE
    rw [this]; exact ⟨rfl, rfl⟩)
  obtain ⟨r0, r1, r2, r3, r4, r5, r6, hr⟩ := rhV_shape (L s) (nzI (hc3 (L s)).p)
  have G0 := Lib.hid (heap_alloc_new w (.cells #[.int .i64 0, .int .i64 0, .int .i64 0, .int .i64 0, .int .i64 0, .int .i64 0, .int .i64 0] 23))
  have B0 : Hid (Below w.heap.size w (w.alloc (.cells #[.int .i64 0, .int .i64 0, .int .i64 0, .int .i64 0, .int .i64 0, .int .i64 0, .int .i64 0] 23))) := Lib.hid ((Below.refl _ _).alloc (Nat.le_refl _) _)
  rw [hr] at H3 HN ⊢
  clear hr
  generalize rhE (L s) = er at *
  clear hs
  go_enter Tryz.func12, Tryz.ntmps12
  go_wp2_with fail
  generalize w.alloc (.cells #[.int .i64 0, .int .i64 0, .int .i64 0, .int .i64 0, .int .i64 0, .int .i64 0, .int .i64 0] 23) = W1 at G0 B0 ⊢
  refine (H1.out _).mono ?_
  rintro e w1 ⟨hb1, hc⟩
  have G1 : Hid (w1.heap[w.heap.size]? = some (.cells #[.int .i64 0, .int .i64 0, .int .i64 0, .int .i64 0, .int .i64 0, .int .i64 0, .int .i64 0] 23 (0, 0))) := Lib.hid (by rw [hb1.block _ (Array.getElem?_eq_some_iff.1 G0.out).1]; exact G0.out)
  have B1 := Lib.hid (B0.out.trans (hb1.mono B0.out.size))
  clear hb1 H1 G0 B0
  rcases hc with ⟨hn, rfl⟩ | ⟨v, ps, hp, rfl, hv, hg⟩
  · have HX := Lib.hid (HN.out hn)
    clear hn HN H2 H3
    go_wp2_with (refine wpList_store_row rfl 23 _ _ rfl w.heap.size #[.int .i64 0, .int .i64 0, .int .i64 0, .int .i64 0, .int .i64 0, .int .i64 0, .int .i64 0] rfl rfl 23 _ G1.out Tryz.sizeMom rfl (mom_one _ _ _ _ _ _ _) ?_)
    exact bodyPost_ret (v := .tuple #[mom 0 0 0 0 0 0 0, .int .i64 20]) (res2 Tryz.results12 _ _ w.heap.size 23 #[.int .i64 0, .int .i64 0, .int .i64 0, .int .i64 0, .int .i64 0, .int .i64 0, .int .i64 0] (0, 0) _ rfl (setRow_heap _ _ _ #[.int .i64 0, .int .i64 0, .int .i64 0, .int .i64 0, .int .i64 0, .int .i64 0, .int .i64 0] _ _ G1.out) Tryz.underlying23 rfl Tryz.sizeMom) rfl ⟨by rw [HX.out.1, HX.out.2], below_setRow B1.out (Nat.le_refl _) _⟩
  · have HS := Lib.hid (H2.out v ps w1 hv hg)
    have HT := Lib.hid (fun y m d h n s' z hval W => H3.out ps y m d h n s' z hp hval W)
    clear hv hg hp H2 H3 HN
    go_wp2_with fail
    refine HS.out.mono ?_
    rintro e w2 ⟨y, m, d, h, n, se, z, rfl, hb2, hval⟩
    have HJ := Lib.hid (HT.out y m d h n se z hval)
    have l1 := (Array.getElem?_eq_some_iff.1 G1.out).1
    have G2 : Hid (w2.heap[w.heap.size]? = some (.cells #[.int .i64 0, .int .i64 0, .int .i64 0, .int .i64 0, .int .i64 0, .int .i64 0, .int .i64 0] 23 (0, 0))) := Lib.hid (by rw [hb2.block _ l1]; exact G1.out)
    have B2 := Lib.hid (B1.out.trans (hb2.mono B1.out.size))
    clear hval HT HS hb2 l1 G1 B1
    have l2 := (Array.getElem?_eq_some_iff.1 G2.out).1
    have G3 := Lib.hid ((heap_alloc_old w2 (.cells #[.int .i64 y, .int .i64 m, .int .i64 d, .int .i64 h, .int .i64 n, .int .i64 se, .int .i64 z] 23) l2).trans G2.out)
    have B3 := Lib.hid (B2.out.alloc B2.out.size (.cells #[.int .i64 y, .int .i64 m, .int .i64 d, .int .i64 h, .int .i64 n, .int .i64 se, .int .i64 z] 23))
    clear l2 G2 B2
    generalize sdB ps = fb at *
    unfold mom at HJ ⊢
    go_wp2_with fail
    refine (HJ.out _).mono ?_
    rintro e w3 ⟨rfl, hb3⟩
    have l3 := (Array.getElem?_eq_some_iff.1 G3.out).1
    have G4 : Hid (w3.heap[w.heap.size]? = some (.cells #[.int .i64 0, .int .i64 0, .int .i64 0, .int .i64 0, .int .i64 0, .int .i64 0, .int .i64 0] 23 (0, 0))) := Lib.hid (by rw [hb3.block _ l3]; exact G3.out)
    have B4 := Lib.hid (B3.out.trans (hb3.mono B3.out.size))
    clear hb3 l3 G3 B3 HJ
    have l4 := (Array.getElem?_eq_some_iff.1 G4.out).1
    have G5 := Lib.hid ((heap_alloc_old w3 (.cells #[.int .i64 r0, .int .i64 r1, .int .i64 r2, .int .i64 r3, .int .i64 r4, .int .i64 r5, .int .i64 r6] 23) l4).trans G4.out)
    have B5 := Lib.hid (B4.out.alloc B4.out.size (.cells #[.int .i64 r0, .int .i64 r1, .int .i64 r2, .int .i64 r3, .int .i64 r4, .int .i64 r5, .int .i64 r6] 23))
    clear l4 G4 B4
    go_wp2_with (refine wpList_store_row rfl 23 _ _ rfl w.heap.size #[.int .i64 r0, .int .i64 r1, .int .i64 r2, .int .i64 r3, .int .i64 r4, .int .i64 r5, .int .i64 r6] rfl rfl 23 _ G5.out Tryz.sizeMom rfl (mom_one _ _ _ _ _ _ _) ?_)
    exact bodyPost_ret (v := .tuple #[mom r0 r1 r2 r3 r4 r5 r6, .int .i64 er]) (res2 Tryz.results12 _ _ w.heap.size 23 #[.int .i64 r0, .int .i64 r1, .int .i64 r2, .int .i64 r3, .int .i64 r4, .int .i64 r5, .int .i64 r6] (0, 0) _ rfl (setRow_heap _ _ _ #[.int .i64 r0, .int .i64 r1, .int .i64 r2, .int .i64 r3, .int .i64 r4, .int .i64 r5, .int .i64 r6] _ _ G5.out) Tryz.underlying23 rfl Tryz.sizeMom) rfl ⟨rfl, below_setRow B5.out (Nat.le_refl _) _⟩
end Go.Proofs.YtckdmbeokajdjaaGreatDoor
