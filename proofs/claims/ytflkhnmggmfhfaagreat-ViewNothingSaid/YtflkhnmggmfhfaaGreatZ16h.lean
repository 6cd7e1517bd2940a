/- step of nothing, whole. -/
import Derived.Test.YtflkhnmggmfhfaaGreatZ16c
import Derived.Test.YtflkhnmggmfhfaaGreatZ16g
namespace Go.Proofs.YtflkhnmggmfhfaaGreat
open Go.RowKit

variable {W w : World} {K : List (Nat × Obj)} {vp : Value} {Q D : Nat}
set_option maxRecDepth 100000 in
set_option maxHeartbeats 16000000 in
theorem zstep_none (h : ZHH W K vp Q D w) (s : ST) (ho : StOK W s) (hs : StShort s) (lk : Int) (n1 : s.kind ≠ 1) (n2 : s.kind ≠ 2) (n3 : s.kind ≠ 3) (n4 : s.kind ≠ 4) :
    Calls Tryz.prog 6 #[vp, .pointer (some ⟨Q, 0, none⟩), .pointer (some ⟨D, 0, none⟩), .agg (stL s).toArray, .int .i64 lk] w fun e w' => e = .returned (.bool true) ∧ ZHH W K vp Q D w' := by
  obtain ⟨W1, hW1⟩ : ∃ W1, w.alloc (.cells (stL s).toArray 47) = W1 := ⟨_, rfl⟩
  have h1 : W1.heap[w.heap.size]? = some (.cells (stL s).toArray 47 (0, 0)) := by rw [← hW1]; exact heap_new _ _
  have hb1 : Below w.heap.size w W1 := by rw [← hW1]; exact (Below.refl _ _).alloc (Nat.le_refl _) _
  have h2 : ZHH W (SBx w.heap.size s :: K) vp Q D W1 := h.add hb1 (Nat.le_refl _) h1
  obtain ⟨c0, c20, c21, c22, c23, c24, cr⟩ := stL_at h1
  have b1 : (s.kind == 1) = false := by simpa using n1
  have b2 : (s.kind == 2) = false := by simpa using n2
  have b3 : (s.kind == 3) = false := by simpa using n3
  have b4 : (s.kind == 4) = false := by simpa using n4
  have H2 := Lib.hid h2
  have hall := And.intro ho hs
  clear hall
  clear h h1 hb1 h2 ho hs cr n1 n2 n3 n4
  generalize s.kind = kk at *
  go_enter Tryz.func6, Tryz.ntmps6
  go_upto_region 1 with fail
  (try rw [hW1])
  clear hW1
  go_wp2_with fail
  go_ret
  exact ⟨rfl, H2.out.drop⟩
theorem zstep_any (h : ZHH W K vp Q D w) (s : ST) (ho : StOK W s) (hs : StShort s) (hx : StX s) (hf : StF s) (lk : Int) (hl : 0 ≤ lk ∧ lk ≤ 15) :
    Calls Tryz.prog 6 #[vp, .pointer (some ⟨Q, 0, none⟩), .pointer (some ⟨D, 0, none⟩), .agg (stL s).toArray, .int .i64 lk] w fun e w' => e = .returned (.bool true) ∧ ZHH W K vp Q D w' := by
  have wr : ∀ k : Int, 0 < k → IntKind.i64.wrap (lk.tdiv k) = lk.tdiv k := fun k hk => by
    have h1 : 0 ≤ lk.tdiv k := Int.tdiv_nonneg hl.1 (by omega)
    have h2 : lk.tdiv k ≤ lk := Int.tdiv_le_self k hl.1
    simp only [IntKind.wrap, IntKind.signed, IntKind.bits]
    simp
    omega
  by_cases k1 : s.kind = 1
  · exact zstep_hear h s ho hs lk hx hf k1 _ rfl
  · by_cases k2 : s.kind = 2
    · exact zstep_take h s ho hs lk k2 _ rfl (wr 2 (by omega))
    · by_cases k3 : s.kind = 3
      · exact zstep_find h s ho hs lk k3 _ rfl (wr 4 (by omega))
      · by_cases k4 : s.kind = 4
        · exact zstep_tell h s ho hs lk k4 _ rfl (wr 8 (by omega))
        · exact zstep_none h s ho hs lk k1 k2 k3 k4
end Go.Proofs.YtflkhnmggmfhfaaGreat

/- ViewNothing, its walk. -/
namespace Go.Proofs.YtflkhnmggmfhfaaGreat
open Go.RowKit

theorem wpList_load_midG {P : Program} {ops : Array Oper} {rest : List Oper} {op : Oper} {a : Act} {w : World} {Q : Exit → Act → World → Prop} (ty : TypeId) (x : Operand) (ho : op.op = .load ty x)
    (b o : Nat) (hx : a.eval x = .pointer (some ⟨b, o, none⟩)) (cs : List Value) (d : TypeDesc) (hc : w.rangeAt b o cs)
    (hu : P.underlying ty = some d) (hd : d.isRow = true) (hi : (P.info? ty).map (·.size) = some cs.length)
    (hw : Region.wanted op (yielded ops a.tmps) = true) (h : wpList P ops Q rest (a.put op.dst (.agg cs.toArray)) w) : wpList P ops Q (op :: rest) a w :=
  wpList_step fun K hK => by rw [if_pos hw]; exact wp_load_mid ty x ho b o hx cs d hc hu hd hi (hK _ _ h)
/-- Blocks, and what lies in them. -/
def blz (f : List Nat) (w : World) : List (Nat × Obj) := f.filterMap (fun b => (w.heap[b]?).map (fun o => (b, o)))
theorem mem_blz {f : List Nat} {w : World} {p : Nat × Obj} : p ∈ blz f w ↔ p.1 ∈ f ∧ w.heap[p.1]? = some p.2 := by
  simp only [blz, List.mem_filterMap, Option.map_eq_some_iff]
  constructor
  · rintro ⟨b, hb, o, ho, rfl⟩
    exact ⟨hb, ho⟩
  · rintro ⟨h1, h2⟩
    exact ⟨p.1, h1, p.2, h2, rfl⟩
section
variable {W w : World} {zp Q D : Nat}
/-- The house of the zero view is one of the nil view too. -/
theorem nil_step (h : ZHH W [] (.pointer (some ⟨zp, 0, none⟩)) Q D w) (s : ST) (ho : StOK W s) (hs : StShort s) (hx : StX s) (hf : StF s) (lk : Int) (hl : 0 ≤ lk ∧ lk ≤ 15) :
    Calls Tryz.prog 6 #[.pointer none, .pointer (some ⟨Q, 0, none⟩), .pointer (some ⟨D, 0, none⟩), .agg (stL s).toArray, .int .i64 lk] w fun e w' => e = .returned (.bool true) ∧ ZHH W [] (.pointer (some ⟨zp, 0, none⟩)) Q D w' := by
  obtain ⟨fv, fr, vd, c, h⟩ := h
  have hh : ZHH W (blz fv w) (.pointer none) Q D w := ⟨[], fr, vd, c, ⟨.inl ⟨rfl, rfl⟩, h.ref, h.desk, h.ok, fun x hx => (by cases hx), fun x hx => (by cases hx), h.rk, fun x hx => (by cases hx), h.lr, h.lk, h.base, fun p hp => by
    obtain ⟨q1, q2⟩ := mem_blz.1 hp
    exact ⟨q2, fun e => (by cases e), fun e => h.vr _ q1 e, fun e => h.vk _ q1 e⟩⟩⟩
  refine (zstep_any hh s ho hs hx hf lk hl).mono ?_
  rintro e w' ⟨rfl, fv0, fr', vd', c', h'⟩
  have kb : ∀ b, b ∈ fv → w'.heap[b]? = w.heap[b]? ∧ b ∉ fr' ∧ b ∉ fpD D vd' c'.F := fun b hb => by
    have hl : b < w.heap.size := h.view.lt hb
    have := h'.kp (b, w.heap[b]) (mem_blz.2 ⟨hb, Array.getElem?_eq_getElem hl⟩)
    exact ⟨this.1.trans (Array.getElem?_eq_getElem hl).symm, this.2.2.1, this.2.2.2⟩
  exact ⟨rfl, fv, fr', vd', c', ⟨h.view.hold (fun b hb => (kb b hb).1), h'.ref, h'.desk, h'.ok, fun x hx hy => (kb x hx).2.1 hy, fun x hx hy => (kb x hx).2.2 hy, h'.rk, h.lv, h'.lr, h'.lk, h'.base, fun p hp => (by cases hp)⟩⟩
end
set_option maxRecDepth 100000 in
set_option maxHeartbeats 16000000 in
theorem ViewNothing_walk (sv : Value) (S : List ST) (W : World) (hs : StepsAt W sv S) (hx : ∀ s ∈ S, StX s) :
    Calls Tryz.prog 3 #[sv] W fun e W' => e = .returned (.bool true) ∧ Below W.heap.size W W' := by
  have HL := Lib.hid (long_any2 (.slice none 0 0) sv [] S W ⟨none, 0, rfl, fun q => by simp at q⟩ hs)
  have HS := Lib.hid hs
  have HX := Lib.hid hx
  obtain ⟨⟨ax, cx, rfl, _⟩, _⟩ := hs
  clear hx
  go_enter Tryz.func3, Tryz.ntmps3
  go_upto_region 3 with (go_at_call 5; refine HL.out.mono ?_; rintro e w2 ⟨lb, rfl, hb2, hc2⟩; have HB2 := Lib.hid hb2; have HC2 := Lib.hid hc2; clear hb2 hc2)
  · go_ret
    exact ⟨rfl, HB2.out⟩
  have hlf : lb = false := by first | assumption | (cases lb <;> simp_all)
  obtain ⟨_, hsl, hss⟩ := HC2.out hlf
  subst hlf
  have HSS := Lib.hid hss
  obtain ⟨w3, hw3⟩ : ∃ w3, w2.alloc (.cells #[.bool false, .int .i64 0, .slice none 0 0, .slice none 0 0] 28) = w3 := ⟨_, rfl⟩
  obtain ⟨w4, hw4⟩ : ∃ w4, w3.alloc (.cells #[.slice none 0 0, .slice none 0 0, .slice none 0 0, .slice none 0 0, .slice none 0 0] 35) = w4 := ⟨_, rfl⟩
  obtain ⟨w5, hw5⟩ : ∃ w5, w4.alloc (.cells #[.bool true, .int .i64 0, .slice none 0 0, .slice none 0 0] 39) = w5 := ⟨_, rfl⟩
  have HH0 : Hid (ZHH W [] (.pointer (some ⟨w2.heap.size, 0, none⟩)) w4.heap.size w3.heap.size w5) := Lib.hid (by
    have b3 : Below w2.heap.size w2 w3 := by rw [← hw3]; exact (Below.refl _ _).alloc (Nat.le_refl _) _
    have b4 : Below w3.heap.size w3 w4 := by rw [← hw4]; exact (Below.refl _ _).alloc (Nat.le_refl _) _
    have b5 : Below w4.heap.size w4 w5 := by rw [← hw5]; exact (Below.refl _ _).alloc (Nat.le_refl _) _
    have z2 := HB2.out.size
    have z3 : w3.heap.size = w2.heap.size + 1 := by rw [← hw3]; simp
    have z4 : w4.heap.size = w3.heap.size + 1 := by rw [← hw4]; simp
    have v3 : VAt false w2.heap.size 0 (.slice none 0 0) (.slice none 0 0) [] [] w3 := by rw [← hw3]; exact zero_at w2
    have d4 : DK w3.heap.size ⟨.slice none 0 0, .slice none 0 0, .slice none 0 0, .slice none 0 0, .slice none 0 0⟩ ⟨[], [], [], [], []⟩ w4 := by
      rw [← hw4]
      exact ⟨heap_new _ _, World.ownsRow_nil _ _ _ _, World.ownsRow_nil _ _ _ _, World.ownsRow_nil _ _ _ _, World.ownsRow_nil _ _ _ _, World.ownsRow_nil _ _ _ _, fun f hf => (by cases hf), List.Pairwise.nil⟩
    have r5 : RV true w4.heap.size 0 (.slice none 0 0) (.slice none 0 0) [] [] w5 := by
      rw [← hw5]
      exact ⟨heap_new _ _, World.ownsRow_nil _ _ _ _, World.ownsRow_nil _ _ _ _, fun r hr => (by cases hr)⟩
    have fd : ∀ b, b ∈ fpD w3.heap.size ⟨.slice none 0 0, .slice none 0 0, .slice none 0 0, .slice none 0 0, .slice none 0 0⟩ [] → b = w3.heap.size := fun b hb => by
      rcases mem_fpD.1 hb with e | e | e | e | e | e | ⟨f, hf, e⟩
      · exact e
      all_goals first | (cases e; done) | (cases hf; done)
    have fz : ∀ b, b ∈ fpV w2.heap.size (.slice none 0 0) (.slice none 0 0) [] → b = w2.heap.size := fun b hb => by
      rcases mem_fpV.1 hb with e | e | e | ⟨r, hr, _⟩
      · exact e
      · cases e
      · cases e
      · cases hr
    have fq : ∀ b, b ∈ fpR w4.heap.size (.slice none 0 0) (.slice none 0 0) [] → b = w4.heap.size := fun b hb => by
      simp [fpR, Value.ownBlock] at hb
      exact hb
    refine ⟨_, _, _, _, ⟨.inr ⟨w2.heap.size, rfl, ⟨_, _, [], ((v3.on b4).on b5), rfl, rfl⟩⟩, ⟨_, _, [], r5, rfl, rfl, fun r hr => (by cases hr)⟩, d4.on b5, ⟨by simp, by simp, by simp, by simp, by simp, fun f hf => (by cases hf)⟩, fun x hx hy => ?_, fun x hx hy => ?_, fun x hx hy => ?_, fun x hx => ?_, fun x hx => ?_, fun x hx => ?_, HB2.out.trans ((b3.trans ((b4.trans (b5.mono b4.size)).mono b3.size)).mono HB2.out.size), fun p hp => (by cases hp)⟩⟩
    · have := fz x hx; have := fq x hy; omega
    · have := fz x hx; have := fd x hy; omega
    · have := fq x hx; have := fd x hy; omega
    · have := fz x hx; omega
    · have := fq x hx; omega
    · have := fd x hx; omega)
  clear hss HC2 HL
  go_upto_region 5 with fail
  (try rw [hw3])
  clear hw3
  go_upto_region 6 with fail
  (try rw [hw4])
  clear hw4
  go_upto_region 8 with fail
  (try rw [hw5])
  clear hw5
  generalize w2.heap.size = zp at *
  generalize w3.heap.size = D at *
  generalize w4.heap.size = Q at *
  go_loopw [7] (fun i wr => ∃ k : Nat, k ≤ S.length ∧ i = .int .i64 k ∧ ZHH W [] (.pointer (some ⟨zp, 0, none⟩)) Q D wr) (fun i _ => S.length - (intOf i).toNat)
  case atStart => exact ⟨0, Nat.zero_le _, rfl, HH0.out⟩
  case round =>
    obtain ⟨k, hk, rfl, hh⟩ := hrel
    by_cases hlt : k < S.length
    · have hlti : (k : Int) < (S.length : Int) := by omega
      obtain ⟨⟨a1, c1, e1, hx1⟩, hok⟩ := HS.out
      obtain ⟨rfl, rfl⟩ : a1 = ax ∧ c1 = cx := by injection e1 with p1 p2 p3; exact ⟨p1.symm, p3.symm⟩
      clear e1
      obtain ⟨g, off, rfl, hg, hc⟩ := hx1 (by omega)
      have hcr := hc k hlt
      have hse := getD_memS hlt
      have hso := hok _ hse
      have hsx := HX.out _ hse
      obtain ⟨hsh, hsf⟩ := HSS.out _ hse
      obtain ⟨sx, hes⟩ : ∃ sx, S.getD k ST0 = sx := ⟨_, rfl⟩
      rw [hes] at hcr hso hsh hsf hsx
      have HRg : Hid (∀ X, ZHH W [] (.pointer (some ⟨zp, 0, none⟩)) Q D X → X.rangeAt g (off + k * 26) (stL sx)) := Lib.hid (fun X q j u hj => by
        rw [q.base.cell (p := ⟨g, off + k * 26 + j, none⟩) hg]
        exact hcr j u hj)
      have HR1 := Lib.hid (HRg.out _ hh)
      have HSt1 := Lib.hid (nil_step hh sx hso hsh hsx hsf 15 (by decide))
      have HSt2 : Hid (∀ X, ZHH W [] (.pointer (some ⟨zp, 0, none⟩)) Q D X → Calls Tryz.prog 6 #[.pointer (some ⟨zp, 0, none⟩), .pointer (some ⟨Q, 0, none⟩), .pointer (some ⟨D, 0, none⟩), .agg (stL sx).toArray, .int .i64 15] X fun e w' => e = .returned (.bool true) ∧ ZHH W [] (.pointer (some ⟨zp, 0, none⟩)) Q D w') := Lib.hid (fun X q => zstep_any q sx hso hsh hsx hsf 15 (by decide))
      clear hok hse hso hsh hsf hsx hcr hc hx1 hes hh
      go_wp2_with (first | (first | (have hq := H10; clear hq; refine wpList_load_midG 47 _ rfl g (off + k * 26) rfl _ _ (HRg.out _ H10.out) Tryz.underlying47 rfl (Tryz.sizeSt sx) (by kernel_rfl) ?_) | (refine wpList_load_mid rfl 47 _ rfl g (off + k * 26) rfl _ _ HR1.out Tryz.underlying47 rfl (Tryz.sizeSt sx) ?_)) | (go_at_call 6; first | (have hq := H10; clear hq; refine (HSt2.out _ H10.out).mono ?_; rintro r w11 ⟨rfl, hv⟩; have H11 := Lib.hid hv; clear hv) | (refine HSt1.out.mono ?_; rintro r w10 ⟨rfl, hv⟩; have H10 := Lib.hid hv; clear hv)))
      go_roundw
      case rel => exact ⟨k + 1, by omega, by go_num, H11.out⟩
      case measure => simp [intOf]; omega
    · obtain rfl : k = S.length := by omega
      have HH1 := Lib.hid hh
      clear hh
      have HU : Hid (∀ vp X fv, ZX vp fv X → Calls Tryz.prog 7 #[vp] X fun e w' => ∃ a c, e = .returned (.slice a 0 c) ∧ Below X.heap.size X w') := Lib.hid (fun vp X fv q => (UidsX q).mono (fun _ _ ⟨v', q1, q2⟩ => by
        obtain ⟨a, c, e⟩ := ownsRow_shape q2.row
        exact ⟨a, c, by rw [q1, e]; rfl, q2.below⟩))
      have HT : Hid (∀ vp X fv, ZX vp fv X → (∀ b ∈ fv, W.heap.size ≤ b) → Below W.heap.size W X → Calls Tryz.prog 8 #[vp, .int .i64 2, .int .i64 1] X fun e w' => ∃ a c, e = .returned (.slice a 0 c) ∧ Below W.heap.size W w') := Lib.hid (fun vp X fv q hlo hb => (TakeX q 2 1).mono (fun _ _ ⟨tv, T, q1, q2, fv', q3, q4⟩ => by
        obtain ⟨_, a, c, e⟩ := q2.len
        exact ⟨a, c, by rw [q1, e]; rfl, (fo_below hb hlo q4).1⟩))
      have HTn : Hid (∀ X, Below wr.heap.size wr X → Calls Tryz.prog 8 #[.pointer none, .int .i64 2, .int .i64 1] X fun e w' => ∃ a c, e = .returned (.slice a 0 c) ∧ Below wr.heap.size wr w') := Lib.hid (fun X hb => (TakeN X 2 1).mono (fun _ _ ⟨tv, T, q1, q2, q3⟩ => by
        obtain ⟨_, a, c, e⟩ := q2.len
        exact ⟨a, c, by rw [q1, e]; rfl, hb.trans (q3.mono hb.size)⟩))
      obtain ⟨fv, fr, vd, c, h⟩ := HH1.out
      have HZ : Hid (∀ X, Below wr.heap.size wr X → ZX (.pointer (some ⟨zp, 0, none⟩)) fv X ∧ Below W.heap.size W X) := Lib.hid (fun X q => ⟨h.view.on q, h.base.trans (q.mono h.base.size)⟩)
      have HLo := Lib.hid h.lv
      have HNx : Hid (∀ X, ZX (.pointer none) [] X) := Lib.hid (fun X => .inl ⟨rfl, rfl⟩)
      clear h HH1
      go_wp2_with (first | (go_at_call 7; first | (have hq := HJ1; clear hq; refine (HU.out _ _ _ (HZ.out _ HJ1.out).1).mono ?_; rintro e x2 ⟨a2, c2, rfl, hv⟩; have HJ2 := Lib.hid (HJ1.out.trans (hv.mono HJ1.out.size)); clear hv) | (refine (HU.out _ _ _ (HNx.out _)).mono ?_; rintro e x1 ⟨a1, c1, rfl, hv⟩; have HJ1 := Lib.hid hv; clear hv)) | (go_at_call 8; first | (have hq := HJ3; clear hq; refine (HT.out _ _ _ (HZ.out _ HJ3.out).1 HLo.out (HZ.out _ HJ3.out).2).mono ?_; rintro e x4 ⟨a4, c4, rfl, hv⟩; have HJ4 := Lib.hid hv; clear hv) | (refine (HTn.out _ HJ2.out).mono ?_; rintro e x3 ⟨a3, c3, rfl, hv⟩; have HJ3 := Lib.hid hv; clear hv)) | (go_at_call 9; refine (known_any _).mono ?_; rintro e x5 ⟨rfl, hv⟩; have HJ5 := Lib.hid (HJ4.out.trans (hv.mono HJ4.out.size)); clear hv))
      go_ret
      exact ⟨rfl, HJ5.out⟩
end Go.Proofs.YtflkhnmggmfhfaaGreat
