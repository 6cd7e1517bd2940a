/- lex: the joiner's words, one behind another. -/
import Derived.Test.YtliiapdakojomabDoorBm
namespace Go.Proofs.YtliiapdakojomabDoor
open Go.RowKit

theorem drop_word (l : List Wd) (k : Nat) (hk : k < l.length) : l.drop k = l.getD k wd0 :: l.drop (k + 1) := by
  rw [List.drop_eq_getElem_cons hk, List.getD_eq_getElem?_getD, List.getElem?_eq_getElem hk]
  rfl
/-- As jput1; and what else is as it was. -/
theorem jput1f {ops : Array Oper} {rest : List Oper} {o : Oper} {a : Act} {Q : Exit → Act → World → Prop} (hgd : o.guard = none) (s x : Operand)
    (ho : o.op = .call { callee := .builtin .append, args := #[s, x], argTypes := #[31, 31] })
    {B P : Nat} {vl vt : Value} {j : Jn} {W0 w : World} (h : SmJ B P vl vt j W0 w) (b : UInt8) (hs : a.eval s = vl) (hx : a.eval x = .slice (some ⟨w.heap.size, 0, none⟩) 1 1) (hl : j.line.length ≤ 100000000)
    (hk : ∀ g cap w2, w2.cell? ⟨P, 0, none⟩ = some vl → w2.frozen? ⟨P, 0, none⟩ = false → Hid (SmJ B P (.slice (some ⟨g, 0, none⟩) (j.line.length + 1) cap) vt (j.put [b]) W0 (w2.setCell ⟨P, 0, none⟩ (.slice (some ⟨g, 0, none⟩) (j.line.length + 1) cap))) →
      Hid (∀ q, q < w.heap.size → vl.ownBlock ≠ some q → q ≠ P → (w2.setCell ⟨P, 0, none⟩ (.slice (some ⟨g, 0, none⟩) (j.line.length + 1) cap)).heap[q]? = w.heap[q]?) → wpList Tryd.prog ops Q rest (a.put o.dst (.slice (some ⟨g, 0, none⟩) (j.line.length + 1) cap)) w2) :
    wpList Tryd.prog ops Q (o :: rest) a (w.alloc (.cells #[.int .u8 (b.toNat : Int)] 5)) := by
  obtain ⟨i0, hi, hz0, hz1, hz2⟩ := info_parts Tryd.infoByte
  have hA := (Below.refl w.heap.size w).alloc (Nat.le_refl _) (.cells #[.int .u8 (b.toNat : Int)] 5)
  have hZ := h.on hA
  have hBw : B ≤ w.heap.size := by have := h.bP; have := h.plt; omega
  refine wpList_append_lies _ hgd s x 31 ho B 5 i0 (.int .u8 0) 1 1 Tryd.underlying31 hi hz0 hz1 hz2 rfl (by decide) vl j.line.length (bc j.line) hs hZ.line ⟨w.heap.size, 0, none⟩ 1 1 [.int .u8 (b.toNat : Int)] hx rfl ?_ (by intro u hu; simp at hu; subst hu; rfl) (by decide) (by unfold maxLen; omega) (by omega) (by simp; omega) (w.heap.size + 1) (by simp) ?_
  · intro k u hk
    match k, hk with
    | 0, hk => simp at hk; subst hk; simp [Addr.add]
    | (k + 1), hk => simp at hk
  intro g cap w2 hrow2 hgr hgg hglt
  rw [bc_snoc] at hrow2
  obtain ⟨p0, p1, HJ⟩ := hZ.lined [b] (n := j.line.length + 1) (cap := cap) (by simpa using hrow2) hgr (by
    rcases hgg with e | e
    · exact .inl e
    · right; simp; omega)
  refine hk g cap w2 p0 p1 (Lib.hid HJ) (Lib.hid fun q hq hv hP => ?_)
  rw [heap_setCell_other _ ⟨P, _, none⟩ q _ (by simpa using hP), hgr.block q (Nat.lt_of_lt_of_le hq hA.size) (fun e => hv e.symm), hA.block q hq]
/-- A box with a word in it. -/
def Box (R : Nat) (ck : Int) (ct : ByteArray) (va : Option Addr) (vn vc : Nat) (cg : Bool) (X : World) : Prop := X.heap[R]? = some (.cells #[.int .i64 ck, .string ct, .slice va vn vc, .bool cg] 33 (0, 0))
theorem Box.cells {R : Nat} {ck : Int} {ct : ByteArray} {va : Option Addr} {vn vc : Nat} {cg : Bool} {X : World} (h : Box R ck ct va vn vc cg X) : X.cell? ⟨R, 0, none⟩ = some (.int .i64 ck) ∧ X.cell? ⟨R, 1, none⟩ = some (.string ct) ∧ X.cell? ⟨R, 2, none⟩ = some (.slice va vn vc) ∧ X.cell? ⟨R, 3, none⟩ = some (.bool cg) :=
  ⟨cell_of_row _ _ 0 _ _ _ h, cell_of_row _ _ 1 _ _ _ h, cell_of_row _ _ 2 _ _ _ h, cell_of_row _ _ 3 _ _ _ h⟩
set_option maxRecDepth 100000 in
set_option maxHeartbeats 4000000 in
theorem write_step {B P : Nat} {W0 : World} (hWB : W0.heap.size ≤ B) (hE : Env W0) (l : List Wd) (a : Option Addr) (n c : Nat) (D : Nat → Prop) (hL : Lies W0 D a n c l)
    (ih : ∀ i, i < l.length → ∀ (va : Option Addr) (vn vc : Nat), Lies W0 D va vn vc (l.getD i wd0).kids → ∀ vl vt j w, SmJ B P vl vt j W0 w → Jok j → Calls Tryd.prog 37 #[.pointer (some ⟨P, 0, none⟩), .slice va vn vc] w fun e w' => e = .returned (.tuple #[]) ∧ ∃ vl2 vt2, SmJ B P vl2 vt2 (jws true (l.getD i wd0).kids j) W0 w')
    {vl vt : Value} {j : Jn} {w : World} (h : SmJ B P vl vt j W0 w) (hj : Jok j) :
    Calls Tryd.prog 37 #[.pointer (some ⟨P, 0, none⟩), .slice a n c] w fun e w' => e = .returned (.tuple #[]) ∧ ∃ vl2 vt2, SmJ B P vl2 vt2 (jws true l j) W0 w' := by
  obtain rfl := hL.len
  have HL := Lib.hid hL
  have HIH := Lib.hid ih
  have H := Lib.hid h
  have HJ := Lib.hid hj
  have HE := Lib.hid hE
  have HWB := Lib.hid hWB
  clear hL ih h hj hE hWB
  go_enter Tryd.func37, Tryd.ntmps37
  go_wp2_with fail
  go_loopg [8] l.length (fun gg s8 wr => ∃ (k : Nat) (X : World) (vl vt : Value) (jk : Jn), X = wr ∧ k ≤ l.length ∧ l.length - k ≤ gg ∧ s8 = .int .i64 k ∧ Hid (SmJ B P vl vt jk W0 X) ∧ Hid (Jok jk) ∧ Hid (jws (decide (k = 0)) (l.drop k) jk = jws true l j))
  case atStart => exact ⟨0, _, vl, vt, j, rfl, Nat.zero_le _, by omega, rfl, H, HJ, Lib.hid rfl⟩
  case round =>
    obtain ⟨k, X, vl', vt', jk, hX, hk, hgg, rfl, HX, HK, HQ⟩ := hrel
    subst hX
    clear H HJ
    by_cases hlt : k < l.length
    · obtain ⟨g1, o1, rfl, hm1, va, vn, vc, ⟨p0, p1, p2, p3⟩, hk1⟩ := HL.out.pick k hlt
      have hbX : Below W0.heap.size W0 X := HX.out.below.mono HWB.out
      replace p0 := cellB p0 hbX
      replace p1 := cellB p1 hbX
      replace p2 := cellB p2 hbX
      replace p3 := cellB p3 hbX
      have hkz : (k : Int) < (l.length : Int) := by omega
      have hk0 : (0 : Int) ≤ (k : Int) := by omega
      have hml : l.length ≤ 9223372036854775807 := by unfold maxLen at hm1; omega
      have hjw := HK.out.words
      have HD : Hid (jws (decide (k = 0)) (l.getD k wd0 :: l.drop (k + 1)) jk = jws true l j) := Lib.hid (by rw [← drop_word l k hlt]; exact HQ.out)
      have HST := Lib.hid (fun hs => (jws_stop (decide (k = 0)) (l.getD k wd0) (l.drop (k + 1)) jk hs).symm.trans HD.out)
      have HGO := Lib.hid (fun hs => (jws_one (decide (k = 0)) (l.getD k wd0) (l.drop (k + 1)) jk hs).symm.trans HD.out)
      have HOK := Lib.hid (fun hs => HK.out.word (decide (k = 0)) (l.getD k wd0) hs)
      have HWW : Hid (jk.stops (l.getD k wd0) = false → ∀ vl vt V, SmJ B P vl vt (jk.blank (decide (k = 0)) (l.getD k wd0)) W0 V → Calls Tryd.prog 62 #[.pointer (some ⟨P, 0, none⟩), .agg #[.int .i64 (l.getD k wd0).kind, .string (l.getD k wd0).text, .slice va vn vc, .bool (l.getD k wd0).glued]] V fun e w' => e = .returned (.tuple #[]) ∧ ∃ vl2 vt2, SmJ B P vl2 vt2 (jw (l.getD k wd0) (jk.blank (decide (k = 0)) (l.getD k wd0))) W0 w') := Lib.hid (fun hs vl vt V hV => by
        obtain ⟨b1, b2, b3⟩ := blank_of jk (decide (k = 0)) (l.getD k wd0)
        have hsm := HK.out.small
        exact writeWord_of hV (HE.out.on (hV.below.mono HWB.out)) (l.getD k wd0) (stops_of hs).2 va vn vc (by omega) (by rw [b3]; omega) (fun b => by
          have := ((HK.out.nest (decide (k = 0)) _ hs b).1).run true (l.getD k wd0).kids
          omega) (fun b vl' W hW' => HIH.out k hlt va vn vc hk1 _ _ _ _ hW' (HK.out.nest (decide (k = 0)) _ hs b).1))
      have HBL : Hid (jk.blank (decide (k = 0)) (l.getD k wd0) = if !decide (k = 0) && !(l.getD k wd0).glued then jk.one.put [32] else jk.one) := Lib.hid rfl
      have HSP : Hid (jk.stops (l.getD k wd0) = (decide (512 < jk.words + 1) || decide (16384 < (l.getD k wd0).text.size))) := Lib.hid rfl
      clear hm1 hbX hk1 HIH HD HQ
      generalize (l.getD k wd0).kind = ck at *
      generalize (l.getD k wd0).text = ct at *
      generalize (l.getD k wd0).glued = cg at *
      generalize jk.stops (l.getD k wd0) = sp at *
      generalize jk.blank (decide (k = 0)) (l.getD k wd0) = jb at *
      generalize jw (l.getD k wd0) jb = jn at *
      go_upto_region 3 with fail
      refine wp_gen (fun Y hY => ?_)
      have hA : Below X.heap.size X Y := by rw [hY]; exact (Below.refl _ _).alloc (Nat.le_refl _) _
      have hbox : Box X.heap.size ck ct va vn vc cg Y := by rw [hY]; exact heap_alloc_new X _
      have hYJ := HX.out.on hA
      have hPR : X.heap.size ≠ P := by have := HX.out.plt; omega
      have hvR : vl'.ownBlock ≠ some X.heap.size := fun e => by have := (row_lt HX.out.line e).2; omega
      have c2 := hYJ.cells.2.2
      obtain ⟨f2, hZJ⟩ := hYJ.counted
      have HZJ := Lib.hid hZJ
      have HBX : Hid (Box X.heap.size ck ct va vn vc cg (Y.setCell ⟨P, 2, none⟩ (.int .i64 (jk.words + 1 : Nat)))) := Lib.hid ((heap_setCell_other Y ⟨P, 2, none⟩ X.heap.size _ (by simpa using hPR)).trans hbox)
      have hbz : ((jk.words + 1 : Nat) : Int) = (jk.words : Int) + 1 := by omega
      rw [hbz] at HZJ HBX
      obtain ⟨R, hR⟩ : ∃ R, R = X.heap.size := ⟨_, rfl⟩
      rw [← hR] at hPR hvR HBX ⊢
      clear hY hA hbox hYJ hZJ p0 p1 p2 p3 hR HX
      go_upto_region 4 with fail
      refine wp_gen (fun Z hZ => ?_)
      rw [← hZ] at HZJ HBX
      clear hZ c2 f2
      have c2 : Z.cell? ⟨P, 2, none⟩ = some (.int .i64 ((jk.words : Int) + 1)) := by
        have := HZJ.out.cells.2.2
        rw [show jk.one.words = jk.words + 1 from rfl, hbz] at this
        exact this
      have c0 := HZJ.out.cells.1
      obtain ⟨x0, x1, x2, x3⟩ := HBX.out.cells
      have hsm : jk.one.line.length ≤ 100000000 := by have := HK.out.small; show jk.line.length ≤ _; omega
      cases sp with
      | true =>
        clear HGO HOK HWW HBL HBX c0
        have hres : SmJ B P vl' vt' (jws true l j) W0 Z := by rw [← HST.out rfl]; exact HZJ.out
        have HR := Lib.hid hres
        have hsp := HSP.out
        clear HST HSP hres HZJ HK hsm
        by_cases h1 : 512 < jk.words + 1
        · have h1z : (512 : Int) < (jk.words : Int) + 1 := by omega
          clear hsp
          go_wp2_with fail
          refine bodyPost_ret (results_none rfl _ _ _) rfl ?_
          exact ⟨rfl, _, _, HR.out⟩
        · have h1z : ¬ (512 : Int) < (jk.words : Int) + 1 := by omega
          have h2z : (16384 : Int) < (ct.size : Int) := by
            rw [decide_eq_false h1, Bool.false_or] at hsp
            have := of_decide_eq_true hsp.symm
            omega
          clear hsp
          go_wp2_with fail
          refine bodyPost_ret (results_none rfl _ _ _) rfl ?_
          exact ⟨rfl, _, _, HR.out⟩
      | false =>
        have hsp := HSP.out
        have h12 : ¬ 512 < jk.words + 1 ∧ ¬ 16384 < ct.size := by
          have := hsp.symm
          rw [Bool.or_eq_false_iff] at this
          exact ⟨of_decide_eq_false this.1, of_decide_eq_false this.2⟩
        have h1z : ¬ (512 : Int) < (jk.words : Int) + 1 := by omega
        have h2z : ¬ (16384 : Int) < (ct.size : Int) := by omega
        have HGO2 : Hid (jws (decide (k + 1 = 0)) (l.drop (k + 1)) jn = jws true l j) := Lib.hid (HGO.out rfl)
        have HOK2 := Lib.hid (HOK.out rfl)
        have HWW2 := Lib.hid (HWW.out rfl)
        clear hsp HSP HST HGO HOK HWW h12 HK
        by_cases h0 : k = 0
        · have h0z : ¬ (0 : Int) < (k : Int) := by omega
          have HJB : Hid (SmJ B P vl' vt' jb W0 Z) := Lib.hid (by rw [HBL.out, decide_eq_true h0]; exact HZJ.out)
          clear h0 HBL HZJ HBX c0 hsm
          go_wp2_with fail
          refine (HWW2.out _ _ _ HJB.out).mono ?_
          rintro e w4 ⟨rfl, vl4, vt4, h4⟩
          have H4 := Lib.hid h4
          clear h4 HWW2 HJB c2 x0 x1 x2 x3
          go_wp2_with fail
          go_roundg (l.length - (k + 1))
          case measure => omega
          case rel => exact ⟨k + 1, _, vl4, vt4, jn, rfl, hlt, Nat.le_refl _, by go_num, H4, HOK2, HGO2⟩
        · have h0z : (0 : Int) < (k : Int) := by omega
          cases cg with
          | true =>
            have HJB : Hid (SmJ B P vl' vt' jb W0 Z) := Lib.hid (by rw [HBL.out, decide_eq_false h0]; exact HZJ.out)
            clear h0 HBL HZJ HBX c0 hsm
            go_wp2_with fail
            refine (HWW2.out _ _ _ HJB.out).mono ?_
            rintro e w4 ⟨rfl, vl4, vt4, h4⟩
            have H4 := Lib.hid h4
            clear h4 HWW2 HJB c2 x0 x1 x2 x3
            go_wp2_with fail
            go_roundg (l.length - (k + 1))
            case measure => omega
            case rel => exact ⟨k + 1, _, vl4, vt4, jn, rfl, hlt, Nat.le_refl _, by go_num, H4, HOK2, HGO2⟩
          | false =>
            have hjb : jb = jk.one.put [32] := by rw [HBL.out, decide_eq_false h0]; rfl
            rw [hjb] at HWW2
            have hRZ : R < Z.heap.size := (Array.getElem?_eq_some_iff.1 HBX.out).1
            clear h0 HBL
            go_upto_region 7 with (at_builtin; refine jput1f rfl _ _ rfl HZJ.out 32 rfl rfl hsm ?_; intro g cap w2 p0 p1 HJ HF)
            refine wp_gen (fun V hV => ?_)
            rw [← hV] at HJ HF
            have HBV : Box R ck ct va vn vc false V := (HF.out R hRZ hvR hPR).trans HBX.out
            obtain ⟨y0, y1, y2, y3⟩ := HBV.cells
            clear hV HBV HF HBX HZJ c0 c2 x0 x1 x2 x3 p0 p1 hjb
            go_wp2_with fail
            refine (HWW2.out _ _ _ HJ.out).mono ?_
            rintro e w4 ⟨rfl, vl4, vt4, h4⟩
            have H4 := Lib.hid h4
            clear h4 HWW2 HJ y0 y1 y2 y3
            go_wp2_with fail
            go_roundg (l.length - (k + 1))
            case measure => omega
            case rel => exact ⟨k + 1, _, vl4, vt4, jn, rfl, hlt, Nat.le_refl _, by go_num, H4, HOK2, HGO2⟩
    · have hke : k = l.length := by omega
      have hkz : ¬ (k : Int) < (l.length : Int) := by omega
      have hres : SmJ B P vl' vt' (jws true l j) W0 X := by
        have := HQ.out
        rw [hke, List.drop_length] at this
        rw [← this]
        simp only [jws]
        exact HX.out
      have HR := Lib.hid hres
      clear hres HQ HX HK hke
      go_wp2_with fail
      go_end0
      exact ⟨rfl, _, _, HR.out⟩
/-- write, of words that lie in memory. -/
theorem write_any (N : Nat) : ∀ (l : List Wd), SizeOf.sizeOf l < N → ∀ {B P : Nat} {W0 : World}, W0.heap.size ≤ B → Env W0 → ∀ (a : Option Addr) (n c : Nat) (D : Nat → Prop), Lies W0 D a n c l → ∀ {vl vt : Value} {j : Jn} {w : World}, SmJ B P vl vt j W0 w → Jok j →
    Calls Tryd.prog 37 #[.pointer (some ⟨P, 0, none⟩), .slice a n c] w fun e w' => e = .returned (.tuple #[]) ∧ ∃ vl2 vt2, SmJ B P vl2 vt2 (jws true l j) W0 w' := by
  induction N with
  | zero => intro l h; omega
  | succ N ih =>
    intro l hN B P W0 hWB hE a n c D hL vl vt j w h hj
    exact write_step hWB hE l a n c D hL (fun i hi va vn vc hk vl vt j w h hj => ih _ (by have := kids_lt l i hi; omega) hWB hE va vn vc D hk h hj) h hj
end Go.Proofs.YtliiapdakojomabDoor
