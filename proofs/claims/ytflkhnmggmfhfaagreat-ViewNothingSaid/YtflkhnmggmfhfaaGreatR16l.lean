/- The document's view: New. -/
import Derived.Test.YtflkhnmggmfhfaaGreatR16i
import Derived.Test.YtflkhnmggmfhfaaGreatN16e
import Derived.Test.YtflkhnmggmfhfaaGreatR16f
namespace Go.Proofs.YtflkhnmggmfhfaaGreat
open Go.RowKit

def rnewE (recent u : Int) : RR := ⟨u, 0, false, decide (recent ≤ u), false, .slice none 0 0, []⟩
theorem rnewE_pl (recent u : Int) : (rnewE recent u).pl = newR recent u := rfl
theorem rrU_new (recent : Int) (l : List Int) : rrU (l.map (rnewE recent)) = l := by
  unfold rrU
  rw [List.map_map]
  exact List.map_id' l
theorem Tryz.infoRRow : (Tryz.prog.info? 102).map (fun i => (i.zero, i.size, i.bytes)) = some (some (.agg #[.int .i64 0, .int .i64 0, .bool false, .bool false, .bool false, .slice none 0 0]), 6, 48) := by kernel_rfl
section
variable {P : Nat} {nn : Bool} {val : Int} {rv cv : Value} {R : List RR} {C : List Int} {w : World}
/-- Rows = append(Rows, Row{..}), nothing waits of it. -/
theorem RV.addR (h : RV nn P val rv cv R C w) (r0 : RR) (hr0 : r0.waits = false) (hf0 : r0.fv = .slice none 0 0) (hl : R.length + 1 ≤ 4294967296) :
    ∃ a c W1, (Builtin.append_ #[37, 37] 37 #[rv, .slice (some ⟨w.heap.size, 0, none⟩) 1 1]).run Tryz.prog (w.alloc (.cells #[.int .i64 r0.uid, .int .i64 r0.mod, .bool r0.gone, .bool r0.rct, .bool false, .slice none 0 0] 102)) = .ok (.slice a (R.length + 1) c) W1 ∧ W1.heap[P]? = some (.cells #[.bool nn, .int .i64 val, rv, cv] 39 (0, 0)) ∧
      RV nn P val (.slice a (R.length + 1) c) cv (R ++ [r0]) C (W1.setCell ⟨P, 2, none⟩ (.slice a (R.length + 1) c)) ∧ FO (fpR P rv cv R) (fpR P (.slice a (R.length + 1) c) cv (R ++ [r0])) w (W1.setCell ⟨P, 2, none⟩ (.slice a (R.length + 1) c)) := by
  obtain ⟨a, c, W1, hrun, hrow, hg, hown⟩ := row_app (P := Tryz.prog) 37 102 _ 6 48 Tryz.underlying37 Tryz.infoRRow rfl (by decide) h.rows #[.int .i64 r0.uid, .int .i64 r0.mod, .bool r0.gone, .bool r0.rct, .bool false, .slice none 0 0] rfl (by intro x hx; simp at hx; rcases hx with rfl | rfl | rfl | rfl | rfl | rfl <;> rfl) hl (by omega)
  have hbl := lt_of_heap h.self
  have hs1 : W1.heap[P]? = some (.cells #[.bool nn, .int .i64 val, rv, cv] 39 (0, 0)) := by rw [hg.block P hbl (fun e => h.pr e.symm)]; exact h.self
  have hset : ∀ b, b ≠ P → (W1.setCell ⟨P, 2, none⟩ (.slice a (R.length + 1) c)).heap[b]? = W1.heap[b]? := fun b hb => Below.heap_setCell _ _ _ _ hb
  have keep : ∀ b, b < w.heap.size → b ≠ P → rv.ownBlock ≠ some b → (W1.setCell ⟨P, 2, none⟩ (.slice a (R.length + 1) c)).heap[b]? = w.heap[b]? := fun b hb hp hc => by
    rw [hset b hp, hg.block b hb (fun e => hc e.symm)]
  refine ⟨a, c, W1, hrun, hs1, ⟨?_, ?_, ?_, ?_⟩, ?_, ?_⟩
  · rw [heap_setCell_at _ hs1]
    rfl
  · have := ownsRow_same hrow (w' := W1.setCell ⟨P, 2, none⟩ (.slice a (R.length + 1) c)) (fun b e => hset b (fun e' => by
      subst e'
      rcases hown _ e with e2 | e2
      · exact h.pr e2
      · omega))
    rw [List.length_append, rrC_append]
    rw [show rrC [r0] = [.int .i64 r0.uid, .int .i64 r0.mod, .bool r0.gone, .bool r0.rct, .bool false, .slice none 0 0] by simp [rrC, RR.enc, hr0, hf0]]
    exact this
  · exact ownsRow_same h.com (fun b e => keep b (h.com.lt b e).2 (fun e' => h.pc (e' ▸ e)) (fun e2 => h.rc e2 e))
  · intro r hr hw
    rcases List.mem_append.1 hr with hr | hr
    · refine ownsRow_same (h.fls r hr hw) (fun b hb => ?_)
      have q := h.tt hr hw hb
      exact keep b ((h.fls r hr hw).lt b hb).2 q.1 q.2.1
    · simp at hr
      subst hr
      rw [hr0] at hw
      cases hw
  · exact Stays.setCell (p := ⟨P, 2, none⟩) (Stays.ofGrown hg (fun b e => mem_fpR.2 (.inr (.inl e)))) (.inl (mem_fpR.2 (.inl rfl))) _
  · intro b hb
    rcases mem_fpR.1 hb with rfl | hb | hb | ⟨r, hr, hb⟩
    · exact .inl (mem_fpR.2 (.inl rfl))
    · rcases hown b hb with e | e
      · exact .inl (mem_fpR.2 (.inr (.inl e)))
      · exact .inr e
    · exact .inl (mem_fpR.2 (.inr (.inr (.inl hb))))
    · rcases List.mem_append.1 hr with hr | hr
      · exact .inl (mem_fpR.2 (.inr (.inr (.inr ⟨r, hr, hb⟩))))
      · rw [List.mem_singleton.1 hr] at hb
        obtain ⟨hw, _⟩ := blks_waits hb
        rw [hr0] at hw
        cases hw
end
theorem newR_at (w : World) (val : Int) : RV false w.heap.size val (.slice none 0 0) (.slice none 0 0) [] [] (w.alloc (.cells #[.bool false, .int .i64 val, .slice none 0 0, .slice none 0 0] 39)) :=
  ⟨heap_new _ _, World.ownsRow_nil _ _ _ _, World.ownsRow_nil _ _ _ _, fun r hr => by cases hr⟩
set_option maxHeartbeats 2000000 in
set_option maxRecDepth 20000 in
theorem rNew_any (b : BX) (v : Value) (ms : List MLE) (recent : Int) (w : World) (hm : MailsAt w v ms) (hl : ms.length ≤ 1000000) :
    Calls Tryz.prog 38 #[.agg (bxA b), v, .int .i64 recent] w fun e w' => ∃ P fp, e = .returned (.pointer (some ⟨P, 0, none⟩)) ∧ RW P (newP b.val (ms.map MLE.u) recent) fp w' ∧ Below w.heap.size w w' ∧ ∀ c ∈ fp, w.heap.size ≤ c := by
  obtain ⟨W1, hW1⟩ : ∃ W1, w.alloc (.cells (bxA b) 54) = W1 := ⟨_, rfl⟩
  have h1 : W1.heap[w.heap.size]? = some (.cells (bxA b) 54 (0, 0)) := by rw [← hW1]; exact heap_new _ _
  have hb1 : Below w.heap.size w W1 := by rw [← hW1]; exact (Below.refl _ _).alloc (Nat.le_refl _) _
  have c1 : W1.cell? ⟨w.heap.size, 1, none⟩ = some (.int .i64 b.val) := by unfold bxA at h1; exact cell_of h1 1
  obtain ⟨W3, hW3⟩ : ∃ W3, W1.alloc (.cells #[.bool false, .int .i64 b.val, .slice none 0 0, .slice none 0 0] 39) = W3 := ⟨_, rfl⟩
  have hV3 : RV false W1.heap.size b.val (.slice none 0 0) (.slice none 0 0) [] [] W3 := by rw [← hW3]; exact newR_at _ _
  have hb3 : Below W1.heap.size W1 W3 := by rw [← hW3]; exact (Below.refl _ _).alloc (Nat.le_refl _) _
  have hbw : Below w.heap.size w W3 := hb1.trans (hb3.mono hb1.size)
  obtain ⟨av, kv, hv, hcs⟩ := hm
  subst hv
  have HM := Lib.hid hcs
  have H0 : Hid (RO false W1.heap.size b.val [] [] [W1.heap.size] W3 W3) := Lib.hid ⟨_, _, hV3, FO.refl _ _⟩
  have HBW := Lib.hid hbw
  have hwW1 : w.heap.size ≤ W1.heap.size := hb1.size
  have hWW : W1.heap.size < W3.heap.size := lt_of_heap hV3.self
  have HEnd : Hid (∀ w', RO false W1.heap.size b.val ((comesC [] [] (ms.map MLE.u)).map (rnewE recent)) [] [W1.heap.size] W3 w' → ∃ fp, RW W1.heap.size (newP b.val (ms.map MLE.u) recent) fp w' ∧ Below w.heap.size w w' ∧ ∀ c ∈ fp, w.heap.size ≤ c) := Lib.hid (fun w' ⟨rv, cv, q1, q2⟩ => by
    have e0 : comesP ⟨b.val, [], []⟩ (ms.map MLE.u) = ⟨b.val, [], comesC [] [] (ms.map MLE.u)⟩ := comesP_C _ _
    have hbel : Below w.heap.size W3 w' := Stays.below q2.1 (fun c (hc : c ∈ [W1.heap.size]) => by rw [List.mem_singleton.1 hc]; exact hwW1) hbw.size
    refine ⟨fpR W1.heap.size rv cv ((comesC [] [] (ms.map MLE.u)).map (rnewE recent)), ⟨rv, cv, (comesC [] [] (ms.map MLE.u)).map (rnewE recent), ?_, ?_, rfl, fun r hr => (by obtain ⟨u, _, rfl⟩ := List.mem_map.1 hr; exact ⟨none, 0, 0, rfl⟩)⟩, hbw.trans hbel, fun c hc => ?_⟩
    · unfold newP
      rw [e0]
      exact q1
    · unfold newP
      rw [e0]
      show _ = [] ++ (comesC [] [] (ms.map MLE.u)).map (newR recent)
      rw [List.map_map, List.nil_append]
      rfl
    · rcases q2.2 c hc with e | e
      · rw [List.mem_singleton.1 e]; exact hwW1
      · have := hbw.size; omega)
  clear h1 hb1 hb3 hbw hcs hV3
  generalize hPd : W1.heap.size = P at *
  have HPd := Lib.hid hPd
  clear hPd
  go_enter Tryz.func38, Tryz.ntmps38
  go_upto_region 1 with fail
  (try rw [hW1])
  clear hW1
  go_upto_region 2 with fail
  (try rw [hW3])
  (try rw [HPd.out])
  clear hW3 HPd c1
  go_upto_region 3 with fail
  go_loopw [8] (fun i wr => ∃ k : Nat, k ≤ ms.length ∧ i = .int .i64 k ∧ RO false P b.val ((comesC [] [] ((ms.map MLE.u).take k)).map (rnewE recent)) [] [P] W3 wr) (fun i _ => ms.length - (intOf i).toNat)
  case atStart => exact ⟨0, Nat.zero_le _, rfl, H0.out⟩
  case round =>
    obtain ⟨k, hk, rfl, rv1, cv1, q1, f1⟩ := hrel
    by_cases hlt : k < ms.length
    · have hlti : (k : Int) < (ms.length : Int) := by omega
      obtain ⟨g, off, rfl, hg, hcc⟩ := HM.out (by omega)
      have hgw : wr.heap[g]? = w.heap[g]? := by
        rw [f1.keep (Nat.lt_of_lt_of_le hg HBW.out.size) (fun hm => by have := List.mem_singleton.1 hm; omega), HBW.out.block g hg]
      have m1 : wr.cell? ⟨g, off + k * 13 + 1, none⟩ = some (.int .i64 (ms.getD k ML0).u) := by
        rw [World.cell?_of_block (a := ⟨g, off + k * 13 + 1, none⟩) hgw]
        exact hcc k hlt 1 _ rfl
      have hst : (ms.map MLE.u).take (k + 1) = (ms.map MLE.u).take k ++ [(ms.getD k ML0).u] := by
        rw [take_snocI _ k (by simpa using hlt)]
        congr 2
        rw [List.getD_eq_getElem?_getD, List.getElem?_map, List.getD_eq_getElem?_getD, List.getElem?_eq_getElem hlt]
        rfl
      have HS : Hid (comesC [] [] ((ms.map MLE.u).take (k + 1)) = come1 [] (comesC [] [] ((ms.map MLE.u).take k)) (ms.getD k ML0).u) := Lib.hid (by rw [hst, comesC_snoc])
      have hcl := comesC_nil_len ((ms.map MLE.u).take k)
      rw [List.length_take, List.length_map] at hcl
      have hri : riseF 0 (comesC [] [] ((ms.map MLE.u).take k)) := comesC_rise (U := []) ((ms.map MLE.u).take k) trivial
      generalize comesC [] [] ((ms.map MLE.u).take k) = D at *
      generalize (ms.getD k ML0).u = u at *
      have HG := Lib.hid (rtop_any q1 (by simp; omega) (by rw [rrU_new, List.append_nil]; exact hri))
      rw [rrU_new, List.append_nil] at HG
      have HTp : Hid (0 ≤ lastD D 0) := Lib.hid (lastD_posR hri)
      have HE : Hid (come1 [] D u = if lastD D 0 < u ∧ u < 4294967295 then D ++ [u] else D) := Lib.hid rfl
      obtain ⟨a4, k4, W4, r4, s4, h4, f4⟩ := q1.addR (rnewE recent u) rfl rfl (by simp; omega)
      obtain ⟨_, _, c2, _⟩ := q1.cells
      have d2 := cell_of s4 2
      have g2 := frozen_of s4 2
      have HO1 : Hid (RO false P b.val (D.map (rnewE recent)) [] [P] W3 wr) := Lib.hid ⟨rv1, cv1, q1, f1⟩
      have HO4 : Hid (RO false P b.val ((D ++ [u]).map (rnewE recent)) [] [P] W3 (W4.setCell ⟨P, 2, none⟩ (.slice a4 ((D.map (rnewE recent)).length + 1) k4))) := Lib.hid (by rw [List.map_append]; exact ⟨_, _, h4, f1.trans f4⟩)
      have R4 := Lib.hid r4
      obtain ⟨ar, cr, er⟩ := ownsRow_shape q1.rows
      subst er
      clear hst hcl hri q1 f1 r4 s4 h4 f4 hgw hcc
      generalize (D.map (rnewE recent)).length = nD at *
      generalize lastD D 0 = tp at *
      generalize come1 [] D u = D2 at *
      unfold rnewE at R4
      by_cases h1u : 1 ≤ u
      · by_cases h3 : u < 4294967295
        · by_cases h5 : tp < u
          · have HFd : Hid (D2 = D ++ [u]) := Lib.hid (by rw [HE.out, if_pos ⟨h5, h3⟩])
            go_wp2_with (first | (go_at_call 65; refine HG.out.mono ?_; rintro e w' ⟨rfl, hw⟩; subst w') | (at_builtin; refine append_by_run (u := .slice ar nD cr) (v := .slice (some ⟨wr.heap.size, 0, none⟩) 1 1) rfl _ _ _ rfl 37 rfl rfl rfl _ _ R4.out ?_))
            go_roundw
            case rel => exact ⟨k + 1, by omega, by go_num, by rw [HS.out, HFd.out]; exact HO4.out⟩
            case measure => simp [intOf]; omega
          · have HFd : Hid (D2 = D) := Lib.hid (by rw [HE.out, if_neg (fun h => h5 h.1)])
            go_wp2_with (go_at_call 65; refine HG.out.mono ?_; rintro e w' ⟨rfl, hw⟩; subst w')
            go_roundw
            case rel => exact ⟨k + 1, by omega, by go_num, by rw [HS.out, HFd.out]; exact HO1.out⟩
            case measure => simp [intOf]; omega
        · have HFd : Hid (D2 = D) := Lib.hid (by rw [HE.out, if_neg (fun h => h3 h.2)])
          go_wp2_with fail
          go_roundw
          case rel => exact ⟨k + 1, by omega, by go_num, by rw [HS.out, HFd.out]; exact HO1.out⟩
          case measure => simp [intOf]; omega
      · have HFd : Hid (D2 = D) := Lib.hid (by rw [HE.out, if_neg (fun h => by have := HTp.out; omega)])
        go_wp2_with fail
        go_roundw
        case rel => exact ⟨k + 1, by omega, by go_num, by rw [HS.out, HFd.out]; exact HO1.out⟩
        case measure => simp [intOf]; omega
    · obtain rfl : k = ms.length := by omega
      have HO : Hid (RO false P b.val ((comesC [] [] (ms.map MLE.u)).map (rnewE recent)) [] [P] W3 wr) := Lib.hid (by
        have := (⟨rv1, cv1, q1, f1⟩ : RO false P b.val _ [] [P] W3 wr)
        rw [List.take_of_length_le (by simp)] at this
        exact this)
      clear q1 f1
      go_wp2_with fail
      go_ret
      obtain ⟨fp, y1, y2, y3⟩ := HEnd.out _ HO.out
      exact ⟨_, _, rfl, y1, y2, y3⟩
end Go.Proofs.YtflkhnmggmfhfaaGreat

/- The document's view: what Take makes, in memory. -/
namespace Go.Proofs.YtflkhnmggmfhfaaGreat
open Go.RowKit

def gTd (b : Bool) (l : List PR) : List Td := if b = true then goneT 0 l else []
def sRR (b : Bool) (R : List RR) : List RR := if b = true then R.filter (fun r => !r.gone) else R
theorem sRR_pl (b : Bool) (R : List RR) : (sRR b R).map RR.pl = if b = true then stayR (R.map RR.pl) else R.map RR.pl := by
  unfold sRR
  cases b with
  | false => rfl
  | true =>
    simp only [if_true]
    unfold stayR
    rw [List.filter_map]
    rfl
theorem sRR_len (b : Bool) (R : List RR) : (sRR b R).length ≤ R.length := by
  unfold sRR
  split
  · exact List.length_filter_le _ _
  · exact Nat.le_refl _
theorem sRR_mem {b : Bool} {R : List RR} {r : RR} (h : r ∈ sRR b R) : r ∈ R := by
  unfold sRR at h
  split at h
  · exact (List.mem_filter.1 h).1
  · exact h
theorem sRR_snoc (b : Bool) (R : List RR) (x : RR) : sRR b (R ++ [x]) = sRR b R ++ (if (b && x.gone) = true then [] else [x]) := by
  unfold sRR
  cases b with
  | false => simp
  | true =>
    simp only [if_true, Bool.true_and]
    rw [List.filter_append]
    congr 1
    cases hx : x.gone <;> simp [hx]
theorem gTd_snoc (b : Bool) (R : List RR) (x : RR) : gTd b ((R ++ [x]).map RR.pl) = gTd b (R.map RR.pl) ++ (if (b && x.gone) = true then [⟨1, ((sRR b R).length : Int) + 1, x.uid, 0, []⟩] else []) := by
  unfold gTd
  cases b with
  | false => simp
  | true =>
    simp only [if_true, Bool.true_and]
    rw [List.map_append]
    have h := goneT_snoc (R.map RR.pl) 0 x.pl
    have e : (stayR (R.map RR.pl)).length = (sRR true R).length := by
      have := congrArg List.length (sRR_pl true R)
      rw [List.length_map] at this
      exact this.symm
    rw [e, Nat.zero_add] at h
    exact h
theorem gTd_len (b : Bool) : ∀ (l : List PR), (gTd b l).length ≤ l.length := by
  have key : ∀ (l : List PR) (n : Nat), (goneT n l).length ≤ l.length := by
    intro l
    induction l with
    | nil => intro n; simp [goneT]
    | cons r l ih =>
      intro n
      unfold goneT
      split
      · have := ih n; simp; omega
      · have := ih (n + 1); simp; omega
  intro l
  unfold gTd
  split
  · exact key l 0
  · simp
/-- What Take has: what is told, the rows that stay. -/
structure TK (w : World) (T : List TDE) (Q : List RR) (tv qv : Value) (X : World) : Prop where
  td : OwnE 92 5 w.heap.size tv T.length (tdC T) w X
  rw : OwnE 102 6 w.heap.size qv Q.length (rrC Q) w X
theorem TK.on {w X Y : World} {T : List TDE} {Q : List RR} {tv qv : Value} (h : TK w T Q tv qv X) (hb : Below X.heap.size X Y) : TK w T Q tv qv Y := ⟨h.td.on hb, h.rw.on hb⟩
theorem TK.nil (w : World) : TK w [] [] (.slice none 0 0) (.slice none 0 0) w := ⟨OwnE.nil (Below.refl _ _) (Nat.le_refl _), OwnE.nil (Below.refl _ _) (Nat.le_refl _)⟩
theorem TK.tell {w X : World} {T : List TDE} {Q : List RR} {tv qv : Value} (h : TK w T Q tv qv X) (t : TDE) (a0 : Option Addr) (n0 c0 : Nat) (hf : t.fv = .slice a0 n0 c0) (hl : T.length + 1 ≤ 4294967296) :
    ∃ a c W1, (Builtin.append_ #[49, 49] 49 #[tv, .slice (some ⟨X.heap.size, 0, none⟩) 1 1]).run Tryz.prog (X.alloc (.cells #[.int .i64 t.kind, .int .i64 t.num, .int .i64 t.uid, .int .i64 t.mod, .slice a0 n0 c0] 92)) = .ok (.slice a (T.length + 1) c) W1 ∧ TK w (T ++ [t]) Q (.slice a (T.length + 1) c) qv W1 := by
  obtain ⟨a, c, W1, hrun, ho, hg⟩ := OwnE.app (P := Tryz.prog) 49 92 _ 5 56 Tryz.underlying49 Tryz.infoTold rfl (by decide) h.td #[.int .i64 t.kind, .int .i64 t.num, .int .i64 t.uid, .int .i64 t.mod, .slice a0 n0 c0] rfl (by intro x hx; simp at hx; rcases hx with rfl | rfl | rfl | rfl | rfl <;> rfl) hl (by omega)
  refine ⟨a, c, W1, hrun, ?_, h.rw.beside hg (fun b e => rows_apart h.rw.row h.td.row (by decide) e) h.td.new⟩
  rw [List.length_append, tdC_append]
  rw [show tdC [t] = [.int .i64 t.kind, .int .i64 t.num, .int .i64 t.uid, .int .i64 t.mod, .slice a0 n0 c0] by simp [tdC, TDE.enc, hf]]
  exact ho
theorem TK.keep {w X : World} {T : List TDE} {Q : List RR} {tv qv : Value} (h : TK w T Q tv qv X) (r : RR) (a0 : Option Addr) (n0 c0 : Nat) (hf : r.fv = .slice a0 n0 c0) (hl : Q.length + 1 ≤ 4294967296) :
    ∃ a c W1, (Builtin.append_ #[37, 37] 37 #[qv, .slice (some ⟨X.heap.size, 0, none⟩) 1 1]).run Tryz.prog (X.alloc (.cells #[.int .i64 r.uid, .int .i64 r.mod, .bool r.gone, .bool r.rct, .bool r.waits, .slice a0 n0 c0] 102)) = .ok (.slice a (Q.length + 1) c) W1 ∧ TK w T (Q ++ [r]) tv (.slice a (Q.length + 1) c) W1 := by
  obtain ⟨a, c, W1, hrun, ho, hg⟩ := OwnE.app (P := Tryz.prog) 37 102 _ 6 48 Tryz.underlying37 Tryz.infoRRow rfl (by decide) h.rw #[.int .i64 r.uid, .int .i64 r.mod, .bool r.gone, .bool r.rct, .bool r.waits, .slice a0 n0 c0] rfl (by intro x hx; simp at hx; rcases hx with rfl | rfl | rfl | rfl | rfl | rfl <;> rfl) hl (by omega)
  refine ⟨a, c, W1, hrun, h.td.beside hg (fun b e => rows_apart h.td.row h.rw.row (by decide) e) h.rw.new, ?_⟩
  rw [List.length_append, rrC_append]
  rw [show rrC [r] = [.int .i64 r.uid, .int .i64 r.mod, .bool r.gone, .bool r.rct, .bool r.waits, .slice a0 n0 c0] by simp [rrC, RR.enc, hf]]
  exact ho
theorem TK.tell2 {w X : World} {T : List TDE} {Q : List RR} {tv qv : Value} (h : TK w T Q tv qv X) (t u : Td) (hl : T.length + 2 ≤ 4294967296) :
    ∃ a c W1, (Builtin.append_ #[49, 49] 49 #[tv, .slice (some ⟨X.heap.size, 0, none⟩) 2 2]).run Tryz.prog (X.alloc (.cells #[.int .i64 t.kind, .int .i64 t.num, .int .i64 t.uid, .int .i64 t.mod, .slice none 0 0, .int .i64 u.kind, .int .i64 u.num, .int .i64 u.uid, .int .i64 u.mod, .slice none 0 0] 92)) = .ok (.slice a (T.length + 2) c) W1 ∧ TK w (T ++ [nilT t, nilT u]) Q (.slice a (T.length + 2) c) qv W1 := by
  obtain ⟨a, c, W1, hrun, hrow, hg, hown⟩ := told_app2 h.td.row t u hl
  refine ⟨a, c, W1, hrun, ⟨?_, h.td.below.trans ⟨hg.os, hg.tape, hg.output, hg.size, fun b hb => hg.block b (by have := h.td.base; omega) (fun e => by have := h.td.new b e.symm; omega)⟩, Nat.le_trans h.td.base hg.size, fun b hb => ?_⟩, h.rw.beside hg (fun b e => rows_apart h.rw.row h.td.row (by decide) e) h.td.new⟩
  · have e : T.length + 2 = (T ++ [nilT t, nilT u]).length := by simp
    rw [← e]
    unfold TdRow at hrow
    rw [← e] at hrow
    exact hrow
  · rcases hown b hb with e | e
    · exact h.td.new b e
    · exact Nat.le_trans h.td.base e
/-- The view's rows and what is coming are the new ones. -/
theorem RV.turned {P : Nat} {nn : Bool} {val : Int} {rv cv qv : Value} {R Q : List RR} {C : List Int} {w X : World} (h : RV nn P val rv cv R C w) (hb : Below w.heap.size w X) (hq : OwnE 102 6 w.heap.size qv Q.length (rrC Q) w X) (hQ : ∀ r ∈ Q, r.waits = true → r ∈ R) :
    RV nn P val qv (.slice none 0 0) Q [] ((X.setCell ⟨P, 3, none⟩ (.slice none 0 0)).setCell ⟨P, 2, none⟩ qv) ∧ FO (fpR P rv cv R) (fpR P qv (.slice none 0 0) Q) w ((X.setCell ⟨P, 3, none⟩ (.slice none 0 0)).setCell ⟨P, 2, none⟩ qv) := by
  have h1 := h.on hb
  have hP : P < w.heap.size := lt_of_heap h.self
  have hset : ∀ b, b ≠ P → ((X.setCell ⟨P, 3, none⟩ (.slice none 0 0)).setCell ⟨P, 2, none⟩ qv).heap[b]? = X.heap[b]? := fun b hb => by rw [Below.heap_setCell _ _ _ _ hb, Below.heap_setCell _ _ _ _ hb]
  refine ⟨⟨?_, ?_, World.ownsRow_nil _ _ _ _, ?_⟩, ?_, ?_⟩
  · have s1 := heap_setCell_at (o := 3) (.slice none 0 0) h1.self
    rw [heap_setCell_at _ s1]
    rfl
  · exact ownsRow_same hq.row (fun b e => hset b (fun e' => by have := hq.new b e; omega))
  · intro r hr hw
    have hm := hQ r hr hw
    exact ownsRow_same (h1.fls r hm hw) (fun b e => hset b (h1.tt hm hw e).1)
  · exact Stays.setCell (p := ⟨P, 2, none⟩) (Stays.setCell (p := ⟨P, 3, none⟩) (Stays.ofBelow hb) (.inl (mem_fpR.2 (.inl rfl))) _) (.inl (mem_fpR.2 (.inl rfl))) _
  · intro b hb'
    rcases mem_fpR.1 hb' with rfl | hb' | hb' | ⟨r, hr, hb'⟩
    · exact .inl (mem_fpR.2 (.inl rfl))
    · exact .inr (hq.new b hb')
    · cases hb'
    · obtain ⟨hw, _⟩ := blks_waits hb'
      exact .inl (mem_fpR.2 (.inr (.inr (.inr ⟨r, hQ r hr hw, hb'⟩))))
def rtellB (r : RR) : Bool := r.waits && !r.gone
def rfE (n : Nat) (r : RR) : List TDE := if rtellB r = true then [⟨4, (n : Int) + 1, r.uid, r.mod, r.fv, r.fl⟩] else []
def rflagE : Nat → List RR → List TDE
  | _, [] => []
  | n, r :: rs => rfE n r ++ rflagE (n + 1) rs
theorem rflagE_snoc : ∀ (R : List RR) (n : Nat) (r : RR), rflagE n (R ++ [r]) = rflagE n R ++ rfE (n + R.length) r
  | [], n, r => by simp [rflagE]
  | x :: R, n, r => by
    show rfE n x ++ rflagE (n + 1) (R ++ [r]) = (rfE n x ++ rflagE (n + 1) R) ++ _
    rw [rflagE_snoc R (n + 1) r, List.append_assoc]
    congr 3
    simp; omega
theorem rflagE_len : ∀ (R : List RR) (n : Nat), (rflagE n R).length ≤ R.length
  | [], n => by simp [rflagE]
  | x :: R, n => by
    have := rflagE_len R (n + 1)
    show (rfE n x ++ rflagE (n + 1) R).length ≤ _
    rw [List.length_append, List.length_cons]
    unfold rfE
    split <;> simp <;> omega
theorem rflagE_pl : ∀ (R : List RR) (n : Nat), (rflagE n R).map TDE.pl = flagT n (R.map RR.pl)
  | [], n => rfl
  | x :: R, n => by
    show (rfE n x ++ rflagE (n + 1) R).map TDE.pl = (if x.pl.gone = true then [] else match x.pl.wt with | none => [] | some t => [⟨4, (n : Int) + 1, x.pl.uid, t.1, t.2⟩]) ++ flagT (n + 1) (R.map RR.pl)
    rw [List.map_append, rflagE_pl R (n + 1)]
    congr 1
    unfold rfE rtellB
    have hg : x.pl.gone = x.gone := rfl
    rw [hg]
    cases x.gone with
    | true => simp
    | false =>
      by_cases hw : x.waits = true
      · have : x.pl.wt = some (x.mod, x.fl) := by simp [RR.pl, hw]
        rw [this]
        simp [hw, TDE.pl, RR.pl]
      · have : x.pl.wt = none := by simp [RR.pl, hw]
        rw [this]
        simp [hw]
theorem rflag_mem : ∀ (R : List RR) (n : Nat) (t : TDE), t ∈ rflagE n R → ∃ r ∈ R, r.waits = true ∧ t.fv = r.fv ∧ t.fl = r.fl
  | [], n, t, h => by simp [rflagE] at h
  | x :: R, n, t, h => by
    have h' : t ∈ rfE n x ++ rflagE (n + 1) R := h
    rcases List.mem_append.1 h' with h1 | h1
    · unfold rfE at h1
      split at h1
      · rename_i hw
        simp at h1
        subst h1
        exact ⟨x, by simp, by unfold rtellB at hw; simp at hw; exact hw.1, rfl, rfl⟩
      · simp at h1
    · obtain ⟨r, hr, q⟩ := rflag_mem R (n + 1) t h1
      exact ⟨r, List.mem_cons_of_mem _ hr, q⟩
def rcalm (r : RR) : RR := if rtellB r = true then rcalmE r else r
theorem rcalm_pl (r : RR) : (rcalm r).pl = calmR r.pl := by
  unfold rcalm calmR rtellB
  have hg : r.pl.gone = r.gone := rfl
  rw [hg]
  cases h : r.gone with
  | true => simp
  | false =>
    by_cases hw : r.waits = true
    · simp [hw, RR.pl, rcalmE, h]
    · simp [hw, RR.pl, h]
theorem rcalm_uid (r : RR) : (rcalm r).uid = r.uid := by unfold rcalm; split <;> rfl
def atKR (R : List RR) (k : Nat) : List RR := (R.take k).map rcalm ++ R.drop k
theorem atKR_length (R : List RR) (k : Nat) : (atKR R k).length = R.length := by simp [atKR]; omega
theorem atKR_get {R : List RR} {k : Nat} {x : RR} (h : R[k]? = some x) : (atKR R k)[k]? = some x := by
  have hk : k < R.length := (List.getElem?_eq_some_iff.1 h).1
  unfold atKR
  rw [List.getElem?_append_right (by simp; omega)]
  rw [List.length_map, List.length_take, Nat.min_eq_left (by omega), Nat.sub_self, List.getElem?_drop]
  simpa using h
theorem atKR_set {R : List RR} {k : Nat} {x : RR} (h : R[k]? = some x) : (atKR R k).set k (rcalm x) = atKR R (k + 1) := by
  have hk : k < R.length := (List.getElem?_eq_some_iff.1 h).1
  unfold atKR
  have e1 : R.drop k = x :: R.drop (k + 1) := by
    rw [List.drop_eq_getElem_cons hk, (List.getElem?_eq_some_iff.1 h).2]
  have hl : ((R.take k).map rcalm).length = k := by simp; omega
  rw [List.set_append_right _ _ (by omega), hl, Nat.sub_self, e1]
  rw [List.take_succ_eq_append_getElem hk, (List.getElem?_eq_some_iff.1 h).2, List.map_append, List.append_assoc]
  rfl
theorem atKR_skip {R : List RR} {k : Nat} {x : RR} (h : R[k]? = some x) (hc : rcalm x = x) : atKR R (k + 1) = atKR R k := by
  rw [← atKR_set h, hc]
  have h2 := atKR_get h
  apply List.ext_getElem?
  intro i
  rw [List.getElem?_set]
  split
  · rename_i e
    subst e
    rw [h2, if_pos (List.getElem?_eq_some_iff.1 h2).1]
  · rfl
theorem atKR_end (R : List RR) : atKR R R.length = R.map rcalm := by simp [atKR]
theorem atKR_mem {R : List RR} {k : Nat} {r : RR} (h : r ∈ atKR R k) : (r ∈ R) ∨ ∃ x ∈ R, r = rcalm x := by
  unfold atKR at h
  rcases List.mem_append.1 h with h | h
  · obtain ⟨x, hx, rfl⟩ := List.mem_map.1 h
    exact .inr ⟨x, List.mem_of_mem_take hx, rfl⟩
  · exact .inl (List.mem_of_mem_drop h)
end Go.Proofs.YtflkhnmggmfhfaaGreat

/- The document's view: Take, its last loop's facts. -/
namespace Go.Proofs.YtflkhnmggmfhfaaGreat
open Go.RowKit

/-- What the last loop has in memory. -/
structure TF4 (nn : Bool) (P : Nat) (val : Int) (qv : Value) (Q : List RR) (T0 : List TDE) (tv0 : Value) (w5 : World) (k : Nat) (tv : Value) (X : World) : Prop where
  view : RV nn P val qv (.slice none 0 0) (atKR Q k) [] X
  told : TdRow X tv (T0 ++ rflagE 0 (Q.take k))
  fls : FlT X (T0 ++ rflagE 0 (Q.take k))
  fo : FO (tv0.ownBlock.toList ++ fpR P qv (.slice none 0 0) Q) (tv.ownBlock.toList ++ fpR P qv (.slice none 0 0) (atKR Q k)) w5 X
section
variable {P : Nat} {nn : Bool} {val : Int} {qv tv tv0 : Value} {Q : List RR} {T0 : List TDE} {w5 X Y : World} {k : Nat}
theorem takeQ_snoc {R : List RR} {k : Nat} {x : RR} (h : R[k]? = some x) : R.take (k + 1) = R.take k ++ [x] := by
  have hk : k < R.length := (List.getElem?_eq_some_iff.1 h).1
  rw [List.take_succ_eq_append_getElem hk]
  rw [(List.getElem?_eq_some_iff.1 h).2]
theorem TF4.skip {x : RR} (h : TF4 nn P val qv Q T0 tv0 w5 k tv X) (hx : Q[k]? = some x) (hb : Below X.heap.size X Y) (ht : rtellB x = false) : TF4 nn P val qv Q T0 tv0 w5 (k + 1) tv Y := by
  have hc : rcalm x = x := by unfold rcalm; rw [ht]; rfl
  have e1 := atKR_skip hx hc
  have e2 : rflagE 0 (Q.take (k + 1)) = rflagE 0 (Q.take k) := by
    rw [takeQ_snoc hx, rflagE_snoc]
    unfold rfE
    rw [ht]
    simp
  refine ⟨by rw [e1]; exact h.view.on hb, by rw [e2]; exact ownsRow_same h.told (fun b e => hb.block b (h.told.lt b e).2), by rw [e2]; exact h.fls.on hb, ?_⟩
  rw [e1]
  exact h.fo.trans (FO.below hb)
/-- Flags are told, and wait no more. -/
theorem TF4.tell {x : RR} {g cap : Nat} (h : TF4 nn P val (.slice (some ⟨g, 0, none⟩) Q.length cap) Q T0 tv0 w5 k tv X) (hx : Q[k]? = some x) (hb : Below X.heap.size X Y) (ht : rtellB x = true) (fa : Option Addr) (fn fc : Nat) (hfv : x.fv = .slice fa fn fc) (hl : (T0 ++ rflagE 0 (Q.take k)).length + 1 ≤ 4294967296) :
    ∃ a c W1, (Builtin.append_ #[49, 49] 49 #[tv, .slice (some ⟨Y.heap.size, 0, none⟩) 1 1]).run Tryz.prog (Y.alloc (.cells #[.int .i64 4, .int .i64 ((k : Int) + 1), .int .i64 x.uid, .int .i64 x.mod, .slice fa fn fc] 92)) = .ok (.slice a ((T0 ++ rflagE 0 (Q.take k)).length + 1) c) W1 ∧
      W1.cell? ⟨P, 2, none⟩ = some (.slice (some ⟨g, 0, none⟩) Q.length cap) ∧ RRAt W1 g k x ∧ P ≠ g ∧
      TF4 nn P val (.slice (some ⟨g, 0, none⟩) Q.length cap) Q T0 tv0 w5 (k + 1) (.slice a ((T0 ++ rflagE 0 (Q.take k)).length + 1) c) (((W1.setCell ⟨g, k * 6 + 4, none⟩ (.bool false)).setCell ⟨g, k * 6 + 5, none⟩ (.slice none 0 0)).setCell ⟨g, k * 6 + 1, none⟩ (.int .i64 0)) := by
  have hxm : x ∈ Q := List.mem_of_getElem? hx
  have hw : x.waits = true := by unfold rtellB at ht; simp at ht; exact ht.1
  have hk : k < Q.length := (List.getElem?_eq_some_iff.1 hx).1
  have hxa := atKR_get hx
  have hV := h.view.on hb
  have hT : TdRow Y tv (T0 ++ rflagE 0 (Q.take k)) := ownsRow_same h.told (fun b e => hb.block b (h.told.lt b e).2)
  have hF := h.fls.on hb
  obtain ⟨a, c, W1, hrun, hrow, hg, hown⟩ := told_app (w := Y) hT ⟨4, (k : Int) + 1, x.uid, x.mod, x.fv, x.fl⟩ fa fn fc hfv hl
  have hflx : Y.ownsRow 0 9 1 x.fv x.fl.length (tcs x.fl) := hV.fls x (List.mem_of_getElem? hxa) hw
  -- the view, behind the append
  have hV1 : RV nn P val (.slice (some ⟨g, 0, none⟩) Q.length cap) (.slice none 0 0) (atKR Q k) [] W1 := hV.hold (fun b hm => hg.block b (hV.lt hm) (fun e => by
    obtain ⟨cs, hc⟩ := row_kind hT e.symm
    rcases mem_fpR.1 hm with rfl | e2 | e2 | ⟨r, hr, e2⟩
    · exact kind_ne hc hV.self (by decide) rfl
    · obtain ⟨cs2, hc2⟩ := row_kind hV.rows e2
      exact kind_ne hc hc2 (by decide) rfl
    · cases e2
    · obtain ⟨hw2, e3⟩ := blks_waits e2
      obtain ⟨cs2, hc2⟩ := row_kind (hV.fls r hr hw2) e3
      exact kind_ne hc hc2 (by decide) rfl))
  have e1 : (atKR Q k).length = Q.length := atKR_length Q k
  have hV1' := hV1
  rw [← e1] at hV1'
  obtain ⟨g', cap', eg, _, ra⟩ := hV1'.row_at hxa
  injection eg with p1 _ p3
  injection p1 with p1
  injection p1 with p1 _ _
  subst p1
  have hset : ∀ y : RR, ((atKR Q k).set k y)[k]? = some y := fun y => by rw [List.getElem?_set_self (by omega)]
  have hcx : rcalm x = rcalmE x := by unfold rcalm; rw [if_pos ht]
  obtain ⟨s1, _⟩ := hV1'.rows.stored (k * 6 + 4) (.bool false)
  rw [rrC_put (atKR Q k) k 4 x ⟨x.uid, x.mod, x.gone, x.rct, false, x.fv, x.fl⟩ (.bool false) hxa (by omega) rfl] at s1
  obtain ⟨s2, _⟩ := s1.stored (k * 6 + 5) (.slice none 0 0)
  rw [rrC_put ((atKR Q k).set k ⟨x.uid, x.mod, x.gone, x.rct, false, x.fv, x.fl⟩) k 5 ⟨x.uid, x.mod, x.gone, x.rct, false, x.fv, x.fl⟩ ⟨x.uid, x.mod, x.gone, x.rct, false, .slice none 0 0, []⟩ (.slice none 0 0) (hset _) (by omega) rfl, List.set_set] at s2
  obtain ⟨s3, _⟩ := s2.stored (k * 6 + 1) (.int .i64 0)
  rw [rrC_put ((atKR Q k).set k ⟨x.uid, x.mod, x.gone, x.rct, false, .slice none 0 0, []⟩) k 1 ⟨x.uid, x.mod, x.gone, x.rct, false, .slice none 0 0, []⟩ (rcalmE x) (.int .i64 0) (hset _) (by omega) rfl, List.set_set] at s3
  have hm : g ∈ [g] ∨ W1.heap.size ≤ g := .inl (by simp)
  have hst : Stays [g] W1 (((W1.setCell ⟨g, k * 6 + 4, none⟩ (.bool false)).setCell ⟨g, k * 6 + 5, none⟩ (.slice none 0 0)).setCell ⟨g, k * 6 + 1, none⟩ (.int .i64 0)) := Stays.setCell (p := ⟨g, k * 6 + 1, none⟩) (Stays.setCell (p := ⟨g, k * 6 + 5, none⟩) (Stays.setCell (p := ⟨g, k * 6 + 4, none⟩) (Stays.refl _ _) hm _) hm _) hm _
  obtain ⟨u1, u2⟩ := hV1'.upd (Below.refl _ _) s3 hst (fun e => by cases e)
  have eset : (atKR Q k).set k (rcalmE x) = atKR Q (k + 1) := by rw [← hcx]; exact atKR_set hx
  rw [eset] at u1 u2
  rw [e1] at u1 u2
  have efl : T0 ++ rflagE 0 (Q.take (k + 1)) = (T0 ++ rflagE 0 (Q.take k)) ++ [⟨4, (k : Int) + 1, x.uid, x.mod, x.fv, x.fl⟩] := by
    rw [takeQ_snoc hx, rflagE_snoc]
    unfold rfE
    rw [if_pos ht, List.append_assoc, List.length_take, Nat.min_eq_left (by omega), Nat.zero_add]
  have hgk : ∃ cs, W1.heap[g]? = some (.cells cs 102 (0, 0)) := row_kind hV1.rows rfl
  obtain ⟨gcs, hgk⟩ := hgk
  have keep : ∀ b, b < W1.heap.size → b ≠ g → (((W1.setCell ⟨g, k * 6 + 4, none⟩ (.bool false)).setCell ⟨g, k * 6 + 5, none⟩ (.slice none 0 0)).setCell ⟨g, k * 6 + 1, none⟩ (.int .i64 0)).heap[b]? = W1.heap[b]? := fun b hb hn => hst.block b hb (by simpa using hn)
  refine ⟨a, c, W1, hrun, hV1.cells.2.2.1, ra, fun e => hV1.pr (e ▸ rfl), u1, ?_, ?_, ?_⟩
  · rw [efl]
    refine ownsRow_same hrow (fun b e => keep b (hrow.lt b e).2 (fun e' => ?_))
    subst e'
    obtain ⟨cs, hc⟩ := row_kind hrow e
    exact kind_ne hc hgk (by decide) rfl
  · rw [efl]
    intro t htm
    have hfl1 : W1.ownsRow 0 9 1 t.fv t.fl.length (tcs t.fl) := by
      have hY : Y.ownsRow 0 9 1 t.fv t.fl.length (tcs t.fl) := by
        rcases List.mem_append.1 htm with h1 | h1
        · exact hF t h1
        · simp at h1; subst h1; exact hflx
      refine ownsRow_same hY (fun b e => hg.block b (hY.lt b e).2 (fun e2 => ?_))
      obtain ⟨cs, hc⟩ := row_kind hT e2.symm
      obtain ⟨cs2, hc2⟩ := row_kind hY e
      exact kind_ne hc hc2 (by decide) rfl
    refine ownsRow_same hfl1 (fun b e => keep b (hfl1.lt b e).2 (fun e' => ?_))
    subst e'
    obtain ⟨cs, hc⟩ := row_kind hfl1 e
    exact kind_ne hc hgk (by decide) rfl
  · have hfoY := h.fo.trans (FO.below hb)
    have f1 : Stays (tv.ownBlock.toList ++ fpR P (.slice (some ⟨g, 0, none⟩) Q.length cap) (.slice none 0 0) (atKR Q k)) Y W1 := Stays.ofGrown hg (fun b e => List.mem_append_left _ (by simp [e]))
    have hsub : ∀ b, b ∈ (Value.slice a ((T0 ++ rflagE 0 (Q.take k)).length + 1) c).ownBlock.toList ++ fpR P (.slice (some ⟨g, 0, none⟩) Q.length cap) (.slice none 0 0) (atKR Q k) → b ∈ tv.ownBlock.toList ++ fpR P (.slice (some ⟨g, 0, none⟩) Q.length cap) (.slice none 0 0) (atKR Q k) ∨ Y.heap.size ≤ b := fun b hb2 => by
      rcases List.mem_append.1 hb2 with h1 | h1
      · rcases hown b (by simpa using h1) with e | e
        · exact .inl (List.mem_append_left _ (by simp [e]))
        · exact .inr e
      · exact .inl (List.mem_append_right _ h1)
    have f2 : FO ((Value.slice a ((T0 ++ rflagE 0 (Q.take k)).length + 1) c).ownBlock.toList ++ fpR P (.slice (some ⟨g, 0, none⟩) Q.length cap) (.slice none 0 0) (atKR Q k)) ((Value.slice a ((T0 ++ rflagE 0 (Q.take k)).length + 1) c).ownBlock.toList ++ fpR P (.slice (some ⟨g, 0, none⟩) Q.length cap) (.slice none 0 0) (atKR Q (k + 1))) W1 (((W1.setCell ⟨g, k * 6 + 4, none⟩ (.bool false)).setCell ⟨g, k * 6 + 5, none⟩ (.slice none 0 0)).setCell ⟨g, k * 6 + 1, none⟩ (.int .i64 0)) := by
      refine ⟨u2.1.mono (fun b hb2 => List.mem_append_right _ hb2), fun b hb2 => ?_⟩
      rcases List.mem_append.1 hb2 with h1 | h1
      · exact .inl (List.mem_append_left _ h1)
      · rcases u2.2 b h1 with e | e
        · exact .inl (List.mem_append_right _ e)
        · exact .inr e
    exact (hfoY.trans ⟨f1, hsub⟩).trans f2
end
end Go.Proofs.YtflkhnmggmfhfaaGreat
