/- event: kindOf, isLong, of any event (c11lgen.py). -/
import Derived.Test.YtbncaiocmklgnaaGreatDoorC11k
namespace Go.Proofs.YtbncaiocmklgnaaGreatDoor
open Go.RowKit Go.Lib

/-- What a kind has, as four functions. -/
inductive KV (B : Bxs) (W : World) : List Pt → Value → Value → Value → Value → Prop
  | names : KV B W [.names] (fnV 105 #[]) (fnV 108 #[]) (fnV 109 #[]) (fnV 110 #[])
  | box : KV B W [.box] (fnV 83 #[ptr B.p1]) (fnV 84 #[ptr B.p1]) (fnV 85 #[ptr B.p1]) (fnV 86 #[ptr B.p1])
  | name : KV B W [.name] (fnV 87 #[ptr B.q4, ptr B.p4]) (fnV 88 #[ptr B.p4]) (fnV 90 #[ptr B.p4]) (fnV 92 #[ptr B.p4])
  | row (l : List Pt) (q rb : Nat) (h : RowK B l q rb W) (hl : l.length ≤ 9) (h2 : 2 ≤ l.length) : KV B W l (fnV 94 #[ptr q]) (fnV 95 #[ptr q]) (fnV 96 #[ptr q]) (fnV 97 #[ptr q])
theorem KV.on {B : Bxs} {W W' : World} {l : List Pt} {v0 v1 v2 v3 : Value} (h : KV B W l v0 v1 v2 v3) (hb : Below W.heap.size W W') : KV B W' l v0 v1 v2 v3 := by
  cases h with
  | names => exact .names
  | box => exact .box
  | name => exact .name
  | row l q rb h hl h2 => exact .row l q rb (h.on hb) hl h2
theorem parts_len (B : Bxs) (l : List Pt) : (partsL B l).length = 4 * l.length := by
  induction l with
  | nil => rfl
  | cons p r ih =>
    have e : partsL B (p :: r) = (ptV B p).toList ++ partsL B r := rfl
    rw [e, List.length_append, ptV_len, ih, List.length_cons]
    omega
def objN : Obj → Nat
  | .cells c _ _ => c.size
  | _ => 0
/-- A block of no functions is none of a kind's. -/
theorem KV.move {B : Bxs} {W W' : World} {l : List Pt} {v0 v1 v2 v3 : Value} (h : KV B W l v0 v1 v2 v3) {b : Nat} (hb : W.heap[b]? = some (.cells nil4 64 (0, 0))) (hO : ∀ c, b ≠ c → W'.heap[c]? = W.heap[c]?) : KV B W' l v0 v1 v2 v3 := by
  cases h with
  | names => exact .names
  | box => exact .box
  | name => exact .name
  | row l q rb h hl h2 =>
    refine .row l q rb ⟨?_, ?_⟩ hl h2
    · rw [hO q (fun e => ?_)]
      · exact h.q
      · have h3 := h.q
        rw [← e, hb] at h3
        have h4 : objN (.cells nil4 64 (0, 0)) = objN (.cells #[.slice (some ⟨rb, 0, none⟩) l.length l.length] 113 (0, 0)) := by rw [Option.some.inj h3]
        simp [objN] at h4
    · rw [hO rb (fun e => ?_)]
      · exact h.r
      · have h3 := h.r
        rw [← e, hb] at h3
        have h4 : objN (.cells nil4 64 (0, 0)) = objN (.cells (partsL B l).toArray 64 (0, 0)) := by rw [Option.some.inj h3]
        simp [objN, parts_len] at h4
        omega
theorem KV.ones {B : Bxs} {W : World} {l : List Pt} {v0 v1 v2 v3 : Value} (h : KV B W l v0 v1 v2 v3) : v0.oneCell' = true ∧ v1.oneCell' = true ∧ v2.oneCell' = true ∧ v3.oneCell' = true := by
  cases h <;> exact ⟨rfl, rfl, rfl, rfl⟩
theorem sel_kind (k : Nat) (h1 : 1 ≤ k) (h2 : k ≤ 11) (B : Bxs) (q26 b26 q30 b30 q37 b37 q41 b41 q45 b45 q8 b8 : Nat) (W : World) (h26 : RowK B [.box, .names] q26 b26 W) (h30 : RowK B [.box, .names] q30 b30 W) (h37 : RowK B [.box, .first, .mark, .date, .body] q37 b37 W) (h41 : RowK B [.box, .marks] q41 b41 W) (h45 : RowK B [.box, .uids] q45 b45 W) (h8 : RowK B [.box, .tto, .room, .uids] q8 b8 W) :
    ∃ v0 v1 v2 v3, (∀ w, Sem.run Tryz.prog (Instr.index 98 (.agg (kindsA B q26 q30 q37 q41 q45 q8)) (.int .i64 (k : Int))) w = .ok (.agg #[v0, v1, v2, v3]) w) ∧ KV B W (kindP k) v0 v1 v2 v3 := by
  match k, h1, h2 with
  | 1, _, _ => exact ⟨_, _, _, _, fun w => by kernel_rfl, .names⟩
  | 2, _, _ => exact ⟨_, _, _, _, fun w => by kernel_rfl, .box⟩
  | 3, _, _ => exact ⟨_, _, _, _, fun w => by kernel_rfl, .row _ q26 b26 h26 (by decide) (by decide)⟩
  | 4, _, _ => exact ⟨_, _, _, _, fun w => by kernel_rfl, .row _ q30 b30 h30 (by decide) (by decide)⟩
  | 5, _, _ => exact ⟨_, _, _, _, fun w => by kernel_rfl, .row _ q37 b37 h37 (by decide) (by decide)⟩
  | 6, _, _ => exact ⟨_, _, _, _, fun w => by kernel_rfl, .row _ q41 b41 h41 (by decide) (by decide)⟩
  | 7, _, _ => exact ⟨_, _, _, _, fun w => by kernel_rfl, .row _ q45 b45 h45 (by decide) (by decide)⟩
  | 8, _, _ => exact ⟨_, _, _, _, fun w => by kernel_rfl, .row _ q8 b8 h8 (by decide) (by decide)⟩
  | 9, _, _ => exact ⟨_, _, _, _, fun w => by kernel_rfl, .row _ q8 b8 h8 (by decide) (by decide)⟩
  | 10, _, _ => exact ⟨_, _, _, _, fun w => by kernel_rfl, .name⟩
  | 11, _, _ => exact ⟨_, _, _, _, fun w => by kernel_rfl, .name⟩
set_option maxHeartbeats 4000000 in
theorem kindOf_any (k : Nat) (h1 : 1 ≤ k) (h2 : k ≤ 11) (w : World) : Calls Tryz.prog 45 #[.int .i64 (k : Int)] w fun e w' => ∃ B v0 v1 v2 v3, e = .returned (.tuple #[.agg #[v0, v1, v2, v3], .bool true]) ∧ KW B w' ∧ KV B w' (kindP k) v0 v1 v2 v3 ∧ Below w.heap.size w w' := by
  obtain ⟨W1, hW1⟩ : ∃ W1, w.alloc (.cells nil4 64) = W1 := ⟨_, rfl⟩
  have g1 : W1.heap[w.heap.size]? = some (.cells nil4 64 (0, 0)) := by rw [← hW1]; exact heap_new _ _
  have hb1 : Below w.heap.size w W1 := by rw [← hW1]; exact below_box (Below.refl _ _) _
  have HK := Lib.hid (kindsF_any W1)
  have HE := Lib.hid (And.intro g1 hb1)
  have hk1 : ¬ (k : Int) < 1 := by omega
  have hk2 : ¬ 11 < (k : Int) := by omega
  have hk3 : decide ((k : Int) < 1) = false := decide_eq_false hk1
  have hk4 : decide (11 < (k : Int)) = false := decide_eq_false hk2
  have HSel := Lib.hid (fun B q26 b26 q30 b30 q37 b37 q41 b41 q45 b45 q8 b8 W h26 h30 h37 h41 h45 h8 => sel_kind k h1 h2 B q26 b26 q30 b30 q37 b37 q41 b41 q45 b45 q8 b8 W h26 h30 h37 h41 h45 h8)
  clear g1 hb1 h1 h2
  go_enter Tryz.func45, Tryz.ntmps45
  go_upto_region 3 with fail
  (try rw [hW1])
  clear hW1
  go_wp2_with (first | (go_at_call 59; refine HK.out.mono ?_; rintro e w2 ⟨B, q26, b26, q30, b30, q37, b37, q41, b41, q45, b45, q8, b8, rfl, hkw, h26, h30, h37, h41, h45, h8, hb⟩; obtain ⟨v0, v1, v2, v3, hix, hkv⟩ := HSel.out B q26 b26 q30 b30 q37 b37 q41 b41 q45 b45 q8 b8 w2 h26 h30 h37 h41 h45 h8; have H2 := Lib.hid (And.intro hkw (And.intro hkv hb)); have HR := Lib.hid (show w2.heap[w.heap.size]? = some (.cells nil4 64 (0, 0)) by rw [hb.block _ (lt_of_heap HE.out.1)]; exact HE.out.1); clear hkw hkv hb h26 h30 h37 h41 h45 h8) | (refine wpList_store_row rfl 64 _ _ rfl w.heap.size #[v0, v1, v2, v3] rfl rfl 64 _ HR.out Tryz.sizePart rfl (by simp [H2.out.2.1.ones]) ?_))
  have HO : Hid (∀ b, w.heap.size ≠ b → (w2.setRow w.heap.size #[v0, v1, v2, v3]).heap[b]? = w2.heap[b]?) := Lib.hid (fun b hb => setRow_other _ _ _ _ (Ne.symm hb))
  refine bodyPost_ret (v := .tuple #[.agg #[v0, v1, v2, v3], .bool true]) (res2c Tryz.results45 _ _ w.heap.size 64 #[v0, v1, v2, v3] (0, 0) _ rfl (setRow_heap _ _ _ _ _ _ HR.out) Tryz.underlying64 rfl Tryz.sizePart) rfl ⟨B, v0, v1, v2, v3, rfl, ?_, ?_, below_setRow (HE.out.2.trans (H2.out.2.2.mono HE.out.2.size)) (Nat.le_refl _) _⟩
  · intro x hx
    rw [HO.out x.1 (fun e => by
      have h := H2.out.1 x hx
      rw [← e, HR.out] at h
      have : objT x.2 = some 64 := by rw [← Option.some.inj h]; rfl
      revert this
      unfold kwL at hx
      simp only [List.mem_cons, List.not_mem_nil, or_false] at hx
      rcases hx with rfl | rfl | rfl | rfl | rfl | rfl | rfl <;> simp [objT])]
    exact H2.out.1 x hx
  · exact (H2.out.2.1).move HR.out (fun b hb => HO.out b hb)
set_option maxHeartbeats 1000000 in
theorem kindOf_no (k : Int) (hk : ¬ (1 ≤ k ∧ k ≤ 11)) (w : World) : Calls Tryz.prog 45 #[.int .i64 k] w fun e w' => e = .returned (.tuple #[.agg nil4, .bool false]) ∧ Below w.heap.size w w' := by
  obtain ⟨W1, hW1⟩ : ∃ W1, w.alloc (.cells nil4 64) = W1 := ⟨_, rfl⟩
  have h1 : W1.heap[w.heap.size]? = some (.cells nil4 64 (0, 0)) := by rw [← hW1]; exact heap_new _ _
  have hb1 : Below w.heap.size w W1 := by rw [← hW1]; exact below_box (Below.refl _ _) _
  have HE := Lib.hid (And.intro h1 hb1)
  clear h1 hb1
  by_cases h1 : k < 1
  · have h2 : decide (k < 1) = true := decide_eq_true h1
    clear hk
    go_enter Tryz.func45, Tryz.ntmps45
    go_upto_region 2 with fail
    (try rw [hW1])
    clear hW1
    go_wp2_with (refine wpList_store_row rfl 64 _ _ rfl w.heap.size nil4 rfl rfl 64 _ HE.out.1 Tryz.sizePart rfl (by simp [Value.oneCell']) ?_)
    refine bodyPost_ret (v := .tuple #[.agg nil4, .bool false]) (res2c Tryz.results45 _ _ w.heap.size 64 nil4 (0, 0) _ rfl (setRow_heap _ _ _ _ _ _ HE.out.1) Tryz.underlying64 rfl Tryz.sizePart) rfl ⟨rfl, below_setRow HE.out.2 (Nat.le_refl _) _⟩
  · have h2 : decide (k < 1) = false := decide_eq_false h1
    have h3 : 11 < k := by omega
    have h4 : decide (11 < k) = true := decide_eq_true h3
    clear hk
    go_enter Tryz.func45, Tryz.ntmps45
    go_upto_region 2 with fail
    (try rw [hW1])
    clear hW1
    go_wp2_with (refine wpList_store_row rfl 64 _ _ rfl w.heap.size nil4 rfl rfl 64 _ HE.out.1 Tryz.sizePart rfl (by simp [Value.oneCell']) ?_)
    refine bodyPost_ret (v := .tuple #[.agg nil4, .bool false]) (res2c Tryz.results45 _ _ w.heap.size 64 nil4 (0, 0) _ rfl (setRow_heap _ _ _ _ _ _ HE.out.1) Tryz.underlying64 rfl Tryz.sizePart) rfl ⟨rfl, below_setRow HE.out.2 (Nat.le_refl _) _⟩
end Go.Proofs.YtbncaiocmklgnaaGreatDoor

/- event: isLong of any event. -/
namespace Go.Proofs.YtbncaiocmklgnaaGreatDoor
open Go.RowKit Go.Lib

def anyBig (l : List (Int × List ByteArray)) : Bool := l.any (fun m => decide (16 < m.2.length))
theorem anyBig_at {l : List (Int × List ByteArray)} (k : Nat) (hk : k < l.length) (h : 16 < (l.getD k (0, [])).2.length) : anyBig l = true := by
  unfold anyBig
  rw [List.any_eq_true]
  exact ⟨_, getD_memM l k hk, decide_eq_true h⟩
theorem anyBig_next {l : List (Int × List ByteArray)} (k : Nat) (hk : k < l.length) (h0 : anyBig (l.take k) = false) (h : ¬ 16 < (l.getD k (0, [])).2.length) : anyBig (l.take (k + 1)) = false := by
  have e : l.take (k + 1) = l.take k ++ [l.getD k (0, [])] := by
    rw [List.take_add_one, List.getElem?_eq_getElem hk, List.getD_eq_getElem?_getD, List.getElem?_eq_getElem hk]
    rfl
  unfold anyBig at *
  rw [e, List.any_append, h0, List.any_cons, List.any_nil, decide_eq_false h]
  rfl
theorem longE_eq (e : PE) : longE e = (decide (16 < e.ns.length) || decide (16 < e.bs.length) || decide (64 < e.us.length) || decide (64 < e.ms.length) || anyBig e.ms || decide (16384 < e.bd.size)) := rfl
set_option maxHeartbeats 4000000 in
set_option maxRecDepth 20000 in
theorem isLong_any (eb : Nat) (e : PE) (vn vb vu vm : Value) (W : World) (hE : W.heap[eb]? = some (.cells (evC e vn vb vu vm) 35 (0, 0))) (hL : Lst W e vn vb vu vm) :
    Calls Tryz.prog 44 #[ptr eb] W fun r w' => r = .returned (.bool (longE e)) ∧ Below W.heap.size W w' := by
  obtain ⟨_, _, _, _, _, _, c6, c7, c8, c9, _, _, _, _, _, _, _, c17⟩ := evC_cells hE
  obtain ⟨a1, k1, rfl⟩ := hL.shp.n
  obtain ⟨a2, k2, rfl⟩ := hL.shp.b
  obtain ⟨a3, k3, rfl⟩ := hL.shp.u
  obtain ⟨ao, cap, hvm, hbig, hc⟩ := hL.ms.cells
  subst hvm
  have HC := Lib.hid hc
  have HEb : Hid (∀ X, Below W.heap.size W X → X.cell? ⟨eb, 17, none⟩ = some (.string e.bd)) := Lib.hid (fun X hX => by rw [hX.cell (p := ⟨eb, 17, none⟩) (lt_of_heap hE)]; exact c17)
  have HQ := Lib.hid (longE_eq e)
  obtain ⟨n1, hn1⟩ : ∃ n, e.ns.length = n := ⟨_, rfl⟩
  obtain ⟨n2, hn2⟩ : ∃ n, e.bs.length = n := ⟨_, rfl⟩
  obtain ⟨n3, hn3⟩ : ∃ n, e.us.length = n := ⟨_, rfl⟩
  obtain ⟨n4, hn4⟩ : ∃ n, e.ms.length = n := ⟨_, rfl⟩
  have HN4 := Lib.hid hn4
  rw [hn1] at c6 HQ
  rw [hn2] at c7 HQ
  rw [hn3] at c8 HQ
  rw [hn4] at c9 HQ HC
  clear hE hL hc hbig hn1 hn2 hn3 hn4 c17
  by_cases h1 : 16 < n1
  · have i1 : (16 : Int) < (n1 : Int) := by omega
    have j1 : decide ((16 : Int) < (n1 : Int)) = true := decide_eq_true i1
    have HR : Hid (longE e = true) := Lib.hid (by rw [HQ.out, decide_eq_true h1]; rfl)
    clear h1
    go_enter Tryz.func44, Tryz.ntmps44
    go_wp2_with fail
    go_ret
    exact ⟨by rw [HR.out]; rfl, Below.refl _ _⟩
  have i1 : ¬ (16 : Int) < (n1 : Int) := by omega
  have j1 : decide ((16 : Int) < (n1 : Int)) = false := decide_eq_false i1
  rw [decide_eq_false h1] at HQ
  clear h1
  by_cases h2 : 16 < n2
  · have i2 : (16 : Int) < (n2 : Int) := by omega
    have j2 : decide ((16 : Int) < (n2 : Int)) = true := decide_eq_true i2
    have HR : Hid (longE e = true) := Lib.hid (by rw [HQ.out, decide_eq_true h2]; rfl)
    clear h2
    go_enter Tryz.func44, Tryz.ntmps44
    go_wp2_with fail
    go_ret
    exact ⟨by rw [HR.out]; rfl, Below.refl _ _⟩
  have i2 : ¬ (16 : Int) < (n2 : Int) := by omega
  have j2 : decide ((16 : Int) < (n2 : Int)) = false := decide_eq_false i2
  rw [decide_eq_false h2] at HQ
  clear h2
  by_cases h3 : 64 < n3
  · have i3 : (64 : Int) < (n3 : Int) := by omega
    have j3 : decide ((64 : Int) < (n3 : Int)) = true := decide_eq_true i3
    have HR : Hid (longE e = true) := Lib.hid (by rw [HQ.out, decide_eq_true h3]; rfl)
    clear h3
    go_enter Tryz.func44, Tryz.ntmps44
    go_wp2_with fail
    go_ret
    exact ⟨by rw [HR.out]; rfl, Below.refl _ _⟩
  have i3 : ¬ (64 : Int) < (n3 : Int) := by omega
  have j3 : decide ((64 : Int) < (n3 : Int)) = false := decide_eq_false i3
  rw [decide_eq_false h3] at HQ
  clear h3
  by_cases h4 : 64 < n4
  · have i4 : (64 : Int) < (n4 : Int) := by omega
    have j4 : decide ((64 : Int) < (n4 : Int)) = true := decide_eq_true i4
    have HR : Hid (longE e = true) := Lib.hid (by rw [HQ.out, decide_eq_true h4]; rfl)
    clear h4
    go_enter Tryz.func44, Tryz.ntmps44
    go_wp2_with fail
    go_ret
    exact ⟨by rw [HR.out]; rfl, Below.refl _ _⟩
  have i4 : ¬ (64 : Int) < (n4 : Int) := by omega
  have j4 : decide ((64 : Int) < (n4 : Int)) = false := decide_eq_false i4
  rw [decide_eq_false h4] at HQ
  have hm64 : (n4 : Int) ≤ 64 := by omega
  clear h4
  go_enter Tryz.func44, Tryz.ntmps44
  go_wp2_with fail
  go_loopw [40] (fun vi wr => ∃ (k : Nat) (X : World), X = wr ∧ k ≤ n4 ∧ vi = .int .i64 k ∧ anyBig (e.ms.take k) = false ∧ Below W.heap.size W X) (fun i _ => n4 - (intOf i).toNat)
  case atStart => exact ⟨0, _, rfl, Nat.zero_le _, rfl, rfl, Below.refl _ _⟩
  case round =>
    obtain ⟨k, X, hX, hkn, rfl, hr, hb⟩ := hrel
    subst hX
    have HX := Lib.hid hb
    have HR0 := Lib.hid hr
    by_cases hlt : k < n4
    · obtain ⟨b, off, fv, hao, hbl, yc0, yc1, hst⟩ := HC.out k hlt
      subst hao
      obtain ⟨fa, fc, hfv⟩ := hst.shape
      have HA := Lib.hid (fun h => anyBig_at (l := e.ms) k (by rw [HN4.out]; exact hlt) h)
      have HNx := Lib.hid (fun h => anyBig_next (l := e.ms) k (by rw [HN4.out]; exact hlt) HR0.out h)
      generalize (e.ms.getD k (0, [])).2.length = fl at hfv HA HNx
      subst hfv
      have hk1 : (k : Int) < (n4 : Int) := by omega
      have hk0 : (0 : Int) ≤ (k : Int) := by omega
      have d0 : X.cell? ⟨b, off + k * 2, none⟩ = some (.int .i64 (e.ms.getD k (0, [])).1) := by rw [hb.cell (p := ⟨b, off + k * 2, none⟩) hbl]; exact yc0
      have d1 : X.cell? ⟨b, off + k * 2 + 1, none⟩ = some (.slice fa fl fc) := by rw [hb.cell (p := ⟨b, off + k * 2 + 1, none⟩) hbl]; exact yc1
      clear hbl yc0 yc1 hst hb hr
      generalize (e.ms.getD k (0, [])).1 = x at *
      by_cases hf : 16 < fl
      · have hfi : (16 : Int) < (fl : Int) := by omega
        have HR : Hid (longE e = true) := Lib.hid (by rw [HQ.out, HA.out hf]; rfl)
        clear hf
        go_wp2_with fail
        go_ret
        exact ⟨by rw [HR.out]; rfl, HX.out.alloc HX.out.size _⟩
      · have hfi : ¬ (16 : Int) < (fl : Int) := by omega
        have HNk := Lib.hid (HNx.out hf)
        clear hf
        go_wp2_with fail
        go_roundw
        case rel => exact ⟨k + 1, _, rfl, hlt, by go_num, HNk.out, HX.out.alloc HX.out.size _⟩
        case measure => simp [intOf]; omega
    · have hk1 : ¬ (k : Int) < (n4 : Int) := by omega
      rw [List.take_of_length_le (by rw [HN4.out]; omega)] at hr
      have d17 := HEb.out X hb
      rw [hr] at HQ
      clear hr hb HR0
      by_cases h5 : 16384 < e.bd.size
      · have i5 : (16384 : Int) < (e.bd.size : Int) := by omega
        have HR : Hid (longE e = true) := Lib.hid (by rw [HQ.out, decide_eq_true h5]; rfl)
        clear h5
        generalize e.bd = bd at *
        go_wp2_with fail
        go_ret
        exact ⟨by rw [HR.out]; rfl, HX.out⟩
      · have i5 : ¬ (16384 : Int) < (e.bd.size : Int) := by omega
        have HR : Hid (longE e = false) := Lib.hid (by rw [HQ.out, decide_eq_false h5]; rfl)
        clear h5
        generalize e.bd = bd at *
        go_wp2_with fail
        go_ret
        exact ⟨by rw [HR.out]; rfl, HX.out⟩
end Go.Proofs.YtbncaiocmklgnaaGreatDoor

/- event: hasJust of any event (c11ogen.py). -/
namespace Go.Proofs.YtbncaiocmklgnaaGreatDoor
open Go.RowKit Go.Lib

/-- The blocks of a kind's functions. -/
def kvL (B : Bxs) : List (Nat × Obj) → List (Nat × Obj) := fun l => l ++ kwL B
theorem bare_eq (e : PE) : bareE e = (decide (e.bx = 0) && decide (e.tt = 0) && decide (e.fi = 0) && e.nm.toList.isEmpty && e.ns.isEmpty && e.bs.isEmpty && e.us.isEmpty && e.ms.isEmpty && decide (e.y = 0 ∧ e.mo = 0 ∧ e.d = 0 ∧ e.h = 0 ∧ e.mi = 0 ∧ e.s = 0 ∧ e.z = 0) && e.bd.toList.isEmpty) := rfl
theorem drop_lens (e : PE) (p : Pt) : (dropP e p).ns.length ≤ e.ns.length ∧ (dropP e p).bs.length ≤ e.bs.length ∧ (dropP e p).us.length ≤ e.us.length ∧ (dropP e p).ms.length ≤ e.ms.length := by
  cases p <;> simp [dropP]
theorem drops_lens (l : List Pt) : ∀ e : PE, (dropE e l).ns.length ≤ e.ns.length ∧ (dropE e l).bs.length ≤ e.bs.length ∧ (dropE e l).us.length ≤ e.us.length ∧ (dropE e l).ms.length ≤ e.ms.length := by
  induction l with
  | nil => intro e; exact ⟨Nat.le_refl _, Nat.le_refl _, Nat.le_refl _, Nat.le_refl _⟩
  | cons p r ih =>
    intro e
    have h1 := drop_lens e p
    have h2 := ih (dropP e p)
    have e2 : dropE e (p :: r) = dropE (dropP e p) r := rfl
    rw [e2]
    omega
/-- What stands in the rest of an event. -/
structure Rst (b : Nat) (e : PE) (X : World) : Prop where
  c2 : X.cell? ⟨b, 2, none⟩ = some (.int .i64 e.bx)
  c3 : X.cell? ⟨b, 3, none⟩ = some (.int .i64 e.tt)
  c4 : X.cell? ⟨b, 4, none⟩ = some (.int .i64 e.fi)
  c10 : X.cell? ⟨b, 10, none⟩ = some (.int .i64 e.y)
  c11 : X.cell? ⟨b, 11, none⟩ = some (.int .i64 e.mo)
  c12 : X.cell? ⟨b, 12, none⟩ = some (.int .i64 e.d)
  c13 : X.cell? ⟨b, 13, none⟩ = some (.int .i64 e.h)
  c14 : X.cell? ⟨b, 14, none⟩ = some (.int .i64 e.mi)
  c15 : X.cell? ⟨b, 15, none⟩ = some (.int .i64 e.s)
  c16 : X.cell? ⟨b, 16, none⟩ = some (.int .i64 e.z)
  c5 : X.cell? ⟨b, 5, none⟩ = some (.string e.nm)
  c17 : X.cell? ⟨b, 17, none⟩ = some (.string e.bd)
  c6 : ∃ a c, X.cell? ⟨b, 6, none⟩ = some (.slice a e.ns.length c)
  c7 : ∃ a c, X.cell? ⟨b, 7, none⟩ = some (.slice a e.bs.length c)
  c8 : ∃ a c, X.cell? ⟨b, 8, none⟩ = some (.slice a e.us.length c)
  c9 : ∃ a c, X.cell? ⟨b, 9, none⟩ = some (.slice a e.ms.length c)
theorem Left.rst {w : World} {b : Nat} {e : PE} {K : List (Nat × Obj)} {W : World} (h : Left w b e K W) : Rst b e W ∧ Below w.heap.size w W := by
  obtain ⟨vn, vb, vu, vm, hs, h⟩ := h
  obtain ⟨c0, c1, c2, c3, c4, c5, c6, c7, c8, c9, c10, c11, c12, c13, c14, c15, c16, c17⟩ := evC_cells (h.kept _ List.mem_cons_self)
  obtain ⟨a6, k6, rfl⟩ := hs.n
  obtain ⟨a7, k7, rfl⟩ := hs.b
  obtain ⟨a8, k8, rfl⟩ := hs.u
  obtain ⟨a9, k9, rfl⟩ := hs.m
  exact ⟨⟨c2, c3, c4, c10, c11, c12, c13, c14, c15, c16, c5, c17, ⟨a6, k6, c6⟩, ⟨a7, k7, c7⟩, ⟨a8, k8, c8⟩, ⟨a9, k9, c9⟩⟩, h.below⟩
def fromReg (n : Nat) : Code → Option Code
  | .seq (.region m o d) b => if m = n then some (.seq (.region m o d) b) else fromReg n b
  | .seq _ b => fromReg n b
  | _ => none
def fstC : Code → Code
  | .seq a _ => a
  | c => c
def rstC : Code → Code
  | .seq _ b => b
  | c => c
noncomputable def justFrom (n : Nat) : Code := ((Tryz.f47.body.bind (fromReg n)).getD .skip)
noncomputable def just3 : Code := fstC (justFrom 3)
noncomputable def justRest : Code := rstC (justFrom 3)
set_option maxHeartbeats 8000000 in
set_option maxRecDepth 20000 in
theorem just_tail (b : Nat) (e : PE) (w X : World) (HRs : Hid (Rst b e X)) (HB : Hid (Below w.heap.size w X)) (l6 : e.ns.length ≤ 1000) (l7 : e.bs.length ≤ 1000) (l8 : e.us.length ≤ 1000) (l9 : e.ms.length ≤ 1000) (s0 s1 s2 s3 s4 s6 s7 s8 s9 s10 s11 s12 s13 s14 s15 s16 s17 s18 s19 s20 s21 s22 s23 s24 s25 s26 s27 s28 s29 s30 s31 s32 s33 s34 s35 s36 s37 s38 s39 s40 s41 s42 s43 s44 s45 s46 s47 s48 s49 s50 s51 s52 s53 s54 s55 s56 s57 s58 s59 s60 : Value) (K : Act → World → Prop) (hK : ∀ a w1, Code.wp Tryz.prog justRest (bodyPost Tryz.prog Tryz.f47 (fun r w' => r = .returned (.bool (bareE e)) ∧ Below w.heap.size w w')) a w1 → K a w1) :
    Code.wp Tryz.prog just3 (Exit.then K (bodyPost Tryz.prog Tryz.f47 (fun r w' => r = .returned (.bool (bareE e)) ∧ Below w.heap.size w w'))) ⟨#[s0, s1, s2, s3, s4, ptr b, s6, s7, s8, s9, s10, s11, s12, s13, s14, s15, s16, s17, s18, s19, s20, s21, s22, s23, s24, s25, s26, s27, s28, s29, s30, s31, s32, s33, s34, s35, s36, s37, s38, s39, s40, s41, s42, s43, s44, s45, s46, s47, s48, s49, s50, s51, s52, s53, s54, s55, s56, s57, s58, s59, s60], []⟩ X := by
  conv => arg 2; whnf
  obtain ⟨c2, c3, c4, c10, c11, c12, c13, c14, c15, c16, c5, c17, ⟨a6, k6, c6⟩, ⟨a7, k7, c7⟩, ⟨a8, k8, c8⟩, ⟨a9, k9, c9⟩⟩ := HRs.out
  have HQ := Lib.hid (bare_eq e)
  have HK := Lib.hid hK
  have z6 : e.ns.isEmpty = decide (e.ns.length = 0) := by cases e.ns <;> simp
  have z7 : e.bs.isEmpty = decide (e.bs.length = 0) := by cases e.bs <;> simp
  have z8 : e.us.isEmpty = decide (e.us.length = 0) := by cases e.us <;> simp
  have z9 : e.ms.isEmpty = decide (e.ms.length = 0) := by cases e.ms <;> simp
  rw [z6, z7, z8, z9] at HQ
  clear HRs hK z6 z7 z8 z9
  generalize bareE e = R at *
  generalize e.ns.length = n6 at *
  generalize e.bs.length = n7 at *
  generalize e.us.length = n8 at *
  generalize e.ms.length = n9 at *
  generalize e.bx = x2 at *
  generalize e.tt = x3 at *
  generalize e.fi = x4 at *
  generalize e.nm = s5t at *
  generalize e.y = y at *
  generalize e.mo = mo at *
  generalize e.d = d at *
  generalize e.h = h at *
  generalize e.mi = mi at *
  generalize e.s = s at *
  generalize e.z = z at *
  generalize e.bd = s17t at *
  have b6 : (n6 : Int) ≤ 1000 := by omega
  have b7 : (n7 : Int) ≤ 1000 := by omega
  have b8 : (n8 : Int) ≤ 1000 := by omega
  have b9 : (n9 : Int) ≤ 1000 := by omega
  by_cases h_x2 : ¬ x2 = 0
  · have e_x2 : (x2 == 0) = false := beq_eq_false_iff_ne.2 h_x2
    have HR : Hid (R = false) := Lib.hid (by rw [HQ.out]; simp [h_x2])
    go_wp2_with fail
    refine HK.out _ _ ?_
    clear HK K
    conv => arg 2; whnf
    go_wp2_with fail
    go_ret
    exact ⟨by rw [HR.out]; rfl, HB.out⟩
  replace h_x2 : x2 = 0 := Decidable.of_not_not h_x2
  have e_x2 : (x2 == 0) = true := beq_iff_eq.2 h_x2
  rw [decide_eq_true h_x2] at HQ
  clear h_x2
  by_cases h_x3 : ¬ x3 = 0
  · have e_x3 : (x3 == 0) = false := beq_eq_false_iff_ne.2 h_x3
    have HR : Hid (R = false) := Lib.hid (by rw [HQ.out]; simp [h_x3])
    go_wp2_with fail
    refine HK.out _ _ ?_
    clear HK K
    conv => arg 2; whnf
    go_wp2_with fail
    go_ret
    exact ⟨by rw [HR.out]; rfl, HB.out⟩
  replace h_x3 : x3 = 0 := Decidable.of_not_not h_x3
  have e_x3 : (x3 == 0) = true := beq_iff_eq.2 h_x3
  rw [decide_eq_true h_x3] at HQ
  clear h_x3
  by_cases h_x4 : ¬ x4 = 0
  · have e_x4 : (x4 == 0) = false := beq_eq_false_iff_ne.2 h_x4
    have HR : Hid (R = false) := Lib.hid (by rw [HQ.out]; simp [h_x4])
    go_wp2_with fail
    refine HK.out _ _ ?_
    clear HK K
    conv => arg 2; whnf
    go_wp2_with fail
    go_ret
    exact ⟨by rw [HR.out]; rfl, HB.out⟩
  replace h_x4 : x4 = 0 := Decidable.of_not_not h_x4
  have e_x4 : (x4 == 0) = true := beq_iff_eq.2 h_x4
  rw [decide_eq_true h_x4] at HQ
  clear h_x4
  cases h_5 : s5t.toList.isEmpty with
  | false =>
    have HR : Hid (R = false) := Lib.hid (by rw [HQ.out]; simp [h_5])
    go_wp2_with fail
    refine HK.out _ _ ?_
    clear HK K
    conv => arg 2; whnf
    go_wp2_with fail
    go_ret
    exact ⟨by rw [HR.out]; rfl, HB.out⟩
  | true =>
  rw [h_5] at HQ
  by_cases h_l : ¬ (n6 = 0 ∧ n7 = 0 ∧ n8 = 0 ∧ n9 = 0)
  · have e_l : ((n6 : Int) + n7 + n8 + n9 == 0) = false := beq_eq_false_iff_ne.2 (by omega)
    have e_l2 : ¬ (n6 : Int) + n7 + n8 + n9 = 0 := by omega
    have HR : Hid (R = false) := Lib.hid (by rw [HQ.out, Bool.eq_false_iff]; intro hh; simp only [Bool.and_eq_true, decide_eq_true_iff] at hh; exact h_l ⟨hh.1.1.1.1.1.2, hh.1.1.1.1.2, hh.1.1.1.2, hh.1.1.2⟩)
    clear h_l
    go_wp2_with fail
    refine HK.out _ _ ?_
    clear HK K
    conv => arg 2; whnf
    go_wp2_with fail
    go_ret
    exact ⟨by rw [HR.out]; rfl, HB.out⟩
  obtain ⟨rfl, rfl, rfl, rfl⟩ := Decidable.of_not_not h_l
  simp only [decide_true, Bool.true_and, Bool.and_true] at HQ
  by_cases h_y : ¬ y = 0
  · have e_y : (y == 0) = false := beq_eq_false_iff_ne.2 h_y
    have HR : Hid (R = false) := Lib.hid (by rw [HQ.out]; simp [h_y])
    go_wp2_with fail
    refine HK.out _ _ ?_
    clear HK K
    conv => arg 2; whnf
    go_wp2_with fail
    go_ret
    exact ⟨by rw [HR.out]; rfl, HB.out⟩
  replace h_y : y = 0 := Decidable.of_not_not h_y
  have e_y : (y == 0) = true := beq_iff_eq.2 h_y
  have H_y := Lib.hid h_y
  clear h_y
  by_cases h_mo : ¬ mo = 0
  · have e_mo : (mo == 0) = false := beq_eq_false_iff_ne.2 h_mo
    have HR : Hid (R = false) := Lib.hid (by rw [HQ.out]; simp [h_mo])
    go_wp2_with fail
    refine HK.out _ _ ?_
    clear HK K
    conv => arg 2; whnf
    go_wp2_with fail
    go_ret
    exact ⟨by rw [HR.out]; rfl, HB.out⟩
  replace h_mo : mo = 0 := Decidable.of_not_not h_mo
  have e_mo : (mo == 0) = true := beq_iff_eq.2 h_mo
  have H_mo := Lib.hid h_mo
  clear h_mo
  by_cases h_d : ¬ d = 0
  · have e_d : (d == 0) = false := beq_eq_false_iff_ne.2 h_d
    have HR : Hid (R = false) := Lib.hid (by rw [HQ.out]; simp [h_d])
    go_wp2_with fail
    refine HK.out _ _ ?_
    clear HK K
    conv => arg 2; whnf
    go_wp2_with fail
    go_ret
    exact ⟨by rw [HR.out]; rfl, HB.out⟩
  replace h_d : d = 0 := Decidable.of_not_not h_d
  have e_d : (d == 0) = true := beq_iff_eq.2 h_d
  have H_d := Lib.hid h_d
  clear h_d
  by_cases h_h : ¬ h = 0
  · have e_h : (h == 0) = false := beq_eq_false_iff_ne.2 h_h
    have HR : Hid (R = false) := Lib.hid (by rw [HQ.out]; simp [h_h])
    go_wp2_with fail
    refine HK.out _ _ ?_
    clear HK K
    conv => arg 2; whnf
    go_wp2_with fail
    go_ret
    exact ⟨by rw [HR.out]; rfl, HB.out⟩
  replace h_h : h = 0 := Decidable.of_not_not h_h
  have e_h : (h == 0) = true := beq_iff_eq.2 h_h
  have H_h := Lib.hid h_h
  clear h_h
  by_cases h_mi : ¬ mi = 0
  · have e_mi : (mi == 0) = false := beq_eq_false_iff_ne.2 h_mi
    have HR : Hid (R = false) := Lib.hid (by rw [HQ.out]; simp [h_mi])
    go_wp2_with fail
    refine HK.out _ _ ?_
    clear HK K
    conv => arg 2; whnf
    go_wp2_with fail
    go_ret
    exact ⟨by rw [HR.out]; rfl, HB.out⟩
  replace h_mi : mi = 0 := Decidable.of_not_not h_mi
  have e_mi : (mi == 0) = true := beq_iff_eq.2 h_mi
  have H_mi := Lib.hid h_mi
  clear h_mi
  by_cases h_s : ¬ s = 0
  · have e_s : (s == 0) = false := beq_eq_false_iff_ne.2 h_s
    have HR : Hid (R = false) := Lib.hid (by rw [HQ.out]; simp [h_s])
    go_wp2_with fail
    refine HK.out _ _ ?_
    clear HK K
    conv => arg 2; whnf
    go_wp2_with fail
    go_ret
    exact ⟨by rw [HR.out]; rfl, HB.out⟩
  replace h_s : s = 0 := Decidable.of_not_not h_s
  have e_s : (s == 0) = true := beq_iff_eq.2 h_s
  have H_s := Lib.hid h_s
  clear h_s
  by_cases h_z : ¬ z = 0
  · have e_z : (z == 0) = false := beq_eq_false_iff_ne.2 h_z
    have HR : Hid (R = false) := Lib.hid (by rw [HQ.out]; simp [h_z])
    go_wp2_with fail
    refine HK.out _ _ ?_
    clear HK K
    conv => arg 2; whnf
    go_wp2_with fail
    go_ret
    exact ⟨by rw [HR.out]; rfl, HB.out⟩
  replace h_z : z = 0 := Decidable.of_not_not h_z
  have e_z : (z == 0) = true := beq_iff_eq.2 h_z
  have H_z := Lib.hid h_z
  clear h_z
  have HQ2 : Hid (R = s17t.toList.isEmpty) := Lib.hid (by rw [HQ.out]; simp [H_y.out, H_mo.out, H_d.out, H_h.out, H_mi.out, H_s.out, H_z.out])
  clear HQ
  cases h_17 : s17t.toList.isEmpty with
  | false =>
    have HR : Hid (R = false) := Lib.hid (by rw [HQ2.out, h_17])
    go_wp2_with fail
    refine HK.out _ _ ?_
    clear HK K
    conv => arg 2; whnf
    go_wp2_with fail
    go_ret
    exact ⟨by rw [HR.out]; rfl, HB.out⟩
  | true =>
    have HR : Hid (R = true) := Lib.hid (by rw [HQ2.out, h_17])
    go_wp2_with fail
    refine HK.out _ _ ?_
    clear HK K
    conv => arg 2; whnf
    go_wp2_with fail
    go_ret
    exact ⟨by rw [HR.out]; rfl, HB.out⟩
end Go.Proofs.YtbncaiocmklgnaaGreatDoor

/- event: hasJust of any event (c11qgen.py). -/
namespace Go.Proofs.YtbncaiocmklgnaaGreatDoor
open Go.RowKit Go.Lib

theorem evC_load (e : PE) (vn vb vu vm : Value) : (Tryz.prog.info? 35).map (·.size) = some (evC e vn vb vu vm).size := Tryz.sizeEvC e vn vb vu vm
set_option maxHeartbeats 4000000 in
set_option maxRecDepth 20000 in
theorem hasJust_names (B : Bxs) (eb : Nat) (e : PE) (vn vb vu vm : Value) (W : World) (hK : KW B W) (hE : W.heap[eb]? = some (.cells (evC e vn vb vu vm) 35 (0, 0))) (hs : Shp e vn vb vu vm) (l6 : e.ns.length ≤ 1000) (l7 : e.bs.length ≤ 1000) (l8 : e.us.length ≤ 1000) (l9 : e.ms.length ≤ 1000) :
    Calls Tryz.prog 47 #[ptr eb, .agg #[fnV 105 #[], fnV 108 #[], fnV 109 #[], fnV 110 #[]]] W fun r w' => r = .returned (.bool (bareE (dropE e [.names]))) ∧ Below W.heap.size W w' := by
  have h0 : KB W ([] ++ kwL B) W := ⟨Below.refl _ _, fun x hx => by
    rcases List.mem_append.1 hx with hx | hx
    · cases hx
    · exact hK x hx⟩
  have h1 := h0.box (.cells #[fnV 105 #[], fnV 108 #[], fnV 109 #[], fnV 110 #[]] 64)
  obtain ⟨W1, hW1⟩ : ∃ W1, W.alloc (.cells #[fnV 105 #[], fnV 108 #[], fnV 109 #[], fnV 110 #[]] 64) = W1 := ⟨_, rfl⟩
  rw [hW1] at h1
  have hb1 : Below W.heap.size W W1 := h1.below
  have he1 : W1.heap[eb]? = some (.cells (evC e vn vb vu vm) 35 (0, 0)) := by rw [hb1.block _ (lt_of_heap hE)]; exact hE
  have h2 := h1.boxed ev0 35 (evC e vn vb vu vm)
  obtain ⟨W2, hW2⟩ : ∃ W2, (W1.alloc (.cells ev0 35)).setRow W1.heap.size (evC e vn vb vu vm) = W2 := ⟨_, rfl⟩
  rw [hW2] at h2
  have hn : ∀ x, x ∈ (W.heap.size, Obj.cells #[fnV 105 #[], fnV 108 #[], fnV 109 #[], fnV 110 #[]] 64 (0, 0)) :: ([] ++ kwL B) → x.1 ≠ W1.heap.size := fun x hx => Nat.ne_of_lt (h1.new hx)
  have hw : W.heap.size ≤ W1.heap.size := hb1.size
  have hB : ∀ x, x ∈ kwL B → x ∈ (W.heap.size, Obj.cells #[fnV 105 #[], fnV 108 #[], fnV 109 #[], fnV 110 #[]] 64 (0, 0)) :: ([] ++ kwL B) := fun x hx => List.mem_cons_of_mem _ (List.mem_append_right _ hx)
  have HC : Hid (Calls Tryz.prog 110 #[ptr W1.heap.size] W2 fun r w' => r = .returned (.tuple #[]) ∧ Left W W1.heap.size (dropE e [.names]) ((W.heap.size, Obj.cells #[fnV 105 #[], fnV 108 #[], fnV 109 #[], fnV 110 #[]] 64 (0, 0)) :: ([] ++ kwL B)) w') := Lib.hid (names_drops W1.heap.size e vn vb vu vm W W2 _ h2 hw hn hs)
  have k3 := (part_cells (h2.kept (W.heap.size, _) (List.mem_cons_of_mem _ List.mem_cons_self))).2.2.2
  have HW1 := Lib.hid hW1
  have HW2 := Lib.hid hW2
  have HE1 := Lib.hid he1
  have HS1 := Lib.hid hs
  have hls := drops_lens [.names] e
  have m6 : (dropE e [.names]).ns.length ≤ 1000 := by omega
  have m7 : (dropE e [.names]).bs.length ≤ 1000 := by omega
  have m8 : (dropE e [.names]).us.length ≤ 1000 := by omega
  have m9 : (dropE e [.names]).ms.length ≤ 1000 := by omega
  clear hW1 hW2 h0 h1 h2 hb1 he1 hn hw hB hs hE hK hls l6 l7 l8 l9
  generalize dropE e [.names] = e1 at *
  go_enter Tryz.func47, Tryz.ntmps47
  go_upto_region 1 with fail
  rw [HW1.out]
  go_upto_region 2 with (first | (refine wpList_load_row rfl 35 _ rfl eb rfl 35 _ (0, 0) _ HE1.out Tryz.underlying35 rfl (Tryz.sizeEvC e vn vb vu vm) ?_) | (refine wpList_store_row rfl 35 _ _ rfl W1.heap.size (evC e vn vb vu vm) rfl rfl 35 _ (heap_new _ _) (Tryz.sizeEvC e vn vb vu vm) rfl HS1.out.one ?_))
  rw [HW2.out]
  go_upto_region 3 with (go_at_call 110; refine HC.out.mono ?_; rintro r w5 ⟨rfl, hl5⟩; have HL5 := Lib.hid hl5.rst; clear hl5)
  rename_i hK3
  exact just_tail W1.heap.size e1 W w5 (Lib.hid HL5.out.1) (Lib.hid HL5.out.2) m6 m7 m8 m9 _ _ _ _ _ _ _ _ _ _ _ _ _ _ _ _ _ _ _ _ _ _ _ _ _ _ _ _ _ _ _ _ _ _ _ _ _ _ _ _ _ _ _ _ _ _ _ _ _ _ _ _ _ _ _ _ _ _ _ _ _ (fun a w1 h => hK3 a w1 h)
set_option maxHeartbeats 4000000 in
set_option maxRecDepth 20000 in
theorem hasJust_box (B : Bxs) (eb : Nat) (e : PE) (vn vb vu vm : Value) (W : World) (hK : KW B W) (hE : W.heap[eb]? = some (.cells (evC e vn vb vu vm) 35 (0, 0))) (hs : Shp e vn vb vu vm) (l6 : e.ns.length ≤ 1000) (l7 : e.bs.length ≤ 1000) (l8 : e.us.length ≤ 1000) (l9 : e.ms.length ≤ 1000) :
    Calls Tryz.prog 47 #[ptr eb, .agg #[fnV 83 #[ptr B.p1], fnV 84 #[ptr B.p1], fnV 85 #[ptr B.p1], fnV 86 #[ptr B.p1]]] W fun r w' => r = .returned (.bool (bareE (dropE e [.box]))) ∧ Below W.heap.size W w' := by
  have h0 : KB W ([] ++ kwL B) W := ⟨Below.refl _ _, fun x hx => by
    rcases List.mem_append.1 hx with hx | hx
    · cases hx
    · exact hK x hx⟩
  have h1 := h0.box (.cells #[fnV 83 #[ptr B.p1], fnV 84 #[ptr B.p1], fnV 85 #[ptr B.p1], fnV 86 #[ptr B.p1]] 64)
  obtain ⟨W1, hW1⟩ : ∃ W1, W.alloc (.cells #[fnV 83 #[ptr B.p1], fnV 84 #[ptr B.p1], fnV 85 #[ptr B.p1], fnV 86 #[ptr B.p1]] 64) = W1 := ⟨_, rfl⟩
  rw [hW1] at h1
  have hb1 : Below W.heap.size W W1 := h1.below
  have he1 : W1.heap[eb]? = some (.cells (evC e vn vb vu vm) 35 (0, 0)) := by rw [hb1.block _ (lt_of_heap hE)]; exact hE
  have h2 := h1.boxed ev0 35 (evC e vn vb vu vm)
  obtain ⟨W2, hW2⟩ : ∃ W2, (W1.alloc (.cells ev0 35)).setRow W1.heap.size (evC e vn vb vu vm) = W2 := ⟨_, rfl⟩
  rw [hW2] at h2
  have hn : ∀ x, x ∈ (W.heap.size, Obj.cells #[fnV 83 #[ptr B.p1], fnV 84 #[ptr B.p1], fnV 85 #[ptr B.p1], fnV 86 #[ptr B.p1]] 64 (0, 0)) :: ([] ++ kwL B) → x.1 ≠ W1.heap.size := fun x hx => Nat.ne_of_lt (h1.new hx)
  have hw : W.heap.size ≤ W1.heap.size := hb1.size
  have hB : ∀ x, x ∈ kwL B → x ∈ (W.heap.size, Obj.cells #[fnV 83 #[ptr B.p1], fnV 84 #[ptr B.p1], fnV 85 #[ptr B.p1], fnV 86 #[ptr B.p1]] 64 (0, 0)) :: ([] ++ kwL B) := fun x hx => List.mem_cons_of_mem _ (List.mem_append_right _ hx)
  have HC : Hid (Calls Tryz.prog 86 #[ptr W1.heap.size, ptr B.p1] W2 fun r w' => r = .returned (.tuple #[]) ∧ Left W W1.heap.size (dropE e [.box]) ((W.heap.size, Obj.cells #[fnV 83 #[ptr B.p1], fnV 84 #[ptr B.p1], fnV 85 #[ptr B.p1], fnV 86 #[ptr B.p1]] 64 (0, 0)) :: ([] ++ kwL B)) w') := Lib.hid (box_drops B W1.heap.size e vn vb vu vm W W2 _ h2 hw hn hB hs)
  have k3 := (part_cells (h2.kept (W.heap.size, _) (List.mem_cons_of_mem _ List.mem_cons_self))).2.2.2
  have HW1 := Lib.hid hW1
  have HW2 := Lib.hid hW2
  have HE1 := Lib.hid he1
  have HS1 := Lib.hid hs
  have hls := drops_lens [.box] e
  have m6 : (dropE e [.box]).ns.length ≤ 1000 := by omega
  have m7 : (dropE e [.box]).bs.length ≤ 1000 := by omega
  have m8 : (dropE e [.box]).us.length ≤ 1000 := by omega
  have m9 : (dropE e [.box]).ms.length ≤ 1000 := by omega
  clear hW1 hW2 h0 h1 h2 hb1 he1 hn hw hB hs hE hK hls l6 l7 l8 l9
  generalize dropE e [.box] = e1 at *
  go_enter Tryz.func47, Tryz.ntmps47
  go_upto_region 1 with fail
  rw [HW1.out]
  go_upto_region 2 with (first | (refine wpList_load_row rfl 35 _ rfl eb rfl 35 _ (0, 0) _ HE1.out Tryz.underlying35 rfl (Tryz.sizeEvC e vn vb vu vm) ?_) | (refine wpList_store_row rfl 35 _ _ rfl W1.heap.size (evC e vn vb vu vm) rfl rfl 35 _ (heap_new _ _) (Tryz.sizeEvC e vn vb vu vm) rfl HS1.out.one ?_))
  rw [HW2.out]
  go_upto_region 3 with (go_at_call 86; refine HC.out.mono ?_; rintro r w5 ⟨rfl, hl5⟩; have HL5 := Lib.hid hl5.rst; clear hl5)
  rename_i hK3
  exact just_tail W1.heap.size e1 W w5 (Lib.hid HL5.out.1) (Lib.hid HL5.out.2) m6 m7 m8 m9 _ _ _ _ _ _ _ _ _ _ _ _ _ _ _ _ _ _ _ _ _ _ _ _ _ _ _ _ _ _ _ _ _ _ _ _ _ _ _ _ _ _ _ _ _ _ _ _ _ _ _ _ _ _ _ _ _ _ _ _ _ (fun a w1 h => hK3 a w1 h)
set_option maxHeartbeats 4000000 in
set_option maxRecDepth 20000 in
theorem hasJust_nm (B : Bxs) (eb : Nat) (e : PE) (vn vb vu vm : Value) (W : World) (hK : KW B W) (hE : W.heap[eb]? = some (.cells (evC e vn vb vu vm) 35 (0, 0))) (hs : Shp e vn vb vu vm) (l6 : e.ns.length ≤ 1000) (l7 : e.bs.length ≤ 1000) (l8 : e.us.length ≤ 1000) (l9 : e.ms.length ≤ 1000) :
    Calls Tryz.prog 47 #[ptr eb, .agg #[fnV 87 #[ptr B.q4, ptr B.p4], fnV 88 #[ptr B.p4], fnV 90 #[ptr B.p4], fnV 92 #[ptr B.p4]]] W fun r w' => r = .returned (.bool (bareE (dropE e [.name]))) ∧ Below W.heap.size W w' := by
  have h0 : KB W ([] ++ kwL B) W := ⟨Below.refl _ _, fun x hx => by
    rcases List.mem_append.1 hx with hx | hx
    · cases hx
    · exact hK x hx⟩
  have h1 := h0.box (.cells #[fnV 87 #[ptr B.q4, ptr B.p4], fnV 88 #[ptr B.p4], fnV 90 #[ptr B.p4], fnV 92 #[ptr B.p4]] 64)
  obtain ⟨W1, hW1⟩ : ∃ W1, W.alloc (.cells #[fnV 87 #[ptr B.q4, ptr B.p4], fnV 88 #[ptr B.p4], fnV 90 #[ptr B.p4], fnV 92 #[ptr B.p4]] 64) = W1 := ⟨_, rfl⟩
  rw [hW1] at h1
  have hb1 : Below W.heap.size W W1 := h1.below
  have he1 : W1.heap[eb]? = some (.cells (evC e vn vb vu vm) 35 (0, 0)) := by rw [hb1.block _ (lt_of_heap hE)]; exact hE
  have h2 := h1.boxed ev0 35 (evC e vn vb vu vm)
  obtain ⟨W2, hW2⟩ : ∃ W2, (W1.alloc (.cells ev0 35)).setRow W1.heap.size (evC e vn vb vu vm) = W2 := ⟨_, rfl⟩
  rw [hW2] at h2
  have hn : ∀ x, x ∈ (W.heap.size, Obj.cells #[fnV 87 #[ptr B.q4, ptr B.p4], fnV 88 #[ptr B.p4], fnV 90 #[ptr B.p4], fnV 92 #[ptr B.p4]] 64 (0, 0)) :: ([] ++ kwL B) → x.1 ≠ W1.heap.size := fun x hx => Nat.ne_of_lt (h1.new hx)
  have hw : W.heap.size ≤ W1.heap.size := hb1.size
  have hB : ∀ x, x ∈ kwL B → x ∈ (W.heap.size, Obj.cells #[fnV 87 #[ptr B.q4, ptr B.p4], fnV 88 #[ptr B.p4], fnV 90 #[ptr B.p4], fnV 92 #[ptr B.p4]] 64 (0, 0)) :: ([] ++ kwL B) := fun x hx => List.mem_cons_of_mem _ (List.mem_append_right _ hx)
  have HC : Hid (Calls Tryz.prog 92 #[ptr W1.heap.size, ptr B.p4] W2 fun r w' => r = .returned (.tuple #[]) ∧ Left W W1.heap.size (dropE e [.name]) ((W.heap.size, Obj.cells #[fnV 87 #[ptr B.q4, ptr B.p4], fnV 88 #[ptr B.p4], fnV 90 #[ptr B.p4], fnV 92 #[ptr B.p4]] 64 (0, 0)) :: ([] ++ kwL B)) w') := Lib.hid (name_drops B W1.heap.size e vn vb vu vm W W2 _ h2 hw hn hB hs)
  have k3 := (part_cells (h2.kept (W.heap.size, _) (List.mem_cons_of_mem _ List.mem_cons_self))).2.2.2
  have HW1 := Lib.hid hW1
  have HW2 := Lib.hid hW2
  have HE1 := Lib.hid he1
  have HS1 := Lib.hid hs
  have hls := drops_lens [.name] e
  have m6 : (dropE e [.name]).ns.length ≤ 1000 := by omega
  have m7 : (dropE e [.name]).bs.length ≤ 1000 := by omega
  have m8 : (dropE e [.name]).us.length ≤ 1000 := by omega
  have m9 : (dropE e [.name]).ms.length ≤ 1000 := by omega
  clear hW1 hW2 h0 h1 h2 hb1 he1 hn hw hB hs hE hK hls l6 l7 l8 l9
  generalize dropE e [.name] = e1 at *
  go_enter Tryz.func47, Tryz.ntmps47
  go_upto_region 1 with fail
  rw [HW1.out]
  go_upto_region 2 with (first | (refine wpList_load_row rfl 35 _ rfl eb rfl 35 _ (0, 0) _ HE1.out Tryz.underlying35 rfl (Tryz.sizeEvC e vn vb vu vm) ?_) | (refine wpList_store_row rfl 35 _ _ rfl W1.heap.size (evC e vn vb vu vm) rfl rfl 35 _ (heap_new _ _) (Tryz.sizeEvC e vn vb vu vm) rfl HS1.out.one ?_))
  rw [HW2.out]
  go_upto_region 3 with (go_at_call 92; refine HC.out.mono ?_; rintro r w5 ⟨rfl, hl5⟩; have HL5 := Lib.hid hl5.rst; clear hl5)
  rename_i hK3
  exact just_tail W1.heap.size e1 W w5 (Lib.hid HL5.out.1) (Lib.hid HL5.out.2) m6 m7 m8 m9 _ _ _ _ _ _ _ _ _ _ _ _ _ _ _ _ _ _ _ _ _ _ _ _ _ _ _ _ _ _ _ _ _ _ _ _ _ _ _ _ _ _ _ _ _ _ _ _ _ _ _ _ _ _ _ _ _ _ _ _ _ (fun a w1 h => hK3 a w1 h)
set_option maxHeartbeats 4000000 in
set_option maxRecDepth 20000 in
theorem hasJust_row (B : Bxs) (eb : Nat) (e : PE) (vn vb vu vm : Value) (W : World) (l : List Pt) (q rb : Nat) (hRk : RowK B l q rb W) (hl9 : l.length ≤ 9) (hK : KW B W) (hE : W.heap[eb]? = some (.cells (evC e vn vb vu vm) 35 (0, 0))) (hs : Shp e vn vb vu vm) (l6 : e.ns.length ≤ 1000) (l7 : e.bs.length ≤ 1000) (l8 : e.us.length ≤ 1000) (l9 : e.ms.length ≤ 1000) :
    Calls Tryz.prog 47 #[ptr eb, .agg #[fnV 94 #[ptr q], fnV 95 #[ptr q], fnV 96 #[ptr q], fnV 97 #[ptr q]]] W fun r w' => r = .returned (.bool (bareE (dropE e l))) ∧ Below W.heap.size W w' := by
  have h0 : KB W ([(q, Obj.cells #[.slice (some ⟨rb, 0, none⟩) l.length l.length] 113 (0, 0)), (rb, Obj.cells (partsL B l).toArray 64 (0, 0))] ++ kwL B) W := ⟨Below.refl _ _, fun x hx => by
    rcases List.mem_append.1 hx with hx | hx
    · rcases List.mem_cons.1 hx with rfl | hx
      · exact hRk.q
      rcases List.mem_cons.1 hx with rfl | hx
      · exact hRk.r
      cases hx
    · exact hK x hx⟩
  have h1 := h0.box (.cells #[fnV 94 #[ptr q], fnV 95 #[ptr q], fnV 96 #[ptr q], fnV 97 #[ptr q]] 64)
  obtain ⟨W1, hW1⟩ : ∃ W1, W.alloc (.cells #[fnV 94 #[ptr q], fnV 95 #[ptr q], fnV 96 #[ptr q], fnV 97 #[ptr q]] 64) = W1 := ⟨_, rfl⟩
  rw [hW1] at h1
  have hb1 : Below W.heap.size W W1 := h1.below
  have he1 : W1.heap[eb]? = some (.cells (evC e vn vb vu vm) 35 (0, 0)) := by rw [hb1.block _ (lt_of_heap hE)]; exact hE
  have h2 := h1.boxed ev0 35 (evC e vn vb vu vm)
  obtain ⟨W2, hW2⟩ : ∃ W2, (W1.alloc (.cells ev0 35)).setRow W1.heap.size (evC e vn vb vu vm) = W2 := ⟨_, rfl⟩
  rw [hW2] at h2
  have hn : ∀ x, x ∈ (W.heap.size, Obj.cells #[fnV 94 #[ptr q], fnV 95 #[ptr q], fnV 96 #[ptr q], fnV 97 #[ptr q]] 64 (0, 0)) :: ([(q, Obj.cells #[.slice (some ⟨rb, 0, none⟩) l.length l.length] 113 (0, 0)), (rb, Obj.cells (partsL B l).toArray 64 (0, 0))] ++ kwL B) → x.1 ≠ W1.heap.size := fun x hx => Nat.ne_of_lt (h1.new hx)
  have hw : W.heap.size ≤ W1.heap.size := hb1.size
  have hB : ∀ x, x ∈ kwL B → x ∈ (W.heap.size, Obj.cells #[fnV 94 #[ptr q], fnV 95 #[ptr q], fnV 96 #[ptr q], fnV 97 #[ptr q]] 64 (0, 0)) :: ([(q, Obj.cells #[.slice (some ⟨rb, 0, none⟩) l.length l.length] 113 (0, 0)), (rb, Obj.cells (partsL B l).toArray 64 (0, 0))] ++ kwL B) := fun x hx => List.mem_cons_of_mem _ (List.mem_append_right _ hx)
  have HC : Hid (Calls Tryz.prog 97 #[ptr W1.heap.size, ptr q] W2 fun r w' => r = .returned (.tuple #[]) ∧ Left W W1.heap.size (dropE e l) ((W.heap.size, Obj.cells #[fnV 94 #[ptr q], fnV 95 #[ptr q], fnV 96 #[ptr q], fnV 97 #[ptr q]] 64 (0, 0)) :: ([(q, Obj.cells #[.slice (some ⟨rb, 0, none⟩) l.length l.length] 113 (0, 0)), (rb, Obj.cells (partsL B l).toArray 64 (0, 0))] ++ kwL B)) w') := Lib.hid (row_drops l q rb B W1.heap.size e W W2 _ ⟨vn, vb, vu, vm, hs, h2⟩ hw hn hB (List.mem_cons_of_mem _ (List.mem_append_left _ List.mem_cons_self)) (List.mem_cons_of_mem _ (List.mem_append_left _ (List.mem_cons_of_mem _ List.mem_cons_self))) hl9)
  have k3 := (part_cells (h2.kept (W.heap.size, _) (List.mem_cons_of_mem _ List.mem_cons_self))).2.2.2
  have HW1 := Lib.hid hW1
  have HW2 := Lib.hid hW2
  have HE1 := Lib.hid he1
  have HS1 := Lib.hid hs
  have hls := drops_lens l e
  have m6 : (dropE e l).ns.length ≤ 1000 := by omega
  have m7 : (dropE e l).bs.length ≤ 1000 := by omega
  have m8 : (dropE e l).us.length ≤ 1000 := by omega
  have m9 : (dropE e l).ms.length ≤ 1000 := by omega
  clear hW1 hW2 h0 h1 h2 hb1 he1 hn hw hB hs hE hK hls l6 l7 l8 l9 hRk hl9
  generalize dropE e l = e1 at *
  go_enter Tryz.func47, Tryz.ntmps47
  go_upto_region 1 with fail
  rw [HW1.out]
  go_upto_region 2 with (first | (refine wpList_load_row rfl 35 _ rfl eb rfl 35 _ (0, 0) _ HE1.out Tryz.underlying35 rfl (Tryz.sizeEvC e vn vb vu vm) ?_) | (refine wpList_store_row rfl 35 _ _ rfl W1.heap.size (evC e vn vb vu vm) rfl rfl 35 _ (heap_new _ _) (Tryz.sizeEvC e vn vb vu vm) rfl HS1.out.one ?_))
  rw [HW2.out]
  go_upto_region 3 with (go_at_call 97; refine HC.out.mono ?_; rintro r w5 ⟨rfl, hl5⟩; have HL5 := Lib.hid hl5.rst; clear hl5)
  rename_i hK3
  exact just_tail W1.heap.size e1 W w5 (Lib.hid HL5.out.1) (Lib.hid HL5.out.2) m6 m7 m8 m9 _ _ _ _ _ _ _ _ _ _ _ _ _ _ _ _ _ _ _ _ _ _ _ _ _ _ _ _ _ _ _ _ _ _ _ _ _ _ _ _ _ _ _ _ _ _ _ _ _ _ _ _ _ _ _ _ _ _ _ _ _ (fun a w1 h => hK3 a w1 h)
theorem hasJust_any (l : List Pt) (B : Bxs) (v0 v1 v2 v3 : Value) (eb : Nat) (e : PE) (vn vb vu vm : Value) (W : World) (hkv : KV B W l v0 v1 v2 v3) (hK : KW B W) (hE : W.heap[eb]? = some (.cells (evC e vn vb vu vm) 35 (0, 0))) (hs : Shp e vn vb vu vm) (l6 : e.ns.length ≤ 1000) (l7 : e.bs.length ≤ 1000) (l8 : e.us.length ≤ 1000) (l9 : e.ms.length ≤ 1000) :
    Calls Tryz.prog 47 #[ptr eb, .agg #[v0, v1, v2, v3]] W fun r w' => r = .returned (.bool (bareE (dropE e l))) ∧ Below W.heap.size W w' := by
  cases hkv with
  | names => exact hasJust_names B eb e vn vb vu vm W hK hE hs l6 l7 l8 l9
  | box => exact hasJust_box B eb e vn vb vu vm W hK hE hs l6 l7 l8 l9
  | name => exact hasJust_nm B eb e vn vb vu vm W hK hE hs l6 l7 l8 l9
  | row l q rb h hl h2 => exact hasJust_row B eb e vn vb vu vm W l q rb h hl hK hE hs l6 l7 l8 l9
end Go.Proofs.YtbncaiocmklgnaaGreatDoor
