/- The statement OctetLines: the walk. -/
import Derived.Test.YtclegocofiigiabDoorSd
namespace Go.Proofs.YtclegocofiigiabDoor
open Go.RowKit Go.Shelf

def fnOf (b : Nat) : Value := .func (.func 31) #[] #[.pointer (some ⟨b, 0, none⟩)]
theorem OwnF.not {B : Nat} {v : Value} {fs : List Value} {W0 w : World} (h : OwnF B v fs W0 w) (k : Nat) {cs : Array Value} {t : TypeId} {fr : Nat × Nat} (hk : w.heap[k]? = some (.cells cs t fr)) (ht : t ≠ 26) : v.ownBlock ≠ some k := by
  intro e
  rcases h.row.2 with ⟨rfl, _⟩ | ⟨g, cap, cur, rfl, _, hg, _⟩
  · cases e
  · have : g = k := by simpa [Value.ownBlock] using e
    subst this
    rw [hk] at hg
    injection hg with hg
    injection hg with _ h2 _
    exact ht h2
theorem OwnF.setCell {B : Nat} {v : Value} {fs : List Value} {W0 w : World} (h : OwnF B v fs W0 w) (k : Nat) (hk : v.ownBlock ≠ some k) (hB : B ≤ k) (u : Value) : OwnF B v fs W0 (w.setCell ⟨k, 0, none⟩ u) := by
  refine ⟨⟨h.row.1, ?_⟩, h.below.setCell (p := ⟨k, 0, none⟩) hB _, by have := h.base; simpa using this⟩
  rcases h.row.2 with hn | ⟨g, cap, cur, rfl, hB', hg, rest⟩
  · exact .inl hn
  · refine .inr ⟨g, cap, cur, rfl, hB', ?_, rest⟩
    rw [heap_setCell_other]
    · exact hg
    · intro e; apply hk; simp [Value.ownBlock, e]
theorem OwnF.cells {B : Nat} {v : Value} {fs : List Value} {W0 w : World} (h : OwnF B v fs W0 w) (hl : 0 < fs.length) : ∃ g cap, v = .slice (some ⟨g, 0, none⟩) fs.length cap ∧ g < w.heap.size ∧ fs.length ≤ cap ∧ ∀ j, j < fs.length → w.cell? ⟨g, j, none⟩ = fs[j]? := by
  rcases h.row.2 with ⟨rfl, h0⟩ | ⟨g, cap, cur, rfl, hB, hg, hc, rest⟩
  · omega
  · refine ⟨g, cap, rfl, (Array.getElem?_eq_some_iff.1 hg).1, hc, fun j hj => ?_⟩
    have := h.row.cells (g := g) rfl j fs[j] (by simp [hj])
    have e : (⟨g, 0, none⟩ : Addr).add j = ⟨g, j, none⟩ := by
      unfold Addr.add; split
      · rename_i h; rw [h]
      · simp
    rw [e] at this; rw [this, List.getElem?_eq_getElem hj]
theorem OwnS.shape {B : Nat} {v : Value} {l : List (List UInt8)} {W0 w : World} (h : OwnS B v l W0 w) : ∃ ao cap, v = .slice ao l.length cap := by
  rcases h.row.2 with ⟨rfl, h0⟩ | ⟨g, cap, cur, rfl, _⟩
  · exact ⟨none, 0, by rw [h0]⟩
  · exact ⟨_, _, rfl⟩
theorem lns_le (s : ByteArray) (h : s.size ≤ 20000) : (lns (L s)).length ≤ 1000000 := by
  have := lns_len _ (L s) (Nat.le_refl _)
  rw [L_length] at this; omega
/-- The functions so far. -/
structure IT (b5 : Nat) (v : Value) (qs : List Nat) (ss : List ByteArray) (W0 w : World) : Prop where
  hv : w.heap[b5]? = some (.cells #[v] 24 (0, 0))
  row : OwnF b5 v (qs.map fnOf) W0 w
  hq : ∀ t, t < qs.length → w.heap[qs.getD t 0]? = some (.cells #[.string (ss.getD t ByteArray.empty)] 9 (0, 0))
theorem IT.step {b5 : Nat} {v v' : Value} {qs : List Nat} {ss : List ByteArray} {W0 w w' : World} (h : IT b5 v qs ss W0 w) (s : ByteArray) (hs : ss.getD qs.length ByteArray.empty = s)
    (hown : OwnF b5 v' (qs.map fnOf ++ [fnOf w.heap.size]) W0 w') (hk : ∀ k, k < (w.alloc (.cells #[.string s] 9)).heap.size → v.ownBlock ≠ some k → w'.heap[k]? = (w.alloc (.cells #[.string s] 9)).heap[k]?) :
    IT b5 v' (qs ++ [w.heap.size]) ss W0 (w'.setCell ⟨b5, 0, none⟩ v') ∧ w'.heap[b5]? = some (.cells #[v] 24 (0, 0)) := by
  have hb5 : b5 < w.heap.size := (Array.getElem?_eq_some_iff.1 h.hv).1
  have n1 := h.row.not b5 h.hv (by decide)
  have h5 : w'.heap[b5]? = some (.cells #[v] 24 (0, 0)) := by
    rw [hk b5 (by simp; omega) n1, heap_alloc_old w _ hb5]; exact h.hv
  have hown2 := hown.not b5 h5 (by decide)
  have hnew : w'.heap[w.heap.size]? = some (.cells #[.string s] 9 (0, 0)) := by
    rw [hk w.heap.size (by simp) (by intro e; have := (h.row.row.lt _ e).2; omega)]
    exact heap_alloc_new w _
  refine ⟨⟨one_setCell (u := v') h5, ?_, ?_⟩, h5⟩
  · have := hown.setCell b5 hown2 (Nat.le_refl _) v'
    rw [List.map_append]
    exact this
  · intro t ht
    rw [List.length_append] at ht
    by_cases e : t < qs.length
    · have e1 : (qs ++ [w.heap.size]).getD t 0 = qs.getD t 0 := by simp [List.getD_eq_getElem?_getD, List.getElem?_append_left e]
      have hqt := h.hq t e
      have hlt := (Array.getElem?_eq_some_iff.1 hqt).1
      have hne : qs.getD t 0 ≠ b5 := by
        intro e2
        rw [e2, h.hv] at hqt
        injection hqt with hqt
        injection hqt with _ h2 _
        exact absurd h2 (by decide)
      rw [e1, heap_setCell_other _ _ _ _ (by simpa using hne), hk _ (Nat.lt_of_lt_of_le hlt (by simp)) (h.row.not _ hqt (by decide)), heap_alloc_old w _ hlt]
      exact hqt
    · have e2 : t = qs.length := by simp at ht; omega
      subst e2
      have e1 : (qs ++ [w.heap.size]).getD qs.length 0 = w.heap.size := by simp
      rw [e1, heap_setCell_other _ _ _ _ (by simp; omega), hnew, hs]

/-- What the region of the four calls needs. -/
structure RQ (bits bi bw gi cnt cp b0 off t1 qa : Nat) (A : ByteArray) (bb : Bool) (vW : Value) (W5 : World) : Prop where
  g : ∀ X st, (X.cell? ⟨bits, 0, none⟩ = some (.slice (some ⟨gi, 0, none⟩) cnt cp) ∧ X.cell? ⟨bi, 0, none⟩ = some (.int .i64 t1) ∧ X.cell? ⟨bw, 0, none⟩ = some vW ∧ X.cell? ⟨gi, t1, none⟩ = some (.func (.func 31) #[] #[.pointer (some ⟨qa, 0, none⟩)]) ∧ X.cell? ⟨b0, off + t1, none⟩ = some (.string A) ∧ Below W5.heap.size W5 X) → Calls Tryd.prog 13 #[.func (.func 31) #[] #[.pointer (some ⟨qa, 0, none⟩)], vW, .int .i64 st] X fun e w' => e = .returned (.bool true) ∧ (w'.cell? ⟨bits, 0, none⟩ = some (.slice (some ⟨gi, 0, none⟩) cnt cp) ∧ w'.cell? ⟨bi, 0, none⟩ = some (.int .i64 t1) ∧ w'.cell? ⟨bw, 0, none⟩ = some vW ∧ w'.cell? ⟨gi, t1, none⟩ = some (.func (.func 31) #[] #[.pointer (some ⟨qa, 0, none⟩)]) ∧ w'.cell? ⟨b0, off + t1, none⟩ = some (.string A) ∧ Below W5.heap.size W5 w')
  h1 : ∀ X, (X.cell? ⟨bits, 0, none⟩ = some (.slice (some ⟨gi, 0, none⟩) cnt cp) ∧ X.cell? ⟨bi, 0, none⟩ = some (.int .i64 t1) ∧ X.cell? ⟨bw, 0, none⟩ = some vW ∧ X.cell? ⟨gi, t1, none⟩ = some (.func (.func 31) #[] #[.pointer (some ⟨qa, 0, none⟩)]) ∧ X.cell? ⟨b0, off + t1, none⟩ = some (.string A) ∧ Below W5.heap.size W5 X) → Calls Tryd.prog 11 #[.string A] X fun e w' => e = .returned (.bool bb) ∧ (w'.cell? ⟨bits, 0, none⟩ = some (.slice (some ⟨gi, 0, none⟩) cnt cp) ∧ w'.cell? ⟨bi, 0, none⟩ = some (.int .i64 t1) ∧ w'.cell? ⟨bw, 0, none⟩ = some vW ∧ w'.cell? ⟨gi, t1, none⟩ = some (.func (.func 31) #[] #[.pointer (some ⟨qa, 0, none⟩)]) ∧ w'.cell? ⟨b0, off + t1, none⟩ = some (.string A) ∧ Below W5.heap.size W5 w')
  h2 : ∀ X, (X.cell? ⟨bits, 0, none⟩ = some (.slice (some ⟨gi, 0, none⟩) cnt cp) ∧ X.cell? ⟨bi, 0, none⟩ = some (.int .i64 t1) ∧ X.cell? ⟨bw, 0, none⟩ = some vW ∧ X.cell? ⟨gi, t1, none⟩ = some (.func (.func 31) #[] #[.pointer (some ⟨qa, 0, none⟩)]) ∧ X.cell? ⟨b0, off + t1, none⟩ = some (.string A) ∧ Below W5.heap.size W5 X) → Calls Tryd.prog 12 #[.string A] X fun e w' => e = .returned (.bool bb) ∧ (w'.cell? ⟨bits, 0, none⟩ = some (.slice (some ⟨gi, 0, none⟩) cnt cp) ∧ w'.cell? ⟨bi, 0, none⟩ = some (.int .i64 t1) ∧ w'.cell? ⟨bw, 0, none⟩ = some vW ∧ w'.cell? ⟨gi, t1, none⟩ = some (.func (.func 31) #[] #[.pointer (some ⟨qa, 0, none⟩)]) ∧ w'.cell? ⟨b0, off + t1, none⟩ = some (.string A) ∧ Below W5.heap.size W5 w')
  sd : W5.drew.cell? ⟨bits, 0, none⟩ = some (.slice (some ⟨gi, 0, none⟩) cnt cp) ∧ W5.drew.cell? ⟨bi, 0, none⟩ = some (.int .i64 t1) ∧ W5.drew.cell? ⟨bw, 0, none⟩ = some vW ∧ W5.drew.cell? ⟨gi, t1, none⟩ = some (.func (.func 31) #[] #[.pointer (some ⟨qa, 0, none⟩)]) ∧ W5.drew.cell? ⟨b0, off + t1, none⟩ = some (.string A) ∧ Below W5.heap.size W5 W5.drew
theorem RQ.mk' {bits bi bw gi cnt cp b0 off t1 qa : Nat} {A : ByteArray} {vW : Value} {W5 : World} (he : Env W5) (h : W5.cell? ⟨bits, 0, none⟩ = some (.slice (some ⟨gi, 0, none⟩) cnt cp) ∧ W5.cell? ⟨bi, 0, none⟩ = some (.int .i64 t1) ∧ W5.cell? ⟨bw, 0, none⟩ = some vW ∧ W5.cell? ⟨gi, t1, none⟩ = some (.func (.func 31) #[] #[.pointer (some ⟨qa, 0, none⟩)]) ∧ W5.cell? ⟨b0, off + t1, none⟩ = some (.string A) ∧ Below W5.heap.size W5 W5) (hsz : A.size ≤ 20000)
    (l1 : bits < W5.heap.size) (l2 : bi < W5.heap.size) (l3 : bw < W5.heap.size) (l4 : gi < W5.heap.size) (l5 : b0 < W5.heap.size) (l6 : qa < W5.heap.size) (hq : W5.cell? ⟨qa, 0, none⟩ = some (.string A)) (hS : Strs W5 vW ((lns (L A)).map S)) :
    RQ bits bi bw gi cnt cp b0 off t1 qa A (whole (L A)) vW W5 := by
  have key : ∀ X, Below W5.heap.size W5 X → (X.cell? ⟨bits, 0, none⟩ = some (.slice (some ⟨gi, 0, none⟩) cnt cp) ∧ X.cell? ⟨bi, 0, none⟩ = some (.int .i64 t1) ∧ X.cell? ⟨bw, 0, none⟩ = some vW ∧ X.cell? ⟨gi, t1, none⟩ = some (.func (.func 31) #[] #[.pointer (some ⟨qa, 0, none⟩)]) ∧ X.cell? ⟨b0, off + t1, none⟩ = some (.string A) ∧ Below W5.heap.size W5 X) := fun X hX => by
    obtain ⟨a1, a2, a3, a4, a5, _⟩ := h
    exact ⟨(hX.cell (p := ⟨bits, 0, none⟩) l1).trans a1, (hX.cell (p := ⟨bi, 0, none⟩) l2).trans a2, (hX.cell (p := ⟨bw, 0, none⟩) l3).trans a3, (hX.cell (p := ⟨gi, t1, none⟩) l4).trans a4, (hX.cell (p := ⟨b0, off + t1, none⟩) l5).trans a5, hX⟩
  refine ⟨fun X st hX => ?_, fun X hX => ?_, fun X hX => ?_, key _ (Below.refl _ _).drew⟩
  · have hb := hX.2.2.2.2.2
    refine (goes_any A ⟨qa, 0, none⟩ vW st X (he.on hb) (by omega) ((hb.cell (p := ⟨qa, 0, none⟩) l6).trans hq) (Nat.lt_of_lt_of_le l6 hb.size) (hS.on hb)).mono ?_
    rintro e w' ⟨rfl, hw⟩
    exact ⟨rfl, key _ (hb.trans (hw.mono hb.size))⟩
  · refine (Whole_any A X (by omega)).mono ?_
    rintro e w' ⟨rfl, rfl⟩
    exact ⟨rfl, hX⟩
  · refine (refWhole_any A X (by omega)).mono ?_
    rintro e w' ⟨rfl, rfl⟩
    exact ⟨rfl, hX⟩

set_option maxRecDepth 100000 in
set_option maxHeartbeats 8000000 in
theorem OctetLines_walk (v : Value) (ss : List ByteArray) (stop : Int) (w : World) (he : Env w) (h : Strs w v ss) (hz : ∀ i, i < ss.length → (ss.getD i ByteArray.empty).size ≤ 140737488355328) :
    Calls Tryd.prog 3 #[v, .int .i64 stop] w fun e w' => e = .returned (.bool true) ∧ Below w.heap.size w w' := by
  have hLg := Lib.hid (fun W hW => long_any v ss W hW hz)
  have hmf : ∀ (fn : Fn) (first cap : Array Value) (w : World), (Instr.makeFunc fn first cap).run Tryd.prog w = .ok (.func fn first cap) w := fun _ _ _ _ => rfl
  have hnf : ∀ (k : Fn) (a b : Array Value) (w : World), Sem.run Tryd.prog (binOp BinOp.eql 26 (Value.func k a b) Value.nilFunc) w = .ok (.bool false) w := fun _ _ _ _ => by kernel_rfl
  cases hlong : longB ss with
  | true =>
    rw [hlong] at hLg
    go_enter Tryd.func3, Tryd.ntmps3
    go_wp2_with (go_at_call 7; refine (hLg.out _ h).mono ?_; rintro e w' ⟨rfl, rfl⟩)
    go_ret
    exact ⟨rfl, Below.refl _ _⟩
  | false =>
    rw [hlong] at hLg
    have hlim : (ss.map ByteArray.size).sum ≤ 20000 ∧ ss.length ≤ 40 := by
      unfold longB at hlong
      rw [Bool.or_eq_false_iff] at hlong
      simp at hlong
      exact hlong
    obtain ⟨hsum, hn⟩ := hlim
    clear hlong hz
    have hsz := Lib.hid (fun k hk => Nat.le_trans (size_le ss k hk) hsum)
    have HL := Lib.hid h
    rcases h with ⟨rfl, ao, cap, rfl⟩ | ⟨b0, off, cap, rfl, h0, h1, h2⟩
    · go_enter Tryd.func3, Tryd.ntmps3
      go_wp2_with (go_at_call 7; refine (hLg.out _ HL.out).mono ?_; rintro e w' ⟨rfl, rfl⟩)
      refine wp_loop_rounds 1 ?_
      rw [rounds_succ]
      go_wp2
      refine wp_loop_rounds 1 ?_
      rw [rounds_succ]
      go_wp2_with (go_at_call 15; refine (known_any _ (he.on ((Below.refl _ _).alloc (Nat.le_refl _) _))).mono ?_; rintro e w2 ⟨rfl, hb2⟩)
      go_ret
      have q := (Below.refl w'.heap.size w').alloc (Nat.le_refl _) (.cells #[.slice none 0 0] 24)
      exact ⟨rfl, q.trans (hb2.mono q.size)⟩
    · have H1 := Lib.hid h1
      have H2 := Lib.hid h2
      clear h1 h2
      go_enter Tryd.func3, Tryd.ntmps3
      go_wp2_with (go_at_call 7; refine (hLg.out _ HL.out).mono ?_; rintro e w' ⟨rfl, rfl⟩)
      go_loopw [6] (fun i wr => ∃ (qs : List Nat) (x : Value), qs.length ≤ ss.length ∧ i = .int .i64 qs.length ∧ IT w'.heap.size x qs ss w' wr) (fun i _ => ss.length - (intOf i).toNat)
      case atStart => exact ⟨[], .slice none 0 0, Nat.zero_le _, rfl, heap_alloc_new _ _, OwnF.nil ((Below.refl _ _).alloc (Nat.le_refl _) _) (by simp), fun t ht => by simp at ht⟩
      case round =>
        obtain ⟨qs, x, hk, rfl, hI⟩ := hrel
        by_cases hlt : qs.length < ss.length
        · have hc1 := (hI.row.below.cell (p := ⟨b0, off + qs.length, none⟩) H1.out).trans (H2.out _ hlt)
          obtain ⟨a, ha⟩ : ∃ a, a = ss.getD qs.length ByteArray.empty := ⟨_, rfl⟩
          rw [← ha] at hc1
          have HA := Lib.hid ha.symm
          have HI := Lib.hid hI
          have hcv : wr.cell? ⟨w'.heap.size, 0, none⟩ = some x := cell_of_one hI.hv
          have hlen : (qs.map fnOf).length + 1 ≤ 1000000 := by simp; omega
          have hown1 := hI.row.alloc (.cells #[.string a] 9)
          have hwl : w'.heap.size < wr.heap.size := (Array.getElem?_eq_some_iff.1 hI.hv).1
          have HS1 : Hid (wr.heap.size + 1 = (wr.alloc (.cells #[.string a] 9)).heap.size) := Lib.hid (by simp)
          clear ha hI
          go_wp2_with fail
          refine (Lines_any a _).mono ?_
          rintro e w1 ⟨rfl, rfl⟩
          go_wp2_with (at_builtin; go_loud (refine appF rfl _ _ rfl (fnOf wr.heap.size) rfl hown1 _ HS1.out rfl rfl hlen ?_; intro v3 w3 hown3 hkeep _; obtain ⟨g3, cp3, rfl, _⟩ := hown3.cells (by simp); have hst := HI.out.step a HA.out hown3 hkeep; have c5 := cell_of_one hst.2; have f5 := free_of_one hst.2; have HST := Lib.hid hst.1; clear hst hkeep hown3))
          go_roundw
          case rel => exact ⟨qs ++ [wr.heap.size], .slice (some ⟨g3, 0, none⟩) (qs.length + 1) cp3, by simp; omega, by simp, by have := HST.out; simp only [List.length_append, List.length_map, List.length_cons, List.length_nil, Nat.zero_add] at this; exact this⟩
          case measure => simp [intOf]; omega
        · have hql : qs.length = ss.length := by omega
          have HI := Lib.hid hI
          have HQL := Lib.hid hql
          have hba := hI.row.below
          have hHB := Lib.hid hba
          clear hI hk hba hql
          obtain ⟨wa, hwa⟩ : ∃ wa, wa = wr := ⟨_, rfl⟩
          go_wp2
          subst hwa
          go_loopw [8] (fun i wr => ∃ k : Nat, k ≤ 2 * ss.length ∧ i = .int .i64 k ∧ Below wa.heap.size wa wr) (fun i _ => 2 * ss.length - (intOf i).toNat)
          case atStart => exact ⟨0, Nat.zero_le _, rfl, Below.refl _ _⟩
          case round =>
            obtain ⟨k, hk, rfl, hbw⟩ := hrel
            have hbw0 := hHB.out.trans (hbw.mono hHB.out.size)
            by_cases hlt2 : k < 2 * ss.length
            · have ht1 := turnN_lt k ss.length hlt2
              have ht2 := turnN_lt ((k + 1) % (2 * ss.length)) ss.length (Nat.mod_lt _ (by omega))
              have hT1 := Lib.hid (fun W => turn_int (k : Int) (ss.length : Int) k ss.length W rfl rfl hlt2 (by omega))
              have hT2 := Lib.hid (fun W x (hx : x = (((k + 1) % (2 * ss.length) : Nat) : Int)) => turn_int x (ss.length : Int) ((k + 1) % (2 * ss.length)) ss.length W hx rfl (Nat.mod_lt _ (by omega)) (by omega))
              generalize turnN k ss.length = t1 at *
              generalize turnN ((k + 1) % (2 * ss.length)) ss.length = t2 at *
              have hcA := (hbw0.cell (p := ⟨b0, off + t1, none⟩) H1.out).trans (H2.out t1 ht1)
              have hcB := (hbw0.cell (p := ⟨b0, off + t2, none⟩) H1.out).trans (H2.out t2 ht2)
              have hsA := hsz.out t1 ht1
              have hsB := hsz.out t2 ht2
              obtain ⟨A, hA⟩ : ∃ A, A = ss.getD t1 ByteArray.empty := ⟨_, rfl⟩
              obtain ⟨B, hB⟩ : ∃ B, B = ss.getD t2 ByteArray.empty := ⟨_, rfl⟩
              rw [← hA] at hcA hsA
              rw [← hB] at hcB hsB
              have HA := Lib.hid hA
              have HB := Lib.hid hB
              clear hA hB
              have hm0 : (2 * (ss.length : Int)) ≠ 0 := by omega
              have hm1 : (0 : Int) < 2 * (ss.length : Int) := by omega
              have e0 : Hid (((k : Int) + 1) % (2 * (ss.length : Int)) = (((k + 1) % (2 * ss.length) : Nat) : Int)) := Lib.hid (by push_cast; rfl)
              go_wp2_with fail
              refine (hT1.out _).mono ?_
              rintro e w1 ⟨rfl, rfl⟩
              have hw1b : b0 < w1.heap.size := Nat.lt_of_lt_of_le H1.out hbw0.size
              have q2 : Below w1.heap.size w1 ((w1.alloc (.cells #[.int .i64 (t1 : Int)] 3)).alloc (.cells #[.int .i64 (t2 : Int)] 3)) := ((Below.refl _ _).alloc (Nat.le_refl _) _).alloc (by simp) _
              have hcA2 := (q2.cell (p := ⟨b0, off + t1, none⟩) hw1b).trans hcA
              have hcB2 := (q2.cell (p := ⟨b0, off + t2, none⟩) hw1b).trans hcB
              have hci : ((w1.alloc (.cells #[.int .i64 (t1 : Int)] 3)).alloc (.cells #[.int .i64 (t2 : Int)] 3)).cell? ⟨w1.heap.size, 0, none⟩ = some (.int .i64 t1) := cell_of_row _ _ 0 _ _ _ ((heap_alloc_old _ _ (by simp)).trans (heap_alloc_new w1 (.cells #[.int .i64 (t1 : Int)] 3)))
              have hcj : ((w1.alloc (.cells #[.int .i64 (t1 : Int)] 3)).alloc (.cells #[.int .i64 (t2 : Int)] 3)).cell? ⟨w1.heap.size + 1, 0, none⟩ = some (.int .i64 t2) := cell_of_row _ _ 0 _ _ _ (heap_alloc2_new w1 _ _)
              have hs2 : ((w1.alloc (.cells #[.int .i64 (t1 : Int)] 3)).alloc (.cells #[.int .i64 (t2 : Int)] 3)).heap.size = w1.heap.size + 2 := by simp
              go_wp2_with fail
              refine (hT2.out _ _ e0.out).mono ?_
              rintro e w2 ⟨rfl, hw2⟩
              rw [hw2]
              clear hw2
              go_wp2_with fail
              obtain ⟨W2, hW2⟩ : ∃ W2, W2 = (w1.alloc (.cells #[.int .i64 (t1 : Int)] 3)).alloc (.cells #[.int .i64 (t2 : Int)] 3) := ⟨_, rfl⟩
              rw [← hW2] at q2 hcA2 hcB2 hci hcj hs2 ⊢
              clear hW2
              refine (refLines_any A _ (by omega)).mono ?_
              rintro e w3 ⟨vW, rfl, hoW⟩
              obtain ⟨aW, cW, rfl⟩ := hoW.shape
              have hsW := hoW.strs (lns_le A hsA)
              have hb3 := hoW.below
              have HOW := Lib.hid hsW
              clear hoW hsW
              have q3 : Below W2.heap.size W2 (w3.alloc (.cells #[.slice aW (lns (L A)).length cW] 22)) := hb3.alloc hb3.size _
              have hs3 := hb3.size
              have hcA3 := (q3.cell (p := ⟨b0, off + t1, none⟩) (by simp; omega)).trans hcA2
              have hcB3 := (q3.cell (p := ⟨b0, off + t2, none⟩) (by simp; omega)).trans hcB2
              have hci3 := (q3.cell (p := ⟨w1.heap.size, 0, none⟩) (by simp; omega)).trans hci
              have hcj3 := (q3.cell (p := ⟨w1.heap.size + 1, 0, none⟩) (by simp; omega)).trans hcj
              have hcw3 : (w3.alloc (.cells #[.slice aW (lns (L A)).length cW] 22)).cell? ⟨w3.heap.size, 0, none⟩ = some (.slice aW (lns (L A)).length cW) := cell_of_row _ _ 0 _ _ _ (heap_alloc_new w3 _)
              have hs3a : (w3.alloc (.cells #[.slice aW (lns (L A)).length cW] 22)).heap.size = w3.heap.size + 1 := by simp
              have HOW3 := Lib.hid (HOW.out.on ((Below.refl w3.heap.size w3).alloc (Nat.le_refl _) (.cells #[.slice aW (lns (L A)).length cW] 22)))
              clear hcA2 hcB2 hci hcj HOW
              go_wp2_with fail
              obtain ⟨W3, hW3⟩ : ∃ W3, W3 = w3.alloc (.cells #[.slice aW (lns (L A)).length cW] 22) := ⟨_, rfl⟩
              rw [← hW3] at q3 hcA3 hcB3 hci3 hcj3 hcw3 hs3a HOW3 ⊢
              clear hW3
              refine (refLines_any B _ (by omega)).mono ?_
              rintro e w4 ⟨vX, rfl, hoX⟩
              obtain ⟨aX, cX, rfl⟩ := hoX.shape
              have hsX := hoX.strs (lns_le B hsB)
              have hb4 := hoX.below
              have HOX := Lib.hid hsX
              clear hoX hsX
              have q5 : Below W3.heap.size W3 (w4.alloc (.cells #[.slice aX (lns (L B)).length cX] 22)) := hb4.alloc hb4.size _
              have hs4 := hb4.size
              have hcA5 := (q5.cell (p := ⟨b0, off + t1, none⟩) (by simp; omega)).trans hcA3
              have hci5 := (q5.cell (p := ⟨w1.heap.size, 0, none⟩) (by simp; omega)).trans hci3
              have hcj5 := (q5.cell (p := ⟨w1.heap.size + 1, 0, none⟩) (by simp; omega)).trans hcj3
              have hcw5 := (q5.cell (p := ⟨w3.heap.size, 0, none⟩) (by simp; omega)).trans hcw3
              have hcx5 : (w4.alloc (.cells #[.slice aX (lns (L B)).length cX] 22)).cell? ⟨w4.heap.size, 0, none⟩ = some (.slice aX (lns (L B)).length cX) := cell_of_row _ _ 0 _ _ _ (heap_alloc_new w4 _)
              have hs5a : (w4.alloc (.cells #[.slice aX (lns (L B)).length cX] 22)).heap.size = w4.heap.size + 1 := by simp
              have HOX5 := Lib.hid (HOX.out.on ((Below.refl w4.heap.size w4).alloc (Nat.le_refl _) (.cells #[.slice aX (lns (L B)).length cX] 22)))
              have HOW5 := Lib.hid (HOW3.out.on q5)
              have hbs := hbw.size
              have p2 := hbw.trans (q2.mono hbs)
              have p3 := p2.trans (q3.mono p2.size)
              have r5 := p3.trans (q5.mono p3.size)
              clear hcA3 hcB3 hci3 hcj3 hcw3 HOX HOW3 p2 p3
              go_wp2_with fail
              obtain ⟨W5, hW5⟩ : ∃ W5, W5 = w4.alloc (.cells #[.slice aX (lns (L B)).length cX] 22) := ⟨_, rfl⟩
              rw [← hW5] at q5 hcA5 hci5 hcj5 hcw5 hcx5 hs5a HOX5 HOW5 r5 ⊢
              clear hW5
              have hqm : (qs.map fnOf).length = ss.length := by rw [List.length_map]; exact HQL.out
              obtain ⟨gi, cp, rfl, hgi, hcp, hfs⟩ := HI.out.row.cells (by omega)
              rw [hqm] at hcp HI
              have hfn : ∀ t, t < ss.length → wa.cell? ⟨gi, t, none⟩ = some (fnOf (qs.getD t 0)) := fun t ht => by
                rw [hfs t (by omega)]
                have : t < qs.length := by have := HQL.out; omega
                simp [this]
              have HFN := Lib.hid hfn
              clear hfs hfn
              have hlw : w'.heap.size < wa.heap.size := (Array.getElem?_eq_some_iff.1 HI.out.hv).1
              have hqc : ∀ t, t < ss.length → wa.cell? ⟨qs.getD t 0, 0, none⟩ = some (.string (ss.getD t ByteArray.empty)) := fun t ht => cell_of_one (HI.out.hq t (by have := HQL.out; omega))
              have HQC := Lib.hid hqc
              have hql2 : ∀ t, t < ss.length → qs.getD t 0 < wa.heap.size := fun t ht => (Array.getElem?_eq_some_iff.1 (HI.out.hq t (by have := HQL.out; omega))).1
              have HQ2 := Lib.hid hql2
              clear hqc hql2
              have hits : W5.cell? ⟨w'.heap.size, 0, none⟩ = some (.slice (some ⟨gi, 0, none⟩) ss.length cp) := (r5.cell (p := ⟨w'.heap.size, 0, none⟩) hlw).trans (cell_of_one HI.out.hv)
              have hfa : W5.cell? ⟨gi, t1, none⟩ = some (fnOf (qs.getD t1 0)) := (r5.cell (p := ⟨gi, t1, none⟩) hgi).trans (HFN.out t1 ht1)
              have hqa5 : W5.cell? ⟨qs.getD t1 0, 0, none⟩ = some (.string A) := by rw [r5.cell (p := ⟨qs.getD t1 0, 0, none⟩) (HQ2.out t1 ht1), HQC.out t1 ht1, HA.out]
              have hr5s := r5.size
              have hHBs := hHB.out.size
              have q5s := q5.size
              have q3s := q3.size
              have he5 : Env W5 := (he.on hHB.out).on r5
              have hqq := HQ2.out t1 ht1
              have HRQ : RQ w'.heap.size w1.heap.size w3.heap.size gi ss.length cp b0 off t1 (qs.getD t1 0) A (whole (L A)) (.slice aW (lns (L A)).length cW) W5 :=
                RQ.mk' he5 ⟨hits, hci5, hcw5, hfa, hcA5, Below.refl _ _⟩ hsA (by omega) (by omega) (by omega) (by omega) (by have := H1.out; omega) (by omega) hqa5 HOW5.out
              have hgB : ∀ t, t < ss.length → (⟨qs.getD t 0, 0, none⟩ : Addr).block < W5.heap.size := fun t ht => by have := HQ2.out t ht; simp only; omega
              have HLW : LW w'.heap.size w1.heap.size (w1.heap.size + 1) w3.heap.size w4.heap.size gi ss.length cp t1 t2 (fun t => ⟨qs.getD t 0, 0, none⟩) (fun t => ss.getD t ByteArray.empty) (.slice aW (lns (L A)).length cW) (.slice aX (lns (L B)).length cX) W5 :=
                ⟨hits, hci5, hcj5, hcw5, hcx5, fun t ht => (r5.cell (p := ⟨gi, t, none⟩) hgi).trans (HFN.out t ht), fun t ht => (r5.cell (p := ⟨qs.getD t 0, 0, none⟩) (HQ2.out t ht)).trans (HQC.out t ht), ⟨by omega, by omega, by omega, by omega, by omega, by omega, hgB⟩,
                 by have := HOW5.out; rw [HA.out] at this ⊢; exact this, by have := HOX5.out; rw [HB.out] at this ⊢; exact this⟩
              clear hgB
              obtain ⟨qa, hqa⟩ : ∃ qa, qa = qs.getD t1 0 := ⟨_, rfl⟩
              rw [← hqa] at HRQ
              generalize whole (L A) = bb at HRQ
              have hbb : (bb != bb) = false := by simp
              have HQA := Lib.hid hqa
              have i0 : (0 : Int) ≤ (t1 : Int) := by omega
              have i1 : (t1 : Int) < (ss.length : Int) := by omega
              clear hqa hLg hT1 hT2 hits hfa hqa5 hcA5 hci5 hcw5 hqq he5 hcA hcB
              first | (go_region_held3 (fun X => X.cell? ⟨w'.heap.size, 0, none⟩ = some (.slice (some ⟨gi, 0, none⟩) ss.length cp) ∧ X.cell? ⟨w1.heap.size, 0, none⟩ = some (.int .i64 t1) ∧ X.cell? ⟨w3.heap.size, 0, none⟩ = some (.slice aW (lns (L A)).length cW) ∧ X.cell? ⟨gi, t1, none⟩ = some (.func (.func 31) #[] #[.pointer (some ⟨qa, 0, none⟩)]) ∧ X.cell? ⟨b0, off + t1, none⟩ = some (.string A) ∧ Below W5.heap.size W5 X) (first | exact HRQ.sd | assumption) (first | (go_at_call 13; refine (HRQ.g _ _ ?_).mono ?_; assumption; rintro e w6 ⟨rfl, hs6⟩) | (go_at_call 11; refine (HRQ.h1 _ ?_).mono ?_; assumption; rintro e w7 ⟨rfl, hs7⟩) | (go_at_call 12; refine (HRQ.h2 _ ?_).mono ?_; assumption; rintro e w8 ⟨rfl, hs8⟩))) | fail
              obtain ⟨a1, a2, a3, a4, a5, hb6⟩ := hs6
              have r6 := r5.trans (hb6.mono r5.size)
              have he6 : Env w6 := (he.on hHB.out).on r6
              have HLW6 := HLW.on hb6
              have q7 : Below w6.heap.size w6 ((w6.alloc (.cells #[.int .i64 0] 3)).alloc (.cells #[.bool true] 4)) := ((Below.refl _ _).alloc (Nat.le_refl _) _).alloc (by simp) _
              have hb6s := hb6.size
              have l1 : w'.heap.size < w6.heap.size := by omega
              have l2 : w1.heap.size < w6.heap.size := by omega
              have l3 : w3.heap.size < w6.heap.size := by omega
              have l4 : gi < w6.heap.size := by have := r6.size; omega
              have d1 := (q7.cell (p := ⟨w'.heap.size, 0, none⟩) l1).trans a1
              have d2 := (q7.cell (p := ⟨w1.heap.size, 0, none⟩) l2).trans a2
              have d4 := (q7.cell (p := ⟨gi, t1, none⟩) l4).trans a4
              have hls : LS w6.heap.size 0 ((w6.alloc (.cells #[.int .i64 0] 3)).alloc (.cells #[.bool true] 4)) :=
                ⟨cell_of_row _ _ 0 _ _ _ ((heap_alloc_old _ _ (by simp)).trans (heap_alloc_new w6 _)), cell_of_row _ _ 0 _ _ _ (heap_alloc2_new w6 _ _), frozen_of_row _ _ 0 _ _ ((heap_alloc_old _ _ (by simp)).trans (heap_alloc_new w6 _)), frozen_of_row _ _ 0 _ _ (heap_alloc2_new w6 _ _)⟩
              have HLS := Lib.hid hls
              have HIn := Lib.hid (inner_any w6.heap.size w6 _ rfl he6 HLW6 q7 ht1 ht2 (fun t ht => Nat.le_trans (hsz.out t ht) (by omega)) hls)
              rw [← HQA.out] at HIn
              clear HRQ hls a1 a2 a3 a4 a5
              go_wp2_with fail
              refine HIn.out.mono ?_
              rintro e w9 ⟨rfl, h9, hb9⟩
              have h9' : LS w6.heap.size (lns (L A)).length w9 := by have := h9; rw [← HA.out] at this; exact this
              obtain ⟨c0, c1, f0, f1⟩ := h9'
              have cw9 := (hb9.cell (p := ⟨w3.heap.size, 0, none⟩) l3).trans HLW6.hw
              have r9 := r6.trans (hb9.mono r6.size)
              have HR9 := Lib.hid r9
              have hne : (((lns (L A)).length : Int) != ((lns (L A)).length : Int)) = false := by simp
              clear HIn h9 hb9 d1 d2 d4 q7 HLW6 HLW r9 l1 l2 l3 l4 he6 r6 hb6 hb6s hbb i0 i1 hcj5 hcx5 r5 hr5s hHBs q5s q3s hs5a hs4 hs3a hs3 hs2 hbs q5 q3 q2 hb3 hb4 hgi hcp hlw hqm hw1b
              go_wp2
              go_roundw
              case rel => exact ⟨k + 1, by omega, by go_num, HR9.out⟩
              case measure => simp [intOf]; omega
            · go_wp2_with (go_at_call 15; refine (known_any _ (he.on hbw0)).mono ?_; rintro e w2 ⟨rfl, hb2⟩)
              go_ret
              exact ⟨rfl, hbw0.trans (hb2.mono hbw0.size)⟩
end Go.Proofs.YtclegocofiigiabDoor
