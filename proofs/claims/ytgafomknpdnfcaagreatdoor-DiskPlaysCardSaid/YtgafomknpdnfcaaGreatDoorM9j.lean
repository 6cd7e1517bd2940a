/- DiskPlays: how both disks stand between two calls. -/
import Derived.Test.YtgafomknpdnfcaaGreatDoorM9g
import Derived.Test.YtgafomknpdnfcaaGreatDoorM9i
namespace Go.Proofs.YtgafomknpdnfcaaGreatDoor
open Go.RowKit Go.Lib

section
variable {P : Program} {ops : Array Oper} {Q : Exit → Act → World → Prop} {md : Region.Mode} {S : World → Prop} {L : Nat}
/-- Two operations are ready: each of them may come first. -/
theorem wpAnyN_two {i j : Nat} {o1 o2 : Oper} {fuel : Nat} {listed : Array Bool} {a : Act} {w : World} (hr : Region.ready md ops listed = [i, j]) (ho1 : ops[i]? = some o1) (ho2 : ops[j]? = some o2)
    (h1 : ∀ K' : Act → World → Prop, Shut (∀ a w, ((listed.setIfInBounds i true).getD L false = false → S w) → wpAnyN P md ops Q S L fuel (listed.setIfInBounds i true) a w → K' a w) → if Region.wanted o1 (yielded ops a.tmps) = true then Oper.wp P o1 a w K' Q else K' (a.put o1.dst undef) w)
    (h2 : ∀ K' : Act → World → Prop, Shut (∀ a w, ((listed.setIfInBounds j true).getD L false = false → S w) → wpAnyN P md ops Q S L fuel (listed.setIfInBounds j true) a w → K' a w) → if Region.wanted o2 (yielded ops a.tmps) = true then Oper.wp P o2 a w K' Q else K' (a.put o2.dst undef) w) : wpAnyN P md ops Q S L (fuel + 1) listed a w := by
  refine ⟨fun h0 => (by rw [hr] at h0; cases h0), fun k hk => ?_⟩
  rw [hr] at hk
  have : k = i ∨ k = j := by simpa using hk
  rcases this with rfl | rfl
  · exact wpOp_step ho1 (fun K' hK => h1 K' (fun a w hS hW => hK a w ⟨hS, hW⟩))
  · exact wpOp_step ho2 (fun K' hK => h2 K' (fun a w hS hW => hK a w ⟨hS, hW⟩))
end
/-- Between two calls: the document's disk lies in the box bx. -/
structure PlayI (A : Whys) (w : World) (d bx k : Nat) (S : DS) (P : List PF) (K : List (Nat × Obj)) (l : List PF) (rs : List (Int × Int × Int)) (si : Int) (fv sv : Value) (X : World) : Prop where
  dk : Dk A w d S P ((bx, .cells #[fv, .int .i64 (S.quota : Int), .int .i64 (S.steps : Int), sv, .int .i64 si, .bool (!S.runs)] 32 (0, 0)) :: K) X
  rf : Rf K fv sv l rs X
  meet : Meet S P l rs si
  steps : S.steps ≤ k
  nb : ∀ x, x ∈ K → x.1 ≠ bx
  lo : w.heap.size ≤ bx
/-- Behind a call: what it answered lies in the box yb, or will. -/
structure PlayM (A : Whys) (w : World) (d bx yb k : Nat) (S : DS) (P : List PF) (K : List (Nat × Obj)) (l : List PF) (rs : List (Int × Int × Int)) (si : Int) (fv sv : Value) (W : World) : Prop where
  dk : Dk A w d S P K W
  hb : ∃ cs, (bx, .cells cs 32 (0, 0)) ∈ K ∧ cs.size = 6
  hy : (yb, .cells #[.slice none 0 0, .int .i64 0, .int .i64 0, .slice none 0 0, .int .i64 0, .bool false] 32 (0, 0)) ∈ K
  ne : yb ≠ bx
  rf : Rf K fv sv l rs W
  fb : ∀ b, fv.ownBlock = some b → b ≠ bx ∧ b ≠ yb
  sb : ∀ b, svBlk sv = some b → b ≠ bx ∧ b ≠ yb
  meet : Meet S P l rs si
  steps : S.steps ≤ k
  lo : w.heap.size ≤ bx
  ly : w.heap.size ≤ yb
theorem Dk.put {A : Whys} {w0 w w' : World} {d : Nat} {S : DS} {P : List PF} {K : List (Nat × Obj)} (h : Dk A w0 d S P K w) {g : Nat} {o o' : Obj} (hg : (g, o) ∈ K) (hg0 : w0.heap.size ≤ g) (hz : w.heap.size ≤ w'.heap.size) (hos : w'.os = w.os ∧ w'.tape = w.tape ∧ w'.output = w.output) (hs : ∀ b, b ≠ g → b < w.heap.size → w'.heap[b]? = w.heap[b]?) (ho : w'.heap[g]? = some o') : Dk A w0 d S P ((g, o') :: K.filter fun x => decide (x.1 ≠ g)) w' := by
  obtain ⟨m, sv, clk, F, hD, rfl, hb0, he, hK⟩ := h
  have hb : Below w0.heap.size w w' := ⟨hos.1, hos.2.1, hos.2.2, hz, fun b hb => hs b (by omega) (Nat.lt_of_lt_of_le hb hb0.size)⟩
  refine ⟨m, sv, clk, F, hD.same hz (fun b hm => hs b (fun e => (hK _ hg).2 (e ▸ hm)) (hD.lt hm)), rfl, hb0.trans hb, he.below hb, fun x hx => ?_⟩
  rcases List.mem_cons.1 hx with rfl | hx
  · exact ⟨ho, (hK _ hg).2⟩
  · obtain ⟨h1, h2⟩ := List.mem_filter.1 hx
    exact ⟨by rw [hs _ (by simpa using h2) (lt_of_heap (hK x h1).1)]; exact (hK x h1).1, (hK x h1).2⟩
theorem Dk.row {A : Whys} {w0 w : World} {d : Nat} {S : DS} {P : List PF} {K : List (Nat × Obj)} (h : Dk A w0 d S P K w) {g : Nat} {cs : Array Value} {t : TypeId} (cs' : Array Value) (hg : (g, .cells cs t (0, 0)) ∈ K) (hg0 : w0.heap.size ≤ g) : Dk A w0 d S P ((g, .cells cs' t (0, 0)) :: K.filter fun x => decide (x.1 ≠ g)) (w.setRow g cs') :=
  h.put hg hg0 (by simp [World.setRow]) ⟨rfl, rfl, rfl⟩ (fun b hne _ => setRow_other _ _ _ _ hne) (setRow_heap _ _ _ _ _ _ (h.kept hg))
theorem PlayM.next {A : Whys} {w : World} {d bx yb k : Nat} {S : DS} {P : List PF} {K : List (Nat × Obj)} {l : List PF} {rs : List (Int × Int × Int)} {si : Int} {fv sv : Value} {W : World} (h : PlayM A w d bx yb k S P K l rs si fv sv W) (cs : Array Value) : ∃ K', PlayI A w d bx k S P K' l rs si fv sv ((W.setRow yb cs).setRow bx #[fv, .int .i64 (S.quota : Int), .int .i64 (S.steps : Int), sv, .int .i64 si, .bool (!S.runs)]) := by
  obtain ⟨cx, hx, _⟩ := h.hb
  have d1 := h.dk.row cs h.hy h.ly
  have hx1 : (bx, Obj.cells cx 32 (0, 0)) ∈ ((yb, Obj.cells cs 32 (0, 0)) :: K.filter fun x => decide (x.1 ≠ yb)) := List.mem_cons_of_mem _ (List.mem_filter.2 ⟨hx, by simpa using fun e => h.ne e.symm⟩)
  have d2 := d1.row #[fv, .int .i64 (S.quota : Int), .int .i64 (S.steps : Int), sv, .int .i64 si, .bool (!S.runs)] hx1 h.lo
  refine ⟨((yb, Obj.cells cs 32 (0, 0)) :: K.filter fun x => decide (x.1 ≠ yb)).filter fun x => decide (x.1 ≠ bx), d2, ?_, h.meet, h.steps, fun _ hx => by simpa using (List.mem_filter.1 hx).2, h.lo⟩
  have hin : ∀ b o, (b, o) ∈ K → b ≠ bx ∧ b ≠ yb → (b, o) ∈ ((yb, Obj.cells cs 32 (0, 0)) :: K.filter fun x => decide (x.1 ≠ yb)).filter fun x => decide (x.1 ≠ bx) := fun b o ho hne =>
    List.mem_filter.2 ⟨List.mem_cons_of_mem _ (List.mem_filter.2 ⟨ho, by simpa using hne.2⟩), by simpa using hne.1⟩
  exact ⟨h.rf.fs.kept (fun b e => by obtain ⟨o, ho⟩ := h.rf.fk b e; exact ⟨o, h.dk.kept ho, d2.kept (List.mem_cons_of_mem _ (hin b o ho (h.fb b e)))⟩), h.rf.ss.kept (fun b e => by obtain ⟨o, ho⟩ := h.rf.sk b e; exact ⟨o, h.dk.kept ho, d2.kept (List.mem_cons_of_mem _ (hin b o ho (h.sb b e)))⟩), fun b e => by obtain ⟨o, ho⟩ := h.rf.fk b e; exact ⟨o, hin b o ho (h.fb b e)⟩, fun b e => by obtain ⟨o, ho⟩ := h.rf.sk b e; exact ⟨o, hin b o ho (h.sb b e)⟩⟩
theorem Rf.more {K K' : List (Nat × Obj)} {fv sv : Value} {l : List PF} {rs : List (Int × Int × Int)} {w : World} (h : Rf K fv sv l rs w) (hK : ∀ x, x ∈ K → x ∈ K') : Rf K' fv sv l rs w :=
  ⟨h.fs, h.ss, fun b hb => by obtain ⟨o, ho⟩ := h.fk b hb; exact ⟨o, hK _ ho⟩, fun b hb => by obtain ⟨o, ho⟩ := h.sk b hb; exact ⟨o, hK _ ho⟩⟩
theorem PlayI.up {A : Whys} {w : World} {d bx k : Nat} {S : DS} {P : List PF} {K : List (Nat × Obj)} {l : List PF} {rs : List (Int × Int × Int)} {si : Int} {fv sv : Value} {X Y : World} (h : PlayI A w d bx k S P K l rs si fv sv X) (hb : Below X.heap.size X Y) : PlayI A w d bx k S P K l rs si fv sv Y :=
  ⟨h.dk.up hb, ⟨h.rf.fs.on hb, h.rf.ss.on hb, h.rf.fk, h.rf.sk⟩, h.meet, h.steps, h.nb, h.lo⟩
theorem PlayI.same {A : Whys} {w : World} {d bx k : Nat} {S : DS} {P : List PF} {K : List (Nat × Obj)} {l : List PF} {rs : List (Int × Int × Int)} {si : Int} {fv sv : Value} {X : World} (h : PlayI A w d bx k S P K l rs si fv sv X) (hk : k ≤ 1000000) :
    Calls Tryz.prog 9 #[.pointer (some ⟨d, 0, none⟩), .agg #[fv, .int .i64 (S.quota : Int), .int .i64 (S.steps : Int), sv, .int .i64 si, .bool (!S.runs)]] X fun e w' => e = .returned (.bool true) ∧ Below X.heap.size X w' :=
  same_both h.dk (h.rf.more (fun _ hx => List.mem_cons_of_mem _ hx)) h.meet (Nat.le_trans h.steps hk)
/-- The call, whether yb is laid ahead of it (B = true) or behind it. -/
theorem PlayI.called {A : Whys} {w : World} {d bx k : Nat} {S : DS} {P : List PF} {K : List (Nat × Obj)} {l : List PF} {rs : List (Int × Int × Int)} {si : Int} {fv sv : Value} {X W : World} (h : PlayI A w d bx k S P K l rs si fv sv X) (hk : k ≤ 1000000) (hg : w.cell? ⟨5, 0, none⟩ = some (rtV 26)) (Kn : List (Nat × Obj)) (hb : Below X.heap.size X W) (hn : ∀ x, x ∈ Kn → X.heap.size ≤ x.1 ∧ W.heap[x.1]? = some x.2) {b o : Nat} (q : ActR) (ll : List (Int × Int × Int)) (hac : ActSt w b o q ll) :
    Calls Tryz.prog 8 #[.pointer (some ⟨d, 0, none⟩), .agg #[fv, .int .i64 (S.quota : Int), .int .i64 (S.steps : Int), sv, .int .i64 si, .bool (!S.runs)], .agg q.cells] W fun e w' => CalOut A w W d S (Kn ++ ((bx, .cells #[fv, .int .i64 (S.quota : Int), .int .i64 (S.steps : Int), sv, .int .i64 si, .bool (!S.runs)] 32 (0, 0)) :: K)) fv sv e w' :=
  called_allB (h.dk.keepL hb Kn hn) (h.rf.go (h.dk.fewer (fun x hx => List.mem_cons_of_mem _ hx)) (h.dk.keepL hb Kn hn) (fun x hx => List.mem_append_right _ (List.mem_cons_of_mem _ hx))) h.meet (by have := h.steps; omega) hg q ll hac.stops hac.inl hac.sn hac.act.hname hac.act.hdest hac.hdata
/-- The call came first: then yb is laid. -/
theorem PlayI.first {A : Whys} {w : World} {d bx k : Nat} {S : DS} {P : List PF} {K : List (Nat × Obj)} {l : List PF} {rs : List (Int × Int × Int)} {si : Int} {fv sv : Value} {X W W5 : World} (h : PlayI A w d bx k S P K l rs si fv sv X) (hb : Below X.heap.size X W) {e : Ending} (hO : CalOut A w W d S ([] ++ ((bx, .cells #[fv, .int .i64 (S.quota : Int), .int .i64 (S.steps : Int), sv, .int .i64 si, .bool (!S.runs)] 32 (0, 0)) :: K)) fv sv e W5) : ∃ S' P' K' l' rs' si' fa' fc' sa' sc' fl' sl', e = .returned (.tuple #[.agg #[.slice fa' fl' fc', .int .i64 (S'.quota : Int), .int .i64 (S'.steps : Int), .slice sa' sl' sc', .int .i64 si', .bool (!S'.runs)], .bool true]) ∧ PlayM A w d bx W5.heap.size (k + 1) S' P' K' l' rs' si' (.slice fa' fl' fc') (.slice sa' sl' sc') (W5.alloc (.cells #[.slice none 0 0, .int .i64 0, .int .i64 0, .slice none 0 0, .int .i64 0, .bool false] 32)) := by
  obtain ⟨S', P', K', l', rs', si', fv', sv', rfl, hD, hR, hM, hK, hst, hfo, hso⟩ := hO
  obtain ⟨fa', fc', hfv, _⟩ := hR.fs.form
  obtain ⟨sa', sc', hsv, _⟩ := id hR.ss
  subst hfv hsv
  have hb1 : Below W5.heap.size W5 (W5.alloc (.cells #[.slice none 0 0, .int .i64 0, .int .i64 0, .slice none 0 0, .int .i64 0, .bool false] 32)) := (Below.refl _ _).alloc (Nat.le_refl _) _
  have hD1 := hD.keepL hb1 [(W5.heap.size, .cells #[.slice none 0 0, .int .i64 0, .int .i64 0, .slice none 0 0, .int .i64 0, .bool false] 32 (0, 0))] (fun x hx => by rw [List.mem_singleton.1 hx]; exact ⟨Nat.le_refl _, heap_alloc_new _ _⟩)
  have hbx := hK _ (List.mem_append_right _ (List.mem_cons_self ..))
  have hlx : bx < W5.heap.size := hD.ltK _ hbx
  have hlX : bx < X.heap.size := h.dk.ltK _ (List.mem_cons_self ..)
  refine ⟨S', P', _, l', rs', si', fa', fc', sa', sc', l'.length, rs'.length, rfl, hD1, ⟨_, List.mem_append_right _ hbx, rfl⟩, by simp, by omega, hR.go hD hD1 (fun x hx => List.mem_append_right _ hx), fun b e => ?_, fun b e => ?_, hM, by have := h.steps; omega, h.lo, by have := hD.w0.size; omega⟩
  · obtain ⟨o, ho⟩ := hR.fk b e
    have hbl := hD.ltK _ ho
    simp only at hbl
    refine ⟨?_, by omega⟩
    rcases hfo b e with e' | e'
    · obtain ⟨o', ho'⟩ := h.rf.fk b e'
      exact h.nb _ ho'
    · have := hb.size; omega
  · obtain ⟨o, ho⟩ := hR.sk b e
    have hbl := hD.ltK _ ho
    simp only at hbl
    refine ⟨?_, by omega⟩
    rcases hso b e with e' | e'
    · obtain ⟨o', ho'⟩ := h.rf.sk b e'
      exact h.nb _ ho'
    · have := hb.size; omega
/-- yb was laid first. -/
theorem PlayI.second {A : Whys} {w : World} {d bx k : Nat} {S : DS} {P : List PF} {K : List (Nat × Obj)} {l : List PF} {rs : List (Int × Int × Int)} {si : Int} {fv sv : Value} {X W W5 : World} (h : PlayI A w d bx k S P K l rs si fv sv X) (_hb : Below X.heap.size X W) (hz : X.heap.size < W.heap.size) {e : Ending} (hO : CalOut A w W d S ([(X.heap.size, .cells #[.slice none 0 0, .int .i64 0, .int .i64 0, .slice none 0 0, .int .i64 0, .bool false] 32 (0, 0))] ++ ((bx, .cells #[fv, .int .i64 (S.quota : Int), .int .i64 (S.steps : Int), sv, .int .i64 si, .bool (!S.runs)] 32 (0, 0)) :: K)) fv sv e W5) : ∃ S' P' K' l' rs' si' fa' fc' sa' sc' fl' sl', e = .returned (.tuple #[.agg #[.slice fa' fl' fc', .int .i64 (S'.quota : Int), .int .i64 (S'.steps : Int), .slice sa' sl' sc', .int .i64 si', .bool (!S'.runs)], .bool true]) ∧ PlayM A w d bx X.heap.size (k + 1) S' P' K' l' rs' si' (.slice fa' fl' fc') (.slice sa' sl' sc') W5 := by
  obtain ⟨S', P', K', l', rs', si', fv', sv', rfl, hD, hR, hM, hK, hst, hfo, hso⟩ := hO
  obtain ⟨fa', fc', hfv, _⟩ := hR.fs.form
  obtain ⟨sa', sc', hsv, _⟩ := id hR.ss
  subst hfv hsv
  have hbx := hK _ (List.mem_append_right _ (List.mem_cons_self ..))
  have hlX : bx < X.heap.size := h.dk.ltK _ (List.mem_cons_self ..)
  refine ⟨S', P', K', l', rs', si', fa', fc', sa', sc', l'.length, rs'.length, rfl, hD, ⟨_, hbx, rfl⟩, hK _ (by simp), by omega, hR, fun b e => ?_, fun b e => ?_, hM, by have := h.steps; omega, h.lo, h.dk.w0.size⟩
  · rcases hfo b e with e' | e'
    · obtain ⟨o', ho'⟩ := h.rf.fk b e'
      have := h.dk.ltK _ (List.mem_cons_of_mem _ ho')
      simp only at this
      exact ⟨h.nb _ ho', by omega⟩
    · exact ⟨by omega, by omega⟩
  · rcases hso b e with e' | e'
    · obtain ⟨o', ho'⟩ := h.rf.sk b e'
      have := h.dk.ltK _ (List.mem_cons_of_mem _ ho')
      simp only at this
      exact ⟨h.nb _ ho', by omega⟩
    · exact ⟨by omega, by omega⟩
end Go.Proofs.YtgafomknpdnfcaaGreatDoor

/- DiskPlays: the walk. -/
namespace Go.Proofs.YtgafomknpdnfcaaGreatDoor
open Go.RowKit Go.Lib

theorem CalOut.kept {A : Whys} {w0 w w' : World} {d : Nat} {S : DS} {K : List (Nat × Obj)} {fv sv : Value} {e : Ending} (h : CalOut A w0 w d S K fv sv e w') : (∀ x, x ∈ K → w'.heap[x.1]? = some x.2) ∧ Below w0.heap.size w0 w' := by
  obtain ⟨S', P', K', l', rs', si', fv', sv', rfl, hD, hR, hM, hK, hst, hfo, hso⟩ := h
  exact ⟨fun x hx => hD.kept (hK x hx), hD.w0⟩
set_option maxRecDepth 20000 in
set_option maxHeartbeats 16000000 in
theorem plays_walk {A : Whys} {B : Nat} {w : World} (he : Env A B w) (hg : w.cell? ⟨5, 0, none⟩ = some (rtV 26)) (q : Nat) (hq1 : 1 ≤ q) (hq2 : q ≤ 1048576) (a : Option Addr) (len c : Nat) (hs : ActsSt w a len) :
    Calls Tryz.prog 3 #[.int .i64 (q : Int), .slice a len c] w fun e w' => e = .returned (.bool true) ∧ Below w.heap.size w w' := by
  have HK := Lib.hid (known_any he)
  have HN := Lib.hid (fun W (hb : Below w.heap.size w W) => NewD (A := A) (w0 := w) (w := W) hb ((he.up he.hi (Nat.le_refl _)).below hb) q hq1 hq2)
  have HRN := Lib.hid (fun W => rNew_ok (q : Int) (by omega) (by omega) W)
  have HA := Lib.hid hs
  have HG := Lib.hid hg
  have HQ := Lib.hid (And.intro hq1 hq2)
  have hqi : (q : Int) ≤ 1048576 := by omega
  have hlen : (len : Int) ≤ 4611686018427387904 := by have := hs.1; omega
  clear he hs hq1 hq2 hg
  unfold refD at HRN
  go_enter Tryz.func3, Tryz.ntmps3
  go_upto_region 6 with (first | (go_at_call 5; refine HK.out.mono ?_; rintro e w1 ⟨rfl, hb1⟩; have HB1 := Lib.hid hb1; clear hb1) | (go_at_call 6; refine (HN.out _ HB1.out).mono ?_; rintro e w2 ⟨d, rfl, h2⟩; have K2 := Lib.hid h2; clear h2) | (go_at_call 7; refine (HRN.out _).mono ?_; rintro e w3 ⟨rfl, hb3⟩; have HB3 := Lib.hid hb3; clear hb3))
  have HI0 : Hid (PlayI A w d w3.heap.size 0 ⟨q, 0, true, []⟩ [] [] [] [] 0 (.slice none 0 0) (.slice none 0 0) (w3.alloc (.cells #[.slice none 0 0, .int .i64 (q : Int), .int .i64 0, .slice none 0 0, .int .i64 0, .bool false] 32))) := Lib.hid (by
    have hD3 := K2.out.up HB3.out
    have hb4 : Below w3.heap.size w3 (w3.alloc (.cells #[.slice none 0 0, .int .i64 (q : Int), .int .i64 0, .slice none 0 0, .int .i64 0, .bool false] 32)) := (Below.refl _ _).alloc (Nat.le_refl _) _
    refine ⟨hD3.keep hb4 (Nat.le_refl _) (heap_alloc_new _ _), ⟨.inl ⟨rfl, rfl⟩, ⟨none, 0, rfl, .inl rfl⟩, (fun b e => by cases e), (fun b e => by cases e)⟩, Meet.new HQ.out.1 HQ.out.2, Nat.le_refl _, (fun x hx => by cases hx), hD3.w0.size⟩)
  generalize hbx : w3.heap.size = bx at HI0 ⊢
  clear hbx
  generalize w3.alloc (.cells #[.slice none 0 0, .int .i64 (q : Int), .int .i64 0, .slice none 0 0, .int .i64 0, .bool false] 32) = W4 at HI0 ⊢
  clear HN HK HB1 HB3 HRN K2
  go_wp2_with fail
  go_loopw [10, 11, 12] (fun vi vy vo wr => ∃ (k : Nat) (X : World) (u1 u2 : Value) (S : DS) (P : List PF) (K : List (Nat × Obj)) (l : List PF) (rs : List (Int × Int × Int)) (si : Int) (fv sv : Value), X = wr ∧ vy = u1 ∧ vo = u2 ∧ vi = .int .i64 k ∧ k ≤ 150 ∧ PlayI A w d bx k S P K l rs si fv sv X) (fun i _ _ _ => 150 - (Go.RowKit.intOf i).toNat)
  case atStart => exact ⟨0, _, _, _, _, _, _, _, _, _, _, _, rfl, rfl, rfl, rfl, by omega, HI0.out⟩
  case round =>
    clear HI0
    obtain ⟨k, X, u1, u2, S, P, K0, l, rs, si, fv, sv, hX, hu1, hu2, rfl, hk, hI⟩ := hrel
    subst hX
    subst hu1
    subst hu2
    have hk2 : (k : Int) ≤ 150 := by omega
    have HW := Lib.hid hI.dk.w0
    by_cases hlt : k < len
    · by_cases h150 : k < 150
      · obtain ⟨b, o, ha, hbw, hall⟩ := HA.out.2 (by omega)
        obtain ⟨ac, ll, hac0⟩ := hall k hlt
        obtain ⟨fa, fc, hfv, _⟩ := hI.rf.fs.form
        obtain ⟨sa, sc, hsv, _⟩ := id hI.rf.ss
        subst hfv hsv
        subst ha
        generalize hfl : l.length = fl at hI
        generalize hsl : rs.length = sl at hI
        clear hfl hsl
        have HI := Lib.hid hI
        have hli : (k : Int) < (len : Int) := by omega
        have h15 : (k : Int) < 150 := by omega
        have HLt := Lib.hid (And.intro hlt h150)
        have hbx := hI.dk.kept (List.mem_cons_self ..)
        simp only at hbx
        have hbl := lt_of_heap hbx
        have HBa : Hid (Below X.heap.size X (X.drew.alloc (.cells #[.slice none 0 0, .int .i64 0, .int .i64 0, .slice none 0 0, .int .i64 0, .bool false] 32)) ∧ X.heap.size < (X.drew.alloc (.cells #[.slice none 0 0, .int .i64 0, .int .i64 0, .slice none 0 0, .int .i64 0, .bool false] 32)).heap.size) := Lib.hid ⟨(Below.refl _ _).drew.alloc (Nat.le_refl _) _, by simp⟩
        have HCal1 := Lib.hid (hI.called (by omega) HG.out [] (Below.refl X.heap.size X).drew (fun x hx => by cases hx) ac ll hac0)
        have HCal2 := Lib.hid (hI.called (by omega) HG.out [(X.heap.size, .cells #[.slice none 0 0, .int .i64 0, .int .i64 0, .slice none 0 0, .int .i64 0, .bool false] 32 (0, 0))] HBa.out.1 (fun x hx => by rw [List.mem_singleton.1 hx]; exact ⟨Nat.le_refl _, heap_alloc_new X.drew _⟩) ac ll hac0)
        have HAct : Hid (∀ W, Below w.heap.size w W → ActAt W b (o + k * 7) ac) := Lib.hid (fun W hW => (hac0.on hbw hW).act)
        have HS0 : Hid (X.drew.heap[bx]? = some (.cells #[.slice fa fl fc, .int .i64 (S.quota : Int), .int .i64 (S.steps : Int), .slice sa sl sc, .int .i64 si, .bool (!S.runs)] 32 (0, 0)) ∧ Below w.heap.size w X.drew) := Lib.hid ⟨hbx, HW.out.drew⟩
        have HSa : Hid ((X.drew.alloc (.cells #[.slice none 0 0, .int .i64 0, .int .i64 0, .slice none 0 0, .int .i64 0, .bool false] 32)).heap[bx]? = some (.cells #[.slice fa fl fc, .int .i64 (S.quota : Int), .int .i64 (S.steps : Int), .slice sa sl sc, .int .i64 si, .bool (!S.runs)] 32 (0, 0)) ∧ Below w.heap.size w (X.drew.alloc (.cells #[.slice none 0 0, .int .i64 0, .int .i64 0, .slice none 0 0, .int .i64 0, .bool false] 32))) := Lib.hid ⟨by rw [Below.heap_alloc X.drew _ _ hbl]; exact hbx, HW.out.drew.alloc HW.out.size _⟩
        obtain ⟨kind, on, name, dest, data, nn, qsa, qsn, qsc⟩ := ac
        simp only [ActR.cells] at HCal1 HCal2
        obtain ⟨c0, c1, c2, c3, c4, c5, c6, _, _⟩ := HAct.out X HW.out
        simp only at c0 c1 c2 c3 c4 c5 c6
        obtain ⟨x0, x1, x2, x3, x4, x5⟩ := dskC hbx
        clear hac0 hall hbw hI hlt h150 hbx hbl hk
        go_upto_region 11 with fail
        clear c0 c1 c2 c3 c4 c5 c6 x0 x1 x2 x3 x4 x5
        refine wp_region_N 12 (fun X => X.heap[bx]? = some (.cells #[.slice fa fl fc, .int .i64 (S.quota : Int), .int .i64 (S.steps : Int), .slice sa sl sc, .int .i64 si, .bool (!S.runs)] 32 (0, 0)) ∧ Below w.heap.size w X) (by kernel_rfl) ?_
        refine wpAnyN_take (i := 0) (oi := { dst := some 53, op := Go.Op.move (Go.Operand.tmp 6), type := 24, pos := "law.go:178", after := #[], guard := none }) (oL := { dst := some 12, op := Go.Op.assign (Go.Operand.tmp 61), type := 4, pos := "law.go:178", after := #[{ on := 9, ground := Go.Ground.data }, { on := 11, ground := Go.Ground.chain }, { on := 0, ground := Go.Ground.phase }, { on := 1, ground := Go.Ground.phase }, { on := 2, ground := Go.Ground.phase }, { on := 3, ground := Go.Ground.phase }, { on := 4, ground := Go.Ground.phase }, { on := 5, ground := Go.Ground.phase }, { on := 6, ground := Go.Ground.phase }, { on := 7, ground := Go.Ground.phase }, { on := 8, ground := Go.Ground.phase }, { on := 9, ground := Go.Ground.phase }, { on := 10, ground := Go.Ground.phase }, { on := 11, ground := Go.Ground.phase }], guard := none }) (v := .pointer (some ⟨d, 0, none⟩)) rfl rfl (by kernel_rfl) (by kernel_rfl) (by kernel_rfl) (by kernel_rfl) (fun _ _ _ h => h) (Or.inl ⟨by kernel_rfl, ?_⟩) HS0.out ?_
        · (intro X hX; obtain ⟨x0, x1, x2, x3, x4, x5⟩ := dskC hX.1; obtain ⟨c0, c1, c2, c3, c4, c5, c6, _, _⟩ := HAct.out _ hX.2; simp only at c0 c1 c2 c3 c4 c5 c6 <;> (go_simp; (try (with_reducible rfl)); (try omega)))
        (try simp only [Act.put, List.setIfInBounds_toArray, List.set_cons_zero, List.set_cons_succ])
        refine wpAnyN_take (i := 1) (oi := { dst := some 54, op := Go.Op.load 32 (Go.Operand.tmp 8), type := 32, pos := "law.go:178", after := #[], guard := none }) (oL := { dst := some 12, op := Go.Op.assign (Go.Operand.tmp 61), type := 4, pos := "law.go:178", after := #[{ on := 9, ground := Go.Ground.data }, { on := 11, ground := Go.Ground.chain }, { on := 0, ground := Go.Ground.phase }, { on := 1, ground := Go.Ground.phase }, { on := 2, ground := Go.Ground.phase }, { on := 3, ground := Go.Ground.phase }, { on := 4, ground := Go.Ground.phase }, { on := 5, ground := Go.Ground.phase }, { on := 6, ground := Go.Ground.phase }, { on := 7, ground := Go.Ground.phase }, { on := 8, ground := Go.Ground.phase }, { on := 9, ground := Go.Ground.phase }, { on := 10, ground := Go.Ground.phase }, { on := 11, ground := Go.Ground.phase }], guard := none }) (v := .agg #[.slice fa fl fc, .int .i64 (S.quota : Int), .int .i64 (S.steps : Int), .slice sa sl sc, .int .i64 si, .bool (!S.runs)]) rfl rfl (by kernel_rfl) (by kernel_rfl) (by kernel_rfl) (by kernel_rfl) (fun _ _ _ h => h) (Or.inl ⟨by kernel_rfl, ?_⟩) HS0.out ?_
        · (intro X hX; obtain ⟨x0, x1, x2, x3, x4, x5⟩ := dskC hX.1; obtain ⟨c0, c1, c2, c3, c4, c5, c6, _, _⟩ := HAct.out _ hX.2; simp only at c0 c1 c2 c3 c4 c5 c6 <;> (go_simp; (try (with_reducible rfl)); (try omega)))
        (try simp only [Act.put, List.setIfInBounds_toArray, List.set_cons_zero, List.set_cons_succ])
        refine wpAnyN_take (i := 2) (oi := { dst := some 55, op := Go.Op.move (Go.Operand.tmp 1), type := 22, pos := "law.go:178", after := #[], guard := none }) (oL := { dst := some 12, op := Go.Op.assign (Go.Operand.tmp 61), type := 4, pos := "law.go:178", after := #[{ on := 9, ground := Go.Ground.data }, { on := 11, ground := Go.Ground.chain }, { on := 0, ground := Go.Ground.phase }, { on := 1, ground := Go.Ground.phase }, { on := 2, ground := Go.Ground.phase }, { on := 3, ground := Go.Ground.phase }, { on := 4, ground := Go.Ground.phase }, { on := 5, ground := Go.Ground.phase }, { on := 6, ground := Go.Ground.phase }, { on := 7, ground := Go.Ground.phase }, { on := 8, ground := Go.Ground.phase }, { on := 9, ground := Go.Ground.phase }, { on := 10, ground := Go.Ground.phase }, { on := 11, ground := Go.Ground.phase }], guard := none }) (v := .slice (some ⟨b, o, none⟩) len c) rfl rfl (by kernel_rfl) (by kernel_rfl) (by kernel_rfl) (by kernel_rfl) (fun _ _ _ h => h) (Or.inl ⟨by kernel_rfl, ?_⟩) HS0.out ?_
        · (intro X hX; obtain ⟨x0, x1, x2, x3, x4, x5⟩ := dskC hX.1; obtain ⟨c0, c1, c2, c3, c4, c5, c6, _, _⟩ := HAct.out _ hX.2; simp only at c0 c1 c2 c3 c4 c5 c6 <;> (go_simp; (try (with_reducible rfl)); (try omega)))
        (try simp only [Act.put, List.setIfInBounds_toArray, List.set_cons_zero, List.set_cons_succ])
        refine wpAnyN_take (i := 3) (oi := { dst := some 56, op := Go.Op.move (Go.Operand.tmp 10), type := 3, pos := "law.go:178", after := #[], guard := none }) (oL := { dst := some 12, op := Go.Op.assign (Go.Operand.tmp 61), type := 4, pos := "law.go:178", after := #[{ on := 9, ground := Go.Ground.data }, { on := 11, ground := Go.Ground.chain }, { on := 0, ground := Go.Ground.phase }, { on := 1, ground := Go.Ground.phase }, { on := 2, ground := Go.Ground.phase }, { on := 3, ground := Go.Ground.phase }, { on := 4, ground := Go.Ground.phase }, { on := 5, ground := Go.Ground.phase }, { on := 6, ground := Go.Ground.phase }, { on := 7, ground := Go.Ground.phase }, { on := 8, ground := Go.Ground.phase }, { on := 9, ground := Go.Ground.phase }, { on := 10, ground := Go.Ground.phase }, { on := 11, ground := Go.Ground.phase }], guard := none }) (v := .int .i64 (k : Int)) rfl rfl (by kernel_rfl) (by kernel_rfl) (by kernel_rfl) (by kernel_rfl) (fun _ _ _ h => h) (Or.inl ⟨by kernel_rfl, ?_⟩) HS0.out ?_
        · (intro X hX; obtain ⟨x0, x1, x2, x3, x4, x5⟩ := dskC hX.1; obtain ⟨c0, c1, c2, c3, c4, c5, c6, _, _⟩ := HAct.out _ hX.2; simp only at c0 c1 c2 c3 c4 c5 c6 <;> (go_simp; (try (with_reducible rfl)); (try omega)))
        (try simp only [Act.put, List.setIfInBounds_toArray, List.set_cons_zero, List.set_cons_succ])
        refine wpAnyN_take (i := 4) (oi := { dst := some 57, op := Go.Op.indexAddr 22 (Go.Operand.tmp 55) (Go.Operand.tmp 56), type := 0, pos := "law.go:178", after := #[{ on := 2, ground := Go.Ground.data }, { on := 3, ground := Go.Ground.data }], guard := none }) (oL := { dst := some 12, op := Go.Op.assign (Go.Operand.tmp 61), type := 4, pos := "law.go:178", after := #[{ on := 9, ground := Go.Ground.data }, { on := 11, ground := Go.Ground.chain }, { on := 0, ground := Go.Ground.phase }, { on := 1, ground := Go.Ground.phase }, { on := 2, ground := Go.Ground.phase }, { on := 3, ground := Go.Ground.phase }, { on := 4, ground := Go.Ground.phase }, { on := 5, ground := Go.Ground.phase }, { on := 6, ground := Go.Ground.phase }, { on := 7, ground := Go.Ground.phase }, { on := 8, ground := Go.Ground.phase }, { on := 9, ground := Go.Ground.phase }, { on := 10, ground := Go.Ground.phase }, { on := 11, ground := Go.Ground.phase }], guard := none }) (v := .pointer (some ⟨b, o + k * 7, none⟩)) rfl rfl (by kernel_rfl) (by kernel_rfl) (by kernel_rfl) (by kernel_rfl) (fun _ _ _ h => h) (Or.inl ⟨by kernel_rfl, ?_⟩) HS0.out ?_
        · (intro X hX; obtain ⟨x0, x1, x2, x3, x4, x5⟩ := dskC hX.1; obtain ⟨c0, c1, c2, c3, c4, c5, c6, _, _⟩ := HAct.out _ hX.2; simp only at c0 c1 c2 c3 c4 c5 c6 <;> (go_simp; (try (with_reducible rfl)); (try omega)))
        (try simp only [Act.put, List.setIfInBounds_toArray, List.set_cons_zero, List.set_cons_succ])
        refine wpAnyN_take (i := 5) (oi := { dst := some 58, op := Go.Op.load 38 (Go.Operand.tmp 57), type := 38, pos := "law.go:178", after := #[{ on := 4, ground := Go.Ground.data }], guard := none }) (oL := { dst := some 12, op := Go.Op.assign (Go.Operand.tmp 61), type := 4, pos := "law.go:178", after := #[{ on := 9, ground := Go.Ground.data }, { on := 11, ground := Go.Ground.chain }, { on := 0, ground := Go.Ground.phase }, { on := 1, ground := Go.Ground.phase }, { on := 2, ground := Go.Ground.phase }, { on := 3, ground := Go.Ground.phase }, { on := 4, ground := Go.Ground.phase }, { on := 5, ground := Go.Ground.phase }, { on := 6, ground := Go.Ground.phase }, { on := 7, ground := Go.Ground.phase }, { on := 8, ground := Go.Ground.phase }, { on := 9, ground := Go.Ground.phase }, { on := 10, ground := Go.Ground.phase }, { on := 11, ground := Go.Ground.phase }], guard := none }) (v := .agg #[.int .i64 kind, .int .i64 on, .string name, .string dest, .string data, .int .i64 nn, .slice qsa qsn qsc]) rfl rfl (by kernel_rfl) (by kernel_rfl) (by kernel_rfl) (by kernel_rfl) (fun _ _ _ h => h) (Or.inl ⟨by kernel_rfl, ?_⟩) HS0.out ?_
        · (intro X hX; obtain ⟨x0, x1, x2, x3, x4, x5⟩ := dskC hX.1; obtain ⟨c0, c1, c2, c3, c4, c5, c6, _, _⟩ := HAct.out _ hX.2; simp only at c0 c1 c2 c3 c4 c5 c6 <;> (go_simp; (try (with_reducible rfl)); (try omega)))
        (try simp only [Act.put, List.setIfInBounds_toArray, List.set_cons_zero, List.set_cons_succ])
        refine wpAnyN_two (i := 6) (j := 10) (o1 := { dst := some 59, op := Go.Op.call { callee := Go.Callee.value (Go.Operand.func 8), args := #[Go.Operand.tmp 53, Go.Operand.tmp 54, Go.Operand.tmp 58], argTypes := #[24, 32, 38] }, type := 35, pos := "law.go:178", after := #[{ on := 0, ground := Go.Ground.data }, { on := 1, ground := Go.Ground.data }, { on := 5, ground := Go.Ground.data }], guard := none }) (o2 := { dst := some 11, op := Go.Op.alloc 32, type := 0, pos := "law.go:178", after := #[], guard := none }) (by kernel_rfl) rfl rfl (fun K hK => ?_) (fun K hK => ?_)
        · go_simp
          refine HCal1.out.mono ?_
          rintro e w5 hO
          have hkp := hO.kept
          obtain ⟨S', P', K', l', rs', si', fa', fc', sa', sc', fl', sl', rfl, hPM⟩ := HI.out.first (Below.refl _ _).drew hO
          have HPM := Lib.hid hPM
          have HS5 : Hid (w5.heap[bx]? = some (.cells #[.slice fa fl fc, .int .i64 (S.quota : Int), .int .i64 (S.steps : Int), .slice sa sl sc, .int .i64 si, .bool (!S.runs)] 32 (0, 0)) ∧ Below w.heap.size w w5) := Lib.hid ⟨hkp.1 (bx, .cells #[.slice fa fl fc, .int .i64 (S.quota : Int), .int .i64 (S.steps : Int), .slice sa sl sc, .int .i64 si, .bool (!S.runs)] 32 (0, 0)) (by simp), hkp.2⟩
          have hbx5 := lt_of_heap HS5.out.1
          have HS5a : Hid ((w5.alloc (.cells #[.slice none 0 0, .int .i64 0, .int .i64 0, .slice none 0 0, .int .i64 0, .bool false] 32)).heap[bx]? = some (.cells #[.slice fa fl fc, .int .i64 (S.quota : Int), .int .i64 (S.steps : Int), .slice sa sl sc, .int .i64 si, .bool (!S.runs)] 32 (0, 0)) ∧ Below w.heap.size w (w5.alloc (.cells #[.slice none 0 0, .int .i64 0, .int .i64 0, .slice none 0 0, .int .i64 0, .bool false] 32))) := Lib.hid ⟨by rw [Below.heap_alloc _ _ _ hbx5]; exact HS5.out.1, HS5.out.2.alloc HS5.out.2.size _⟩
          have HY5 : Hid ((w5.alloc (.cells #[.slice none 0 0, .int .i64 0, .int .i64 0, .slice none 0 0, .int .i64 0, .bool false] 32)).heap[w5.heap.size]? = some (.cells #[.slice none 0 0, .int .i64 0, .int .i64 0, .slice none 0 0, .int .i64 0, .bool false] 32 (0, 0))) := Lib.hid (heap_alloc_new _ _)
          have HS6 : Hid (((w5.alloc (.cells #[.slice none 0 0, .int .i64 0, .int .i64 0, .slice none 0 0, .int .i64 0, .bool false] 32)).setRow w5.heap.size #[.slice fa' fl' fc', .int .i64 (S'.quota : Int), .int .i64 (S'.steps : Int), .slice sa' sl' sc', .int .i64 si', .bool (!S'.runs)]).heap[bx]? = some (.cells #[.slice fa fl fc, .int .i64 (S.quota : Int), .int .i64 (S.steps : Int), .slice sa sl sc, .int .i64 si, .bool (!S.runs)] 32 (0, 0)) ∧ Below w.heap.size w ((w5.alloc (.cells #[.slice none 0 0, .int .i64 0, .int .i64 0, .slice none 0 0, .int .i64 0, .bool false] 32)).setRow w5.heap.size #[.slice fa' fl' fc', .int .i64 (S'.quota : Int), .int .i64 (S'.steps : Int), .slice sa' sl' sc', .int .i64 si', .bool (!S'.runs)])) := Lib.hid ⟨by rw [setRow_other _ _ _ _ (by omega)]; exact HS5a.out.1, below_setQ HS5a.out.2 HS5.out.2.size _⟩
          clear hO hkp hPM hbx5
          refine hK.out _ _ (fun _ => HS5.out) ?_
          clear hK K
          (try simp only [Act.put, List.setIfInBounds_toArray, List.set_cons_zero, List.set_cons_succ])
          refine wpAnyN_take (i := 7) (oi := { dst := some 52, op := Go.Op.move (Go.Operand.tmp 59), type := 35, pos := "law.go:178", after := #[{ on := 6, ground := Go.Ground.data }], guard := none }) (oL := { dst := some 12, op := Go.Op.assign (Go.Operand.tmp 61), type := 4, pos := "law.go:178", after := #[{ on := 9, ground := Go.Ground.data }, { on := 11, ground := Go.Ground.chain }, { on := 0, ground := Go.Ground.phase }, { on := 1, ground := Go.Ground.phase }, { on := 2, ground := Go.Ground.phase }, { on := 3, ground := Go.Ground.phase }, { on := 4, ground := Go.Ground.phase }, { on := 5, ground := Go.Ground.phase }, { on := 6, ground := Go.Ground.phase }, { on := 7, ground := Go.Ground.phase }, { on := 8, ground := Go.Ground.phase }, { on := 9, ground := Go.Ground.phase }, { on := 10, ground := Go.Ground.phase }, { on := 11, ground := Go.Ground.phase }], guard := none }) (v := .tuple #[.agg #[.slice fa' fl' fc', .int .i64 (S'.quota : Int), .int .i64 (S'.steps : Int), .slice sa' sl' sc', .int .i64 si', .bool (!S'.runs)], .bool true]) rfl rfl (by kernel_rfl) (by kernel_rfl) (by kernel_rfl) (by kernel_rfl) (fun _ _ _ h => h) (Or.inl ⟨by kernel_rfl, ?_⟩) HS5.out ?_
          · (intro X hX; obtain ⟨x0, x1, x2, x3, x4, x5⟩ := dskC hX.1; obtain ⟨c0, c1, c2, c3, c4, c5, c6, _, _⟩ := HAct.out _ hX.2; simp only at c0 c1 c2 c3 c4 c5 c6 <;> (go_simp; (try (with_reducible rfl)); (try omega)))
          (try simp only [Act.put, List.setIfInBounds_toArray, List.set_cons_zero, List.set_cons_succ])
          refine wpAnyN_take (i := 8) (oi := { dst := some 60, op := Go.Op.extract (Go.Operand.tmp 52) 0, type := 32, pos := "law.go:178", after := #[{ on := 7, ground := Go.Ground.data }], guard := none }) (oL := { dst := some 12, op := Go.Op.assign (Go.Operand.tmp 61), type := 4, pos := "law.go:178", after := #[{ on := 9, ground := Go.Ground.data }, { on := 11, ground := Go.Ground.chain }, { on := 0, ground := Go.Ground.phase }, { on := 1, ground := Go.Ground.phase }, { on := 2, ground := Go.Ground.phase }, { on := 3, ground := Go.Ground.phase }, { on := 4, ground := Go.Ground.phase }, { on := 5, ground := Go.Ground.phase }, { on := 6, ground := Go.Ground.phase }, { on := 7, ground := Go.Ground.phase }, { on := 8, ground := Go.Ground.phase }, { on := 9, ground := Go.Ground.phase }, { on := 10, ground := Go.Ground.phase }, { on := 11, ground := Go.Ground.phase }], guard := none }) (v := .agg #[.slice fa' fl' fc', .int .i64 (S'.quota : Int), .int .i64 (S'.steps : Int), .slice sa' sl' sc', .int .i64 si', .bool (!S'.runs)]) rfl rfl (by kernel_rfl) (by kernel_rfl) (by kernel_rfl) (by kernel_rfl) (fun _ _ _ h => h) (Or.inl ⟨by kernel_rfl, ?_⟩) HS5.out ?_
          · (intro X hX; obtain ⟨x0, x1, x2, x3, x4, x5⟩ := dskC hX.1; obtain ⟨c0, c1, c2, c3, c4, c5, c6, _, _⟩ := HAct.out _ hX.2; simp only at c0 c1 c2 c3 c4 c5 c6 <;> (go_simp; (try (with_reducible rfl)); (try omega)))
          (try simp only [Act.put, List.setIfInBounds_toArray, List.set_cons_zero, List.set_cons_succ])
          refine wpAnyN_take (i := 9) (oi := { dst := some 61, op := Go.Op.extract (Go.Operand.tmp 52) 1, type := 4, pos := "law.go:178", after := #[{ on := 7, ground := Go.Ground.data }, { on := 11, ground := Go.Ground.gcOnly Go.Departure.lateStores }], guard := none }) (oL := { dst := some 12, op := Go.Op.assign (Go.Operand.tmp 61), type := 4, pos := "law.go:178", after := #[{ on := 9, ground := Go.Ground.data }, { on := 11, ground := Go.Ground.chain }, { on := 0, ground := Go.Ground.phase }, { on := 1, ground := Go.Ground.phase }, { on := 2, ground := Go.Ground.phase }, { on := 3, ground := Go.Ground.phase }, { on := 4, ground := Go.Ground.phase }, { on := 5, ground := Go.Ground.phase }, { on := 6, ground := Go.Ground.phase }, { on := 7, ground := Go.Ground.phase }, { on := 8, ground := Go.Ground.phase }, { on := 9, ground := Go.Ground.phase }, { on := 10, ground := Go.Ground.phase }, { on := 11, ground := Go.Ground.phase }], guard := none }) (v := .bool true) rfl rfl (by kernel_rfl) (by kernel_rfl) (by kernel_rfl) (by kernel_rfl) (fun _ _ _ h => h) (Or.inl ⟨by kernel_rfl, ?_⟩) HS5.out ?_
          · (intro X hX; obtain ⟨x0, x1, x2, x3, x4, x5⟩ := dskC hX.1; obtain ⟨c0, c1, c2, c3, c4, c5, c6, _, _⟩ := HAct.out _ hX.2; simp only at c0 c1 c2 c3 c4 c5 c6 <;> (go_simp; (try (with_reducible rfl)); (try omega)))
          (try simp only [Act.put, List.setIfInBounds_toArray, List.set_cons_zero, List.set_cons_succ])
          refine wpAnyN_one (i := 10) (o := { dst := some 11, op := Go.Op.alloc 32, type := 0, pos := "law.go:178", after := #[], guard := none }) (by kernel_rfl) rfl (fun K hK => ?_)
          go_simp
          refine hK.out _ _ (fun _ => HS5a.out) ?_
          clear hK K
          (try simp only [Act.put, List.setIfInBounds_toArray, List.set_cons_zero, List.set_cons_succ])
          refine wpAnyN_one (i := 11) (o := { dst := none, op := Go.Op.store 32 (Go.Operand.tmp 11) (Go.Operand.tmp 60), type := 0, pos := "law.go:178", after := #[{ on := 10, ground := Go.Ground.data }, { on := 8, ground := Go.Ground.data }, { on := 6, ground := Go.Ground.chain }, { on := 0, ground := Go.Ground.phase }, { on := 1, ground := Go.Ground.phase }, { on := 2, ground := Go.Ground.phase }, { on := 3, ground := Go.Ground.phase }, { on := 4, ground := Go.Ground.phase }, { on := 5, ground := Go.Ground.phase }, { on := 6, ground := Go.Ground.phase }, { on := 7, ground := Go.Ground.phase }, { on := 8, ground := Go.Ground.phase }, { on := 9, ground := Go.Ground.textOnly Go.Departure.lateStores }, { on := 10, ground := Go.Ground.phase }], guard := none }) (by kernel_rfl) rfl (fun K hK => ?_)
          refine wp_store_row 32 _ _ rfl (w5.heap.size) #[.slice fa' fl' fc', .int .i64 (S'.quota : Int), .int .i64 (S'.steps : Int), .slice sa' sl' sc', .int .i64 si', .bool (!S'.runs)] rfl rfl 32 #[.slice none 0 0, .int .i64 0, .int .i64 0, .slice none 0 0, .int .i64 0, .bool false] HY5.out Tryz.sizeRD rfl (by simp [Value.oneCell']) ?_
          refine hK.out _ _ (fun _ => HS6.out) ?_
          clear hK K
          (try simp only [Act.put])
          refine wpAnyN_one (i := 12) (o := { dst := some 12, op := Go.Op.assign (Go.Operand.tmp 61), type := 4, pos := "law.go:178", after := #[{ on := 9, ground := Go.Ground.data }, { on := 11, ground := Go.Ground.chain }, { on := 0, ground := Go.Ground.phase }, { on := 1, ground := Go.Ground.phase }, { on := 2, ground := Go.Ground.phase }, { on := 3, ground := Go.Ground.phase }, { on := 4, ground := Go.Ground.phase }, { on := 5, ground := Go.Ground.phase }, { on := 6, ground := Go.Ground.phase }, { on := 7, ground := Go.Ground.phase }, { on := 8, ground := Go.Ground.phase }, { on := 9, ground := Go.Ground.phase }, { on := 10, ground := Go.Ground.phase }, { on := 11, ground := Go.Ground.phase }], guard := none }) (by kernel_rfl) rfl (fun K hK => ?_)
          go_simp
          refine hK.out _ _ (fun e => absurd (e.symm.trans (by kernel_rfl) : false = true) Bool.false_ne_true) ?_
          clear hK K
          (try simp only [Act.put, List.setIfInBounds_toArray, List.set_cons_zero, List.set_cons_succ])
          refine wpAnyN_of_H (S' := fun _ => True) _ _ _ _ (by kernel_rfl) ?_
          refine wpAnyH_done (by kernel_rfl) ?_ _
          obtain ⟨K2, hI7⟩ := HPM.out.next #[.slice fa' fl' fc', .int .i64 (S'.quota : Int), .int .i64 (S'.steps : Int), .slice sa' sl' sc', .int .i64 si', .bool (!S'.runs)]
          have HI7 := Lib.hid hI7
          clear hI7
          have HY6 : Hid (((w5.alloc (.cells #[.slice none 0 0, .int .i64 0, .int .i64 0, .slice none 0 0, .int .i64 0, .bool false] 32)).setRow (w5.heap.size) #[.slice fa' fl' fc', .int .i64 (S'.quota : Int), .int .i64 (S'.steps : Int), .slice sa' sl' sc', .int .i64 si', .bool (!S'.runs)]).heap[w5.heap.size]? = some (.cells #[.slice fa' fl' fc', .int .i64 (S'.quota : Int), .int .i64 (S'.steps : Int), .slice sa' sl' sc', .int .i64 si', .bool (!S'.runs)] 32 (0, 0))) := Lib.hid (setRow_heap _ _ _ _ _ _ HY5.out)
          generalize (w5.alloc (.cells #[.slice none 0 0, .int .i64 0, .int .i64 0, .slice none 0 0, .int .i64 0, .bool false] 32)).setRow (w5.heap.size) #[.slice fa' fl' fc', .int .i64 (S'.quota : Int), .int .i64 (S'.steps : Int), .slice sa' sl' sc', .int .i64 si', .bool (!S'.runs)] = Y6 at HY6 HS6 HI7 ⊢
          obtain ⟨y0, y1, y2, y3, y4, y5⟩ := dskC HY6.out
          go_upto_region 13 with (refine wpList_store_row rfl 32 _ _ rfl bx #[.slice fa' fl' fc', .int .i64 (S'.quota : Int), .int .i64 (S'.steps : Int), .slice sa' sl' sc', .int .i64 si', .bool (!S'.runs)] rfl rfl 32 _ HS6.out.1 Tryz.sizeRD rfl (by simp [Value.oneCell']) ?_)
          clear y0 y1 y2 y3 y4 y5
          generalize Y6.setRow bx #[.slice fa' fl' fc', .int .i64 (S'.quota : Int), .int .i64 (S'.steps : Int), .slice sa' sl' sc', .int .i64 si', .bool (!S'.runs)] = Y7 at HI7 ⊢
          obtain ⟨y0, y1, y2, y3, y4, y5⟩ := dskC (HI7.out.dk.kept (List.mem_cons_self ..))
          simp only at y0 y1 y2 y3 y4 y5
          have HSm := Lib.hid (HI7.out.same (by have := HLt.out.2; omega))
          go_wp2_with (go_at_call 9; refine HSm.out.mono ?_; rintro e w8 ⟨rfl, hb8⟩; have HB8 := Lib.hid hb8; clear hb8)
          go_roundw
          case rel => exact ⟨k + 1, _, _, _, _, _, _, _, _, _, _, _, rfl, rfl, rfl, by go_num, by have := HLt.out.2; omega, HI7.out.up HB8.out⟩
          case measure => have := HLt.out.2; simp [Go.RowKit.intOf]; omega
        · go_simp
          refine hK.out _ _ (fun _ => HSa.out) ?_
          clear hK K
          (try simp only [Act.put, List.setIfInBounds_toArray, List.set_cons_zero, List.set_cons_succ])
          refine wpAnyN_one (i := 6) (o := { dst := some 59, op := Go.Op.call { callee := Go.Callee.value (Go.Operand.func 8), args := #[Go.Operand.tmp 53, Go.Operand.tmp 54, Go.Operand.tmp 58], argTypes := #[24, 32, 38] }, type := 35, pos := "law.go:178", after := #[{ on := 0, ground := Go.Ground.data }, { on := 1, ground := Go.Ground.data }, { on := 5, ground := Go.Ground.data }], guard := none }) (by kernel_rfl) rfl (fun K hK => ?_)
          go_simp
          refine HCal2.out.mono ?_
          rintro e w5 hO
          have hkp := hO.kept
          obtain ⟨S', P', K', l', rs', si', fa', fc', sa', sc', fl', sl', rfl, hPM⟩ := HI.out.second HBa.out.1 HBa.out.2 hO
          have HPM := Lib.hid hPM
          have HS5 : Hid (w5.heap[bx]? = some (.cells #[.slice fa fl fc, .int .i64 (S.quota : Int), .int .i64 (S.steps : Int), .slice sa sl sc, .int .i64 si, .bool (!S.runs)] 32 (0, 0)) ∧ Below w.heap.size w w5) := Lib.hid ⟨hkp.1 (bx, .cells #[.slice fa fl fc, .int .i64 (S.quota : Int), .int .i64 (S.steps : Int), .slice sa sl sc, .int .i64 si, .bool (!S.runs)] 32 (0, 0)) (by simp), hkp.2⟩
          have HY5 : Hid (w5.heap[X.heap.size]? = some (.cells #[.slice none 0 0, .int .i64 0, .int .i64 0, .slice none 0 0, .int .i64 0, .bool false] 32 (0, 0))) := Lib.hid (hkp.1 (X.heap.size, .cells #[.slice none 0 0, .int .i64 0, .int .i64 0, .slice none 0 0, .int .i64 0, .bool false] 32 (0, 0)) (by simp))
          have HS6 : Hid ((w5.setRow X.heap.size #[.slice fa' fl' fc', .int .i64 (S'.quota : Int), .int .i64 (S'.steps : Int), .slice sa' sl' sc', .int .i64 si', .bool (!S'.runs)]).heap[bx]? = some (.cells #[.slice fa fl fc, .int .i64 (S.quota : Int), .int .i64 (S.steps : Int), .slice sa sl sc, .int .i64 si, .bool (!S.runs)] 32 (0, 0)) ∧ Below w.heap.size w (w5.setRow X.heap.size #[.slice fa' fl' fc', .int .i64 (S'.quota : Int), .int .i64 (S'.steps : Int), .slice sa' sl' sc', .int .i64 si', .bool (!S'.runs)])) := Lib.hid ⟨by rw [setRow_other _ _ _ _ (fun e => hPM.ne e.symm)]; exact HS5.out.1, below_setQ HS5.out.2 hPM.ly _⟩
          clear hO hkp hPM
          refine hK.out _ _ (fun _ => HS5.out) ?_
          clear hK K
          (try simp only [Act.put, List.setIfInBounds_toArray, List.set_cons_zero, List.set_cons_succ])
          refine wpAnyN_take (i := 7) (oi := { dst := some 52, op := Go.Op.move (Go.Operand.tmp 59), type := 35, pos := "law.go:178", after := #[{ on := 6, ground := Go.Ground.data }], guard := none }) (oL := { dst := some 12, op := Go.Op.assign (Go.Operand.tmp 61), type := 4, pos := "law.go:178", after := #[{ on := 9, ground := Go.Ground.data }, { on := 11, ground := Go.Ground.chain }, { on := 0, ground := Go.Ground.phase }, { on := 1, ground := Go.Ground.phase }, { on := 2, ground := Go.Ground.phase }, { on := 3, ground := Go.Ground.phase }, { on := 4, ground := Go.Ground.phase }, { on := 5, ground := Go.Ground.phase }, { on := 6, ground := Go.Ground.phase }, { on := 7, ground := Go.Ground.phase }, { on := 8, ground := Go.Ground.phase }, { on := 9, ground := Go.Ground.phase }, { on := 10, ground := Go.Ground.phase }, { on := 11, ground := Go.Ground.phase }], guard := none }) (v := .tuple #[.agg #[.slice fa' fl' fc', .int .i64 (S'.quota : Int), .int .i64 (S'.steps : Int), .slice sa' sl' sc', .int .i64 si', .bool (!S'.runs)], .bool true]) rfl rfl (by kernel_rfl) (by kernel_rfl) (by kernel_rfl) (by kernel_rfl) (fun _ _ _ h => h) (Or.inl ⟨by kernel_rfl, ?_⟩) HS5.out ?_
          · (intro X hX; obtain ⟨x0, x1, x2, x3, x4, x5⟩ := dskC hX.1; obtain ⟨c0, c1, c2, c3, c4, c5, c6, _, _⟩ := HAct.out _ hX.2; simp only at c0 c1 c2 c3 c4 c5 c6 <;> (go_simp; (try (with_reducible rfl)); (try omega)))
          (try simp only [Act.put, List.setIfInBounds_toArray, List.set_cons_zero, List.set_cons_succ])
          refine wpAnyN_take (i := 8) (oi := { dst := some 60, op := Go.Op.extract (Go.Operand.tmp 52) 0, type := 32, pos := "law.go:178", after := #[{ on := 7, ground := Go.Ground.data }], guard := none }) (oL := { dst := some 12, op := Go.Op.assign (Go.Operand.tmp 61), type := 4, pos := "law.go:178", after := #[{ on := 9, ground := Go.Ground.data }, { on := 11, ground := Go.Ground.chain }, { on := 0, ground := Go.Ground.phase }, { on := 1, ground := Go.Ground.phase }, { on := 2, ground := Go.Ground.phase }, { on := 3, ground := Go.Ground.phase }, { on := 4, ground := Go.Ground.phase }, { on := 5, ground := Go.Ground.phase }, { on := 6, ground := Go.Ground.phase }, { on := 7, ground := Go.Ground.phase }, { on := 8, ground := Go.Ground.phase }, { on := 9, ground := Go.Ground.phase }, { on := 10, ground := Go.Ground.phase }, { on := 11, ground := Go.Ground.phase }], guard := none }) (v := .agg #[.slice fa' fl' fc', .int .i64 (S'.quota : Int), .int .i64 (S'.steps : Int), .slice sa' sl' sc', .int .i64 si', .bool (!S'.runs)]) rfl rfl (by kernel_rfl) (by kernel_rfl) (by kernel_rfl) (by kernel_rfl) (fun _ _ _ h => h) (Or.inl ⟨by kernel_rfl, ?_⟩) HS5.out ?_
          · (intro X hX; obtain ⟨x0, x1, x2, x3, x4, x5⟩ := dskC hX.1; obtain ⟨c0, c1, c2, c3, c4, c5, c6, _, _⟩ := HAct.out _ hX.2; simp only at c0 c1 c2 c3 c4 c5 c6 <;> (go_simp; (try (with_reducible rfl)); (try omega)))
          (try simp only [Act.put, List.setIfInBounds_toArray, List.set_cons_zero, List.set_cons_succ])
          refine wpAnyN_take (i := 9) (oi := { dst := some 61, op := Go.Op.extract (Go.Operand.tmp 52) 1, type := 4, pos := "law.go:178", after := #[{ on := 7, ground := Go.Ground.data }, { on := 11, ground := Go.Ground.gcOnly Go.Departure.lateStores }], guard := none }) (oL := { dst := some 12, op := Go.Op.assign (Go.Operand.tmp 61), type := 4, pos := "law.go:178", after := #[{ on := 9, ground := Go.Ground.data }, { on := 11, ground := Go.Ground.chain }, { on := 0, ground := Go.Ground.phase }, { on := 1, ground := Go.Ground.phase }, { on := 2, ground := Go.Ground.phase }, { on := 3, ground := Go.Ground.phase }, { on := 4, ground := Go.Ground.phase }, { on := 5, ground := Go.Ground.phase }, { on := 6, ground := Go.Ground.phase }, { on := 7, ground := Go.Ground.phase }, { on := 8, ground := Go.Ground.phase }, { on := 9, ground := Go.Ground.phase }, { on := 10, ground := Go.Ground.phase }, { on := 11, ground := Go.Ground.phase }], guard := none }) (v := .bool true) rfl rfl (by kernel_rfl) (by kernel_rfl) (by kernel_rfl) (by kernel_rfl) (fun _ _ _ h => h) (Or.inl ⟨by kernel_rfl, ?_⟩) HS5.out ?_
          · (intro X hX; obtain ⟨x0, x1, x2, x3, x4, x5⟩ := dskC hX.1; obtain ⟨c0, c1, c2, c3, c4, c5, c6, _, _⟩ := HAct.out _ hX.2; simp only at c0 c1 c2 c3 c4 c5 c6 <;> (go_simp; (try (with_reducible rfl)); (try omega)))
          (try simp only [Act.put, List.setIfInBounds_toArray, List.set_cons_zero, List.set_cons_succ])
          refine wpAnyN_one (i := 11) (o := { dst := none, op := Go.Op.store 32 (Go.Operand.tmp 11) (Go.Operand.tmp 60), type := 0, pos := "law.go:178", after := #[{ on := 10, ground := Go.Ground.data }, { on := 8, ground := Go.Ground.data }, { on := 6, ground := Go.Ground.chain }, { on := 0, ground := Go.Ground.phase }, { on := 1, ground := Go.Ground.phase }, { on := 2, ground := Go.Ground.phase }, { on := 3, ground := Go.Ground.phase }, { on := 4, ground := Go.Ground.phase }, { on := 5, ground := Go.Ground.phase }, { on := 6, ground := Go.Ground.phase }, { on := 7, ground := Go.Ground.phase }, { on := 8, ground := Go.Ground.phase }, { on := 9, ground := Go.Ground.textOnly Go.Departure.lateStores }, { on := 10, ground := Go.Ground.phase }], guard := none }) (by kernel_rfl) rfl (fun K hK => ?_)
          refine wp_store_row 32 _ _ rfl (X.heap.size) #[.slice fa' fl' fc', .int .i64 (S'.quota : Int), .int .i64 (S'.steps : Int), .slice sa' sl' sc', .int .i64 si', .bool (!S'.runs)] rfl rfl 32 #[.slice none 0 0, .int .i64 0, .int .i64 0, .slice none 0 0, .int .i64 0, .bool false] HY5.out Tryz.sizeRD rfl (by simp [Value.oneCell']) ?_
          refine hK.out _ _ (fun _ => HS6.out) ?_
          clear hK K
          (try simp only [Act.put])
          refine wpAnyN_one (i := 12) (o := { dst := some 12, op := Go.Op.assign (Go.Operand.tmp 61), type := 4, pos := "law.go:178", after := #[{ on := 9, ground := Go.Ground.data }, { on := 11, ground := Go.Ground.chain }, { on := 0, ground := Go.Ground.phase }, { on := 1, ground := Go.Ground.phase }, { on := 2, ground := Go.Ground.phase }, { on := 3, ground := Go.Ground.phase }, { on := 4, ground := Go.Ground.phase }, { on := 5, ground := Go.Ground.phase }, { on := 6, ground := Go.Ground.phase }, { on := 7, ground := Go.Ground.phase }, { on := 8, ground := Go.Ground.phase }, { on := 9, ground := Go.Ground.phase }, { on := 10, ground := Go.Ground.phase }, { on := 11, ground := Go.Ground.phase }], guard := none }) (by kernel_rfl) rfl (fun K hK => ?_)
          go_simp
          refine hK.out _ _ (fun e => absurd (e.symm.trans (by kernel_rfl) : false = true) Bool.false_ne_true) ?_
          clear hK K
          (try simp only [Act.put, List.setIfInBounds_toArray, List.set_cons_zero, List.set_cons_succ])
          refine wpAnyN_of_H (S' := fun _ => True) _ _ _ _ (by kernel_rfl) ?_
          refine wpAnyH_done (by kernel_rfl) ?_ _
          obtain ⟨K2, hI7⟩ := HPM.out.next #[.slice fa' fl' fc', .int .i64 (S'.quota : Int), .int .i64 (S'.steps : Int), .slice sa' sl' sc', .int .i64 si', .bool (!S'.runs)]
          have HI7 := Lib.hid hI7
          clear hI7
          have HY6 : Hid (((w5).setRow (X.heap.size) #[.slice fa' fl' fc', .int .i64 (S'.quota : Int), .int .i64 (S'.steps : Int), .slice sa' sl' sc', .int .i64 si', .bool (!S'.runs)]).heap[X.heap.size]? = some (.cells #[.slice fa' fl' fc', .int .i64 (S'.quota : Int), .int .i64 (S'.steps : Int), .slice sa' sl' sc', .int .i64 si', .bool (!S'.runs)] 32 (0, 0))) := Lib.hid (setRow_heap _ _ _ _ _ _ HY5.out)
          generalize (w5).setRow (X.heap.size) #[.slice fa' fl' fc', .int .i64 (S'.quota : Int), .int .i64 (S'.steps : Int), .slice sa' sl' sc', .int .i64 si', .bool (!S'.runs)] = Y6 at HY6 HS6 HI7 ⊢
          obtain ⟨y0, y1, y2, y3, y4, y5⟩ := dskC HY6.out
          go_upto_region 13 with (refine wpList_store_row rfl 32 _ _ rfl bx #[.slice fa' fl' fc', .int .i64 (S'.quota : Int), .int .i64 (S'.steps : Int), .slice sa' sl' sc', .int .i64 si', .bool (!S'.runs)] rfl rfl 32 _ HS6.out.1 Tryz.sizeRD rfl (by simp [Value.oneCell']) ?_)
          clear y0 y1 y2 y3 y4 y5
          generalize Y6.setRow bx #[.slice fa' fl' fc', .int .i64 (S'.quota : Int), .int .i64 (S'.steps : Int), .slice sa' sl' sc', .int .i64 si', .bool (!S'.runs)] = Y7 at HI7 ⊢
          obtain ⟨y0, y1, y2, y3, y4, y5⟩ := dskC (HI7.out.dk.kept (List.mem_cons_self ..))
          simp only at y0 y1 y2 y3 y4 y5
          have HSm := Lib.hid (HI7.out.same (by have := HLt.out.2; omega))
          go_wp2_with (go_at_call 9; refine HSm.out.mono ?_; rintro e w8 ⟨rfl, hb8⟩; have HB8 := Lib.hid hb8; clear hb8)
          go_roundw
          case rel => exact ⟨k + 1, _, _, _, _, _, _, _, _, _, _, _, rfl, rfl, rfl, by go_num, by have := HLt.out.2; omega, HI7.out.up HB8.out⟩
          case measure => have := HLt.out.2; simp [Go.RowKit.intOf]; omega
      · have hli : (k : Int) < (len : Int) := by omega
        have h15 : ¬ (k : Int) < 150 := by omega
        clear hI hk
        go_wp2_with fail
        go_ret
        exact ⟨rfl, HW.out⟩
    · have hli : ¬ (k : Int) < (len : Int) := by omega
      clear hI hk
      go_wp2_with fail
      go_ret
      exact ⟨rfl, HW.out⟩
set_option maxRecDepth 20000 in
set_option maxHeartbeats 4000000 in
theorem plays_bad {A : Whys} {B : Nat} {w : World} (he : Env A B w) (x : Int) (hx : x < 1 ∨ 1048576 < x) (a : Option Addr) (len c : Nat) (hlen : (len : Int) ≤ 4611686018427387904) :
    Calls Tryz.prog 3 #[.int .i64 x, .slice a len c] w fun e w' => e = .returned (.bool true) ∧ Below w.heap.size w w' := by
  have HK := Lib.hid (known_any he)
  have HN := Lib.hid (fun W (hb : Below w.heap.size w W) => New_bad A w.heap.size x W ((he.up he.hi (Nat.le_refl _)).below hb) hx)
  have HRN := Lib.hid (fun W => rNew_bad x hx W)
  clear he hx
  unfold refD at HRN
  go_enter Tryz.func3, Tryz.ntmps3
  go_upto_region 8 with (first | (go_at_call 5; refine HK.out.mono ?_; rintro e w1 ⟨rfl, hb1⟩; have HB1 := Lib.hid hb1; clear hb1) | (go_at_call 6; refine (HN.out _ HB1.out).mono ?_; rintro e w2 ⟨rfl, hw2⟩; have H2 := Lib.hid hw2; clear hw2; unfold failV) | (go_at_call 7; refine (HRN.out _).mono ?_; rintro e w3 ⟨rfl, hb3⟩; have HB3 := Lib.hid hb3; clear hb3))
  have HE : Hid (Below w.heap.size w (w3.alloc (.cells #[.slice none 0 0, .int .i64 0, .int .i64 0, .slice none 0 0, .int .i64 0, .bool false] 32))) := Lib.hid (by
    have h2 : Below w.heap.size w w2 := by rw [H2.out]; exact HB1.out.alloc HB1.out.size _
    exact (h2.trans (HB3.out.mono h2.size)).alloc (h2.trans (HB3.out.mono h2.size)).size _)
  generalize w3.alloc (.cells #[.slice none 0 0, .int .i64 0, .int .i64 0, .slice none 0 0, .int .i64 0, .bool false] 32) = W4 at HE ⊢
  go_wp2_with fail
  refine wp_loop_rounds 1 ?_
  rw [rounds_succ]
  by_cases hl : (0 : Int) < (len : Int)
  · go_wp2_with fail
    go_ret
    exact ⟨rfl, HE.out⟩
  · go_wp2_with fail
    go_ret
    exact ⟨rfl, HE.out⟩
theorem DiskPlays_walk (x : Int) (v : Value) (w : World) (he : ∃ A B, Env A B w ∧ w.cell? ⟨5, 0, none⟩ = some (rtV 26)) (hv : ∃ a len c, v = .slice a len c ∧ ActsSt w a len) :
    Calls Tryz.prog 3 #[.int .i64 x, v] w fun e w' => e = .returned (.bool true) ∧ Below w.heap.size w w' := by
  obtain ⟨A, B, he, hg⟩ := he
  obtain ⟨a, len, c, rfl, hs⟩ := hv
  by_cases hx : x < 1 ∨ 1048576 < x
  · exact plays_bad he x hx a len c (by have := hs.1; omega)
  · obtain ⟨q, rfl⟩ : ∃ q : Nat, x = (q : Int) := ⟨x.toNat, by omega⟩
    exact plays_walk he hg q (by omega) (by omega) a len c hs
end Go.Proofs.YtgafomknpdnfcaaGreatDoor
