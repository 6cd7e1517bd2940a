/- DiskPlays: how both disks stand between two calls. -/
import Derived.Test.YtgafomknpdnfcaaGreatDoorM9g
import Derived.Test.YtgafomknpdnfcaaGreatDoorM9i
namespace Go.Proofs.YtgafomknpdnfcaaGreatDoor
open Go.RowKit Go.Lib

section
variable {P : Program} {ops : Array Oper} {Q : Exit → Act → World → Prop} {md : Region.Mode} {S : World → Prop} {L : Nat}
/-- Two operations are ready: each of them may come first. -/
theorem wpAnyN_two {i j : Nat} {o1 o2 : Oper} {fuel : Nat} {listed : Array Bool} {a : Act} {w : World} (hr : Region.ready md ops listed = [i, j]) (ho1 : ops[i]? = some o1) (ho2 : ops[j]? = some o2)
    (h1 : ∀ K' : Act → World → Prop, Shut (∀ a w, ((listed.setIfInBounds i true).getD L false = false → S w) → wpAnyN P md ops Q S L fuel (listed.setIfInBounds i true) a w → K' a w) → if Region.wanted o1 (yielded ops a.tmps) = true then Oper.wp P o1 a w K' Q else K' (a.put o1.dst undef) w)
    (h2 : ∀ K' : Act → World → Prop, Shut (∀ a w, ((listed.setIfInBounds j true).getD L false = false → S w) → wpAnyN P md ops Q S L fuel (listed.setIfInBounds j true) a w → K' a w) → if Region.wanted o2 (yielded ops a.tmps) = true then Oper.wp P o2 a w K' Q else K' (a.put o2.dst undef) w) : wpAnyN P md ops Q S L (fuel + 1) listed a w := by
  refine ⟨fun h0 => (by rw [hr] at h0; cases h0), fun k hk => ?_⟩
  rw [hr] at hk
  have : k = i ∨ k = j := by simpa using hk
  rcases this with rfl | rfl
  · exact wpOp_step ho1 (fun K' hK => h1 K' (fun a w hS hW => hK a w ⟨hS, hW⟩))
  · exact wpOp_step ho2 (fun K' hK => h2 K' (fun a w hS hW => hK a w ⟨hS, hW⟩))
end
/-- Between two calls: the document's disk lies in the box bx. -/
structure PlayI (A : Whys) (w : World) (d bx k : Nat) (S : DS) (P : List PF) (K : List (Nat × Obj)) (l : List PF) (rs : List (Int × Int × Int)) (si : Int) (fv sv : Value) (X : World) : Prop where
  dk : Dk A w d S P ((bx, .cells #[fv, .int .i64 (S.quota : Int), .int .i64 (S.steps : Int), sv, .int .i64 si, .bool (!S.runs)] 32 (0, 0)) :: K) X
  rf : Rf K fv sv l rs X
  meet : Meet S P l rs si
  steps : S.steps ≤ k
  nb : ∀ x, x ∈ K → x.1 ≠ bx
  lo : w.heap.size ≤ bx
/-- Behind a call: what it answered lies in the box yb, or will. -/
structure PlayM (A : Whys) (w : World) (d bx yb k : Nat) (S : DS) (P : List PF) (K : List (Nat × Obj)) (l : List PF) (rs : List (Int × Int × Int)) (si : Int) (fv sv : Value) (W : World) : Prop where
  dk : Dk A w d S P K W
  hb : ∃ cs, (bx, .cells cs 32 (0, 0)) ∈ K ∧ cs.size = 6
  hy : (yb, .cells #[.slice none 0 0, .int .i64 0, .int .i64 0, .slice none 0 0, .int .i64 0, .bool false] 32 (0, 0)) ∈ K
  ne : yb ≠ bx
  rf : Rf K fv sv l rs W
  fb : ∀ b, fv.ownBlock = some b → b ≠ bx ∧ b ≠ yb
  sb : ∀ b, svBlk sv = some b → b ≠ bx ∧ b ≠ yb
  meet : Meet S P l rs si
  steps : S.steps ≤ k
  lo : w.heap.size ≤ bx
  ly : w.heap.size ≤ yb
theorem Dk.put {A : Whys} {w0 w w' : World} {d : Nat} {S : DS} {P : List PF} {K : List (Nat × Obj)} (h : Dk A w0 d S P K w) {g : Nat} {o o' : Obj} (hg : (g, o) ∈ K) (hg0 : w0.heap.size ≤ g) (hz : w.heap.size ≤ w'.heap.size) (hos : w'.os = w.os ∧ w'.tape = w.tape ∧ w'.output = w.output) (hs : ∀ b, b ≠ g → b < w.heap.size → w'.heap[b]? = w.heap[b]?) (ho : w'.heap[g]? = some o') : Dk A w0 d S P ((g, o') :: K.filter fun x => decide (x.1 ≠ g)) w' := by
  obtain ⟨m, sv, clk, F, hD, rfl, hb0, he, hK⟩ := h
  have hb : Below w0.heap.size w w' := ⟨hos.1, hos.2.1, hos.2.2, hz, fun b hb => hs b (by omega) (Nat.lt_of_lt_of_le hb hb0.size)⟩
  refine ⟨m, sv, clk, F, hD.same hz (fun b hm => hs b (fun e => (hK _ hg).2 (e ▸ hm)) (hD.lt hm)), rfl, hb0.trans hb, he.below hb, fun x hx => ?_⟩
  rcases List.mem_cons.1 hx with rfl | hx
  · exact ⟨ho, (hK _ hg).2⟩
  · obtain ⟨h1, h2⟩ := List.mem_filter.1 hx
    exact ⟨by rw [hs _ (by simpa using h2) (lt_of_heap (hK x h1).1)]; exact (hK x h1).1, (hK x h1).2⟩
theorem Dk.row {A : Whys} {w0 w : World} {d : Nat} {S : DS} {P : List PF} {K : List (Nat × Obj)} (h : Dk A w0 d S P K w) {g : Nat} {cs : Array Value} {t : TypeId} (cs' : Array Value) (hg : (g, .cells cs t (0, 0)) ∈ K) (hg0 : w0.heap.size ≤ g) : Dk A w0 d S P ((g, .cells cs' t (0, 0)) :: K.filter fun x => decide (x.1 ≠ g)) (w.setRow g cs') :=
  h.put hg hg0 (by simp [World.setRow]) ⟨rfl, rfl, rfl⟩ (fun b hne _ => setRow_other _ _ _ _ hne) (setRow_heap _ _ _ _ _ _ (h.kept hg))
theorem PlayM.next {A : Whys} {w : World} {d bx yb k : Nat} {S : DS} {P : List PF} {K : List (Nat × Obj)} {l : List PF} {rs : List (Int × Int × Int)} {si : Int} {fv sv : Value} {W : World} (h : PlayM A w d bx yb k S P K l rs si fv sv W) (cs : Array Value) : ∃ K', PlayI A w d bx k S P K' l rs si fv sv ((W.setRow yb cs).setRow bx #[fv, .int .i64 (S.quota : Int), .int .i64 (S.steps : Int), sv, .int .i64 si, .bool (!S.runs)]) := by
  obtain ⟨cx, hx, _⟩ := h.hb
  have d1 := h.dk.row cs h.hy h.ly
  have hx1 : (bx, Obj.cells cx 32 (0, 0)) ∈ ((yb, Obj.cells cs 32 (0, 0)) :: K.filter fun x => decide (x.1 ≠ yb)) := List.mem_cons_of_mem _ (List.mem_filter.2 ⟨hx, by simpa using fun e => h.ne e.symm⟩)
  have d2 := d1.row #[fv, .int .i64 (S.quota : Int), .int .i64 (S.steps : Int), sv, .int .i64 si, .bool (!S.runs)] hx1 h.lo
  refine ⟨((yb, Obj.cells cs 32 (0, 0)) :: K.filter fun x => decide (x.1 ≠ yb)).filter fun x => decide (x.1 ≠ bx), d2, ?_, h.meet, h.steps, fun _ hx => by simpa using (List.mem_filter.1 hx).2, h.lo⟩
  have hin : ∀ b o, (b, o) ∈ K → b ≠ bx ∧ b ≠ yb → (b, o) ∈ ((yb, Obj.cells cs 32 (0, 0)) :: K.filter fun x => decide (x.1 ≠ yb)).filter fun x => decide (x.1 ≠ bx) := fun b o ho hne =>
    List.mem_filter.2 ⟨List.mem_cons_of_mem _ (List.mem_filter.2 ⟨ho, by simpa using hne.2⟩), by simpa using hne.1⟩
  exact ⟨h.rf.fs.kept (fun b e => by obtain ⟨o, ho⟩ := h.rf.fk b e; exact ⟨o, h.dk.kept ho, d2.kept (List.mem_cons_of_mem _ (hin b o ho (h.fb b e)))⟩), h.rf.ss.kept (fun b e => by obtain ⟨o, ho⟩ := h.rf.sk b e; exact ⟨o, h.dk.kept ho, d2.kept (List.mem_cons_of_mem _ (hin b o ho (h.sb b e)))⟩), fun b e => by obtain ⟨o, ho⟩ := h.rf.fk b e; exact ⟨o, hin b o ho (h.fb b e)⟩, fun b e => by obtain ⟨o, ho⟩ := h.rf.sk b e; exact ⟨o, hin b o ho (h.sb b e)⟩⟩
theorem Rf.more {K K' : List (Nat × Obj)} {fv sv : Value} {l : List PF} {rs : List (Int × Int × Int)} {w : World} (h : Rf K fv sv l rs w) (hK : ∀ x, x ∈ K → x ∈ K') : Rf K' fv sv l rs w :=
  ⟨h.fs, h.ss, fun b hb => by obtain ⟨o, ho⟩ := h.fk b hb; exact ⟨o, hK _ ho⟩, fun b hb => by obtain ⟨o, ho⟩ := h.sk b hb; exact ⟨o, hK _ ho⟩⟩
theorem PlayI.up {A : Whys} {w : World} {d bx k : Nat} {S : DS} {P : List PF} {K : List (Nat × Obj)} {l : List PF} {rs : List (Int × Int × Int)} {si : Int} {fv sv : Value} {X Y : World} (h : PlayI A w d bx k S P K l rs si fv sv X) (hb : Below X.heap.size X Y) : PlayI A w d bx k S P K l rs si fv sv Y :=
  ⟨h.dk.up hb, ⟨h.rf.fs.on hb, h.rf.ss.on hb, h.rf.fk, h.rf.sk⟩, h.meet, h.steps, h.nb, h.lo⟩
theorem PlayI.same {A : Whys} {w : World} {d bx k : Nat} {S : DS} {P : List PF} {K : List (Nat × Obj)} {l : List PF} {rs : List (Int × Int × Int)} {si : Int} {fv sv : Value} {X : World} (h : PlayI A w d bx k S P K l rs si fv sv X) (hk : k ≤ 1000000) :
    Calls Tryz.prog 9 #[.pointer (some ⟨d, 0, none⟩), .agg #[fv, .int .i64 (S.quota : Int), .int .i64 (S.steps : Int), sv, .int .i64 si, .bool (!S.runs)]] X fun e w' => e = .returned (.bool true) ∧ Below X.heap.size X w' :=
  same_both h.dk (h.rf.more (fun _ hx => List.mem_cons_of_mem _ hx)) h.meet (Nat.le_trans h.steps hk)
/-- The call, whether yb is laid ahead of it (B = true) or behind it. -/
theorem PlayI.called {A : Whys} {w : World} {d bx k : Nat} {S : DS} {P : List PF} {K : List (Nat × Obj)} {l : List PF} {rs : List (Int × Int × Int)} {si : Int} {fv sv : Value} {X W : World} (h : PlayI A w d bx k S P K l rs si fv sv X) (hk : k ≤ 1000000) (hg : w.cell? ⟨5, 0, none⟩ = some (rtV 26)) (Kn : List (Nat × Obj)) (hb : Below X.heap.size X W) (hn : ∀ x, x ∈ Kn → X.heap.size ≤ x.1 ∧ W.heap[x.1]? = some x.2) {b o : Nat} (q : ActR) (ll : List (Int × Int × Int)) (hac : ActSt w b o q ll) :
    Calls Tryz.prog 8 #[.pointer (some ⟨d, 0, none⟩), .agg #[fv, .int .i64 (S.quota : Int), .int .i64 (S.steps : Int), sv, .int .i64 si, .bool (!S.runs)], .agg q.cells] W fun e w' => CalOut A w W d S (Kn ++ ((bx, .cells #[fv, .int .i64 (S.quota : Int), .int .i64 (S.steps : Int), sv, .int .i64 si, .bool (!S.runs)] 32 (0, 0)) :: K)) fv sv e w' :=
  called_allB (h.dk.keepL hb Kn hn) (h.rf.go (h.dk.fewer (fun x hx => List.mem_cons_of_mem _ hx)) (h.dk.keepL hb Kn hn) (fun x hx => List.mem_append_right _ (List.mem_cons_of_mem _ hx))) h.meet (by have := h.steps; omega) hg q ll hac.stops hac.inl hac.sn hac.act.hname hac.act.hdest hac.hdata
/-- The call came first: then yb is laid. -/
theorem PlayI.first {A : Whys} {w : World} {d bx k : Nat} {S : DS} {P : List PF} {K : List (Nat × Obj)} {l : List PF} {rs : List (Int × Int × Int)} {si : Int} {fv sv : Value} {X W W5 : World} (h : PlayI A w d bx k S P K l rs si fv sv X) (hb : Below X.heap.size X W) {e : Ending} (hO : CalOut A w W d S ([] ++ ((bx, .cells #[fv, .int .i64 (S.quota : Int), .int .i64 (S.steps : Int), sv, .int .i64 si, .bool (!S.runs)] 32 (0, 0)) :: K)) fv sv e W5) : ∃ S' P' K' l' rs' si' fa' fc' sa' sc' fl' sl', e = .returned (.tuple #[.agg #[.slice fa' fl' fc', .int .i64 (S'.quota : Int), .int .i64 (S'.steps : Int), .slice sa' sl' sc', .int .i64 si', .bool (!S'.runs)], .bool true]) ∧ PlayM A w d bx W5.heap.size (k + 1) S' P' K' l' rs' si' (.slice fa' fl' fc') (.slice sa' sl' sc') (W5.alloc (.cells #[.slice none 0 0, .int .i64 0, .int .i64 0, .slice none 0 0, .int .i64 0, .bool false] 32)) := by
  obtain ⟨S', P', K', l', rs', si', fv', sv', rfl, hD, hR, hM, hK, hst, hfo, hso⟩ := hO
  obtain ⟨fa', fc', hfv, _⟩ := hR.fs.form
  obtain ⟨sa', sc', hsv, _⟩ := id hR.ss
  subst hfv hsv
  have hb1 : Below W5.heap.size W5 (W5.alloc (.cells #[.slice none 0 0, .int .i64 0, .int .i64 0, .slice none 0 0, .int .i64 0, .bool false] 32)) := (Below.refl _ _).alloc (Nat.le_refl _) _
  have hD1 := hD.keepL hb1 [(W5.heap.size, .cells #[.slice none 0 0, .int .i64 0, .int .i64 0, .slice none 0 0, .int .i64 0, .bool false] 32 (0, 0))] (fun x hx => by rw [List.mem_singleton.1 hx]; exact ⟨Nat.le_refl _, heap_alloc_new _ _⟩)
  have hbx := hK _ (List.mem_append_right _ (List.mem_cons_self ..))
  have hlx : bx < W5.heap.size := hD.ltK _ hbx
  have hlX : bx < X.heap.size := h.dk.ltK _ (List.mem_cons_self ..)
  refine ⟨S', P', _, l', rs', si', fa', fc', sa', sc', l'.length, rs'.length, rfl, hD1, ⟨_, List.mem_append_right _ hbx, rfl⟩, by simp, by omega, hR.go hD hD1 (fun x hx => List.mem_append_right _ hx), fun b e => ?_, fun b e => ?_, hM, by have := h.steps; omega, h.lo, by have := hD.w0.size; omega⟩
  · obtain ⟨o, ho⟩ := hR.fk b e
    have hbl := hD.ltK _ ho
    simp only at hbl
    refine ⟨?_, by omega⟩
    rcases hfo b e with e' | e'
    · obtain ⟨o', ho'⟩ := h.rf.fk b e'
      exact h.nb _ ho'
    · have := hb.size; omega
  · obtain ⟨o, ho⟩ := hR.sk b e
    have hbl := hD.ltK _ ho
    simp only at hbl
    refine ⟨?_, by omega⟩
    rcases hso b e with e' | e'
    · obtain ⟨o', ho'⟩ := h.rf.sk b e'
      exact h.nb _ ho'
    · have := hb.size; omega
/-- yb was laid first. -/
theorem PlayI.second {A : Whys} {w : World} {d bx k : Nat} {S : DS} {P : List PF} {K : List (Nat × Obj)} {l : List PF} {rs : List (Int × Int × Int)} {si : Int} {fv sv : Value} {X W W5 : World} (h : PlayI A w d bx k S P K l rs si fv sv X) (_hb : Below X.heap.size X W) (hz : X.heap.size < W.heap.size) {e : Ending} (hO : CalOut A w W d S ([(X.heap.size, .cells #[.slice none 0 0, .int .i64 0, .int .i64 0, .slice none 0 0, .int .i64 0, .bool false] 32 (0, 0))] ++ ((bx, .cells #[fv, .int .i64 (S.quota : Int), .int .i64 (S.steps : Int), sv, .int .i64 si, .bool (!S.runs)] 32 (0, 0)) :: K)) fv sv e W5) : ∃ S' P' K' l' rs' si' fa' fc' sa' sc' fl' sl', e = .returned (.tuple #[.agg #[.slice fa' fl' fc', .int .i64 (S'.quota : Int), .int .i64 (S'.steps : Int), .slice sa' sl' sc', .int .i64 si', .bool (!S'.runs)], .bool true]) ∧ PlayM A w d bx X.heap.size (k + 1) S' P' K' l' rs' si' (.slice fa' fl' fc') (.slice sa' sl' sc') W5 := by
  obtain ⟨S', P', K', l', rs', si', fv', sv', rfl, hD, hR, hM, hK, hst, hfo, hso⟩ := hO
  obtain ⟨fa', fc', hfv, _⟩ := hR.fs.form
  obtain ⟨sa', sc', hsv, _⟩ := id hR.ss
  subst hfv hsv
  have hbx := hK _ (List.mem_append_right _ (List.mem_cons_self ..))
  have hlX : bx < X.heap.size := h.dk.ltK _ (List.mem_cons_self ..)
  refine ⟨S', P', K', l', rs', si', fa', fc', sa', sc', l'.length, rs'.length, rfl, hD, ⟨_, hbx, rfl⟩, hK _ (by simp), by omega, hR, fun b e => ?_, fun b e => ?_, hM, by have := h.steps; omega, h.lo, h.dk.w0.size⟩
  · rcases hfo b e with e' | e'
    · obtain ⟨o', ho'⟩ := h.rf.fk b e'
      have := h.dk.ltK _ (List.mem_cons_of_mem _ ho')
      simp only at this
      exact ⟨h.nb _ ho', by omega⟩
    · exact ⟨by omega, by omega⟩
  · rcases hso b e with e' | e'
    · obtain ⟨o', ho'⟩ := h.rf.sk b e'
      have := h.dk.ltK _ (List.mem_cons_of_mem _ ho')
      simp only at this
      exact ⟨h.nb _ ho', by omega⟩
    · exact ⟨by omega, by omega⟩
end Go.Proofs.YtgafomknpdnfcaaGreatDoor

/- DiskTwo: two disks in one memory. -/
namespace Go.Proofs.YtgafomknpdnfcaaGreatDoor
open Go.RowKit Go.Lib

theorem DiskAt.hold {B d m clk : Nat} {sv : Value} {S : DS} {F : List FE} {w w' : World} (h : DiskAt B d m clk sv S F w) (hz : B ≤ w'.heap.size) (hs : ∀ b, b ∈ fpOf d m sv F → w'.heap[b]? = w.heap[b]?) : DiskAt B d m clk sv S F w' where
  self := by rw [hs d mem_fp_self]; exact h.self
  map := by rw [hs m mem_fp_map]; exact h.map
  born := h.born
  borns := h.borns
  names := h.names
  files := fun f hf => (h.files f hf).same (fun b hb => hs b (mem_fp_file hf hb))
  stops := h.stops.same (fun b hb => hs b (mem_fp_sv hb))
  apart := h.apart
  base := h.base
  size := hz
  fits := h.fits
  quota := h.quota
  steps := h.steps
/-- Two disks, and blocks that are kept beside them. -/
def Dk2 (A : Whys) (w0 : World) (d1 d2 : Nat) (S1 : DS) (P1 : List PF) (S2 : DS) (P2 : List PF) (K : List (Nat × Obj)) (w : World) : Prop :=
  ∃ m1 sv1 clk1 F1 m2 sv2 clk2 F2, DiskAt w0.heap.size d1 m1 clk1 sv1 S1 F1 w ∧ F1.map FE.pl = P1 ∧ DiskAt w0.heap.size d2 m2 clk2 sv2 S2 F2 w ∧ F2.map FE.pl = P2 ∧ Below w0.heap.size w0 w ∧ Env A w0.heap.size w ∧ (∀ b, b ∈ fpOf d1 m1 sv1 F1 → b ∉ fpOf d2 m2 sv2 F2) ∧ ∀ x, x ∈ K → w.heap[x.1]? = some x.2 ∧ x.1 ∉ fpOf d1 m1 sv1 F1 ∧ x.1 ∉ fpOf d2 m2 sv2 F2
theorem Dk2.swap {A : Whys} {w0 w : World} {d1 d2 : Nat} {S1 S2 : DS} {P1 P2 : List PF} {K : List (Nat × Obj)} (h : Dk2 A w0 d1 d2 S1 P1 S2 P2 K w) : Dk2 A w0 d2 d1 S2 P2 S1 P1 K w := by
  obtain ⟨m1, sv1, clk1, F1, m2, sv2, clk2, F2, h1, e1, h2, e2, hb, he, hd, hK⟩ := h
  exact ⟨m2, sv2, clk2, F2, m1, sv1, clk1, F1, h2, e2, h1, e1, hb, he, fun b hb2 hb1 => hd b hb1 hb2, fun x hx => ⟨(hK x hx).1, (hK x hx).2.2, (hK x hx).2.1⟩⟩
theorem Dk2.fewer {A : Whys} {w0 w : World} {d1 d2 : Nat} {S1 S2 : DS} {P1 P2 : List PF} {K K' : List (Nat × Obj)} (h : Dk2 A w0 d1 d2 S1 P1 S2 P2 K w) (hs : ∀ x, x ∈ K' → x ∈ K) : Dk2 A w0 d1 d2 S1 P1 S2 P2 K' w := by
  obtain ⟨m1, sv1, clk1, F1, m2, sv2, clk2, F2, h1, e1, h2, e2, hb, he, hd, hK⟩ := h
  exact ⟨m1, sv1, clk1, F1, m2, sv2, clk2, F2, h1, e1, h2, e2, hb, he, hd, fun x hx => hK x (hs x hx)⟩
theorem Dk2.up {A : Whys} {w0 w w' : World} {d1 d2 : Nat} {S1 S2 : DS} {P1 P2 : List PF} {K : List (Nat × Obj)} (h : Dk2 A w0 d1 d2 S1 P1 S2 P2 K w) (hb : Below w.heap.size w w') : Dk2 A w0 d1 d2 S1 P1 S2 P2 K w' := by
  obtain ⟨m1, sv1, clk1, F1, m2, sv2, clk2, F2, h1, e1, h2, e2, hb0, he, hd, hK⟩ := h
  exact ⟨m1, sv1, clk1, F1, m2, sv2, clk2, F2, h1.below hb, e1, h2.below hb, e2, hb0.trans (hb.mono hb0.size), he.below (hb.mono hb0.size), hd, fun x hx => ⟨by rw [hb.block _ (lt_of_heap (hK x hx).1)]; exact (hK x hx).1, (hK x hx).2⟩⟩
theorem Dk2.keep {A : Whys} {w0 w w' : World} {d1 d2 : Nat} {S1 S2 : DS} {P1 P2 : List PF} {K : List (Nat × Obj)} (h : Dk2 A w0 d1 d2 S1 P1 S2 P2 K w) (hb : Below w.heap.size w w') {g : Nat} {o : Obj} (hg : w.heap.size ≤ g) (ho : w'.heap[g]? = some o) : Dk2 A w0 d1 d2 S1 P1 S2 P2 ((g, o) :: K) w' := by
  obtain ⟨m1, sv1, clk1, F1, m2, sv2, clk2, F2, h1, e1, h2, e2, hb0, he, hd, hK⟩ := h
  refine ⟨m1, sv1, clk1, F1, m2, sv2, clk2, F2, h1.below hb, e1, h2.below hb, e2, hb0.trans (hb.mono hb0.size), he.below (hb.mono hb0.size), hd, fun x hx => ?_⟩
  rcases List.mem_cons.1 hx with rfl | hx
  · exact ⟨ho, h1.far hg, h2.far hg⟩
  · exact ⟨by rw [hb.block _ (lt_of_heap (hK x hx).1)]; exact (hK x hx).1, (hK x hx).2⟩
/-- The first of them by itself, the second one's blocks kept beside it; and back. -/
theorem Dk2.one {A : Whys} {w0 w : World} {d1 d2 : Nat} {S1 S2 : DS} {P1 P2 : List PF} {K : List (Nat × Obj)} (h : Dk2 A w0 d1 d2 S1 P1 S2 P2 K w) : ∃ (K2 : List (Nat × Obj)) (B2 : Nat → Prop), Dk A w0 d1 S1 P1 (K2 ++ K) w ∧ (∀ x, x ∈ K → ¬ B2 x.1) ∧ (∀ b, B2 b → b < w.heap.size) ∧ (∀ x, x ∈ K2 → B2 x.1) ∧
    ∀ w' S' P' K', Dk A w0 d1 S' P' K' w' → (∀ x, x ∈ K2 → x ∈ K') → ∀ K'', (∀ x, x ∈ K'' → x ∈ K' ∧ ¬ B2 x.1) → Dk2 A w0 d1 d2 S' P' S2 P2 K'' w' := by
  obtain ⟨m1, sv1, clk1, F1, m2, sv2, clk2, F2, h1, rfl, h2, rfl, hb, he, hd, hK⟩ := h
  have hm : ∀ b o, (b, o) ∈ (fpOf d2 m2 sv2 F2).filterMap (fun b => (w.heap[b]?).map fun o => (b, o)) ↔ b ∈ fpOf d2 m2 sv2 F2 ∧ w.heap[b]? = some o := by
    intro b o
    simp only [List.mem_filterMap, Option.map_eq_some_iff, Prod.mk.injEq]
    constructor
    · rintro ⟨b', hb', o', ho', rfl, rfl⟩
      exact ⟨hb', ho'⟩
    · rintro ⟨hb', ho'⟩
      exact ⟨b, hb', o, ho', rfl, rfl⟩
  refine ⟨(fpOf d2 m2 sv2 F2).filterMap (fun b => (w.heap[b]?).map fun o => (b, o)), fun b => b ∈ fpOf d2 m2 sv2 F2, ⟨m1, sv1, clk1, F1, h1, rfl, hb, he, fun x hx => ?_⟩, fun x hx => (hK x hx).2.2, fun b hb => h2.lt hb, fun x hx => ((hm x.1 x.2).1 hx).1, ?_⟩
  · rcases List.mem_append.1 hx with hx | hx
    · obtain ⟨q1, q2⟩ := (hm x.1 x.2).1 hx
      exact ⟨q2, fun e => hd _ e q1⟩
    · exact ⟨(hK x hx).1, (hK x hx).2.1⟩
  · intro w' S' P' K' hD hsub K'' hK''
    obtain ⟨m1', sv1', clk1', F1', hD1, rfl, hb', he', hKk⟩ := hD
    have hin : ∀ b, b ∈ fpOf d2 m2 sv2 F2 → ∃ o, w.heap[b]? = some o ∧ (b, o) ∈ K' := fun b hb2 => by
      have hl := h2.lt hb2
      exact ⟨_, Array.getElem?_eq_getElem hl, hsub _ ((hm _ _).2 ⟨hb2, Array.getElem?_eq_getElem hl⟩)⟩
    refine ⟨m1', sv1', clk1', F1', m2, sv2, clk2, F2, hD1, rfl, h2.hold hb'.size (fun b hb2 => ?_), rfl, hb', he', fun b hb1 hb2 => ?_, fun x hx => ⟨(hKk x (hK'' x hx).1).1, (hKk x (hK'' x hx).1).2, (hK'' x hx).2⟩⟩
    · obtain ⟨o, ho, hok⟩ := hin b hb2
      rw [ho]
      exact (hKk _ hok).1
    · obtain ⟨o, ho, hok⟩ := hin b hb2
      exact (hKk _ hok).2 hb1
theorem Dk2.kept {A : Whys} {w0 w : World} {d1 d2 : Nat} {S1 S2 : DS} {P1 P2 : List PF} {K : List (Nat × Obj)} (h : Dk2 A w0 d1 d2 S1 P1 S2 P2 K w) {x : Nat × Obj} (hx : x ∈ K) : w.heap[x.1]? = some x.2 := by
  obtain ⟨m1, sv1, clk1, F1, m2, sv2, clk2, F2, h1, e1, h2, e2, hb, he, hd, hK⟩ := h
  exact (hK x hx).1
theorem Dk2.w0 {A : Whys} {w0 w : World} {d1 d2 : Nat} {S1 S2 : DS} {P1 P2 : List PF} {K : List (Nat × Obj)} (h : Dk2 A w0 d1 d2 S1 P1 S2 P2 K w) : Below w0.heap.size w0 w := by
  obtain ⟨m1, sv1, clk1, F1, m2, sv2, clk2, F2, h1, e1, h2, e2, hb, he, hd, hK⟩ := h
  exact hb
/-- Two new disks. -/
theorem New2 {A : Whys} {w0 w1 : World} (hb : Below w0.heap.size w0 w1) (he : Env A w0.heap.size w1) {d1 : Nat} {S1 : DS} (h1 : Dk A w0 d1 S1 [] [] w1) (q : Nat) (hq : 1 ≤ q) (hq' : q ≤ 1048576) :
    Calls Tryz.prog 6 #[.int .i64 (q : Int)] w1 fun e w' => ∃ d, e = .returned (.tuple #[.pointer (some ⟨d, 0, none⟩), .nilIface]) ∧ Dk2 A w0 d1 d S1 [] ⟨q, 0, true, []⟩ [] [] w' := by
  refine (New_ok w1.heap.size q w1 hq hq' (Nat.le_refl _)).mono ?_
  rintro e w' ⟨rfl, hD, hB⟩
  obtain ⟨m1, sv1, clk1, F1, hD1, hF1, _, _, _⟩ := h1
  have hbb : Below w0.heap.size w0 w' := hb.trans (hB.mono hb.size)
  have hD' := hD
  refine ⟨_, rfl, m1, sv1, clk1, F1, _, _, _, _, hD1.below hB, hF1, ⟨hD.self, hD.map, hD.born, hD.borns, hD.names, (fun f hf => by cases hf), hD.stops, hD.apart, (fun b hb' => Nat.le_trans hb.size (hD.base b hb')), Nat.le_trans hb.size hD.size, hD.fits, hD.quota, hD.steps⟩, rfl, hbb, he.below (hB.mono hb.size), fun b h1 h2 => ?_, (fun x hx => by cases hx)⟩
  have := hD1.lt h1
  have := hD'.base b h2
  omega
/-- Between two calls. -/
structure TwoI (A : Whys) (w : World) (d1 d2 b1 b2 k : Nat) (K : List (Nat × Obj)) (S1 : DS) (P1 l1 : List PF) (rs1 : List (Int × Int × Int)) (si1 : Int) (fv1 sv1 : Value) (S2 : DS) (P2 l2 : List PF) (rs2 : List (Int × Int × Int)) (si2 : Int) (fv2 sv2 : Value) (X : World) : Prop where
  dk : Dk2 A w d1 d2 S1 P1 S2 P2 ((b1, .cells #[fv1, .int .i64 (S1.quota : Int), .int .i64 (S1.steps : Int), sv1, .int .i64 si1, .bool (!S1.runs)] 32 (0, 0)) :: (b2, .cells #[fv2, .int .i64 (S2.quota : Int), .int .i64 (S2.steps : Int), sv2, .int .i64 si2, .bool (!S2.runs)] 32 (0, 0)) :: K) X
  rf1 : Rf K fv1 sv1 l1 rs1 X
  rf2 : Rf K fv2 sv2 l2 rs2 X
  m1 : Meet S1 P1 l1 rs1 si1
  m2 : Meet S2 P2 l2 rs2 si2
  st1 : S1.steps ≤ k
  st2 : S2.steps ≤ k
  nb : ∀ x, x ∈ K → x.1 ≠ b1 ∧ x.1 ≠ b2
  ne : b1 ≠ b2
  lo1 : w.heap.size ≤ b1
  lo2 : w.heap.size ≤ b2
theorem TwoI.swap {A : Whys} {w : World} {d1 d2 b1 b2 k : Nat} {K : List (Nat × Obj)} {S1 : DS} {P1 l1 : List PF} {rs1 : List (Int × Int × Int)} {si1 : Int} {fv1 sv1 : Value} {S2 : DS} {P2 l2 : List PF} {rs2 : List (Int × Int × Int)} {si2 : Int} {fv2 sv2 : Value} {X : World} (h : TwoI A w d1 d2 b1 b2 k K S1 P1 l1 rs1 si1 fv1 sv1 S2 P2 l2 rs2 si2 fv2 sv2 X) : TwoI A w d2 d1 b2 b1 k K S2 P2 l2 rs2 si2 fv2 sv2 S1 P1 l1 rs1 si1 fv1 sv1 X :=
  ⟨h.dk.swap.fewer (fun x hx => by simp only [List.mem_cons] at hx ⊢; rcases hx with hx | hx | hx <;> simp [hx]), h.rf2, h.rf1, h.m2, h.m1, h.st2, h.st1, fun x hx => ⟨(h.nb x hx).2, (h.nb x hx).1⟩, fun e => h.ne e.symm, h.lo2, h.lo1⟩
theorem TwoI.up {A : Whys} {w : World} {d1 d2 b1 b2 k : Nat} {K : List (Nat × Obj)} {S1 : DS} {P1 l1 : List PF} {rs1 : List (Int × Int × Int)} {si1 : Int} {fv1 sv1 : Value} {S2 : DS} {P2 l2 : List PF} {rs2 : List (Int × Int × Int)} {si2 : Int} {fv2 sv2 : Value} {X Y : World} (h : TwoI A w d1 d2 b1 b2 k K S1 P1 l1 rs1 si1 fv1 sv1 S2 P2 l2 rs2 si2 fv2 sv2 X) (hb : Below X.heap.size X Y) : TwoI A w d1 d2 b1 b2 k K S1 P1 l1 rs1 si1 fv1 sv1 S2 P2 l2 rs2 si2 fv2 sv2 Y :=
  ⟨h.dk.up hb, ⟨h.rf1.fs.on hb, h.rf1.ss.on hb, h.rf1.fk, h.rf1.sk⟩, ⟨h.rf2.fs.on hb, h.rf2.ss.on hb, h.rf2.fk, h.rf2.sk⟩, h.m1, h.m2, h.st1, h.st2, h.nb, h.ne, h.lo1, h.lo2⟩
theorem TwoI.more {A : Whys} {w : World} {d1 d2 b1 b2 k k' : Nat} {K : List (Nat × Obj)} {S1 : DS} {P1 l1 : List PF} {rs1 : List (Int × Int × Int)} {si1 : Int} {fv1 sv1 : Value} {S2 : DS} {P2 l2 : List PF} {rs2 : List (Int × Int × Int)} {si2 : Int} {fv2 sv2 : Value} {X : World} (h : TwoI A w d1 d2 b1 b2 k K S1 P1 l1 rs1 si1 fv1 sv1 S2 P2 l2 rs2 si2 fv2 sv2 X) (hk : k ≤ k') : TwoI A w d1 d2 b1 b2 k' K S1 P1 l1 rs1 si1 fv1 sv1 S2 P2 l2 rs2 si2 fv2 sv2 X :=
  ⟨h.dk, h.rf1, h.rf2, h.m1, h.m2, Nat.le_trans h.st1 hk, Nat.le_trans h.st2 hk, h.nb, h.ne, h.lo1, h.lo2⟩
theorem TwoI.same {A : Whys} {w : World} {d1 d2 b1 b2 k : Nat} {K : List (Nat × Obj)} {S1 : DS} {P1 l1 : List PF} {rs1 : List (Int × Int × Int)} {si1 : Int} {fv1 sv1 : Value} {S2 : DS} {P2 l2 : List PF} {rs2 : List (Int × Int × Int)} {si2 : Int} {fv2 sv2 : Value} {X : World} (h : TwoI A w d1 d2 b1 b2 k K S1 P1 l1 rs1 si1 fv1 sv1 S2 P2 l2 rs2 si2 fv2 sv2 X) (hk : k ≤ 1000000) :
    Calls Tryz.prog 9 #[.pointer (some ⟨d1, 0, none⟩), .agg #[fv1, .int .i64 (S1.quota : Int), .int .i64 (S1.steps : Int), sv1, .int .i64 si1, .bool (!S1.runs)]] X fun e w' => e = .returned (.bool true) ∧ Below X.heap.size X w' := by
  obtain ⟨K2, B2, hD, _, _, _, _⟩ := h.dk.one
  exact same_both hD (h.rf1.more (fun _ hx => List.mem_append_right _ (List.mem_cons_of_mem _ (List.mem_cons_of_mem _ hx)))) h.m1 (Nat.le_trans h.st1 hk)
/-- What a call on the first of them leaves. -/
def TwoO (A : Whys) (w : World) (d1 d2 b1 b2 k : Nat) (S2 : DS) (P2 l2 : List PF) (rs2 : List (Int × Int × Int)) (si2 : Int) (fv2 sv2 : Value) (cs : Array Value) (e : Ending) (w5 : World) : Prop :=
  ∃ S' P' K' l' rs' si' fa' fl' fc' sa' sl' sc', e = .returned (.tuple #[.agg #[.slice fa' fl' fc', .int .i64 (S'.quota : Int), .int .i64 (S'.steps : Int), .slice sa' sl' sc', .int .i64 si', .bool (!S'.runs)], .bool true]) ∧ w5.heap[b1]? = some (.cells cs 32 (0, 0)) ∧ Below w.heap.size w w5 ∧
    TwoI A w d1 d2 b1 b2 (k + 1) K' S' P' l' rs' si' (.slice fa' fl' fc') (.slice sa' sl' sc') S2 P2 l2 rs2 si2 fv2 sv2 (w5.setRow b1 #[.slice fa' fl' fc', .int .i64 (S'.quota : Int), .int .i64 (S'.steps : Int), .slice sa' sl' sc', .int .i64 si', .bool (!S'.runs)])
theorem TwoI.called {A : Whys} {w : World} {d1 d2 b1 b2 k : Nat} {K : List (Nat × Obj)} {S1 : DS} {P1 l1 : List PF} {rs1 : List (Int × Int × Int)} {si1 : Int} {fv1 sv1 : Value} {S2 : DS} {P2 l2 : List PF} {rs2 : List (Int × Int × Int)} {si2 : Int} {fv2 sv2 : Value} {X W : World} (h : TwoI A w d1 d2 b1 b2 k K S1 P1 l1 rs1 si1 fv1 sv1 S2 P2 l2 rs2 si2 fv2 sv2 X) (hk : k ≤ 1000000) (hg : w.cell? ⟨5, 0, none⟩ = some (rtV 26)) (hb : Below X.heap.size X W) {b o : Nat} (q : ActR) (ll : List (Int × Int × Int)) (hac : ActSt w b o q ll) :
    Calls Tryz.prog 8 #[.pointer (some ⟨d1, 0, none⟩), .agg #[fv1, .int .i64 (S1.quota : Int), .int .i64 (S1.steps : Int), sv1, .int .i64 si1, .bool (!S1.runs)], .agg q.cells] W fun e w5 => TwoO A w d1 d2 b1 b2 k S2 P2 l2 rs2 si2 fv2 sv2 #[fv1, .int .i64 (S1.quota : Int), .int .i64 (S1.steps : Int), sv1, .int .i64 si1, .bool (!S1.runs)] e w5 := by
  have hW := h.up hb
  obtain ⟨K2, B2, hD, hnB, hBl, hKB, hback⟩ := hW.dk.one
  have hsub : ∀ x, x ∈ K → x ∈ K2 ++ ((b1, .cells #[fv1, .int .i64 (S1.quota : Int), .int .i64 (S1.steps : Int), sv1, .int .i64 si1, .bool (!S1.runs)] 32 (0, 0)) :: (b2, .cells #[fv2, .int .i64 (S2.quota : Int), .int .i64 (S2.steps : Int), sv2, .int .i64 si2, .bool (!S2.runs)] 32 (0, 0)) :: K) := fun x hx => List.mem_append_right _ (List.mem_cons_of_mem _ (List.mem_cons_of_mem _ hx))
  refine (called_allB hD (hW.rf1.more hsub) hW.m1 (by have := h.st1; omega) hg q ll hac.stops hac.inl hac.sn hac.act.hname hac.act.hdest hac.hdata).mono ?_
  rintro e w5 ⟨S', P', K', l', rs', si', fv', sv', rfl, hD5, hR5, hM5, hK5, hst5, hfo, hso⟩
  obtain ⟨fa', fc', hfv, _⟩ := hR5.fs.form
  obtain ⟨sa', sc', hsv, _⟩ := id hR5.ss
  subst hfv hsv
  have hb1 := hK5 (b1, .cells #[fv1, .int .i64 (S1.quota : Int), .int .i64 (S1.steps : Int), sv1, .int .i64 si1, .bool (!S1.runs)] 32 (0, 0)) (List.mem_append_right _ (List.mem_cons_self ..))
  have hb2 := hK5 (b2, .cells #[fv2, .int .i64 (S2.quota : Int), .int .i64 (S2.steps : Int), sv2, .int .i64 si2, .bool (!S2.runs)] 32 (0, 0)) (List.mem_append_right _ (List.mem_cons_of_mem _ (List.mem_cons_self ..)))
  have hl1 : b1 < W.heap.size := hD.ltK _ (List.mem_append_right _ (List.mem_cons_self ..))
  have hl2 : b2 < W.heap.size := hD.ltK _ (List.mem_append_right _ (List.mem_cons_of_mem _ (List.mem_cons_self ..)))
  have hn1 : ¬ B2 b1 := hnB _ (List.mem_cons_self ..)
  have hn2 : ¬ B2 b2 := hnB _ (List.mem_cons_of_mem _ (List.mem_cons_self ..))
  have hD6 := hD5.row #[.slice fa' l'.length fc', .int .i64 (S'.quota : Int), .int .i64 (S'.steps : Int), .slice sa' rs'.length sc', .int .i64 si', .bool (!S'.runs)] hb1 h.lo1
  have hKK : ∀ x, x ∈ K → x ∈ K' ∧ x.1 ≠ b1 ∧ x.1 ≠ b2 ∧ ¬ B2 x.1 := fun x hx => ⟨hK5 x (hsub x hx), (h.nb x hx).1, (h.nb x hx).2, hnB x (List.mem_cons_of_mem _ (List.mem_cons_of_mem _ hx))⟩
  have hff : ∀ b, (Value.slice fa' l'.length fc').ownBlock = some b → b ≠ b1 ∧ b ≠ b2 ∧ ¬ B2 b := fun b e => by
    rcases hfo b e with e' | e'
    · obtain ⟨o', ho'⟩ := h.rf1.fk b e'
      exact (hKK _ ho').2
    · exact ⟨by omega, by omega, fun e => by have := hBl b e; omega⟩
  have hss : ∀ b, svBlk (.slice sa' rs'.length sc') = some b → b ≠ b1 ∧ b ≠ b2 ∧ ¬ B2 b := fun b e => by
    rcases hso b e with e' | e'
    · obtain ⟨o', ho'⟩ := h.rf1.sk b e'
      exact (hKK _ ho').2
    · exact ⟨by omega, by omega, fun e => by have := hBl b e; omega⟩
  obtain ⟨K3, hK3⟩ : ∃ K3 : List (Nat × Obj), ∀ x, x ∈ K3 ↔ x ∈ K' ∧ x.1 ≠ b1 ∧ x.1 ≠ b2 ∧ ¬ B2 x.1 := by
    refine ⟨K'.filter fun x => @decide (x.1 ≠ b1 ∧ x.1 ≠ b2 ∧ ¬ B2 x.1) (Classical.propDecidable _), fun x => ?_⟩
    rw [List.mem_filter]
    simp only [decide_eq_true_eq]
  have h6 : ∀ x, x ∈ K' → x.1 ≠ b1 → x ∈ ((b1, Obj.cells #[.slice fa' l'.length fc', .int .i64 (S'.quota : Int), .int .i64 (S'.steps : Int), .slice sa' rs'.length sc', .int .i64 si', .bool (!S'.runs)] 32 (0, 0)) :: K'.filter fun x => decide (x.1 ≠ b1)) := fun x hx hne => List.mem_cons_of_mem _ (List.mem_filter.2 ⟨hx, by simpa using hne⟩)
  have hdk := hback (w5.setRow b1 #[.slice fa' l'.length fc', .int .i64 (S'.quota : Int), .int .i64 (S'.steps : Int), .slice sa' rs'.length sc', .int .i64 si', .bool (!S'.runs)]) S' P' _ hD6 (fun x hx => by
    refine h6 x (hK5 x (List.mem_append_left _ hx)) (fun e => hn1 (e ▸ hKB x hx))) ((b1, Obj.cells #[.slice fa' l'.length fc', .int .i64 (S'.quota : Int), .int .i64 (S'.steps : Int), .slice sa' rs'.length sc', .int .i64 si', .bool (!S'.runs)] 32 (0, 0)) :: (b2, .cells #[fv2, .int .i64 (S2.quota : Int), .int .i64 (S2.steps : Int), sv2, .int .i64 si2, .bool (!S2.runs)] 32 (0, 0)) :: K3) (fun x hx => by
    rcases List.mem_cons.1 hx with rfl | hx
    · exact ⟨List.mem_cons_self .., hn1⟩
    · rcases List.mem_cons.1 hx with rfl | hx
      · exact ⟨h6 _ hb2 (fun e => h.ne e.symm), hn2⟩
      · obtain ⟨q1, q2, _, q4⟩ := (hK3 x).1 hx
        exact ⟨h6 x q1 q2, q4⟩)
  have hw6 : ∀ x, x ∈ K3 → (w5.setRow b1 #[.slice fa' l'.length fc', .int .i64 (S'.quota : Int), .int .i64 (S'.steps : Int), .slice sa' rs'.length sc', .int .i64 si', .bool (!S'.runs)]).heap[x.1]? = some x.2 := fun x hx => by
    obtain ⟨q1, q2, _, _⟩ := (hK3 x).1 hx
    rw [setRow_other _ _ _ _ q2]
    exact hD5.kept q1
  refine ⟨S', P', K3, l', rs', si', fa', l'.length, fc', sa', rs'.length, sc', rfl, hD5.kept hb1, hD5.w0, hdk, ⟨hR5.fs.kept (fun b e => ?_), hR5.ss.kept (fun b e => ?_), fun b e => ?_, fun b e => ?_⟩, ⟨hW.rf2.fs.kept (fun b e => ?_), hW.rf2.ss.kept (fun b e => ?_), fun b e => ?_, fun b e => ?_⟩, hM5, h.m2, by have := h.st1; omega, by have := h.st2; omega, fun x hx => ⟨((hK3 x).1 hx).2.1, ((hK3 x).1 hx).2.2.1⟩, h.ne, h.lo1, h.lo2⟩
  · obtain ⟨o, ho⟩ := hR5.fk b e
    exact ⟨o, hD5.kept ho, hw6 (b, o) ((hK3 _).2 ⟨ho, hff b e⟩)⟩
  · obtain ⟨o, ho⟩ := hR5.sk b e
    exact ⟨o, hD5.kept ho, hw6 (b, o) ((hK3 _).2 ⟨ho, hss b e⟩)⟩
  · obtain ⟨o, ho⟩ := hR5.fk b e
    exact ⟨o, (hK3 _).2 ⟨ho, hff b e⟩⟩
  · obtain ⟨o, ho⟩ := hR5.sk b e
    exact ⟨o, (hK3 _).2 ⟨ho, hss b e⟩⟩
  · obtain ⟨o, ho⟩ := h.rf2.fk b e
    exact ⟨o, hD.kept (hsub _ ho), hw6 (b, o) ((hK3 _).2 (hKK _ ho))⟩
  · obtain ⟨o, ho⟩ := h.rf2.sk b e
    exact ⟨o, hD.kept (hsub _ ho), hw6 (b, o) ((hK3 _).2 (hKK _ ho))⟩
  · obtain ⟨o, ho⟩ := h.rf2.fk b e
    exact ⟨o, (hK3 _).2 (hKK _ ho)⟩
  · obtain ⟨o, ho⟩ := h.rf2.sk b e
    exact ⟨o, (hK3 _).2 (hKK _ ho)⟩
end Go.Proofs.YtgafomknpdnfcaaGreatDoor
