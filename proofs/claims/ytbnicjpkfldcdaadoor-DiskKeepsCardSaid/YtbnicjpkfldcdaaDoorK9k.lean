/- DiskKeeps: notes in one: the log is the files behind an operation that went well. -/
import Derived.Test.YtbnicjpkfldcdaaDoorK9j
import Derived.Test.YtbnicjpkfldcdaaDoorK9d
import Derived.Test.YtbnicjpkfldcdaaDoorD9xl
namespace Go.Proofs.YtbnicjpkfldcdaaDoor
open Go.RowKit Go.Lib

theorem LogOf.hit {P : List PF} {G : List LE} (h : LogOf P G) {n : ByteArray} (hl : lookC P n = 0) : ∃ p i, getK n P = some p ∧ p ∈ P ∧ idxL n G = some i ∧ G[i]? = some (toLE p) := by
  obtain ⟨p, hp⟩ := look_getK hl
  rcases h.at n with ⟨e, _⟩ | ⟨p', i, e, _, hi, hG⟩
  · rw [hp] at e; cases e
  · exact ⟨p', i, e, ((getK_mem h.nod).1 e).1, hi, hG⟩
theorem last_of {G : List LE} {i : Nat} {x : LE} (h : G[i]? = some x) : ∃ M z, G = M ++ [z] ∧ freeL i G = (G.set i z).dropLast := by
  rcases List.eq_nil_or_concat G with rfl | ⟨M, z, hG⟩
  · simp at h
  · rw [List.concat_eq_append] at hG
    refine ⟨M, z, hG, ?_⟩
    unfold freeL
    rw [hG, List.getLast?_concat]
theorem moveP_same (a : ByteArray) (P : List PF) : moveP a a P = P := by unfold moveP; rw [if_pos rfl]
theorem notes_any {B bp : Nat} {vn va vs : Value} {G : List LE} {w : World} (h : LogAt B bp vn va vs G w) (hB : B ≤ w.heap.size) (hl : G.length ≤ 1000000) {T : DS} {P : List PF} (hP : LogOf P G) (q : ActR) (hk : 1 ≤ q.kind ∧ q.kind ≤ 6) (hc : codeK T P q = 0)
    (hd : ∀ p, p ∈ P → p.dur ≤ p.data.length) (hs : ∀ p, p ∈ P → p.data.length ≤ 1000000000) (hq : q.data.size ≤ 140737488355328) (hn' : ((doneK P q).map PF.name).Nodup) :
    Calls Tryd.prog 14 #[.pointer (some ⟨bp, 0, none⟩), .agg q.cells] w fun e w' => e = .returned (.tuple #[]) ∧ ∃ G', LogOut B bp vn va vs G' w w' ∧ LogOf (doneK P q) G' := by
  obtain ⟨kind, on, name, dest, data, n, sa, sn, sc⟩ := q
  simp only [ActR.cells] at *
  have hkk : kind = 1 ∨ kind = 2 ∨ kind = 3 ∨ kind = 4 ∨ kind = 5 ∨ kind = 6 := by omega
  rcases hkk with rfl | rfl | rfl | rfl | rfl | rfl
  · have e2 : doneK P ⟨1, on, name, dest, data, n, sa, sn, sc⟩ = growP name (L data) P := by simp [doneK]
    rw [e2] at hn' ⊢
    rcases hP.at name with ⟨_, hi⟩ | ⟨p, i, hp, _, hi, hG⟩
    · refine (notes_new h hB hl hi).mono ?_
      rintro e w' ⟨rfl, hO⟩
      exact ⟨rfl, _, hO, log_new hP hi hn'⟩
    · have hm := ((getK_mem hP.nod).1 hp).1
      have hz := hs p hm
      refine (notes_grow h hl hi hG (by show (S p.data).size + _ ≤ _; rw [S_size]; omega)).mono ?_
      rintro e w' ⟨rfl, hO⟩
      exact ⟨rfl, _, hO, log_grow hP hp (hd p hm) hG hn'⟩
  · have e1 : lookC P name = 0 := by simpa [codeK] using hc
    have e2 : doneK P ⟨2, on, name, dest, data, n, sa, sn, sc⟩ = modP name syncP P := by simp [doneK]
    rw [e2] at hn' ⊢
    obtain ⟨p, i, hp, hm, hi, hG⟩ := hP.hit e1
    refine (notes_sync h hl hi hG).mono ?_
    rintro e w' ⟨rfl, hO⟩
    exact ⟨rfl, _, hO, log_sync hP hp hG hn'⟩
  · have e2 : doneK P ⟨3, on, name, dest, data, n, sa, sn, sc⟩ = P := by simp [doneK]
    rw [e2]
    refine (notes_read h hl).mono ?_
    rintro e w' ⟨rfl, hO⟩
    exact ⟨rfl, _, hO, hP⟩
  · have e1 : renC P name dest = 0 := by simpa [codeK] using hc
    have e2 : doneK P ⟨4, on, name, dest, data, n, sa, sn, sc⟩ = moveP name dest P := by simp [doneK]
    rw [e2] at hn' ⊢
    by_cases hdn : dest = name
    · rw [hdn, moveP_same]
      refine (notes_stay h hl rfl).mono ?_
      rintro e w' ⟨rfl, hO⟩
      exact ⟨rfl, _, hO, hP⟩
    · obtain ⟨p, i, hp, hm, hi, hG⟩ := hP.hit (ren_nm e1).2
      obtain ⟨M, z, hM, hfr⟩ := last_of hG
      obtain ⟨m1, m2⟩ := log_move hP (a := name) (b := dest) (fun e => hdn e.symm) hp hG rfl hn'
      rw [hfr] at m1 m2
      cases hj : idxL dest ((G.set i z).dropLast) with
      | none =>
        refine (notes_move h hB hl hi hG hM hdn (.inl ⟨hj, rfl⟩)).mono ?_
        rintro e w' ⟨rfl, hO⟩
        exact ⟨rfl, _, hO, m1 hj⟩
      | some j =>
        refine (notes_move h hB hl hi hG hM hdn (.inr ⟨j, hj, rfl⟩)).mono ?_
        rintro e w' ⟨rfl, hO⟩
        exact ⟨rfl, _, hO, m2 j hj⟩
  · have e1 : lookC P name = 0 := by simpa [codeK] using hc
    have e2 : doneK P ⟨5, on, name, dest, data, n, sa, sn, sc⟩ = dropP name P := by simp [doneK]
    rw [e2]
    obtain ⟨p, i, hp, hm, hi, hG⟩ := hP.hit e1
    obtain ⟨M, z, hM, hfr⟩ := last_of hG
    have hf := hP.freed hp hG
    rw [hfr] at hf
    refine (notes_gone h hl hi hM).mono ?_
    rintro e w' ⟨rfl, hO⟩
    exact ⟨rfl, _, hO, hf⟩
  · have e1 : truC P name n = 0 := by simpa [codeK] using hc
    have e2 : doneK P ⟨6, on, name, dest, data, n, sa, sn, sc⟩ = modP name (cutF n.toNat) P := by simp [doneK]
    rw [e2] at hn' ⊢
    obtain ⟨e3, e4, e5⟩ := tru_look e1
    obtain ⟨p, i, hp, hm, hi, hG⟩ := hP.hit e3
    have e6 : sizeP name P = (p.data.length : Int) := by
      unfold sizeP
      have : P.find? (fun p => decide (p.name = name)) = some p := hp
      rw [this]
    have hz := hs p hm
    have hu := hd p hm
    obtain ⟨nk, rfl⟩ : ∃ nk : Nat, n = (nk : Int) := ⟨n.toNat, by omega⟩
    rw [Int.toNat_natCast] at hn' ⊢
    refine (notes_cut h hl hi hG (by show nk ≤ (S p.data).size; rw [S_size]; omega) (by show (S p.data).size ≤ _; rw [S_size]; exact hz) (by show (S (p.data.take p.dur)).size ≤ _; rw [S_size, List.length_take]; omega) rfl).mono ?_
    rintro e w' ⟨rfl, hO⟩
    exact ⟨rfl, _, hO, log_cut hP hp hu hG hn'⟩
end Go.Proofs.YtbnicjpkfldcdaaDoor

/- DiskKeeps: what reads calls: Read and set on a disk with a log; b's own log beside them. -/
namespace Go.Proofs.YtbnicjpkfldcdaaDoor
open Go.RowKit Go.Lib

/-- Some steps more. -/
def stp (T : DS) (k : Nat) : DS := { T with steps := T.steps + k }
theorem due_nil {T : DS} (hs : T.stops = []) : T.due = none := by unfold DS.due; rw [hs]
theorem next_quiet {T : DS} (hr : T.runs = true) (hs : T.stops = []) : T.next = stp T 1 := by
  unfold DS.next
  rw [if_pos hr, due_nil hs]
  show T.step.tick = _
  unfold DS.tick
  have : T.step.stops = [] := hs
  rw [this]
  rfl
theorem isNm_size {s : ByteArray} (h : isNm s = true) : s.size ≤ 140737488355328 := by
  unfold isNm at h
  simp only [Bool.and_eq_true, decide_eq_true_eq] at h
  omega
theorem getK_look {P : List PF} {p : PF} (hn : (P.map PF.name).Nodup) (hp : p ∈ P) (hm : isNm p.name = true) : lookC P p.name = 0 := by
  unfold lookC
  rw [if_pos hm, hasK_get, (getK_mem hn).2 ⟨hp, rfl⟩]
  rfl
theorem dataP_mem {P : List PF} {p : PF} (hn : (P.map PF.name).Nodup) (hp : p ∈ P) : dataP p.name P = p.data := by
  unfold dataP
  have : P.find? (fun x => decide (x.name = p.name)) = some p := (getK_mem hn).2 ⟨hp, rfl⟩
  rw [this]
theorem KD.names {A : Whys} {w0 w : World} {d bp : Nat} {T : DS} {P : List PF} {G : List LE} {K : List (Nat × Obj)} (h : KD A w0 d bp T P G K w) : (P.map PF.name).Nodup := by
  obtain ⟨KG, BG, hD, _⟩ := h.disk
  exact hD.names
theorem KD.drew {A : Whys} {w0 w : World} {d bp : Nat} {T : DS} {P : List PF} {G : List LE} {K : List (Nat × Obj)} (h : KD A w0 d bp T P G K w) : KD A w0 d bp T P G K w.drew := h.up (Below.refl _ _).drew
/-- Read, on a machine that runs and with no plan. -/
theorem KD.read {A : Whys} {w0 w : World} {d bp : Nat} {T : DS} {P : List PF} {G : List LE} {K : List (Nat × Obj)} (h : KD A w0 d bp T P G K w) (hok : T.ok) (hn : T.steps < 1000000000) (hr : T.runs = true) (hs : T.stops = []) {p : PF} (hp : p ∈ P) (hm : isNm p.name = true) :
    Calls Tryd.prog 17 #[.pointer (some ⟨d, 0, none⟩), .string p.name] w fun e w' => e = .returned (.tuple #[.string (S p.data), .nilIface]) ∧ KD A w0 d bp (stp T 1) P G K w' := by
  have hnd := h.names
  obtain ⟨KG, BG, hD, _, h1, _, _, _, _, h5⟩ := h.disk
  have hl := getK_look hnd hp hm
  refine (ReadD hD hok hn p.name (isNm_size hm)).mono ?_
  rintro e w' ⟨r, K', rfl, hD', hE⟩
  have ec : errC T (lookC P p.name) = 0 := by
    unfold errC
    rw [if_pos hr, due_nil hs]
    exact hl
  have ef : nextF T (lookC P p.name) P P (fun _ => P) = P := by
    unfold nextF
    rw [if_pos hr, due_nil hs]
    show (if lookC P p.name = 0 then P else P) = P
    split <;> rfl
  have et : readT T P p.name = S p.data := by
    unfold readT
    rw [if_pos ⟨hr, due_nil hs, hl⟩, dataP_mem hnd hp]
  rw [ef, next_quiet hr hs] at hD'
  rcases hE with ⟨_, rfl, rfl⟩ | ⟨hne, _⟩
  · refine ⟨by rw [et], h5 w' _ _ _ hD' (fun x hx => List.mem_append_left _ hx) K (fun x hx => ⟨List.mem_append_right _ hx, h1 x hx⟩)⟩
  · exact absurd ec hne
/-- set, of a name that is not in the log. -/
theorem KD.setN {A : Whys} {w0 w : World} {d bp : Nat} {T : DS} {P : List PF} {G : List LE} {K : List (Nat × Obj)} (h : KD A w0 d bp T P G K w) (hl : G.length ≤ 1000000) {n : ByteArray} (hi : idxL n G = none) (a s : ByteArray) :
    Calls Tryd.prog 29 #[.pointer (some ⟨bp, 0, none⟩), .string n, .string a, .string s] w fun e w' => e = .returned (.tuple #[]) ∧ KD A w0 d bp T P (G ++ [⟨n, a, s⟩]) K w' := by
  obtain ⟨vn, va, vs, hL, hk⟩ := h.log
  refine (set_new hL h.w0.size hl hi a s).mono ?_
  rintro e w' ⟨rfl, hO⟩
  exact ⟨rfl, hk _ _ hO⟩
theorem KD.at {A : Whys} {w0 w : World} {d bp : Nat} {T : DS} {P : List PF} {G : List LE} {K : List (Nat × Obj)} (h : KD A w0 d bp T P G K w) (hl : G.length ≤ 1000000) (n : ByteArray) :
    Calls Tryd.prog 13 #[.pointer (some ⟨bp, 0, none⟩), .string n] w fun e w' => e = .returned (.int .i64 (atL n G)) ∧ w' = w := by
  obtain ⟨vn, va, vs, hL, _⟩ := h.log
  exact at_any hL hl n
theorem KD.notes {A : Whys} {w0 w : World} {d bp : Nat} {T T0 : DS} {P0 P : List PF} {G : List LE} {K : List (Nat × Obj)} (h : KD A w0 d bp T P G K w) (hl : G.length ≤ 1000000) (hP : LogOf P0 G) (q : ActR) (hk : 1 ≤ q.kind ∧ q.kind ≤ 6) (hc : codeK T0 P0 q = 0)
    (hd : ∀ p, p ∈ P0 → p.dur ≤ p.data.length) (hs : ∀ p, p ∈ P0 → p.data.length ≤ 1000000000) (hq : q.data.size ≤ 140737488355328) (hn' : ((doneK P0 q).map PF.name).Nodup) :
    Calls Tryd.prog 14 #[.pointer (some ⟨bp, 0, none⟩), .agg q.cells] w fun e w' => e = .returned (.tuple #[]) ∧ ∃ G', KD A w0 d bp T P G' K w' ∧ LogOf (doneK P0 q) G' := by
  obtain ⟨vn, va, vs, hL, hkk⟩ := h.log
  refine (notes_any hL h.w0.size hl hP q hk hc hd hs hq hn').mono ?_
  rintro e w' ⟨rfl, G', hO, hG'⟩
  exact ⟨rfl, G', hkk _ _ hO, hG'⟩
/-- does, with the log beside it. -/
theorem KD.does {A : Whys} {w0 w : World} {d bp : Nat} {T : DS} {P : List PF} {G : List LE} {K : List (Nat × Obj)} (h : KD A w0 d bp T P G K w) (hok : T.ok) (hn : T.steps < 1000000000) (q : ActR) (hk : 1 ≤ q.kind ∧ q.kind ≤ 6) (hns : q.name.size ≤ 140737488355328) (hts : q.dest.size ≤ 140737488355328) :
    Calls Tryd.prog 8 #[.pointer (some ⟨d, 0, none⟩), .agg q.cells] w fun e w' => ∃ s r, e = .returned (.tuple #[.string s, r]) ∧ s = (if q.kind = 3 then readT T P q.name else ⟨#[]⟩) ∧
      ((errC T (codeK T P q) = 0 ∧ r = .nilIface ∧ KD A w0 d bp T.next (nextF T (codeK T P q) P (doneK P q) (partK P q)) G K w') ∨
        (errC T (codeK T P q) ≠ 0 ∧ ∃ op nm b, r = failV b ∧ KD A w0 d bp T.next (nextF T (codeK T P q) P (doneK P q) (partK P q)) G ((b, failObj A op nm (errS T) (errC T (codeK T P q))) :: K) w')) := by
  obtain ⟨KG, BG, hD, _, h1, _, _, h3, _, h5⟩ := h.disk
  refine (doesK_any hD hok hn q hk hns hts).mono ?_
  rintro e w' ⟨s, r, rfl, K', op, nm, hD', hE, hs⟩
  refine ⟨s, r, rfl, hs, ?_⟩
  rcases hE with ⟨hc, rfl, rfl⟩ | ⟨hne, b, rfl, rfl⟩
  · exact .inl ⟨hc, rfl, h5 w' _ _ _ hD' (fun x hx => List.mem_append_left _ hx) K (fun x hx => ⟨List.mem_append_right _ hx, h1 x hx⟩)⟩
  · refine .inr ⟨hne, op, nm, b, rfl, h5 w' _ _ _ hD' (fun x hx => List.mem_cons_of_mem _ (List.mem_append_left _ hx)) _ (fun x hx => ?_)⟩
    rcases List.mem_cons.1 hx with rfl | hx
    · refine ⟨List.mem_cons_self, fun hb => ?_⟩
      obtain ⟨cs, t, fz, hm, ht⟩ := h3 _ hb
      have e1 := hD'.kept (x := (b, _)) (List.mem_cons_of_mem _ (List.mem_append_left _ hm))
      have e2 := hD'.kept (x := (b, _)) List.mem_cons_self
      rw [e1] at e2
      unfold failObj at e2
      injection Option.some.inj e2 with _ e3 _
      subst e3
      revert ht
      decide
    · exact ⟨List.mem_cons_of_mem _ (List.mem_append_right _ hx), h1 x hx⟩
end Go.Proofs.YtbnicjpkfldcdaaDoor
